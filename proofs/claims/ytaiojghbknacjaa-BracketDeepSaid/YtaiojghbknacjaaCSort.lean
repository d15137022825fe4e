/- The contract of slices.SortFunc at pairs, by their first places. Conditions: the row is the caller's own, of at most 2^44. -/
import Derived.Test.YtaiojghbknacjaaCState
import Derived.Test.YtaiojghbknacjaaShelf
namespace Go.Proofs.Ytaiojghbknacjaa
open Go.Shelf Go.RowKit Go.Lib
set_option maxRecDepth 100000

def enc2 (x : Int × Int) : List Value := [.int .i64 x.1, .int .i64 x.2]
def cf2 (x y : Int × Int) : Int := Lib.compareInt x.1 y.1
theorem lt2 (x y : Int × Int) : ltOf cf2 x y = decide (x.1 < y.1) := by
  unfold ltOf cf2 Lib.compareInt
  by_cases h1 : x.1 < y.1
  · simp [h1]
  · by_cases h2 : y.1 < x.1 <;> simp [h1, h2]
theorem swo2 : Go.Sort.SWO (ltOf cf2) where
  irrefl x := by rw [lt2]; simp
  trans x y z h1 h2 := by rw [lt2] at *; simp at *; omega
  ntrans x y z h1 h2 := by rw [lt2] at *; simp at *; omega
set_option maxHeartbeats 1000000 in
theorem closure2 (x y : Int × Int) (W : World) : Calls Try.prog 19 #[.agg #[.int .i64 x.1, .int .i64 x.2], .agg #[.int .i64 y.1, .int .i64 y.2]] W fun e w' => e = .returned (.int .i64 (cf2 x y)) ∧ ∃ q os', w' = Go.Sort.grow (W.drewN q) os' := by
  have hcon := fun W' => AnyG.cmp_Compare_int Try.cmpTwo x.1 y.1 W'
  change ∀ W', Calls Try.prog 20 _ _ _ at hcon
  unfold cf2
  generalize Lib.compareInt x.1 y.1 = r at hcon ⊢
  go_enter Try.func19, Try.ntmps19
  go_wp2_with (go_at_call 20; refine (hcon _).mono ?_; rintro e w' ⟨rfl, rfl⟩)
  go_ret
  exact ⟨rfl, 0, _, by rw [Go.Sort.alloc_eq_grow, Go.Sort.alloc_eq_grow, Go.Sort.grow_grow]; rfl⟩
theorem flat2 (d : Array (Int × Int)) : (Go.Sort.flatK enc2 2 d).toList = cells2 d.toList := by
  refine List.ext_getElem? fun t => ?_
  by_cases ht : t < d.size * 2
  · obtain ⟨j, hj⟩ : ∃ j, t / 2 = j := ⟨_, rfl⟩
    have hjd : j < d.size := by omega
    have hg := Go.Sort.get_flatK enc2 2 d t ht
    have hsz : t < (Go.Sort.flatK enc2 2 d).size := by simpa using ht
    rw [getElem!_pos _ t hsz] at hg
    rw [Array.getElem?_toList, Array.getElem?_eq_getElem hsz, hg, hj, getElem!_pos d j hjd]
    obtain ⟨h1, h2⟩ := cells2_at (l := d.toList) (j := j) (e := d[j]) (by rw [Array.getElem?_toList, Array.getElem?_eq_getElem hjd])
    rcases (show t = j * 2 ∨ t = j * 2 + 1 by omega) with e | e
    · rw [e, h1, show j * 2 % 2 = 0 by omega]
      rfl
    · rw [e, h2, show (j * 2 + 1) % 2 = 1 by omega]
      rfl
  · rw [List.getElem?_eq_none (by simp; omega), List.getElem?_eq_none (by rw [cells2_length]; simp; omega)]
/-- Another list in the row's place. -/
theorem own_put {w : World} {base : Nat} {t : TypeId} {g n c q : Nat} {l : List (Int × Int)} {d : Array (Int × Int)} {os : Array Obj} (h : OwnT w base t (.slice (some ⟨g, 0, none⟩) n c) l) (hd : d.size = l.length) :
    OwnT (sortWorldK enc2 2 w g 0 q d os) base t (.slice (some ⟨g, 0, none⟩) n c) d.toList ∧
    (sortWorldK enc2 2 w g 0 q d os).os = w.os ∧ (sortWorldK enc2 2 w g 0 q d os).tape = w.tape ∧ (sortWorldK enc2 2 w g 0 q d os).output = w.output ∧ w.heap.size ≤ (sortWorldK enc2 2 w g 0 q d os).heap.size ∧ ∀ b, b < w.heap.size → b ≠ g → (sortWorldK enc2 2 w g 0 q d os).heap[b]? = w.heap[b]? := by
  obtain ⟨hx, h2⟩ := h
  rcases h2 with ⟨h1, _⟩ | ⟨g', cap, cur, hv, hbg, hg, hn, hm, hs, ht⟩
  · cases h1
  injection hv with e1 e2 e3
  injection e1 with e1
  injection e1 with e1
  subst e1 e3
  have hgl := (Array.getElem?_eq_some_iff.1 hg).1
  have hheap : (sortWorldK enc2 2 w g 0 q d os).heap = w.heap.modify g (Go.Sort.onCells (Go.Sort.putCells id 0 (Go.Sort.flatK enc2 2 d))) ++ os := rfl
  refine ⟨⟨by rw [cells2_length], .inr ⟨g, c, Go.Sort.putCells id 0 (Go.Sort.flatK enc2 2 d) cur, by rw [e2, ← hd]; rfl, hbg, ?_, by simp [hd]; omega, hm, by unfold Go.Sort.putCells; rw [Array.size_mapIdx, hs], ?_⟩⟩, rfl, rfl, rfl, by rw [hheap]; simp, fun b hb hne => ?_⟩
  · rw [hheap, Array.getElem?_append_left (by rw [Array.size_modify]; exact hgl), Array.getElem?_eq_getElem (by rw [Array.size_modify]; exact hgl), Array.getElem_modify_self]
    rw [Array.getElem?_eq_getElem hgl] at hg
    injection hg with hg
    rw [hg]
    rfl
  · rw [← flat2]
    refine List.ext_getElem? fun t => ?_
    rw [List.getElem?_take, Array.length_toList, hd]
    by_cases htl : t < l.length * 2
    · have hsz : t < (Go.Sort.flatK enc2 2 d).size := by simp [hd]; omega
      have hcs : t < cur.size := by rw [hs]; omega
      rw [if_pos htl, Array.getElem?_toList, Array.getElem?_toList, Array.getElem?_eq_getElem hsz]
      unfold Go.Sort.putCells
      rw [Array.getElem?_mapIdx, Array.getElem?_eq_getElem hcs, Option.map_some, if_pos ⟨by omega, by omega⟩, Nat.sub_zero, getElem!_pos _ t hsz]
      rfl
    · rw [if_neg htl, List.getElem?_eq_none (by simp [hd]; omega)]
  · rw [hheap, Array.getElem?_append_left (by rw [Array.size_modify]; exact hb), Array.getElem?_eq_getElem (by rw [Array.size_modify]; exact hb), Array.getElem_modify_of_ne (fun e => hne e.symm), Array.getElem?_eq_getElem hb]
set_option maxHeartbeats 4000000 in
theorem csort_any (base : Nat) (v : Value) (acc : List (Int × Int)) (w : World) (h : OwnT w base 41 v acc) (hl : acc.length ≤ 17592186044416) :
    Calls Try.prog 18 #[v, .func (.func 19) #[] #[]] w fun r w' => r = .returned (.tuple #[]) ∧ ∃ acc' : List (Int × Int), acc'.Perm acc ∧ (acc'.Pairwise fun a b => a.1 ≤ b.1) ∧ OwnT w' base 41 v acc' ∧
      w'.os = w.os ∧ w'.tape = w.tape ∧ w'.output = w.output ∧ w.heap.size ≤ w'.heap.size ∧ ∀ b, b < w.heap.size → v.ownBlock ≠ some b → w'.heap[b]? = w.heap[b]? := by
  cases acc with
  | nil =>
    have hv := h.2
    obtain ⟨A, c, rfl, -⟩ := own_form h
    have hS := AnyF.slices_SortFunc_none (P := Try.prog) (ρ := Try.sortTwo_ren) { Try.sortTwo with } A c (.func (.func 19) #[] #[]) w
    refine hS.mono ?_
    rintro e w' ⟨rfl, rfl⟩
    exact ⟨rfl, [], List.Perm.refl _, List.Pairwise.nil, h, rfl, rfl, rfl, Nat.le_refl _, fun _ _ _ => rfl⟩
  | cons a0 r0 =>
    obtain ⟨acc, hacc⟩ : ∃ acc, a0 :: r0 = acc := ⟨_, rfl⟩
    have hpos : 0 < acc.length := by rw [← hacc]; simp
    rw [hacc] at h hl ⊢
    clear hacc
    obtain ⟨A, c, rfl, -, -, -, hg⟩ := own_form h
    obtain ⟨g, rfl⟩ := hg hpos
    have hgl : g < w.heap.size := by
      obtain ⟨-, cs, m, h1⟩ := own_type h (k := g) rfl
      exact (Array.getElem?_eq_some_iff.1 h1).1
    have eg : ∀ args w, (callFunc 19 args).run Try.prog w = .ok (.enter 19 args) w := enters_of Try.func19 (by kernel_rfl) rfl
    have hH : Go.Sort.HoldsK enc2 2 w g 0 acc.toArray := by
      intro j hj
      have hj2 : j < acc.length * 2 := by simpa using hj
      refine ⟨?_, World.ownsRow.frozenAt h _⟩
      have hf := flat2 acc.toArray
      rw [List.toList_toArray] at hf
      rw [Nat.zero_add, World.ownsRow.cellAt h j hj2, ← hf, Array.getElem?_toList, Array.getElem?_eq_getElem hj, getElem!_pos _ j hj]
      rfl
    have hS := AnyQ.slices_SortFunc Try.sortTwo 2 Try.isAgg41 Try.sizeOf41 enc2 (fun _ => rfl) (fun x v hv => by simp [enc2] at hv; rcases hv with rfl | rfl <;> rfl) cf2 swo2 19 #[] g 0 c acc.toArray w eg (fun _ _ _ _ x y => closure2 x y _) hH hgl (by simp; omega)
    have hsz : acc.toArray.size = acc.length := by simp
    rw [hsz] at hS
    refine hS.mono ?_
    rintro e w' ⟨rfl, d', n, os, hp, hs, rfl⟩
    obtain ⟨p1, -, p3⟩ := hp
    have hd : d'.size = acc.length := by rw [p1, hsz]
    obtain ⟨o1, o2, o3, o4, o5, o6⟩ := own_put (q := n) (os := os) h hd
    refine ⟨rfl, d'.toList, ?_, ?_, o1, o2, o3, o4, o5, fun b hb hne => o6 b hb fun e => hne (by rw [e]; rfl)⟩
    · rw [← hd, Array.extract_size, show acc.toArray.extract 0 d'.size = acc.toArray by rw [hd, ← hsz, Array.extract_size]] at p3
      simpa using p3
    · refine List.pairwise_iff_getElem.2 fun i j hi hj hij => ?_
      rw [Array.length_toList] at hi hj
      have h1 := hs i j (Nat.zero_le _) hij (by rw [← hd]; exact hj)
      rw [lt2, getElem!_pos d' j hj, getElem!_pos d' i hi] at h1
      simp only [decide_eq_false_iff_not] at h1
      rw [Array.getElem_toList, Array.getElem_toList]
      omega
end Go.Proofs.Ytaiojghbknacjaa
