/- The contract of utf's Decode and of its deferred call over the translation. Conditions: the slice reads as a list of at most 100000 bytes; the variable lengths holds the four rows of the program's text. -/
import Derived.Test.YteknpodofmmklaaDoorFirst
import Derived.Defers
import Derived.Recover
import Derived.Test.YteknpodofmmklaaDoorMathB
import Derived.Test.YteknpodofmmklaaDoorBase
import Derived.Deep.RegionHeld3
import Derived.Laws.BitsAllLaws
import Derived.Deep.Onto
namespace Go.Proofs.YteknpodofmmklaaDoor
open Go.RowKit

theorem Tryd.infoInt : (Tryd.prog.info? 3).map (fun i => (i.zero, i.size, i.bytes)) = some (some (.int .i64 0), 1, 8) := by kernel_rfl
/-- The caller's own row of numbers. -/
def OwnI (w : World) (base : Nat) (v : Value) (l : List Int) : Prop := w.ownsRow base 3 1 v l.length (l.map (Value.int .i64))
theorem OwnI.below {w w1 : World} {base : Nat} {v : Value} {bs : List Int} (h : OwnI w base v bs) (hb : Below w.heap.size w w1) : OwnI w1 base v bs :=
  World.ownsRow.kept h (row := none) ⟨hb.os, hb.tape, hb.output, hb.size, fun k hk _ => hb.block k hk⟩ (by cases v.ownBlock <;> simp)

theorem decCatch_panicking (p q : Addr) (A : Option Addr) (n c : Nat) (y : Int) (u : TypeId) (pv : Value) (older : List PanicEntry) (w : World) (hp : w.cell? p = some (.slice A n c)) (hq : w.cell? q = some (.int .i64 y))
    (fp : w.frozen? p = false) (fq : w.frozen? q = false) (hpq : p ≠ q) :
    CallsD Tryd.prog 50 #[.pointer (some p), .pointer (some q)] (.panicking ({ v := .iface u pv, recovered := false } :: older)) w fun e u' w' =>
      e = .returned (.tuple #[]) ∧ u' = .panicking ({ v := .iface u pv, recovered := true } :: older) ∧ w' = (w.setCell p (.slice none 0 0)).setCell q (.int .i64 11) := by
  refine callsD_of_wpS Tryd.func50 rfl fun c₀ cs hu => ?_
  apply wpS_seq
  apply wpS_region
  simp [wpOpsS, go_sem, recoverD, hu, Tryd.ntmps50, Exit.thenS]
  refine wpS_cond (t := true) (by simp [Act.eval, Array.replicate]) ?_
  simp only [if_true]
  apply wpS_region
  have q1 : (w.setCell p (.slice none 0 0)).cell? q = some (.int .i64 y) := (World.cell?_setCell_other _ _ _ _ hpq).trans hq
  simp [wpOpsS, go_sem, hp, fp, fq, q1, bodyPostS, results, Tryd.results50]

theorem decCatch_idle (p q : Addr) (w : World) :
    CallsD Tryd.prog 50 #[.pointer (some p), .pointer (some q)] .returning w fun e u' w' => e = .returned (.tuple #[]) ∧ u' = .returning ∧ w' = w := by
  refine callsD_of_wpS Tryd.func50 rfl fun c₀ cs hu => ?_
  apply wpS_seq
  apply wpS_region
  simp [wpOpsS, go_sem, recoverD, hu, Tryd.ntmps50, Exit.thenS]
  refine wpS_cond (t := false) (by simp [Act.eval, Array.replicate]) ?_
  simp only [Bool.false_eq_true, if_false]
  refine wpS_of_wp (wp_skip ?_)
  cases c₀
  simp_all [bodyPostS, results, Tryd.results50]

/-- What holds of Decode's two named results, and of all that was there. -/
def DecInv (w wr : World) (A' : Option Addr) (c' : Nat) (l : List Int) : Prop :=
  wr.heap[w.heap.size]? = some (.cells #[.slice A' l.length c'] 51 (0, 0)) ∧ wr.heap[w.heap.size + 1]? = some (.cells #[.int .i64 0] 48 (0, 0)) ∧ OwnI wr (w.heap.size + 2) (.slice A' l.length c') l ∧ Below w.heap.size w wr

theorem DecInv.start (w : World) : DecInv w ((w.alloc (.cells #[.slice none 0 0] 51)).alloc (.cells #[.int .i64 0] 48)) none 0 [] := by
  refine ⟨?_, ?_, World.ownsRow_nil _ _ _ _, ((Below.refl _ _).alloc (Nat.le_refl _) _).alloc (by simp) _⟩
  · rw [Below.heap_alloc _ _ _ (by simp)]; exact heap_alloc_new w _
  · have := heap_alloc_new (w.alloc (.cells #[.slice none 0 0] 51)) (.cells #[.int .i64 0] 48)
    simpa using this
theorem DecInv.next {w wr w1 : World} {A' : Option Addr} {c' : Nat} {l : List Int} (h : DecInv w wr A' c' l) (hb : Below wr.heap.size wr w1) : DecInv w w1 A' c' l := by
  obtain ⟨h1, h2, h3, h4⟩ := h
  exact ⟨(hb.block _ (lt_of_block h1)).trans h1, (hb.block _ (lt_of_block h2)).trans h2, h3.below hb, h4.trans (hb.mono h4.size)⟩
theorem DecInv.mid {w w1 w2 : World} {A' : Option Addr} {c' : Nat} {l : List Int} {o : Obj} (h : DecInv w w1 A' c' l)
    (hg : (w1.alloc o).grownBy w2 (Value.slice A' l.length c').ownBlock) :
    w2.heap[w.heap.size]? = some (.cells #[.slice A' l.length c'] 51 (0, 0)) ∧ w2.heap[w.heap.size + 1]? = some (.cells #[.int .i64 0] 48 (0, 0)) ∧ Below w.heap.size w w2 := by
  obtain ⟨h1, h2, h3, h4⟩ := h
  have l1 := lt_of_block h1
  have l2 := lt_of_block h2
  have hne : ∀ k, (Value.slice A' l.length c').ownBlock = some k → w.heap.size + 2 ≤ k := fun k hk => (World.ownsRow.lt h3 k hk).1
  refine ⟨?_, ?_, ?_⟩
  · rw [hg.block _ (by simp; omega) (fun e => by have := hne _ e.symm; omega), Below.heap_alloc _ _ _ l1]; exact h1
  · rw [hg.block _ (by simp; omega) (fun e => by have := hne _ e.symm; omega), Below.heap_alloc _ _ _ l2]; exact h2
  · exact Below.grown (h4.alloc h4.size _) hg (Nat.le_trans h4.size (by simp)) (fun k hk => Nat.le_trans (Nat.le_add_right _ 2) (hne k hk))
theorem DecInv.grow {w w1 w2 : World} {A' : Option Addr} {c' : Nat} {l : List Int} {x : Int} {g cap : Nat} {o : Obj} (h : DecInv w w1 A' c' l)
    (ho : w2.ownsRow (w.heap.size + 2) 3 1 (.slice (some ⟨g, 0, none⟩) (l.length + 1) cap) (l.length + 1) (l.map (Value.int .i64) ++ [.int .i64 x]))
    (hg : (w1.alloc o).grownBy w2 (Value.slice A' l.length c').ownBlock) :
    DecInv w (w2.setCell ⟨w.heap.size, 0, none⟩ (.slice (some ⟨g, 0, none⟩) (l.length + 1) cap)) (some ⟨g, 0, none⟩) cap (l ++ [x]) := by
  obtain ⟨e1, e2, e3⟩ := h.mid hg
  have hgg : w.heap.size + 2 ≤ g := (World.ownsRow.lt ho g rfl).1
  have hlen : (l ++ [x]).length = l.length + 1 := by simp
  refine ⟨?_, ?_, ?_, ?_⟩
  · rw [hlen]; exact one_setCell e1
  · rw [Below.heap_setCell _ _ _ _ (by simp)]; exact e2
  · unfold OwnI
    rw [hlen, List.map_append]
    exact ownsRow_setCell_other ho (by simp [Value.ownBlock]; omega) _
  · exact Below.setCell (p := ⟨w.heap.size, 0, none⟩) e3 (Nat.le_refl _) _

set_option maxHeartbeats 1000000 in
theorem decode_any (A : Option Addr) (cap : Nat) (bs : List Int) (w : World) (hl : LensOk w) (hby : ∀ x ∈ bs, 0 ≤ x ∧ x ≤ 255) (hrd : RdS .u8 w w.heap.size A bs) (hcap : bs.length ≤ cap) (hm : cap ≤ maxLen) (hlen : bs.length ≤ 100000) :
    Calls Tryd.prog 44 #[.slice A bs.length cap] w fun e w' =>
      ((M.dec bs = none ∧ e = .returned (.tuple #[.slice none 0 0, .int .i64 11])) ∨ ∃ l v, M.dec bs = some l ∧ e = .returned (.tuple #[v, .int .i64 0]) ∧ OwnI w' w.heap.size v l) ∧ Below w.heap.size w w' := by
  have hmf : ∀ (fn : Fn) (first cap : Array Value) (w : World), (Instr.makeFunc fn first cap).run Tryd.prog w = .ok (.func fn first cap) w := fun _ _ _ _ => rfl
  obtain ⟨i0, hi, hz0, hz1, hz2⟩ := info_parts Tryd.infoInt
  have hm' := hm
  unfold maxLen at hm'
  have H := Lib.hid hl
  have HR := Lib.hid hrd
  have HB := Lib.hid hby
  clear hl hrd hby
  go_enter_defers Tryd.func44, Tryd.ntmps44
  go_wp2_with fail
  go_loopw [4] (fun i wr => ∃ (k : Nat) (l : List Int) (A' : Option Addr) (c' : Nat), k ≤ bs.length ∧ i = .int .i64 k ∧ M.DecTo bs k l ∧ l.length ≤ k ∧ DecInv w wr A' c' l) (fun i _ => bs.length - (intOf i).toNat)
  case atStart => exact ⟨0, [], none, 0, Nat.zero_le _, rfl, M.decTo_zero bs, Nat.le_refl _, DecInv.start w⟩
  case round =>
    obtain ⟨k, l, A', c', hk, rfl, hdt, hll, hinv⟩ := hrel
    have HD := Lib.hid hdt
    have HI := Lib.hid hinv
    have hbr := hinv.2.2.2
    clear hdt hinv
    by_cases hlt : k < bs.length
    · have hck : ¬ cap = k := by omega
      have hsz := hbr.size
      have hrr := ((HR.out.below hbr).more hsz).drop k
      have hlr := H.out.below hbr H.out.lt
      have hbd : ∀ x ∈ bs.drop k, 0 ≤ x ∧ x ≤ 255 := fun x hx => HB.out x (List.mem_of_mem_drop hx)
      cases hf : M.firstM (bs.drop k) with
      | none =>
        have hc0 := first_none _ (cap - k) _ wr hlr hbd hrr (by rw [List.length_drop]; omega) (by omega) hf
        rw [List.length_drop] at hc0
        have HC := Lib.hid hc0
        have HE := Lib.hid (M.decTo_bad HD.out hlt hf)
        clear hc0 hf hrr hlr hbd
        go_wp2_with fail
        refine HC.out.mono ?_
        rintro e w1 ⟨rfl, hb1⟩
        have HI1 := Lib.hid (HI.out.next hb1)
        have cN := cell_of_one HI1.out.1
        have fN := free_of_one HI1.out.1
        have cM := cell_of_one HI1.out.2.1
        have fM := free_of_one HI1.out.2.1
        have hbw := HI1.out.2.2.2
        go_wp2
        refine leaves_cons (f := 50) (args := #[.pointer (some ⟨w.heap.size, 0, none⟩), .pointer (some ⟨w.heap.size + 1, 0, none⟩)]) (by simp) (by simp [go_sem]) ?_
        refine (decCatch_panicking ⟨w.heap.size, 0, none⟩ ⟨w.heap.size + 1, 0, none⟩ A' l.length c' 0 48 (.int .i64 11) [] w1 cN cM fN fM (by simp)).mono ?_
        rintro e u' w'' ⟨rfl, rfl, hw⟩
        have d1 : w''.cell? ⟨w.heap.size, 0, none⟩ = some (.slice none 0 0) := by
          rw [hw, World.cell?_setCell_other _ _ _ _ (by simp)]; exact World.cell?_setCell_same _ _ _ cN
        have d2 : w''.cell? ⟨w.heap.size + 1, 0, none⟩ = some (.int .i64 11) := by
          rw [hw]; exact World.cell?_setCell_same _ _ _ ((World.cell?_setCell_other _ _ _ _ (by simp)).trans cM)
        have hbe : Below w.heap.size w w'' := by
          rw [hw]; exact (hbw.setCell (p := ⟨w.heap.size, 0, none⟩) (Nat.le_refl _) _).setCell (p := ⟨w.heap.size + 1, 0, none⟩) (Nat.le_succ _) _
        clear hw
        simp [Leaves, settle, results, Tryd.results44, go_sem, d1, d2, hbe, HE.out]
      | some p =>
        obtain ⟨c, n⟩ := p
        obtain ⟨hn1, hn2, _⟩ := M.first_len hf
        rw [List.length_drop] at hn2
        have hc0 := first_some _ (cap - k) _ c n wr hlr hbd hrr (by rw [List.length_drop]; omega) (by omega) hf
        rw [List.length_drop] at hc0
        have HC := Lib.hid hc0
        have HE := Lib.hid (M.decTo_step HD.out hf)
        clear hc0 hf hrr hlr hbd
        go_wp2_with fail
        refine HC.out.mono ?_
        rintro e w1 ⟨rfl, hb1⟩
        have HI1 := Lib.hid (HI.out.next hb1)
        have cN := cell_of_one HI1.out.1
        have fN := free_of_one HI1.out.1
        have hown := HI1.out.2.2.1
        have hs1 : w.heap.size + 2 ≤ w1.heap.size := by have := lt_of_block HI1.out.2.1; omega
        have HO := Lib.hid hown
        clear hown
        go_wp2_with (at_builtin; refine wpList_append_lies _ rfl _ _ 51 rfl (w.heap.size + 2) 3 i0 (.int .i64 0) 1 8 Tryd.underlying51 hi hz0 hz1 hz2 rfl (by decide) _ _ _ rfl (World.ownsRow.alloc HO.out _) ⟨w1.heap.size, 0, none⟩ 1 1 [.int .i64 c] rfl rfl (one_new _ _ _) one_cell (by omega) (by unfold maxLen; omega) (by omega) (by simp; omega) (w1.heap.size + 1) (by simp) ?_)
        intro gg cp w3 hown3 hgrow3 _ _
        have HI3 := Lib.hid (HI1.out.grow hown3 hgrow3)
        have hmid := (HI1.out.mid hgrow3).1
        have cN3 := cell_of_one hmid
        have fN3 := free_of_one hmid
        clear hmid
        clear hown3 hgrow3 cN fN
        go_wp2
        go_roundw
        case rel => exact ⟨k + n, l ++ [c], some ⟨gg, 0, none⟩, cp, by omega, by go_num, HE.out, by simp; omega, HI3.out⟩
        case measure => simp [intOf]; omega
    · have HE := Lib.hid (M.decTo_end HD.out (by omega))
      have cN := cell_of_one HI.out.1
      have fN := free_of_one HI.out.1
      have cM := cell_of_one HI.out.2.1
      have fM := free_of_one HI.out.2.1
      have hbw := HI.out.2.2.2
      have HO := Lib.hid HI.out.2.2.1
      go_wp2
      refine leaves_cons (f := 50) (args := #[.pointer (some ⟨w.heap.size, 0, none⟩), .pointer (some ⟨w.heap.size + 1, 0, none⟩)]) (by simp) (by simp [go_sem]) ?_
      refine (decCatch_idle ⟨w.heap.size, 0, none⟩ ⟨w.heap.size + 1, 0, none⟩ _).mono ?_
      rintro e u' w'' ⟨rfl, rfl, hw⟩
      have hdn : w'' = (wr.setCell ⟨w.heap.size, 0, none⟩ (.slice A' l.length c')).setCell ⟨w.heap.size + 1, 0, none⟩ (.int .i64 0) := hw
      have d1 : w''.cell? ⟨w.heap.size, 0, none⟩ = some (.slice A' l.length c') := by
        rw [hdn, World.cell?_setCell_other _ _ _ _ (by simp)]; exact World.cell?_setCell_same _ _ _ cN
      have d2 : w''.cell? ⟨w.heap.size + 1, 0, none⟩ = some (.int .i64 0) := by
        rw [hdn]; exact World.cell?_setCell_same _ _ _ ((World.cell?_setCell_other _ _ _ _ (by simp)).trans cM)
      have hbe : Below w.heap.size w w'' := by
        rw [hdn]; exact (hbw.setCell (p := ⟨w.heap.size, 0, none⟩) (Nat.le_refl _) _).setCell (p := ⟨w.heap.size + 1, 0, none⟩) (Nat.le_succ _) _
      have how : OwnI w'' w.heap.size (.slice A' l.length c') l := by
        rw [hdn]
        have hne : ∀ k, (Value.slice A' l.length c').ownBlock = some k → w.heap.size + 2 ≤ k := fun k hk => (World.ownsRow.lt HO.out k hk).1
        refine World.ownsRow.mono (ownsRow_setCell_other (ownsRow_setCell_other HO.out (fun e => ?_) _) (fun e => ?_) _) (Nat.le_add_right _ 2)
        · have := hne _ e; simp at this <;> omega
        · have := hne _ e; simp at this <;> omega
      clear hw hdn
      simp [Leaves, settle, results, Tryd.results44, go_sem, d1, d2, hbe, HE.out, how]
end Go.Proofs.YteknpodofmmklaaDoor
