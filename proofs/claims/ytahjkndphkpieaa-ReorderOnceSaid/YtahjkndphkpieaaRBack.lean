/- The contract of the document's Back. Condition: the slice reads as a list of whole numbers, at most a thousand long. -/
import Derived.Test.YtahjkndphkpieaaROrd
namespace Go.Proofs.Ytahjkndphkpieaa
open Go.RowKit
set_option maxRecDepth 100000

theorem Try.infoBool2 : (Try.prog.info? 4).map (fun i => (i.zero, i.size, i.bytes)) = some (some (.bool false), 1, 1) := by kernel_rfl
/-- A block that holds such values. -/
def BlockV (w : World) (G : Nat) (ty : TypeId) (vs : List Value) : Prop := w.heap[G]? = some (.cells vs.toArray ty (0, 0))
section
variable {w w' : World} {G j n : Nat} {ty : TypeId} {vs : List Value} {v : Value}
theorem BlockV.lt (h : BlockV w G ty vs) : G < w.heap.size := (Array.getElem?_eq_some_iff.1 h).1
theorem BlockV.cell (h : BlockV w G ty vs) (hj : vs[j]? = some v) : w.cell? ⟨G, j, none⟩ = some v := by
  unfold World.cell?
  rw [show w.heap[G]? = _ from h]
  simp [hj]
theorem BlockV.frozen (h : BlockV w G ty vs) : w.frozen? ⟨G, j, none⟩ = false := by
  unfold World.frozen?
  rw [show w.heap[G]? = _ from h]
  simp
theorem BlockV.below (h : BlockV w G ty vs) (hb : Below n w w') (hG : G < n) : BlockV w' G ty vs := (hb.block G hG).trans h
theorem BlockV.set (h : BlockV w G ty vs) (k : Nat) (x : Value) : BlockV (w.setCell ⟨G, k, none⟩ x) G ty (vs.set k x) := by
  obtain ⟨hlt, hk⟩ := Array.getElem?_eq_some_iff.1 h
  show (w.heap.modify G _)[G]? = _
  rw [Array.getElem?_eq_getElem (by rw [Array.size_modify]; exact hlt), Array.getElem_modify_self, hk]
  show some (Obj.cells (vs.toArray.setIfInBounds k x) ty (0, 0)) = _
  rw [List.setIfInBounds_toArray]
theorem BlockV.other {H k : Nat} (h : BlockV w G ty vs) (hne : G ≠ H) (x : Value) : BlockV (w.setCell ⟨H, k, none⟩ x) G ty vs := (Below.heap_setCell _ _ _ _ hne).trans h
theorem BlockV.own {base : Nat} (h : BlockV w G ty vs) (hn : vs.length = n) (hm : n ≤ maxLen) (hG : base ≤ G) : w.ownsRow base ty 1 (.slice (some ⟨G, 0, none⟩) n n) n vs :=
  ⟨by rw [Nat.mul_one]; exact hn, .inr ⟨G, n, _, rfl, hG, h, Nat.le_refl _, hm, by simpa using hn, by rw [Nat.mul_one]; exact List.take_of_length_le (by simp [hn])⟩⟩
end
/-- Of the first k places of an order, where each is. -/
structure M.BkTo (l : List Int) (k : Nat) (O : List Int) (B : List Bool) : Prop where
  ol : O.length = l.length
  bl : B.length = l.length
  rng : ∀ x ∈ l.take k, 0 ≤ x ∧ x < l.length
  nod : (l.take k).Nodup
  oat : ∀ j, j < l.length → O[j]? = some (if (j : Int) ∈ l.take k then ((l.idxOf (j : Int) : Nat) : Int) else 0)
  bat : ∀ j, j < l.length → B[j]? = some (decide ((j : Int) ∈ l.take k))
section
variable {l O : List Int} {B : List Bool} {k x : Nat}
theorem M.BkTo.start (l : List Int) : M.BkTo l 0 (List.replicate l.length 0) (List.replicate l.length false) :=
  ⟨List.length_replicate, List.length_replicate, fun x hx => by simp at hx, by simp, fun j hj => by simp [hj], fun j hj => by simp [hj]⟩
theorem M.take_snoc {y : Int} (hx : l[k]? = some y) : l.take (k + 1) = l.take k ++ [y] := by
  obtain ⟨hk, rfl⟩ := List.getElem?_eq_some_iff.1 hx
  exact List.take_succ_eq_append_getElem hk
theorem M.idx_new {l : List Int} {k : Nat} {y : Int} (hx : l[k]? = some y) (hno : y ∉ l.take k) : l.idxOf y = k := by
  obtain ⟨hk, he⟩ := List.getElem?_eq_some_iff.1 hx
  have e : l = l.take k ++ y :: l.drop (k + 1) := by
    rw [← he, ← List.drop_eq_getElem_cons hk, List.take_append_drop]
  rw [e, List.idxOf_append, if_neg hno, List.idxOf_cons_self, List.length_take]
  omega
theorem M.BkTo.step (h : M.BkTo l k O B) (hx : l[k]? = some (x : Int)) (hlt : x < l.length) (hno : (x : Int) ∉ l.take k) : M.BkTo l (k + 1) (O.set x (k : Int)) (B.set x true) := by
  have e := M.take_snoc hx
  refine ⟨by rw [List.length_set, h.ol], by rw [List.length_set, h.bl], ?_, ?_, ?_, ?_⟩
  · intro z hz
    rw [e, List.mem_append, List.mem_singleton] at hz
    rcases hz with hz | rfl
    · exact h.rng z hz
    · exact ⟨by omega, by omega⟩
  · rw [e]
    refine List.nodup_append.2 ⟨h.nod, by simp, fun a ha b hb hab => ?_⟩
    rw [List.mem_singleton] at hb
    rw [hab, hb] at ha
    exact hno ha
  · intro j hj
    rw [List.getElem?_set, e]
    by_cases hxj : x = j
    · subst hxj
      rw [if_pos rfl, if_pos (by rw [h.ol]; exact hlt), if_pos (by simp), M.idx_new hx hno]
    · rw [if_neg hxj, h.oat j hj]
      have : ((j : Int) ∈ l.take k ++ [(x : Int)]) ↔ (j : Int) ∈ l.take k := by
        rw [List.mem_append, List.mem_singleton]
        constructor
        · rintro (h | h)
          · exact h
          · omega
        · exact .inl
      by_cases hm : (j : Int) ∈ l.take k
      · rw [if_pos hm, if_pos (this.2 hm)]
      · rw [if_neg hm, if_neg fun h => hm (this.1 h)]
  · intro j hj
    rw [List.getElem?_set, e]
    by_cases hxj : x = j
    · subst hxj
      rw [if_pos rfl, if_pos (by rw [h.bl]; exact hlt)]
      simp
    · rw [if_neg hxj, h.bat j hj]
      congr 1
      rw [decide_eq_decide, List.mem_append, List.mem_singleton]
      constructor
      · exact .inl
      · rintro (h | h)
        · exact h
        · omega
theorem M.BkTo.done (h : M.BkTo l l.length O B) : M.isOrd l ∧ O = M.inv l := by
  have e := List.take_length (l := l)
  have ho : M.isOrd l := ⟨fun x hx => h.rng x (by rw [e]; exact hx), by have := h.nod; rw [e] at this; exact this⟩
  refine ⟨ho, List.ext_getElem? fun j => ?_⟩
  by_cases hj : j < l.length
  · rw [h.oat j hj, e, if_pos (M.isOrd_mem ho hj)]
    unfold M.inv
    rw [List.getElem?_map, List.getElem?_range hj]
    rfl
  · rw [List.getElem?_eq_none (by rw [h.ol]; omega), List.getElem?_eq_none (by rw [M.inv_len]; omega)]
theorem M.not_ord {y : Int} (hx : l[k]? = some y) (hm : y ∈ l.take k) : ¬ M.isOrd l := fun h => by
  have h1 : (l.take (k + 1)).Nodup := h.2.sublist (List.take_sublist _ _)
  rw [M.take_snoc hx] at h1
  exact (List.nodup_append.1 h1).2.2 y hm y (by simp) rfl
theorem made_list (v : Value) (n : Nat) : (madeCells #[v] n) = (List.replicate n v).toArray := by
  rw [← toList_madeCells_one v n]
end
set_option maxHeartbeats 16000000 in
theorem refBack_any (A : Option Addr) (ca n : Nat) (l : List Int) (w : World) (hr : RdS .i64 w w.heap.size A l) (hn : l.length = n) (hl : n ≤ 1000) :
    Calls Try.prog 14 #[.slice A n ca] w (RowE 3 1 (M.isOrd l) (M.inv l) w) := by
  obtain ⟨i0, hi, hz0, hz1, hz2⟩ := info_parts Try.infoInt2
  obtain ⟨j0, hj, hy0, hy1, hy2⟩ := info_parts Try.infoBool2
  have hmk := run_make (P := Try.prog) w 22 3 i0 (.int .i64 0) Try.underlying22 hi hz0 .i64 .i64 n n (by omega) (Int.le_refl _) (by rw [hz2]; omega) (by omega)
  rw [Int.toNat_natCast, hz1, Nat.mul_one, show (Value.int IntKind.i64 0).cells = #[Value.int IntKind.i64 0] from rfl, made_list] at hmk
  obtain ⟨W1, hW1⟩ : ∃ W1, w.alloc (.cells (List.replicate n (Value.int .i64 0)).toArray 3) = W1 := ⟨_, rfl⟩
  have hb1 : Below w.heap.size w W1 := by rw [← hW1]; exact (Below.refl _ _).alloc (Nat.le_refl _) _
  have z1 : W1.heap.size = w.heap.size + 1 := by rw [← hW1]; simp
  have g1 : BlockV W1 w.heap.size 3 (List.replicate n (Value.int .i64 0)) := by rw [← hW1]; exact World.alloc_heap_new _ _
  rw [hW1] at hmk
  have hmk2 := run_make (P := Try.prog) W1 39 4 j0 (.bool false) Try.underlying39 hj hy0 .i64 .i64 n n (by omega) (Int.le_refl _) (by rw [hy2]; omega) (by omega)
  rw [Int.toNat_natCast, hy1, Nat.mul_one, show (Value.bool false).cells = #[Value.bool false] from rfl, made_list] at hmk2
  obtain ⟨W2, hW2⟩ : ∃ W2, W1.alloc (.cells (List.replicate n (Value.bool false)).toArray 4) = W2 := ⟨_, rfl⟩
  have hb2 : Below W1.heap.size W1 W2 := by rw [← hW2]; exact (Below.refl _ _).alloc (Nat.le_refl _) _
  have g2 : BlockV W2 W1.heap.size 4 (List.replicate n (Value.bool false)) := by rw [← hW2]; exact World.alloc_heap_new _ _
  rw [hW2] at hmk2
  obtain ⟨G, hG⟩ : ∃ G, w.heap.size = G := ⟨_, rfl⟩
  obtain ⟨H, hH⟩ : ∃ H, W1.heap.size = H := ⟨_, rfl⟩
  rw [hG] at hmk g1
  rw [hH] at hmk2 g2
  have HGH := Lib.hid (show w.heap.size = G ∧ G < H by omega)
  have hgh : G ≠ H := by omega
  have hhg : H ≠ G := by omega
  have HG1 := Lib.hid (g1.below hb2 (by omega))
  have HG2 := Lib.hid g2
  have HB := Lib.hid (hb1.trans (hb2.mono (by omega)))
  have HR := Lib.hid hr
  have HN := Lib.hid hn
  have hl1 : (n : Int) ≤ 1000 := by omega
  clear hr hn hi hz0 hz1 hz2 hj hy0 hy1 hy2 hW1 hW2 hb1 hb2 z1 g1 g2 hG hH
  go_enter Try.func14, Try.ntmps14
  go_wp2_with fail
  go_loopw [6] (fun v wr => ∃ (k : Nat) (O : List Int) (B : List Bool), v = .int .i64 k ∧ k ≤ n ∧ M.BkTo l k O B ∧ BlockV wr G 3 (O.map (Value.int .i64)) ∧ BlockV wr H 4 (B.map Value.bool) ∧ Below w.heap.size w wr) (fun v _ => n - (intOf v).toNat)
  case atStart => exact ⟨0, _, _, rfl, Nat.zero_le _, .start l, by rw [HN.out, List.map_replicate]; exact HG1.out, by rw [HN.out, List.map_replicate]; exact HG2.out, HB.out⟩
  case round =>
    obtain ⟨k, O, B, rfl, hk, hbk, hg1, hg2, hbel⟩ := hrel
    rename World => wr
    have HBK := Lib.hid hbk
    have HG1' := Lib.hid hg1
    have HG2' := Lib.hid hg2
    have HBEL := Lib.hid hbel
    have k0 : (0 : Int) ≤ k := by omega
    by_cases hlt : k < n
    · have k1 : (k : Int) < n := by omega
      obtain ⟨ad, c, rfl, hcc, hc, -⟩ := rd_at HR.out hbel (by rw [HN.out]; exact hlt : k < l.length)
      by_cases h0 : c < 0
      · have HNO := Lib.hid (show ¬ M.isOrd l from fun h => by have := (h.1 c (List.mem_of_getElem? hc)).1; omega)
        clear hbk hg1 hg2 hbel hc
        go_wp2_with fail
        go_returns
        exact ⟨HBEL.out, fun h => absurd h HNO.out, fun _ => rfl⟩
      · by_cases h1 : (n : Int) ≤ c
        · have HNO := Lib.hid (show ¬ M.isOrd l from fun h => by have := (h.1 c (List.mem_of_getElem? hc)).2; rw [HN.out] at this; omega)
          clear hbk hg1 hg2 hbel hc
          go_wp2_with fail
          go_returns
          exact ⟨HBEL.out, fun h => absurd h HNO.out, fun _ => rfl⟩
        · obtain ⟨x, rfl⟩ : ∃ x : Nat, c = x := ⟨c.toNat, by omega⟩
          have hxn : x < n := by omega
          have x0 : (0 : Int) ≤ x := by omega
          have x1 : (x : Int) < n := by omega
          have hb := hbk.bat x (by rw [HN.out]; exact hxn)
          have cb := hg2.cell (j := x) (v := .bool (decide ((x : Int) ∈ l.take k))) (by rw [List.getElem?_map, hb]; rfl)
          by_cases hm : (x : Int) ∈ l.take k
          · have HNO := Lib.hid (M.not_ord hc hm)
            rw [decide_eq_true hm] at cb
            clear hbk hg1 hg2 hbel hc hb hm
            go_wp2_with fail
            go_returns
            exact ⟨HBEL.out, fun h => absurd h HNO.out, fun _ => rfl⟩
          · rw [decide_eq_false hm] at cb
            have hst := hbk.step hc (by rw [HN.out]; exact hxn) hm
            have f1 := hg2.frozen (j := x)
            have f0 := hg1.frozen (j := x)
            have ho := hbk.oat x (by rw [HN.out]; exact hxn)
            rw [if_neg hm] at ho
            have c0 := hg1.cell (j := x) (v := .int .i64 0) (by rw [List.getElem?_map, ho]; rfl)
            have n1 := (hg1.other (H := H) (k := x) hgh (.bool true)).set x (.int .i64 (k : Int))
            have n2 := (hg2.set x (.bool true)).other (H := G) (k := x) hhg (.int .i64 (k : Int))
            rw [← List.map_set] at n1 n2
            have HST := Lib.hid hst
            have HN1 := Lib.hid n1
            have HN2 := Lib.hid n2
            clear hbk hg1 hg2 hbel hc hb hm hst ho n1 n2
            go_wp2_with fail
            go_roundw
            case rel => exact ⟨k + 1, _, _, by go_num, by omega, HST.out, HN1.out, HN2.out, (HBEL.out.setCell (p := ⟨H, x, none⟩) (by have := HGH.out; show _ ≤ H; omega) _).setCell (p := ⟨G, x, none⟩) (by have := HGH.out; show _ ≤ G; omega) _⟩
            case measure => simp [intOf]; omega
    · obtain rfl : n = k := by omega
      have k1 : ¬ (n : Int) < (n : Int) := by omega
      have hd := M.BkTo.done (by rw [HN.out]; exact hbk)
      have HD := Lib.hid hd
      clear hbk hg1 hg2 hbel hd
      go_wp2_with fail
      go_returns
      refine ⟨HBEL.out, fun _ => ⟨_, rfl, ?_⟩, fun h => absurd HD.out.1 h⟩
      rw [← HD.out.2, HBK.out.ol, HN.out]
      exact HG1'.out.own (by rw [List.length_map, HBK.out.ol, HN.out]) (by unfold maxLen; omega) (by have := HGH.out; omega)
end Go.Proofs.Ytahjkndphkpieaa
