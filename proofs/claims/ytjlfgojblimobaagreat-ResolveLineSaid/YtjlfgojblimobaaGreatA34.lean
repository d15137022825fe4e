/- The contract of package neutral's Raise. Conditions: the slice reads as a list of classes, at most a thousand long. -/
import Derived.Test.YtjlfgojblimobaaGreatA31
section
namespace Go.Proofs.YtjlfgojblimobaaGreat.S12
open Go.RowKit
set_option maxRecDepth 100000

set_option maxHeartbeats 8000000 in
theorem craise_no (A : Option Addr) (ca n : Nat) (t : List Int) (lv : Int) (w : World) (h : ¬ M.lvOk lv) :
    Calls Tryz.prog 44 #[.slice A n ca, .int .i64 lv] w (RowOr 3 (M.lvOk lv) t w) := by
  have HC := Lib.hid (cisLevel_any lv w)
  rw [show decide (0 ≤ lv ∧ lv ≤ 125) = false from decide_eq_false h] at HC
  have HM := Lib.hid h
  clear h
  go_enter Tryz.func44, Tryz.ntmps44
  go_wp2_with fail
  refine HC.out.mono ?_
  rintro r w1 ⟨rfl, rfl⟩
  go_wp2_with fail
  go_returns
  exact ⟨Below.refl _ _, fun h => absurd h HM.out, fun _ => rfl⟩
set_option maxHeartbeats 16000000 in
theorem craise_ok (A : Option Addr) (ca n : Nat) (l : List Int) (lv : Int) (w : World) (hr : RdS .i64 w w.heap.size A l) (hn : l.length = n) (hl : n ≤ 1000) (h : M.lvOk lv) :
    Calls Tryz.prog 44 #[.slice A n ca, .int .i64 lv] w (RowOr 3 (M.lvOk lv) (M.raise lv l) w) := by
  obtain ⟨i0, hi, hz0, hz1, hz2⟩ := info_parts Tryz.infoInt2
  have hmk := run_make (P := Tryz.prog) w 25 3 i0 (.int .i64 0) Tryz.underlying25 hi hz0 .i64 .i64 n n (by omega) (Int.le_refl _) (by rw [hz2]; omega) (by omega)
  rw [Int.toNat_natCast, hz1, Nat.mul_one] at hmk
  obtain ⟨Z, hZ⟩ : ∃ Z, madeCells (Value.int IntKind.i64 0).cells n = Z := ⟨_, rfl⟩
  have hZe : Z = ((List.replicate n (0 : Int)).map (Value.int .i64)).toArray := by
    rw [← hZ, List.map_replicate, ← toList_madeCells_one (Value.int .i64 0) n]
    exact (Array.toArray_toList).symm
  rw [hZ] at hmk
  obtain ⟨W1, hW1⟩ : ∃ W1, w.alloc (.cells Z 3) = W1 := ⟨_, rfl⟩
  obtain ⟨G, hG⟩ : ∃ G, w.heap.size = G := ⟨_, rfl⟩
  have hg1 : BlockAt W1 G 3 (List.replicate n 0) := by
    unfold BlockAt
    rw [← hW1, ← hG, ← hZe]
    exact World.alloc_heap_new _ _
  have hb1 : Below w.heap.size w W1 := by rw [← hW1]; exact (Below.refl _ _).alloc (Nat.le_refl _) _
  rw [hW1, hG] at hmk
  have HG := Lib.hid hG
  have HG1 := Lib.hid hg1
  have HB1 := Lib.hid hb1
  have HR := Lib.hid hr
  have HN := Lib.hid hn
  have HOK := Lib.hid h
  have HC := Lib.hid (cisLevel_any lv w)
  rw [show decide (0 ≤ lv ∧ lv ≤ 125) = true from decide_eq_true h] at HC
  have lv0 : 0 ≤ lv := h.1
  have lv1 : lv ≤ 125 := h.2
  have hl1 : (n : Int) ≤ 1000 := by omega
  clear hr hn h hZ hZe hW1 hg1 hb1 hz0 hz1 hz2 hi hG hl
  go_enter Tryz.func44, Tryz.ntmps44
  go_wp2_with fail
  refine HC.out.mono ?_
  rintro r w1 ⟨rfl, rfl⟩
  go_wp2_with fail
  go_loopw [17] (fun v wr => ∃ (k : Nat) (O : List Int), v = .int .i64 k ∧ k ≤ n ∧ O.length = k ∧ BlockAt wr G 3 (O ++ List.replicate (n - k) 0) ∧ M.raise lv l = O ++ (l.drop k).map (M.rs lv) ∧ Below w.heap.size w wr) (fun v _ => n - (intOf v).toNat)
  case atStart => exact ⟨0, [], rfl, Nat.zero_le _, rfl, HG1.out, rfl, HB1.out⟩
  case round =>
    obtain ⟨k, O, rfl, hk, hO, hb, hto, hbel⟩ := hrel
    rename World => wr
    have k0 : (0 : Int) ≤ k := by omega
    have HB := Lib.hid hbel
    have HOL := Lib.hid hO
    by_cases hlt : k < n
    · have k1 : (k : Int) < n := by omega
      obtain ⟨ad, c, rfl, hcc, hc, -⟩ := rd_at HR.out hbel (by rw [HN.out]; exact hlt : k < l.length)
      have hz : (O ++ List.replicate (n - k) (0 : Int))[k]? = some 0 := by
        rw [List.getElem?_append_right (by rw [hO]; exact Nat.le_refl _), hO, Nat.sub_self, List.getElem?_replicate, if_pos (by omega)]
      have c0 := hb.cell hz
      have f0 := hb.frozen (j := k)
      have hs := csteps_any c lv wr lv0 lv1
      obtain ⟨x, hx⟩ : ∃ x, M.rs lv c = x := ⟨_, rfl⟩
      have hxb := M.rs_is (lv := lv) (c := c)
      have hb1 := hb.set (k := k) x
      rw [List.set_append_right _ _ (by rw [hO]; exact Nat.le_refl _), hO, Nat.sub_self, show n - k = (n - (k + 1)) + 1 by omega, List.replicate_succ, List.set_cons_zero] at hb1
      rw [M.drop_next' hc, List.map_cons, hx] at hto
      rw [hx] at hs hxb
      have hx0 : lv ≤ x := hxb.1
      have hx1 : x ≤ lv + 2 := hxb.2.1
      have hx2 : lv + (x - lv) = x := by omega
      have HS := Lib.hid hs
      have HB1 := Lib.hid hb1
      have HTO := Lib.hid hto
      clear hb hto hbel hO hc hz hs hx hxb hb1
      go_wp2_with fail
      refine HS.out.mono ?_
      rintro r w2 ⟨rfl, rfl⟩
      go_wp2_with fail
      go_roundw
      case rel =>
        refine ⟨k + 1, O ++ [x], by go_num, by omega, by rw [List.length_append, HOL.out]; rfl, ?_, ?_, HB.out.setCell (p := ⟨G, k, none⟩) (Nat.le_of_eq HG.out) _⟩
        · rw [List.append_assoc]
          exact HB1.out
        · rw [List.append_assoc]
          exact HTO.out
      case measure => simp [intOf]; omega
    · obtain rfl : n = k := by omega
      have k1 : ¬ (n : Int) < n := by omega
      rw [Nat.sub_self, List.replicate_zero, List.append_nil] at hb
      rw [List.drop_eq_nil_of_le (by rw [HN.out]; exact Nat.le_refl _), List.map_nil, List.append_nil] at hto
      have HTO := Lib.hid hto
      have HBB := Lib.hid hb
      clear hb hto hbel hO
      go_wp2_with fail
      go_returns
      refine ⟨HB.out, fun _ => ⟨_, rfl, ?_⟩, fun h => absurd HOK.out h⟩
      rw [HTO.out, HOL.out]
      exact HBB.out.own HOL.out (by unfold maxLen; omega) (Nat.le_of_eq HG.out)
theorem craise_any (A : Option Addr) (ca n : Nat) (l : List Int) (lv : Int) (w : World) (hr : RdS .i64 w w.heap.size A l) (hn : l.length = n) (hl : n ≤ 1000) (_hca : n ≤ ca) :
    Calls Tryz.prog 44 #[.slice A n ca, .int .i64 lv] w (RowOr 3 (M.lvOk lv) (M.raise lv l) w) := by
  by_cases h : M.lvOk lv
  · exact craise_ok A ca n l lv w hr hn hl h
  · exact craise_no A ca n _ lv w h
end Go.Proofs.YtjlfgojblimobaaGreat.S12
end
