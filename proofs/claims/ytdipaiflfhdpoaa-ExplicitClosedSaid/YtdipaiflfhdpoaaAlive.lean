/- The live question of stage 8, over the translation: it is answered true. No condition. -/
import Derived.Test.YtdipaiflfhdpoaaCLevels
import Derived.Test.YtdipaiflfhdpoaaInts
namespace Go.Proofs.Ytdipaiflfhdpoaa
open Go.RowKit

def M.liveL : List Int := [0, 16, 1, 19, 0, 22, 18, 21, 2, 22]
theorem live_levels : M.levels [0, 16, 1, 19, 0, 22, 18, 21, 2, 22] 0 = some [(0, 0), (-1, 16), (1, 1), (1, 19), (2, 0), (1, 22), (-1, 18), (0, 21), (1, 2), (0, 22)] ∧ M.levels [0, 16, 1, 19, 0, 22, 18, 21, 2, 22] 2 = none ∧ M.matchI [0, 16, 1, 19, 0, 22, 18, 21, 2, 22] = [-1, -1, -1, 5, -1, -1, -1, 9, -1, -1] ∧ M.strong [16, 1, 19, 0, 22, 18, 21, 2, 22] = 1 := by decide +kernel
theorem lev_rows {ps : List (Int × Int)} {w : World} {r : Ending} {w' : World} (h : LevOut (some ps) w r w') : ∃ A c A2 c2, r = .returned (.tuple #[.slice A ps.length c, .slice A2 ps.length c2, .int .i64 0]) ∧ RdS .i64 w' w'.heap.size A (ps.map Prod.fst) ∧ RdS .i64 w' w'.heap.size A2 (ps.map Prod.snd) ∧ ps.length ≤ c ∧ c ≤ maxLen ∧ ps.length ≤ c2 ∧ c2 ≤ maxLen ∧ Below w.heap.size w w' ∧
    w'.ownsRow w.heap.size 3 1 (.slice A ps.length c) ps.length ((ps.map Prod.fst).map (Value.int .i64)) ∧ w'.ownsRow w.heap.size 34 1 (.slice A2 ps.length c2) ps.length ((ps.map Prod.snd).map (Value.int .i64)) := by
  obtain ⟨va, vb, hr, ha, hb, hbl⟩ := h
  obtain ⟨A, c, e1, r1, l1, m1, _⟩ := reads_own (l := ps.map Prod.fst) (by rw [List.length_map]; exact ha)
  obtain ⟨A2, c2, e2, r2, l2, m2, _⟩ := reads_own (l := ps.map Prod.snd) (by rw [List.length_map]; exact hb)
  rw [List.length_map] at e1 e2 l1 l2
  subst e1
  subst e2
  exact ⟨A, c, A2, c2, hr, r1, r2, l1, m1, l2, m2, hbl, ha, hb⟩
set_option maxRecDepth 100000 in
set_option maxHeartbeats 4000000 in
theorem alive_any (w : World) : Calls Try.prog 8 #[] w fun r w' => r = .returned (.bool true) ∧ Below w.heap.size w w' := by
  obtain ⟨l1, l2, l3, l4⟩ := live_levels
  have HL1 := Lib.hid l1
  have HL2 := Lib.hid l2
  have HL3 := Lib.hid l3
  have HL4 := Lib.hid l4
  clear l1 l2 l3 l4
  obtain ⟨W1, hW1⟩ : ∃ W1, w.alloc (.cells #[.int .i64 0, .int .i64 16, .int .i64 1, .int .i64 19, .int .i64 0, .int .i64 22, .int .i64 18, .int .i64 21, .int .i64 2, .int .i64 22] 34) = W1 := ⟨_, rfl⟩
  have hb1 : Below w.heap.size w W1 := by rw [← hW1]; exact (Below.refl _ _).alloc (Nat.le_refl _) _
  have hrd1 : RdS .i64 W1 W1.heap.size (some ⟨w.heap.size, 0, none⟩) [0, 16, 1, 19, 0, 22, 18, 21, 2, 22] := by rw [← hW1]; exact rd_new w [0, 16, 1, 19, 0, 22, 18, 21, 2, 22] 34
  have HW1 := Lib.hid hW1
  have HB1 := Lib.hid hb1
  have HR1 := Lib.hid hrd1
  clear hW1 hb1 hrd1
  go_enter Try.func8, Try.ntmps8
  go_wp2_with fail
  rw [HW1.out]
  refine (clevels_any _ 10 10 _ 0 W1 HR1.out rfl (by omega)).mono ?_
  rintro r w2 hout
  rw [HL1.out] at hout
  obtain ⟨A2, c2, A3, c3, rfl, hr2, hr3, _, _, _, _, hb2, _, _⟩ := lev_rows hout
  have HR2 := Lib.hid (show RdS .i64 w2 w2.heap.size A2 [0, -1, 1, 1, 2, 1, -1, 0, 1, 0] from hr2)
  have HB2 := Lib.hid (HB1.out.trans (hb2.mono HB1.out.size))
  have HR12 := Lib.hid ((HR1.out.below hb2).more hb2.size)
  clear hr2 hr3 hb2 hout
  simp only [List.length_cons, List.length_nil]
  go_wp2_with fail
  refine (clevels_any _ 10 10 _ 2 w2 HR12.out rfl (by omega)).mono ?_
  rintro r w3 hout
  rw [HL2.out] at hout
  obtain ⟨rfl, hb3⟩ := hout
  have HR23 := Lib.hid ((HR2.out.below hb3).more hb3.size)
  have HR13 := Lib.hid ((HR12.out.below hb3).more hb3.size)
  have HB3 := Lib.hid (HB2.out.trans (hb3.mono HB2.out.size))
  clear hb3
  obtain ⟨W4, hW4⟩ : ∃ W4, w3.alloc (.cells #[.int .i64 0, .int .i64 (-1), .int .i64 1, .int .i64 1, .int .i64 2, .int .i64 1, .int .i64 (-1), .int .i64 0, .int .i64 1, .int .i64 0] 3) = W4 := ⟨_, rfl⟩
  have hb4 : Below w3.heap.size w3 W4 := by rw [← hW4]; exact (Below.refl _ _).alloc (Nat.le_refl _) _
  have hrd4 : RdS .i64 W4 W4.heap.size (some ⟨w3.heap.size, 0, none⟩) [0, -1, 1, 1, 2, 1, -1, 0, 1, 0] := by rw [← hW4]; exact rd_new w3 [0, -1, 1, 1, 2, 1, -1, 0, 1, 0] 3
  have HW4 := Lib.hid hW4
  have HR4 := Lib.hid hrd4
  have HR24 := Lib.hid ((HR23.out.below hb4).more hb4.size)
  have HR14 := Lib.hid ((HR13.out.below hb4).more hb4.size)
  have HB4 := Lib.hid (HB3.out.trans (hb4.mono HB3.out.size))
  clear hW4 hb4 hrd4
  go_wp2_with fail
  rw [HW4.out]
  refine (ints_same A2 _ c2 10 10 [0, -1, 1, 1, 2, 1, -1, 0, 1, 0] W4 HR24.out HR4.out rfl (by decide)).mono ?_
  rintro r w5 ⟨rfl, hb5⟩
  have HR5 := Lib.hid ((HR14.out.below hb5).more hb5.size)
  have HB5 := Lib.hid (HB4.out.trans (hb5.mono HB4.out.size))
  clear hb5
  go_wp2_with fail
  refine (cmatch_any _ 10 10 _ w5 HR5.out rfl (by omega)).mono ?_
  rintro r w6 ⟨v, rfl, hown, hb6⟩
  rw [HL3.out] at hown
  obtain ⟨A6, c6, rfl, hr6, _, _, _⟩ := reads_own (l := [-1, -1, -1, 5, -1, -1, -1, 9, -1, -1]) hown
  obtain ⟨ad, hA6, -, q3⟩ := hr6 3 5 rfl
  subst hA6
  have HR6 := Lib.hid ((HR5.out.below hb6).more hb6.size)
  have HB6 := Lib.hid (HB5.out.trans (hb6.mono HB5.out.size))
  have HR7 := Lib.hid (show RdS .i64 w6 w6.heap.size (some ⟨w.heap.size, 1, none⟩) [16, 1, 19, 0, 22, 18, 21, 2, 22] from HR6.out.drop 1)
  clear hown hr6 hb6
  rw [addr_add_pos _ _ (by omega)] at q3
  simp only [List.length_cons, List.length_nil]
  go_wp2_with fail
  refine (cstrong_any _ 9 9 _ w6 HR7.out rfl (by omega)).mono ?_
  rintro r w7 ⟨rfl, rfl⟩
  rw [HL4.out]
  go_wp2_with fail
  go_ret
  exact ⟨rfl, HB6.out⟩
end Go.Proofs.Ytdipaiflfhdpoaa
