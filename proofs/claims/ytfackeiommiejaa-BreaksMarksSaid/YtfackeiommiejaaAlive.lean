/- The live question of stage 6, over the translation: it is answered true. No condition. -/
import Derived.Test.YtfackeiommiejaaNextOf
import Derived.Test.YtfackeiommiejaaInts
namespace Go.Proofs.Ytfackeiommiejaa
open Go.RowKit

theorem live_breaks : M.all [0, 10, 8, 3, 2, 4, 2, 11, 0] = [0, 0, 1, 0, 0, 1, 0, 2, 2] ∧ M.atI [0, 10, 8, 3, 2, 4, 2, 11, 0] 3 = 1 ∧ M.nextI [0, 10, 8, 3, 2, 4, 2, 11, 0] 3 = 6 := by decide +kernel

set_option maxRecDepth 100000 in
set_option maxHeartbeats 4000000 in
theorem alive_any (w : World) : Calls Try.prog 7 #[] w fun r w' => r = .returned (.bool true) ∧ Below w.heap.size w w' := by
  obtain ⟨l1, l2, l3⟩ := live_breaks
  have HL1 := Lib.hid l1
  have HL2 := Lib.hid l2
  have HL3 := Lib.hid l3
  clear l1 l2 l3
  obtain ⟨W1, hW1⟩ : ∃ W1, w.alloc (.cells #[.int .i64 0, .int .i64 10, .int .i64 8, .int .i64 3, .int .i64 2, .int .i64 4, .int .i64 2, .int .i64 11, .int .i64 0] 31) = W1 := ⟨_, rfl⟩
  have hb1 : Below w.heap.size w W1 := by rw [← hW1]; exact (Below.refl _ _).alloc (Nat.le_refl _) _
  have hrd1 : RdS .i64 W1 W1.heap.size (some ⟨w.heap.size, 0, none⟩) [0, 10, 8, 3, 2, 4, 2, 11, 0] := by rw [← hW1]; exact rd_new w [0, 10, 8, 3, 2, 4, 2, 11, 0] 31
  have HW1 := Lib.hid hW1
  have HB1 := Lib.hid hb1
  have HR1 := Lib.hid hrd1
  clear hW1 hb1 hrd1
  go_enter Try.func7, Try.ntmps7
  go_wp2_with fail
  rw [HW1.out]
  refine (all_any _ 9 9 _ W1 HR1.out rfl (by omega) (by omega)).mono ?_
  rintro r w2 ⟨A2, c2, rfl, hr2, _, _, _, hb2⟩
  rw [HL1.out] at hr2 ⊢
  have HB2 := Lib.hid (HB1.out.trans (hb2.mono HB1.out.size))
  have HR2 := Lib.hid hr2
  have HR12 := Lib.hid ((HR1.out.below hb2).more hb2.size)
  clear hr2 hb2
  obtain ⟨W3, hW3⟩ : ∃ W3, w2.alloc (.cells #[.int .i64 0, .int .i64 0, .int .i64 1, .int .i64 0, .int .i64 0, .int .i64 1, .int .i64 0, .int .i64 2, .int .i64 2] 3) = W3 := ⟨_, rfl⟩
  have hb3 : Below w2.heap.size w2 W3 := by rw [← hW3]; exact (Below.refl _ _).alloc (Nat.le_refl _) _
  have hrd3 : RdS .i64 W3 W3.heap.size (some ⟨w2.heap.size, 0, none⟩) [0, 0, 1, 0, 0, 1, 0, 2, 2] := by rw [← hW3]; exact rd_new w2 [0, 0, 1, 0, 0, 1, 0, 2, 2] 3
  have HW3 := Lib.hid hW3
  have HR3 := Lib.hid hrd3
  have HR23 := Lib.hid ((HR2.out.below hb3).more hb3.size)
  have HR13 := Lib.hid ((HR12.out.below hb3).more hb3.size)
  have HB3 := Lib.hid (HB2.out.trans (hb3.mono HB2.out.size))
  clear hW3 hb3 hrd3
  go_wp2_with fail
  rw [HW3.out]
  refine (ints_same A2 _ c2 9 9 [0, 0, 1, 0, 0, 1, 0, 2, 2] W3 HR23.out HR3.out rfl (by decide)).mono ?_
  rintro r w4 ⟨rfl, hb4⟩
  have HR4 := Lib.hid ((HR13.out.below hb4).more hb4.size)
  have HB4 := Lib.hid (HB3.out.trans (hb4.mono HB3.out.size))
  clear hb4
  go_wp2_with fail
  refine (at_any _ 9 9 3 _ w4 HR4.out rfl (by omega) (by omega) (by omega)).mono ?_
  rintro r w5 ⟨rfl, hb5⟩
  rw [HL2.out]
  have HR5 := Lib.hid ((HR4.out.below hb5).more hb5.size)
  have HB5 := Lib.hid (HB4.out.trans (hb5.mono HB4.out.size))
  clear hb5
  go_wp2_with fail
  refine (nextOf_any _ 9 9 3 _ w5 HR5.out rfl (by omega) (by omega)).mono ?_
  rintro r w7 ⟨rfl, hb7⟩
  rw [HL3.out]
  have HB7 := Lib.hid (HB5.out.trans (hb7.mono HB5.out.size))
  clear hb7
  go_wp2_with fail
  go_ret
  exact ⟨rfl, HB7.out⟩
end Go.Proofs.Ytfackeiommiejaa
