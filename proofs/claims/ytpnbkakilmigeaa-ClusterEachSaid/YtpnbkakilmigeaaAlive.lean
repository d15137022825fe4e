/- The live question of stage 5, over the translation: it is answered true. No condition. -/
import Derived.Test.YtpnbkakilmigeaaStarts
import Derived.Test.YtpnbkakilmigeaaOf
import Derived.Test.YtpnbkakilmigeaaBreak
import Derived.Test.YtpnbkakilmigeaaInts
namespace Go.Proofs.Ytpnbkakilmigeaa
open Go.RowKit

/-- A new block of whole numbers reads as their list. -/
theorem rd_new (w : World) (l : List Int) (ty : TypeId) : RdS .i64 (w.alloc (.cells (l.map (Value.int .i64)).toArray ty)) (w.alloc (.cells (l.map (Value.int .i64)).toArray ty)).heap.size (some ⟨w.heap.size, 0, none⟩) l := fun j x hx => by
  refine ⟨_, rfl, by simp, ?_⟩
  have : (⟨w.heap.size, 0, none⟩ : Addr).add j = ⟨w.heap.size, j, none⟩ := by unfold Addr.add; split <;> simp_all
  rw [this]
  have hj := (List.getElem?_eq_some_iff.1 hx).1
  have hnew : (w.alloc (.cells (l.map (Value.int .i64)).toArray ty)).heap[w.heap.size]? = some (.cells (l.map (Value.int .i64)).toArray ty (0, 0)) := World.alloc_heap_new w _
  unfold World.cell?
  rw [hnew]
  simp [hx]

set_option maxRecDepth 100000 in
set_option maxHeartbeats 4000000 in
theorem alive_any (w : World) : Calls Try.prog 7 #[] w fun r w' => r = .returned (.bool true) ∧ Below w.heap.size w w' := by
  obtain ⟨l1, l2, l3⟩ := live_starts
  have HL1 := Lib.hid l1
  have HL2 := Lib.hid l2
  have HL3 := Lib.hid l3
  clear l1 l2 l3
  obtain ⟨W1, hW1⟩ : ∃ W1, w.alloc (.cells #[.int .i64 0, .int .i64 4, .int .i64 1, .int .i64 2, .int .i64 6, .int .i64 6, .int .i64 6, .int .i64 14, .int .i64 5, .int .i64 14] 26) = W1 := ⟨_, rfl⟩
  have hb1 : Below w.heap.size w W1 := by rw [← hW1]; exact (Below.refl _ _).alloc (Nat.le_refl _) _
  have hrd1 : RdS .i64 W1 W1.heap.size (some ⟨w.heap.size, 0, none⟩) [0, 4, 1, 2, 6, 6, 6, 14, 5, 14] := by rw [← hW1]; exact rd_new w [0, 4, 1, 2, 6, 6, 6, 14, 5, 14] 26
  have HW1 := Lib.hid hW1
  have HB1 := Lib.hid hb1
  have HR1 := Lib.hid hrd1
  clear hW1 hb1 hrd1
  go_enter Try.func7, Try.ntmps7
  go_wp2_with fail
  rw [HW1.out]
  refine (starts_any _ 10 10 _ W1 HR1.out rfl (by omega) (by omega)).mono ?_
  rintro r w2 ⟨A2, c2, rfl, hr2, _, _, _, hb2⟩
  rw [HL1.out] at hr2 ⊢
  have HB2 := Lib.hid (HB1.out.trans (hb2.mono HB1.out.size))
  have HR2 := Lib.hid hr2
  clear hr2 hb2
  obtain ⟨W3, hW3⟩ : ∃ W3, w2.alloc (.cells #[.int .i64 0, .int .i64 2, .int .i64 4, .int .i64 6, .int .i64 7] 3) = W3 := ⟨_, rfl⟩
  have hb3 : Below w2.heap.size w2 W3 := by rw [← hW3]; exact (Below.refl _ _).alloc (Nat.le_refl _) _
  have hrd3 : RdS .i64 W3 W3.heap.size (some ⟨w2.heap.size, 0, none⟩) [0, 2, 4, 6, 7] := by rw [← hW3]; exact rd_new w2 [0, 2, 4, 6, 7] 3
  have HW3 := Lib.hid hW3
  have HR3 := Lib.hid hrd3
  have HR23 := Lib.hid ((HR2.out.below hb3).more hb3.size)
  have HB3 := Lib.hid (HB2.out.trans (hb3.mono HB2.out.size))
  clear hW3 hb3 hrd3
  go_wp2_with fail
  rw [HW3.out]
  refine (ints_same A2 _ c2 5 5 [0, 2, 4, 6, 7] W3 HR23.out HR3.out rfl (by decide)).mono ?_
  rintro r w4 ⟨rfl, hb4⟩
  have HR4 := Lib.hid ((HR23.out.below hb4).more hb4.size)
  have HB4 := Lib.hid (HB3.out.trans (hb4.mono HB3.out.size))
  clear hb4
  go_wp2_with fail
  refine (of_any w4 5 HR4.out rfl (by decide) (by decide)).mono ?_
  rintro r w5 ⟨rfl, hb5⟩
  rw [HL2.out]
  have HB5 := Lib.hid (HB4.out.trans (hb5.mono HB4.out.size))
  clear hb5
  obtain ⟨W6, hW6⟩ : ∃ W6, w5.alloc (.cells #[.int .i64 0, .int .i64 0] 26) = W6 := ⟨_, rfl⟩
  have hb6 : Below w5.heap.size w5 W6 := by rw [← hW6]; exact (Below.refl _ _).alloc (Nat.le_refl _) _
  have hrd6 : RdS .i64 W6 W6.heap.size (some ⟨w5.heap.size, 0, none⟩) [0, 0] := by rw [← hW6]; exact rd_new w5 [0, 0] 26
  have HW6 := Lib.hid hW6
  have HR6 := Lib.hid hrd6
  have HB6 := Lib.hid (HB5.out.trans (hb6.mono HB5.out.size))
  clear hW6 hb6 hrd6
  go_wp2_with fail
  rw [HW6.out]
  refine (break_any _ 2 2 [0, 0] 1 W6 HR6.out rfl (by omega) (by omega)).mono ?_
  rintro r w7 ⟨rfl, hb7⟩
  rw [HL3.out]
  have HB7 := Lib.hid (HB6.out.trans (hb7.mono HB6.out.size))
  clear hb7
  go_wp2_with fail
  go_ret
  exact ⟨rfl, HB7.out⟩
end Go.Proofs.Ytpnbkakilmigeaa
