/- The live question of stage 14 over the translation; and what an answer looks like, whichever it is. No condition. -/
import Derived.Test.YtahjkndphkpieaaCReo
import Derived.Test.YtahjkndphkpieaaInts
import Derived.Test.YtahjkndphkpieaaAppendRd
namespace Go.Proofs.Ytahjkndphkpieaa
open Go.RowKit
set_option maxRecDepth 100000

/-- What is handed back, and the error's number. -/
def M.orNil (ok : Prop) [Decidable ok] (t : List Int) : List Int := if ok then t else []
def M.orE (e : Int) (ok : Prop) [Decidable ok] : Int := if ok then 0 else e
theorem row_out {ty : TypeId} {e : Int} {ok : Prop} [Decidable ok] {t : List Int} {w : World} {r : Ending} {w' : World} (h : RowE ty e ok t w r w') :
    ∃ A c, r = .returned (.tuple #[.slice A (M.orNil ok t).length c, .int .i64 (M.orE e ok)]) ∧ RdS .i64 w' w'.heap.size A (M.orNil ok t) ∧ Below w.heap.size w w' ∧ (M.orNil ok t).length ≤ c := by
  obtain ⟨hb, hy, hn⟩ := h
  unfold M.orNil M.orE
  by_cases hk : ok
  · obtain ⟨v, hr, ho⟩ := hy hk
    obtain ⟨A, c, rfl, h1, h2, -, -⟩ := reads_own ho
    rw [if_pos hk, if_pos hk]
    exact ⟨A, c, hr, h1, hb, h2⟩
  · rw [if_neg hk, if_neg hk]
    exact ⟨none, 0, hn hk, RdS.nil, hb, Nat.zero_le _⟩
theorem M.orNil_len {ok : Prop} [Decidable ok] {t : List Int} : (M.orNil ok t).length ≤ t.length := by
  unfold M.orNil
  split
  · exact Nat.le_refl _
  · exact Nat.zero_le _
/-- Where it may be made. -/
theorem row_ok {ty : TypeId} {e : Int} {ok : Prop} {t : List Int} {w : World} {r : Ending} {w' : World} (h : RowE ty e ok t w r w') (hk : ok) :
    ∃ A c, r = .returned (.tuple #[.slice A t.length c, .int .i64 0]) ∧ RdS .i64 w' w'.heap.size A t ∧ Below w.heap.size w w' ∧ t.length ≤ c ∧ w'.ownsRow w.heap.size ty 1 (.slice A t.length c) t.length (t.map (Value.int .i64)) ∧ (A = none → c = 0) := by
  obtain ⟨hb, hy, -⟩ := h
  obtain ⟨v, hr, ho⟩ := hy hk
  obtain ⟨A, c, rfl, h1, h2, -, h3⟩ := reads_own ho
  exact ⟨A, c, hr, h1, hb, h2, ho, h3⟩
theorem live_x : M.ints (M.order [0, 1, 1, 2, 2, 1, 0]) = [0, 5, 3, 4, 2, 1, 6] := by decide +kernel
theorem live_y : M.inv [0, 5, 3, 4, 2, 1, 6] = [0, 5, 4, 2, 3, 1, 6] := by decide +kernel
theorem live_z : M.applied [0, 1, 1] true = [1, 2, 0] := by decide +kernel
set_option maxHeartbeats 4000000 in
theorem alive_any (w : World) : Calls Try.prog 8 #[] w fun r w' => r = .returned (.bool true) ∧ Below w.heap.size w w' := by
  obtain ⟨W1, hW1⟩ : ∃ W, w.alloc (.cells #[.int .i64 0, .int .i64 1, .int .i64 1, .int .i64 2, .int .i64 2, .int .i64 1, .int .i64 0] 3) = W := ⟨_, rfl⟩
  have hb1 : Below w.heap.size w W1 := by rw [← hW1]; exact (Below.refl _ _).alloc (Nat.le_refl _) _
  have hrd1 : RdS .i64 W1 W1.heap.size (some ⟨w.heap.size, 0, none⟩) [0, 1, 1, 2, 2, 1, 0] := by rw [← hW1]; exact rd_new w [0, 1, 1, 2, 2, 1, 0] 3
  have hP := corder_any (some ⟨w.heap.size, 0, none⟩) 7 7 _ W1 hrd1 rfl (by omega) (by omega)
  rw [live_x] at hP
  have HP := Lib.hid hP
  have HW1 := Lib.hid hW1
  have HB1 := Lib.hid hb1
  have HOK := Lib.hid (show M.ordOk [0, 1, 1, 2, 2, 1, 0] by decide)
  have HOK2 := Lib.hid (show M.isOrd [0, 5, 3, 4, 2, 1, 6] by decide)
  have HOK3 := Lib.hid (show M.ordOk [0, 1, 1] by decide)
  clear hW1 hb1 hrd1 hP
  go_enter Try.func8, Try.ntmps8
  go_wp2_with fail
  rw [HW1.out]
  refine HP.out.mono ?_
  rintro r w2 hout
  obtain ⟨A2, c2, rfl, hr2, hb2, hc2, -, -⟩ := row_ok hout HOK.out
  have HB2 := Lib.hid (HB1.out.trans (hb2.mono HB1.out.size))
  have HX2 := Lib.hid hr2
  have hQ := cback_any A2 c2 7 _ w2 hr2 rfl (by omega) hc2
  rw [live_y] at hQ
  have HQ := Lib.hid hQ
  clear hout hr2 hb2 hQ hc2
  simp only [List.length_cons, List.length_nil]
  go_wp2_with fail
  refine HQ.out.mono ?_
  rintro r w3 hout
  obtain ⟨A3, c3, rfl, hr3, hb3, -, -, -⟩ := row_ok hout HOK2.out
  have HB3 := Lib.hid (HB2.out.trans (hb3.mono HB2.out.size))
  have HX3 := Lib.hid ((HX2.out.below hb3).more hb3.size)
  have HY3 := Lib.hid hr3
  clear hout hr3 hb3
  obtain ⟨W4, hW4⟩ : ∃ W, w3.alloc (.cells #[.int .i64 0, .int .i64 1, .int .i64 1] 3) = W := ⟨_, rfl⟩
  have hb4 : Below w3.heap.size w3 W4 := by rw [← hW4]; exact (Below.refl _ _).alloc (Nat.le_refl _) _
  have hrd4 : RdS .i64 W4 W4.heap.size (some ⟨w3.heap.size, 0, none⟩) [0, 1, 1] := by rw [← hW4]; exact rd_new w3 [0, 1, 1] 3
  have hS := capply_any (some ⟨w3.heap.size, 0, none⟩) 3 3 _ true W4 hrd4 rfl (by omega) (by omega)
  rw [live_z] at hS
  have HS := Lib.hid hS
  have HW4 := Lib.hid hW4
  have HB4 := Lib.hid (HB3.out.trans (hb4.mono HB3.out.size))
  have HX4 := Lib.hid ((HX3.out.below hb4).more hb4.size)
  have HY4 := Lib.hid ((HY3.out.below hb4).more hb4.size)
  clear hW4 hb4 hrd4 hS
  simp only [List.length_cons, List.length_nil]
  go_wp2_with fail
  rw [HW4.out]
  refine HS.out.mono ?_
  rintro r w5 hout
  obtain ⟨A5, c5, rfl, hr5, hb5, -, -, -⟩ := row_ok hout HOK3.out
  have HB5 := Lib.hid (HB4.out.trans (hb5.mono HB4.out.size))
  have HX5 := Lib.hid ((HX4.out.below hb5).more hb5.size)
  have HY5 := Lib.hid ((HY4.out.below hb5).more hb5.size)
  have HZ5 := Lib.hid hr5
  clear hout hr5 hb5
  simp only [List.length_cons, List.length_nil]
  obtain ⟨W6, hW6⟩ : ∃ W, w5.alloc (.cells #[.int .i64 0, .int .i64 5, .int .i64 3, .int .i64 4, .int .i64 2, .int .i64 1, .int .i64 6] 3) = W := ⟨_, rfl⟩
  have hb6 : Below w5.heap.size w5 W6 := by rw [← hW6]; exact (Below.refl _ _).alloc (Nat.le_refl _) _
  have hrd6 : RdS .i64 W6 W6.heap.size (some ⟨w5.heap.size, 0, none⟩) [0, 5, 3, 4, 2, 1, 6] := by rw [← hW6]; exact rd_new w5 [0, 5, 3, 4, 2, 1, 6] 3
  have HT6 := Lib.hid (ints_same A2 (some ⟨w5.heap.size, 0, none⟩) c2 7 7 _ W6 ((HX5.out.below hb6).more hb6.size) hrd6 rfl (by omega))
  have HB6 := Lib.hid (HB5.out.trans (hb6.mono HB5.out.size))
  have HY6 := Lib.hid ((HY5.out.below hb6).more hb6.size)
  have HZ6 := Lib.hid ((HZ5.out.below hb6).more hb6.size)
  have HW6 := Lib.hid hW6
  clear hb6 hrd6 hW6
  go_wp2_with fail
  rw [HW6.out]
  refine HT6.out.mono ?_
  rintro r w7 ⟨rfl, hb7⟩
  have HB7 := Lib.hid (HB6.out.trans (hb7.mono HB6.out.size))
  have HY7 := Lib.hid ((HY6.out.below hb7).more hb7.size)
  have HZ7 := Lib.hid ((HZ6.out.below hb7).more hb7.size)
  clear hb7
  obtain ⟨W8, hW8⟩ : ∃ W, w7.alloc (.cells #[.int .i64 0, .int .i64 5, .int .i64 4, .int .i64 2, .int .i64 3, .int .i64 1, .int .i64 6] 3) = W := ⟨_, rfl⟩
  have hb8 : Below w7.heap.size w7 W8 := by rw [← hW8]; exact (Below.refl _ _).alloc (Nat.le_refl _) _
  have hrd8 : RdS .i64 W8 W8.heap.size (some ⟨w7.heap.size, 0, none⟩) [0, 5, 4, 2, 3, 1, 6] := by rw [← hW8]; exact rd_new w7 [0, 5, 4, 2, 3, 1, 6] 3
  have HT8 := Lib.hid (ints_same A3 (some ⟨w7.heap.size, 0, none⟩) c3 7 7 _ W8 ((HY7.out.below hb8).more hb8.size) hrd8 rfl (by omega))
  have HB8 := Lib.hid (HB7.out.trans (hb8.mono HB7.out.size))
  have HZ8 := Lib.hid ((HZ7.out.below hb8).more hb8.size)
  have HW8 := Lib.hid hW8
  clear hb8 hrd8 hW8
  go_wp2_with fail
  rw [HW8.out]
  refine HT8.out.mono ?_
  rintro r w9 ⟨rfl, hb9⟩
  have HB9 := Lib.hid (HB8.out.trans (hb9.mono HB8.out.size))
  have HZ9 := Lib.hid ((HZ8.out.below hb9).more hb9.size)
  clear hb9
  obtain ⟨W10, hW10⟩ : ∃ W, w9.alloc (.cells #[.int .i64 1, .int .i64 2, .int .i64 0] 3) = W := ⟨_, rfl⟩
  have hb10 : Below w9.heap.size w9 W10 := by rw [← hW10]; exact (Below.refl _ _).alloc (Nat.le_refl _) _
  have hrd10 : RdS .i64 W10 W10.heap.size (some ⟨w9.heap.size, 0, none⟩) [1, 2, 0] := by rw [← hW10]; exact rd_new w9 [1, 2, 0] 3
  have HT10 := Lib.hid (ints_same A5 (some ⟨w9.heap.size, 0, none⟩) c5 3 3 _ W10 ((HZ9.out.below hb10).more hb10.size) hrd10 rfl (by omega))
  have HB10 := Lib.hid (HB9.out.trans (hb10.mono HB9.out.size))
  have HW10 := Lib.hid hW10
  clear hb10 hrd10 hW10
  go_wp2_with fail
  rw [HW10.out]
  refine HT10.out.mono ?_
  rintro r w11 ⟨rfl, hb11⟩
  have HB11 := Lib.hid (HB10.out.trans (hb11.mono HB10.out.size))
  clear hb11
  go_wp2_with fail
  refine (cmirrors_any 1 false _ (by omega) (by omega)).mono ?_
  rintro r w' ⟨rfl, rfl⟩
  go_wp2_with fail
  refine (cmirrors_any 2 true _ (by omega) (by omega)).mono ?_
  rintro r w' ⟨rfl, rfl⟩
  go_wp2_with fail
  go_ret
  exact ⟨rfl, HB11.out⟩
end Go.Proofs.Ytahjkndphkpieaa
