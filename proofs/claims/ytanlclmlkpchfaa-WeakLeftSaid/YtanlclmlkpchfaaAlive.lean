/- The live question of stage 10, and side, over the translation; and what a rule's answer looks like, whichever it is. No condition. -/
import Derived.Test.YtanlclmlkpchfaaCWeak
import Derived.Test.YtanlclmlkpchfaaSame
namespace Go.Proofs.Ytanlclmlkpchfaa
open Go.RowKit
set_option maxRecDepth 100000

instance (n f : Int) : Decidable (M.may n f) := by unfold M.may; infer_instance
/-- What is handed back, and the error's number. -/
def M.orNil (ok : Prop) [Decidable ok] (t : List Int) : List Int := if ok then t else []
def M.orArg (ok : Prop) [Decidable ok] : Int := if ok then 0 else 1
theorem rule_out {ok : Prop} [Decidable ok] {t : List Int} {w : World} {r : Ending} {w' : World} (h : RuleOut ok t w r w') :
    ∃ A c, r = .returned (.tuple #[.slice A (M.orNil ok t).length c, .int .i64 (M.orArg ok)]) ∧ RdS .i64 w' w'.heap.size A (M.orNil ok t) ∧ Below w.heap.size w w' ∧ (M.orNil ok t).length ≤ c := by
  obtain ⟨hb, hy, hn⟩ := h
  unfold M.orNil M.orArg
  by_cases hk : ok
  · obtain ⟨v, hr, ho⟩ := hy hk
    obtain ⟨A, c, rfl, h1, h2, -, -⟩ := reads_own ho
    rw [if_pos hk, if_pos hk]
    exact ⟨A, c, hr, h1, hb, h2⟩
  · rw [if_neg hk, if_neg hk]
    exact ⟨none, 0, hn hk, RdS.nil, hb, Nat.zero_le _⟩
theorem M.orNil_len {ok : Prop} [Decidable ok] {t : List Int} : (M.orNil ok t).length ≤ t.length := by
  unfold M.orNil
  split
  · exact Nat.le_refl _
  · exact Nat.zero_le _
/-- Where it may be made. -/
theorem rule_ok {ok : Prop} {t : List Int} {w : World} {r : Ending} {w' : World} (h : RuleOut ok t w r w') (hk : ok) :
    ∃ A c, r = .returned (.tuple #[.slice A t.length c, .int .i64 0]) ∧ RdS .i64 w' w'.heap.size A t ∧ Below w.heap.size w w' ∧ t.length ≤ c ∧ w'.ownsRow w.heap.size 23 1 (.slice A t.length c) t.length (t.map (Value.int .i64)) := by
  obtain ⟨hb, hy, -⟩ := h
  obtain ⟨v, hr, ho⟩ := hy hk
  obtain ⟨A, c, rfl, h1, h2, -, -⟩ := reads_own ho
  exact ⟨A, c, hr, h1, hb, h2, ho⟩
/-- L or R, of a number. -/
def M.sdn (n : Int) : Int := if bits .and .i64 n 1 = 1 then 1 else 0
theorem M.sdn_or (n : Int) : M.sdn n = 0 ∨ M.sdn n = 1 := by unfold M.sdn; split <;> simp
theorem side_any (n : Int) (w : World) : Calls Try.prog 13 #[.int .i64 n] w fun r w' => r = .returned (.int .i64 (M.sdn n)) ∧ w = w' := by
  have H := Lib.hid (show M.sdn n = if bits .and .i64 n 1 = 1 then 1 else 0 from rfl)
  obtain ⟨b, hb⟩ : ∃ b, bits .and .i64 n 1 = b := ⟨_, rfl⟩
  rw [hb] at H
  by_cases h : b = 1
  · subst h
    rw [if_pos rfl] at H
    go_enter Try.func13, Try.ntmps13
    go_wp2_with fail
    go_ret
    exact ⟨ret_int H.out.symm, rfl⟩
  · rw [if_neg h] at H
    have hb1 : (b == 1) = false := by simp; omega
    clear h
    go_enter Try.func13, Try.ntmps13
    go_wp2_with fail
    go_ret
    exact ⟨ret_int H.out.symm, rfl⟩
theorem live_1 : M.wall 1 [2, 8, 3, 7, 3, 5, 0, 3, 4, 3] = [1, 1, 6, 6, 6, 13, 0, 0, 0, 0] := by decide +kernel
theorem live_2 : M.wall 1 [3, 5] = [3, 3] := by decide +kernel
set_option maxHeartbeats 4000000 in
theorem alive_any (w : World) : Calls Try.prog 7 #[] w fun r w' => r = .returned (.bool true) ∧ Below w.heap.size w w' := by
  obtain ⟨W1, hW1⟩ : ∃ W1, w.alloc (.cells #[.int .i64 2, .int .i64 8, .int .i64 3, .int .i64 7, .int .i64 3, .int .i64 5, .int .i64 0, .int .i64 3, .int .i64 4, .int .i64 3] 23) = W1 := ⟨_, rfl⟩
  have hb1 : Below w.heap.size w W1 := by rw [← hW1]; exact (Below.refl _ _).alloc (Nat.le_refl _) _
  have hrd1 : RdS .i64 W1 W1.heap.size (some ⟨w.heap.size, 0, none⟩) [2, 8, 3, 7, 3, 5, 0, 3, 4, 3] := by rw [← hW1]; exact rd_new w [2, 8, 3, 7, 3, 5, 0, 3, 4, 3] 23
  have hP := call_any (some ⟨w.heap.size, 0, none⟩) 10 10 1 _ W1 hrd1 rfl (by omega) (by omega)
  rw [live_1] at hP
  have HP := Lib.hid hP
  have HW1 := Lib.hid hW1
  have HB1 := Lib.hid hb1
  clear hW1 hb1 hrd1 hP
  go_enter Try.func7, Try.ntmps7
  go_wp2_with fail
  rw [HW1.out]
  refine HP.out.mono ?_
  rintro r w2 hout
  obtain ⟨A2, c2, rfl, hr2, hb2, -, -⟩ := rule_ok hout (by simp)
  have HB2 := Lib.hid (HB1.out.trans (hb2.mono HB1.out.size))
  have HR2 := Lib.hid hr2
  obtain ⟨W3, hW3⟩ : ∃ W, w2.alloc (.cells #[.int .i64 3, .int .i64 5] 23) = W := ⟨_, rfl⟩
  have hb3 : Below w2.heap.size w2 W3 := by rw [← hW3]; exact (Below.refl _ _).alloc (Nat.le_refl _) _
  have hrd3 : RdS .i64 W3 W3.heap.size (some ⟨w2.heap.size, 0, none⟩) [3, 5] := by rw [← hW3]; exact rd_new w2 [3, 5] 23
  have hQ := call_any (some ⟨w2.heap.size, 0, none⟩) 2 2 1 _ W3 hrd3 rfl (by omega) (by omega)
  rw [live_2] at hQ
  have HQ := Lib.hid hQ
  have HW3 := Lib.hid hW3
  have HB3 := Lib.hid (HB2.out.trans (hb3.mono HB2.out.size))
  have HR23 := Lib.hid ((HR2.out.below hb3).more hb3.size)
  clear hout hr2 hb2 hW3 hb3 hrd3 hQ
  simp only [List.length_cons, List.length_nil]
  go_wp2_with fail
  rw [HW3.out]
  refine HQ.out.mono ?_
  rintro r w4 hout
  obtain ⟨A4, c4, rfl, hr4, hb4, -, -⟩ := rule_ok hout (by simp)
  have HB4 := Lib.hid (HB3.out.trans (hb4.mono HB3.out.size))
  have HR24 := Lib.hid ((HR23.out.below hb4).more hb4.size)
  obtain ⟨W5, hW5⟩ : ∃ W, w4.alloc (.cells #[.int .i64 1, .int .i64 1, .int .i64 6, .int .i64 6, .int .i64 6, .int .i64 13, .int .i64 0, .int .i64 0, .int .i64 0, .int .i64 0] 23) = W := ⟨_, rfl⟩
  have hb5 : Below w4.heap.size w4 W5 := by rw [← hW5]; exact (Below.refl _ _).alloc (Nat.le_refl _) _
  have hrd5 : RdS .i64 W5 W5.heap.size (some ⟨w4.heap.size, 0, none⟩) [1, 1, 6, 6, 6, 13, 0, 0, 0, 0] := by rw [← hW5]; exact rd_new w4 [1, 1, 6, 6, 6, 13, 0, 0, 0, 0] 23
  have HS := Lib.hid (same_same A2 (some ⟨w4.heap.size, 0, none⟩) c2 10 10 _ W5 ((HR24.out.below hb5).more hb5.size) hrd5 rfl (by omega))
  have HB5 := Lib.hid (HB4.out.trans (hb5.mono HB4.out.size))
  have HR45 := Lib.hid ((hr4.below hb5).more hb5.size)
  have HW5 := Lib.hid hW5
  clear hout hr4 hb4 hW5 hb5 hrd5
  simp only [List.length_cons, List.length_nil]
  go_wp2_with fail
  rw [HW5.out]
  refine HS.out.mono ?_
  rintro r w6 ⟨rfl, hb6⟩
  have HB6 := Lib.hid (HB5.out.trans (hb6.mono HB5.out.size))
  obtain ⟨W7, hW7⟩ : ∃ W, w6.alloc (.cells #[.int .i64 3, .int .i64 3] 23) = W := ⟨_, rfl⟩
  have hb7 : Below w6.heap.size w6 W7 := by rw [← hW7]; exact (Below.refl _ _).alloc (Nat.le_refl _) _
  have hrd7 : RdS .i64 W7 W7.heap.size (some ⟨w6.heap.size, 0, none⟩) [3, 3] := by rw [← hW7]; exact rd_new w6 [3, 3] 23
  have HT := Lib.hid (same_same A4 (some ⟨w6.heap.size, 0, none⟩) c4 2 2 _ W7 ((((HR45.out.below hb6).more hb6.size).below hb7).more hb7.size) hrd7 rfl (by omega))
  have HB7 := Lib.hid (HB6.out.trans (hb7.mono HB6.out.size))
  have HW7 := Lib.hid hW7
  clear hb6 hW7 hb7 hrd7
  go_wp2_with fail
  rw [HW7.out]
  refine HT.out.mono ?_
  rintro r w8 ⟨rfl, hb8⟩
  have HB8 := Lib.hid (HB7.out.trans (hb8.mono HB7.out.size))
  clear hb8
  go_wp2_with fail
  go_ret
  exact ⟨rfl, HB8.out⟩
end Go.Proofs.Ytanlclmlkpchfaa
