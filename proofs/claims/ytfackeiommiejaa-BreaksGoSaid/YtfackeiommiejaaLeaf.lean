/- The small functions of package breaks, and the document's own, over the translation. -/
import Derived.Test.YtfackeiommiejaaMath
namespace Go.Proofs.Ytfackeiommiejaa
open Go.RowKit

set_option maxHeartbeats 1000000 in
theorem bears_any (a : Int) (w : World) : Calls Try.prog 28 #[.int .i64 a] w fun r w' => r = .returned (.bool (M.bears a)) ∧ w = w' := by
  unfold M.bears
  go_enter Try.func28, Try.ntmps28
  go_wp2
  all_goals
    go_ret
    exact ⟨ret_bool (by rw [Bool.eq_iff_iff]; simp_all), rfl⟩

set_option maxHeartbeats 1000000 in
theorem ofWord_any (a : Int) (w : World) : Calls Try.prog 39 #[.int .i64 a] w fun r w' => r = .returned (.bool (M.word a)) ∧ w = w' := by
  unfold M.word
  go_enter Try.func39, Try.ntmps39
  go_wp2
  all_goals
    go_ret
    exact ⟨ret_bool (by rw [Bool.eq_iff_iff]; simp_all), rfl⟩

set_option maxHeartbeats 1000000 in
theorem refWord_any (a : Int) (w : World) : Calls Try.prog 22 #[.int .i64 a] w fun r w' => r = .returned (.bool (M.word a)) ∧ w = w' := by
  unfold M.word
  go_enter Try.func22, Try.ntmps22
  go_wp2
  all_goals
    go_ret
    exact ⟨ret_bool (by rw [Bool.eq_iff_iff]; simp_all), rfl⟩

set_option maxHeartbeats 2000000 in
theorem counted_any (a k : Int) (w : World) : Calls Try.prog 19 #[.int .i64 a, .int .i64 k] w fun r w' => r = .returned (.int .i64 (M.cnt a k)) ∧ w = w' := by
  obtain ⟨ans, hans⟩ : ∃ x, M.cnt a k = x := ⟨_, rfl⟩
  rw [hans]
  unfold M.cnt at hans
  have HANS := Lib.hid hans
  clear hans
  cases hb : M.bears a
  all_goals
    have HB := Lib.hid hb
    clear hb
    go_enter Try.func19, Try.ntmps19
    go_wp2_with (go_at_call 28; refine (bears_any _ _).mono ?_; rintro r w1 ⟨rfl, rfl⟩; rw [HB.out])
    all_goals
      go_ret
      exact ⟨ret_int (by rw [← HANS.out, HB.out]; simp_all <;> omega), rfl⟩
end Go.Proofs.Ytfackeiommiejaa
