/- The contracts of utf's leaves over the translation: Scalar, six, count, asked. Conditions: the variable lengths holds the four rows of the program's text. -/
import Derived.Test.YteknpodofmmklaaDoorRows
import Derived.Test.YteknpodofmmklaaDoorMath
import Derived.WalkKit
import Derived.WalkSpells
import Derived.WalkLawsBesides
import Derived.Lib.Hide
namespace Go.Proofs.YteknpodofmmklaaDoor
open Go.RowKit

set_option maxHeartbeats 400000 in
theorem scalar_any (c : Int) (w : World) :
    Calls Tryd.prog 59 #[.int .i64 c] w fun e w' => e = .returned (.bool (M.scal c)) ∧ w = w' := by
  by_cases h1 : 0 ≤ c
  · by_cases h2 : c ≤ 1114111
    · by_cases h3 : c < 55296
      · have hs : M.scal c = true := by simp [M.scal]; omega
        rw [hs]; clear hs
        go_enter Tryd.func59, Tryd.ntmps59
        go_wp2
        go_ret
        exact ⟨rfl, rfl⟩
      · by_cases h4 : 57343 < c
        · have hs : M.scal c = true := by simp [M.scal]; omega
          rw [hs]; clear hs
          go_enter Tryd.func59, Tryd.ntmps59
          go_wp2
          go_ret
          exact ⟨rfl, rfl⟩
        · have hs : M.scal c = false := by simp [M.scal]; omega
          rw [hs]; clear hs
          go_enter Tryd.func59, Tryd.ntmps59
          go_wp2
          go_ret
          exact ⟨rfl, rfl⟩
    · have hs : M.scal c = false := by simp [M.scal]; omega
      rw [hs]; clear hs
      go_enter Tryd.func59, Tryd.ntmps59
      go_wp2
      go_ret
      exact ⟨rfl, rfl⟩
  · have hs : M.scal c = false := by simp [M.scal]; omega
    rw [hs]; clear hs
    go_enter Tryd.func59, Tryd.ntmps59
    go_wp2
    go_ret
    exact ⟨rfl, rfl⟩

set_option maxHeartbeats 400000 in
theorem six_tail (x : Int) (w : World) (h1 : 128 ≤ x) (h2 : x ≤ 191) :
    Calls Tryd.prog 58 #[.int .i64 x] w fun e w' => e = .returned (.int .i64 (x - 128)) ∧ w = w' := by
  go_enter Tryd.func58, Tryd.ntmps58
  go_wp2
  go_ret
  exact ⟨rfl, rfl⟩

set_option maxHeartbeats 400000 in
theorem six_low (x : Int) (w : World) (h1 : x < 128) :
    Calls Tryd.prog 58 #[.int .i64 x] w fun e w' => e = .panicked [{ v := .iface 48 (.int .i64 11), recovered := false }] ∧ w = w' := by
  go_enter Tryd.func58, Tryd.ntmps58
  go_wp2
  exact ⟨rfl, rfl, rfl⟩

set_option maxHeartbeats 400000 in
theorem six_high (x : Int) (w : World) (h1 : 191 < x) :
    Calls Tryd.prog 58 #[.int .i64 x] w fun e w' => e = .panicked [{ v := .iface 48 (.int .i64 11), recovered := false }] ∧ w = w' := by
  have h2 : ¬ x < 128 := by omega
  go_enter Tryd.func58, Tryd.ntmps58
  go_wp2
  exact ⟨rfl, rfl, rfl⟩

end Go.Proofs.YteknpodofmmklaaDoor
