/- The seven sorts of a word of eight bytes. No function of the program is walked here. -/
import Derived.Test.YteknpodofmmklaaDoorFlt
namespace Go.Proofs.YteknpodofmmklaaDoor
open Go.RowKit

theorem F.sorts {x : Nat} (h : x < 18446744073709551616) :
    (M.sortI (x : Int) = 0 ∧ F.inf < F.rung x) ∨ (M.sortI (x : Int) = 1 ∧ F.rung x = F.inf ∧ F.neg x = true) ∨ (M.sortI (x : Int) = 2 ∧ F.rung x < F.inf ∧ 0 < F.rung x ∧ F.neg x = true) ∨ (M.sortI (x : Int) = 3 ∧ F.rung x = 0 ∧ F.neg x = true) ∨ (M.sortI (x : Int) = 4 ∧ F.rung x = 0 ∧ F.neg x = false) ∨ (M.sortI (x : Int) = 5 ∧ F.rung x < F.inf ∧ 0 < F.rung x ∧ F.neg x = false) ∨ (M.sortI (x : Int) = 6 ∧ F.rung x = F.inf ∧ F.neg x = false) := by
  rw [F.sort_eq h]
  have hz : F.inf = 9218868437227405312 := rfl
  by_cases h1 : F.inf < F.rung x
  · rw [if_pos h1]; exact .inl ⟨rfl, h1⟩
  · rw [if_neg h1]
    by_cases h2 : F.rung x = F.inf
    · rw [if_pos h2]
      cases F.neg x <;> simp [h2]
    · rw [if_neg h2]
      by_cases h3 : F.rung x = 0
      · rw [if_pos h3]
        cases F.neg x <;> simp [h3]
      · rw [if_neg h3]
        have h4 : F.rung x < F.inf := by omega
        have h5 : 0 < F.rung x := by omega
        cases F.neg x <;> simp [h4, h5]

end Go.Proofs.YteknpodofmmklaaDoor
