/- What the statements' whole makes, as a plain function: it is balanced, and short. No function of the program is walked here. -/
import Derived.Test.YtdipaiflfhdpoaaExplMath
namespace Go.Proofs.Ytdipaiflfhdpoaa
namespace M

def wholeF : Int → List Int → List Int
  | o, [] => List.replicate o.toNat 22
  | o, c :: r => if c = 10 ∨ (c = 22 ∧ o = 0) then wholeF o r else c :: wholeF (opened o c) r
def whole (l : List Int) : List Int := wholeF 0 (l.take 20)
theorem bal_ends (n : Nat) : bal n (List.replicate n 22) := by
  induction n with
  | zero => rfl
  | succ n ih =>
    rw [List.replicate_succ]
    refine ⟨by decide, fun _ => by omega, ?_⟩
    rw [opened_22]
    have e : (((n + 1 : Nat) : Int) - 1) = (n : Int) := by omega
    rw [e]
    exact ih
theorem wholeF_bal : ∀ (r : List Int) (o : Int), 0 ≤ o → bal o (wholeF o r) := by
  intro r
  induction r with
  | nil =>
    intro o ho
    obtain ⟨n, rfl⟩ := Int.eq_ofNat_of_zero_le ho
    exact bal_ends n
  | cons c r ih =>
    intro o ho
    unfold wholeF
    split
    · exact ih o ho
    · rename_i h
      have h10 : c ≠ 10 := fun e => h (.inl e)
      have h22 : c = 22 → 0 < o := fun e => by
        have : o ≠ 0 := fun e2 => h (.inr ⟨e, e2⟩)
        omega
      refine ⟨h10, h22, ih _ ?_⟩
      unfold opened
      (repeat' split) <;> omega
theorem whole_bal (l : List Int) : bal 0 (whole l) := wholeF_bal _ 0 (Int.le_refl _)
theorem opened_le {o c : Int} (c0 : 0 ≤ o) (h : c = 22 → 0 < o) : 0 ≤ opened o c ∧ opened o c ≤ o + 1 := by
  unfold opened
  (repeat' split) <;> omega
theorem wholeF_len : ∀ (r : List Int) (o : Int), 0 ≤ o → (wholeF o r).length ≤ 2 * r.length + o.toNat := by
  intro r
  induction r with
  | nil => intro o _; simp [wholeF]
  | cons c r ih =>
    intro o ho
    unfold wholeF
    split
    · have := ih o ho
      rw [List.length_cons]
      omega
    · rename_i h
      have h22 : c = 22 → 0 < o := fun e => by
        have : o ≠ 0 := fun e2 => h (.inr ⟨e, e2⟩)
        omega
      have h1 := opened_le ho h22
      have := ih _ h1.1
      rw [List.length_cons, List.length_cons]
      omega
theorem whole_len (l : List Int) : (whole l).length ≤ 40 := by
  have h := wholeF_len (l.take 20) 0 (Int.le_refl _)
  have h2 : (l.take 20).length ≤ 20 := by rw [List.length_take]; omega
  unfold whole
  have e : (0 : Int).toNat = 0 := rfl
  omega
end M
end Go.Proofs.Ytdipaiflfhdpoaa
