/- What a double word is, told by comparing it, and the document's sort and order of words by their rungs and signs. No program is read here. Conditions: a word has eight bytes. -/
import Derived.Test.YteknpodofmmklaaDoorRefCells
import Derived.Test.YteknpodofmmklaaDoorCeil
namespace Go.Proofs.YteknpodofmmklaaDoor
open Go.RowKit

/-- How the language compares two doubles. -/
def F.cmp (a b : Nat) : Option Ordering := FloatKind.f64.format.order a b
namespace F
theorem cmp_key {a b : Nat} (ha : rung a ≤ inf) (hb : rung b ≤ inf) : cmp a b = some (compare (key a) (key b)) := order_key ha hb
theorem cmp_left {a : Nat} (b : Nat) (ha : inf < rung a) : cmp a b = none := order_nan_left b ha
theorem cmp_right (a : Nat) {b : Nat} (hb : inf < rung b) : cmp a b = none := order_nan_right a hb
theorem cmp_same (a : Nat) : (cmp a a != some .eq) = decide (inf < rung a) := by
  by_cases h : inf < rung a
  · rw [cmp_left a h, decide_eq_true h]; rfl
  · rw [cmp_key (by omega) (by omega), cmp_eq rfl, decide_eq_false h]; rfl
theorem cmp_gt_iff {a b : Nat} (ha : rung a ≤ inf) (hb : rung b ≤ inf) : (cmp a b == some .gt) = decide (key b < key a) := by
  rw [cmp_key ha hb]
  rcases (show key a < key b ∨ key a = key b ∨ key b < key a by omega) with h | h | h
  · rw [cmp_lt h, decide_eq_false (by omega)]; rfl
  · rw [cmp_eq h, decide_eq_false (by omega)]; rfl
  · rw [cmp_gt h, decide_eq_true h]; rfl
theorem cmp_lt_iff {a b : Nat} (ha : rung a ≤ inf) (hb : rung b ≤ inf) : (cmp a b == some .lt) = decide (key a < key b) := by
  rw [cmp_key ha hb]
  rcases (show key a < key b ∨ key a = key b ∨ key b < key a by omega) with h | h | h
  · rw [cmp_lt h, decide_eq_true h]; rfl
  · rw [cmp_eq h, decide_eq_false (by omega)]; rfl
  · rw [cmp_gt h, decide_eq_false (by omega)]; rfl
theorem key_eq (x : Nat) : key x = if neg x then -(rung x : Int) else (rung x : Int) := rfl
theorem neg_iff {x : Nat} (h : x < 18446744073709551616) : neg x = decide (9223372036854775808 ≤ x) := by
  unfold neg
  rw [Bool.eq_iff_iff, beq_iff_eq, decide_eq_true_iff]
  omega
theorem rung_le (x : Nat) : rung x < 9223372036854775808 := Nat.mod_lt _ (by decide)
/-- Greater than the greatest number that is finite: the infinite without a sign. -/
theorem up_most {x : Nat} (h : rung x ≤ inf) : (cmp x 9218868437227405311 == some .gt) = decide (rung x = inf ∧ neg x = false) := by
  rw [cmp_gt_iff h (by decide), decide_eq_decide]
  have e : key 9218868437227405311 = 9218868437227405311 := by decide
  rw [e, key_eq]
  unfold inf at *
  cases neg x <;> simp <;> omega
theorem below_nought {x : Nat} (h : rung x ≤ inf) : (cmp x 0 == some .lt) = decide (neg x = true ∧ rung x ≠ 0) := by
  rw [cmp_lt_iff h (by decide), decide_eq_decide]
  have e : key 0 = 0 := by decide
  rw [e, key_eq]
  cases neg x <;> simp <;> omega
theorem above_nought {x : Nat} (h : rung x ≤ inf) : (cmp x 0 == some .gt) = decide (neg x = false ∧ rung x ≠ 0) := by
  rw [cmp_gt_iff h (by decide), decide_eq_decide]
  have e : key 0 = 0 := by decide
  rw [e, key_eq]
  cases neg x <;> simp <;> omega
/-- The word with its sign turned. -/
def flip (x : Nat) : Nat := x ^^^ 2 ^ 63
theorem xor_up {r : Nat} (h : r < 2 ^ 63) : (2 ^ 63 + r) ^^^ 2 ^ 63 = r := by
  refine Nat.eq_of_testBit_eq fun i => ?_
  rw [Nat.testBit_xor, Nat.testBit_two_pow]
  rcases Nat.lt_trichotomy i 63 with hi | hi | hi
  · rw [Nat.testBit_two_pow_add_gt hi, decide_eq_false (by omega), Bool.xor_false]
  · subst hi
    rw [Nat.testBit_two_pow_add_eq, decide_eq_true rfl, Bool.xor_true, Bool.not_not]
  · have g : 2 ^ 64 ≤ 2 ^ i := Nat.pow_le_pow_right (by decide) hi
    rw [Nat.testBit_lt_two_pow (Nat.lt_of_lt_of_le (by omega) g), Nat.testBit_lt_two_pow (Nat.lt_of_lt_of_le (by omega) g), decide_eq_false (by omega)]
    rfl
theorem flip_eq {x : Nat} (h : x < 18446744073709551616) : flip x = if 9223372036854775808 ≤ x then x - 9223372036854775808 else x + 9223372036854775808 := by
  unfold flip
  have e : (2 : Nat) ^ 63 = 9223372036854775808 := by decide
  have xu : ∀ r : Nat, r < 9223372036854775808 → (9223372036854775808 + r) ^^^ 9223372036854775808 = r := fun r hr => by
    have := xor_up (r := r) (by rw [e]; exact hr)
    rwa [e] at this
  rw [e]
  obtain ⟨C, hC⟩ : ∃ C, C = 9223372036854775808 := ⟨_, rfl⟩
  rw [← hC] at xu ⊢
  by_cases hx : C ≤ x
  · rw [if_pos hx]
    obtain ⟨r, hr⟩ : ∃ r, x = C + r := ⟨x - C, by omega⟩
    rw [hr, xu r (by omega)]
    omega
  · rw [if_neg hx]
    have h1 := xu x (by omega)
    have h2 : ((C + x) ^^^ C) ^^^ C = x ^^^ C := by rw [h1]
    rw [Nat.xor_assoc, Nat.xor_self, Nat.xor_zero] at h2
    omega
theorem flip_rung {x : Nat} (h : x < 18446744073709551616) : rung (flip x) = rung x := by
  rw [flip_eq h]; unfold rung; split <;> omega
theorem flip_neg {x : Nat} (h : x < 18446744073709551616) : neg (flip x) = !neg x := by
  have : flip x < 18446744073709551616 := by rw [flip_eq h]; split <;> omega
  rw [neg_iff h, neg_iff this, flip_eq h]
  by_cases hx : 9223372036854775808 ≤ x
  · rw [if_pos hx]; simp [hx]; omega
  · rw [if_neg hx]; simp [hx]
/-- The sort, by the rung and the sign. -/
theorem sort_eq {x : Nat} (h : x < 18446744073709551616) : M.sortI (x : Int) = if inf < rung x then 0 else if rung x = inf then (if neg x then 1 else 6) else if rung x = 0 then (if neg x then 3 else 4) else (if neg x then 2 else 5) := by
  rw [neg_iff h]
  unfold M.sortI rung inf
  dsimp only
  by_cases hx : 9223372036854775808 ≤ x
  · simp only [hx, decide_true, if_true]
    repeat' split
    all_goals omega
  · simp only [hx, decide_false, if_false, Bool.false_eq_true]
    repeat' split
    all_goals omega
end F
end Go.Proofs.YteknpodofmmklaaDoor
