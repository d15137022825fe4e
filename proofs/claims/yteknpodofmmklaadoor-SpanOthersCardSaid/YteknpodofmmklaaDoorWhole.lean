/- Whole numbers as double words, exactly. No program is read here. -/
import Derived.Test.YteknpodofmmklaaDoorFloat
namespace Go.Proofs.YteknpodofmmklaaDoor.F

/-- How many of the least units are one. -/
def P : Nat := 1022
noncomputable def U : Nat := 2 ^ 52 * 2 ^ P
theorem U_pos : 0 < U := Nat.mul_pos (Nat.two_pow_pos _) (Nat.two_pow_pos _)
theorem move (m n k p : Nat) (h : m * 2 ^ k = n * 2 ^ 52) : m * 2 ^ (k + p) = n * (2 ^ 52 * 2 ^ p) := by
  rw [Nat.pow_add, ← Nat.mul_assoc, h, Nat.mul_assoc]
/-- A whole number moved up till it has 53 figures. -/
def norm (n : Nat) : Nat := if n.log2 ≤ 52 then n * 2 ^ (52 - n.log2) else n / 2 ^ (n.log2 - 52)
/-- The rung of a whole number. -/
def R (n : Nat) : Nat := if n = 0 then 0 else (n.log2 + 1022) * 4503599627370496 + norm n
theorem log2_bounds {n : Nat} (h : n ≠ 0) : 2 ^ n.log2 ≤ n ∧ n < 2 ^ (n.log2 + 1) := ⟨Nat.log2_self_le h, Nat.lt_log2_self⟩
theorem log2_small {n : Nat} (h : n ≠ 0) (hn : n ≤ 9007199254740992) : n.log2 ≤ 53 := by
  have h1 := (log2_bounds h).1
  rcases Nat.lt_or_ge n.log2 54 with hl | hge
  · omega
  · have := Nat.pow_le_pow_right (show 0 < 2 by omega) hge
    have e : 2 ^ 54 = 18014398509481984 := by decide
    omega
theorem norm_exact {n : Nat} (h : n ≠ 0) (hn : n ≤ 9007199254740992) : norm n * 2 ^ n.log2 = n * 2 ^ 52 ∧ 4503599627370496 ≤ norm n ∧ norm n < 9007199254740992 := by
  have hb := log2_bounds h
  have hl := log2_small h hn
  unfold norm
  by_cases h52 : n.log2 ≤ 52
  · rw [if_pos h52]
    have e1 : 2 ^ (52 - n.log2) * 2 ^ n.log2 = 2 ^ 52 := by rw [← Nat.pow_add]; congr 1; omega
    have e2 : (2 : Nat) ^ 52 = 4503599627370496 := by decide
    refine ⟨by rw [Nat.mul_assoc, e1], ?_, ?_⟩
    · rw [← e2, ← e1, Nat.mul_comm]
      exact Nat.mul_le_mul_right _ hb.1
    · have e3 : 2 ^ (n.log2 + 1) * 2 ^ (52 - n.log2) = 9007199254740992 := by
        rw [← Nat.pow_add, show n.log2 + 1 + (52 - n.log2) = 53 by omega]
      rw [← e3]
      exact Nat.mul_lt_mul_of_pos_right hb.2 (Nat.two_pow_pos _)
  · have h53 : n.log2 = 53 := by omega
    have hn53 : n = 9007199254740992 := by
      have := hb.1
      rw [h53] at this
      have e : (2 : Nat) ^ 53 = 9007199254740992 := by decide
      omega
    rw [if_neg h52, h53, hn53]
    decide
theorem R_div {n : Nat} (h : n ≠ 0) (hn : n ≤ 9007199254740992) : R n / 4503599627370496 = n.log2 + 1023 ∧ R n % 4503599627370496 = norm n - 4503599627370496 := by
  obtain ⟨_, h1, h2⟩ := norm_exact h hn
  unfold R
  rw [if_neg h]
  omega
theorem W_R {n : Nat} (hn : n ≤ 9007199254740992) : W (R n) = n * U := by
  by_cases h : n = 0
  · subst h; rw [Nat.zero_mul]; rfl
  · obtain ⟨hq, hr⟩ := R_div h hn
    obtain ⟨he, h1, h2⟩ := norm_exact h hn
    have hge : ¬ R n < 4503599627370496 := by
      intro hlt
      have : R n / 4503599627370496 = 0 := Nat.div_eq_of_lt hlt
      omega
    unfold W
    rw [if_neg hge, hq, hr]
    have e1 : 4503599627370496 + (norm n - 4503599627370496) = norm n := by omega
    have e2 : n.log2 + 1023 - 1 = n.log2 + P := by unfold P; omega
    rw [e1, e2, move _ _ _ P he]
    rfl
theorem R_lt_inf {n : Nat} (hn : n ≤ 9007199254740992) : R n < inf := by
  by_cases h : n = 0
  · subst h; decide
  · obtain ⟨_, h1, h2⟩ := norm_exact h hn
    have := log2_small h hn
    unfold R inf
    rw [if_neg h]
    omega
theorem R_lt {n m : Nat} (hn : n ≤ 9007199254740992) (hm : m ≤ 9007199254740992) : R n < R m ↔ n < m := by
  rw [← W_lt, W_R hn, W_R hm]
  exact Nat.mul_lt_mul_right U_pos
theorem R_inj {n m : Nat} (hn : n ≤ 9007199254740992) (hm : m ≤ 9007199254740992) : R n = R m ↔ n = m := by
  have h1 := R_lt hn hm
  have h2 := R_lt hm hn
  omega
/-- A word that is a number is not below a whole number just if its units are as many. -/
theorem le_R {r n : Nat} (hn : n ≤ 9007199254740992) : r ≤ R n ↔ W r ≤ n * U := by
  rw [← W_R hn]
  have := @W_lt (R n) r
  omega
theorem cut_none (way : Ieee.Toward) (s : Bool) (n : Nat) : way.cut s n 0 = n := by
  unfold Ieee.Toward.cut
  have h1 : 1 <<< min 0 (n.log2 + 2) = 1 := by simp
  rw [h1]
  simp only [Nat.mod_one, Nat.div_one]
  cases way <;> simp
/-- The word nearest to a whole number is its own. -/
theorem nearest_whole (s : Bool) {n : Nat} (hn : n ≤ 9007199254740992) : Ieee.double.nearest s n 0 = if s then 9223372036854775808 + R n else R n := by
  unfold Ieee.Format.nearest
  by_cases h : n = 0
  · subst h
    rw [if_pos rfl]
    cases s <;> rfl
  · rw [if_neg h, leastPlace, binade, infRung]
    have hl := log2_small h hn
    have hlast : max ((0 : Int) + (n.log2 : Int) - (Ieee.double.fractionBits : Nat)) (-1074) = (n.log2 : Int) - 52 := by
      show max ((0 : Int) + (n.log2 : Int) - ((52 : Nat) : Int)) (-1074) = _
      omega
    have hlt := R_lt_inf hn
    unfold inf at hlt
    dsimp only
    rw [hlast]
    have hk : Ieee.Toward.even.cut s (n <<< ((0 : Int) - ((n.log2 : Int) - 52)).toNat) ((n.log2 : Int) - 52 - 0).toNat = norm n := by
      by_cases h52 : n.log2 ≤ 52
      · have e1 : ((0 : Int) - ((n.log2 : Int) - 52)).toNat = 52 - n.log2 := by omega
        have e2 : ((n.log2 : Int) - 52 - 0).toNat = 0 := by omega
        rw [e1, e2, cut_none, Nat.shiftLeft_eq]
        unfold norm
        rw [if_pos h52]
      · have h53 : n.log2 = 53 := by omega
        have hn53 : n = 9007199254740992 := by
          have := (log2_bounds h).1
          rw [h53] at this
          have e : (2 : Nat) ^ 53 = 9007199254740992 := by decide
          omega
        rw [h53, hn53]
        cases s <;> decide
    have e3 : ((n.log2 : Int) - 52 - -1074).toNat = n.log2 + 1022 := by omega
    rw [hk, e3]
    have hR : (n.log2 + 1022) * 4503599627370496 + norm n = R n := by unfold R; rw [if_neg h]
    rw [hR, Nat.min_eq_left (Nat.le_of_lt hlt)]
    unfold Ieee.Format.word
    rw [signWeight]
end Go.Proofs.YteknpodofmmklaaDoor.F
