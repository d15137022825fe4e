/- The least whole number that is not below a double word's. No program is read here. -/
import Derived.Test.YteknpodofmmklaaDoorWhole
namespace Go.Proofs.YteknpodofmmklaaDoor.F

theorem ceil_le (n g k : Nat) (hg : 0 < g) : n / g + (n % g != 0).toNat ≤ k ↔ n ≤ k * g := by
  have hd := Nat.div_add_mod n g
  have hm := Nat.mod_lt n hg
  obtain ⟨q, hq⟩ : ∃ q, n / g = q := ⟨_, rfl⟩
  obtain ⟨r, hr⟩ : ∃ r, n % g = r := ⟨_, rfl⟩
  rw [hq, hr] at hd
  rw [hr] at hm
  rw [hq, hr]
  by_cases h0 : r = 0
  · have hb : (r != 0).toNat = 0 := by rw [h0]; rfl
    rw [hb, Nat.add_zero, ← hd, h0, Nat.add_zero, Nat.mul_comm g q]
    exact ⟨fun h => Nat.mul_le_mul_right _ h, fun h => Nat.le_of_mul_le_mul_right h hg⟩
  · have hb : (r != 0).toNat = 1 := by
      have : (r != 0) = true := by rw [bne_iff_ne]; exact h0
      rw [this]; rfl
    rw [hb, ← hd]
    constructor
    · intro h
      have h1 : (q + 1) * g ≤ k * g := Nat.mul_le_mul_right _ h
      rw [Nat.add_mul, Nat.one_mul] at h1
      rw [Nat.mul_comm g q]
      omega
    · intro h
      rcases Nat.lt_or_ge q k with hlt | hge
      · omega
      · exfalso
        have h1 : k * g ≤ q * g := Nat.mul_le_mul_right _ hge
        rw [Nat.mul_comm g q] at h
        omega
theorem cut_up (n d k : Nat) : Ieee.Toward.up.cut false n d ≤ k ↔ n ≤ k * 2 ^ d := by
  unfold Ieee.Toward.cut
  have e : 1 <<< min d (n.log2 + 2) = 2 ^ min d (n.log2 + 2) := by rw [Nat.shiftLeft_eq, Nat.one_mul]
  simp only [e, Bool.not_false, Bool.true_and]
  rw [ceil_le n _ k (Nat.two_pow_pos _)]
  rcases Nat.lt_or_ge (n.log2 + 2) d with hlt | hge
  · rw [Nat.min_eq_right (by omega)]
    have h1 : n < 2 ^ (n.log2 + 2) := Nat.lt_of_lt_of_le Nat.lt_log2_self (Nat.pow_le_pow_right (by omega) (by omega))
    have h2 : n < 2 ^ d := Nat.lt_of_lt_of_le h1 (Nat.pow_le_pow_right (by omega) (by omega))
    cases k with
    | zero => rw [Nat.zero_mul, Nat.zero_mul]
    | succ k =>
      have g1 : 2 ^ (n.log2 + 2) ≤ (k + 1) * 2 ^ (n.log2 + 2) := Nat.le_mul_of_pos_left _ (by omega)
      have g2 : 2 ^ d ≤ (k + 1) * 2 ^ d := Nat.le_mul_of_pos_left _ (by omega)
      exact ⟨fun _ => by omega, fun _ => by omega⟩
  · rw [Nat.min_eq_left hge]
theorem U_eq : U = 2 ^ (52 + P) := by unfold U; rw [Nat.pow_add]
/-- A number above nought, made whole upwards. -/
def C (r : Nat) : Nat := Ieee.Toward.up.cut false (mag r <<< (-1074 + (up r : Int)).toNat) (-(-1074 + (up r : Int))).toNat
theorem integral_up {x : Nat} (h : rung x < inf) (hn : neg x = false) : (Ieee.double.read x).integral .up = .number false (C (rung x)) 0 := by
  rw [read_number h, hn]
  rfl
theorem C_le (r k : Nat) : C r ≤ k ↔ W r ≤ k * U := by
  unfold C
  rw [W_eq, U_eq]
  obtain ⟨u, hu⟩ : ∃ u, up r = u := ⟨_, rfl⟩
  obtain ⟨m, hm⟩ : ∃ m, mag r = m := ⟨_, rfl⟩
  rw [hu, hm]
  have hP : 52 + P = 1074 := rfl
  obtain ⟨q, hq⟩ : ∃ q, 52 + P = q := ⟨_, rfl⟩
  have hq' : q = 1074 := by rw [← hq]; exact hP
  rw [hq]
  rcases Nat.lt_or_ge u q with hlt | hge
  · have e1 : (-1074 + (u : Int)).toNat = 0 := by omega
    have e2 : (-(-1074 + (u : Int))).toNat = q - u := by omega
    rw [e1, e2, Nat.shiftLeft_zero, cut_up]
    have e3 : k * 2 ^ q = k * 2 ^ (q - u) * 2 ^ u := by rw [Nat.mul_assoc, ← Nat.pow_add, Nat.sub_add_cancel (Nat.le_of_lt hlt)]
    rw [e3]
    exact ⟨fun g => Nat.mul_le_mul_right _ g, fun g => Nat.le_of_mul_le_mul_right g (Nat.two_pow_pos _)⟩
  · have e1 : (-1074 + (u : Int)).toNat = u - q := by omega
    have e2 : (-(-1074 + (u : Int))).toNat = 0 := by omega
    rw [e1, e2, cut_none, Nat.shiftLeft_eq]
    have e3 : m * 2 ^ u = m * 2 ^ (u - q) * 2 ^ q := by rw [Nat.mul_assoc, ← Nat.pow_add, Nat.sub_add_cancel hge]
    rw [e3]
    exact ⟨fun g => Nat.mul_le_mul_right _ g, fun g => Nat.le_of_mul_le_mul_right g (Nat.two_pow_pos _)⟩
/-- The whole number is the least whose word is not below. -/
theorem C_le_R (r : Nat) {k : Nat} (hk : k ≤ 9007199254740992) : C r ≤ k ↔ r ≤ R k := by rw [C_le, le_R hk]
end Go.Proofs.YteknpodofmmklaaDoor.F
