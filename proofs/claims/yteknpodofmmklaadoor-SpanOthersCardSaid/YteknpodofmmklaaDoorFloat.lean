/- Double words as whole numbers: what a word stands for, and how two words stand to each other. No program is read here. -/
import GoSem.Core.Float
namespace Go.Proofs.YteknpodofmmklaaDoor.F

/-- A word's sign, and what it is without it. -/
def neg (x : Nat) : Bool := x / 9223372036854775808 % 2 == 1
def rung (x : Nat) : Nat := x % 9223372036854775808
/-- The rung of the infinite. -/
abbrev inf : Nat := 9218868437227405312
/-- A rung's number, in units of the least one. -/
def W (r : Nat) : Nat := if r < 4503599627370496 then r else (4503599627370496 + r % 4503599627370496) * 2 ^ (r / 4503599627370496 - 1)
theorem W_zero : W 0 = 0 := rfl
theorem W_low {r : Nat} (h : r < 4503599627370496) : W r = r := by unfold W; rw [if_pos h]
theorem W_bounds {r : Nat} (h : 4503599627370496 ≤ r) : 4503599627370496 * 2 ^ (r / 4503599627370496 - 1) ≤ W r ∧ W r < 4503599627370496 * 2 ^ (r / 4503599627370496) := by
  unfold W
  rw [if_neg (by omega)]
  have hm := Nat.mod_lt r (show 0 < 4503599627370496 by omega)
  have hq : 1 ≤ r / 4503599627370496 := by omega
  have hp : 0 < 2 ^ (r / 4503599627370496 - 1) := Nat.two_pow_pos _
  have e : 2 ^ (r / 4503599627370496) = 2 * 2 ^ (r / 4503599627370496 - 1) := by
    rw [← Nat.pow_succ']
    congr 1
    omega
  refine ⟨Nat.mul_le_mul_right _ (by omega), ?_⟩
  rw [e, ← Nat.mul_assoc]
  exact Nat.mul_lt_mul_of_pos_right (by omega) hp
theorem W_mono {r t : Nat} (h : r < t) : W r < W t := by
  by_cases ht : t < 4503599627370496
  · rw [W_low ht, W_low (by omega)]; exact h
  · have hb := W_bounds (r := t) (by omega)
    by_cases hr : r < 4503599627370496
    · rw [W_low hr]
      refine Nat.lt_of_lt_of_le hr (Nat.le_trans ?_ hb.1)
      exact Nat.le_mul_of_pos_right _ (Nat.two_pow_pos _)
    · have hc := W_bounds (r := r) (by omega)
      have hq : r / 4503599627370496 ≤ t / 4503599627370496 := Nat.div_le_div_right (Nat.le_of_lt h)
      rcases Nat.lt_or_ge (r / 4503599627370496) (t / 4503599627370496) with hl | hge
      · refine Nat.lt_of_lt_of_le hc.2 (Nat.le_trans ?_ hb.1)
        exact Nat.mul_le_mul_left _ (Nat.pow_le_pow_right (by omega) (by omega))
      · have he : r / 4503599627370496 = t / 4503599627370496 := by omega
        unfold W
        rw [if_neg hr, if_neg ht, he]
        refine Nat.mul_lt_mul_of_pos_right ?_ (Nat.two_pow_pos _)
        omega
theorem W_lt {r t : Nat} : W r < W t ↔ r < t := ⟨fun h => by
  rcases Nat.lt_or_ge r t with hl | hge
  · exact hl
  · rcases Nat.lt_or_ge t r with hl | hge'
    · have := W_mono hl; omega
    · have : r = t := by omega
      subst this
      omega, W_mono⟩

theorem signWeight : Ieee.double.signWeight = 9223372036854775808 := rfl
theorem binade : Ieee.double.binade = 4503599627370496 := rfl
theorem infRung : Ieee.double.infRung = 9218868437227405312 := rfl
theorem leastPlace : Ieee.double.leastPlace = -1074 := rfl

/-- The significand, and how far it is moved up. -/
def mag (r : Nat) : Nat := if r < 4503599627370496 then r else 4503599627370496 + r % 4503599627370496
def up (r : Nat) : Nat := r / 4503599627370496 - 1
theorem W_eq (r : Nat) : W r = mag r * 2 ^ up r := by
  unfold W mag up
  by_cases h : r < 4503599627370496
  · rw [if_pos h, if_pos h]
    have : r / 4503599627370496 - 1 = 0 := by omega
    rw [this]; simp
  · rw [if_neg h, if_neg h]
theorem read_number {x : Nat} (h : rung x < inf) : Ieee.double.read x = .number (neg x) (mag (rung x)) (-1074 + (up (rung x) : Int)) := by
  unfold Ieee.Format.read
  rw [signWeight, binade, infRung, leastPlace]
  show (if rung x < 4503599627370496 then Ieee.Datum.number (neg x) (rung x) (-1074) else if rung x < 9218868437227405312 then Ieee.Datum.number (neg x) (4503599627370496 + rung x % 4503599627370496) (-1074 + ((rung x / 4503599627370496 - 1 : Nat) : Int)) else _) = _
  unfold mag up
  by_cases hl : rung x < 4503599627370496
  · rw [if_pos hl, if_pos hl]
    have : rung x / 4503599627370496 - 1 = 0 := by omega
    rw [this]; rfl
  · rw [if_neg hl, if_neg hl, if_pos h]
theorem read_inf {x : Nat} (h : rung x = inf) : Ieee.double.read x = .infinity (neg x) := by
  unfold Ieee.Format.read
  rw [signWeight, binade, infRung, leastPlace]
  show (if rung x < 4503599627370496 then _ else if rung x < 9218868437227405312 then _ else if rung x = 9218868437227405312 then Ieee.Datum.infinity (neg x) else _) = _
  rw [h]
  rfl
theorem read_nan {x : Nat} (h : inf < rung x) : Ieee.double.read x = .nan (neg x) (rung x - inf) := by
  unfold Ieee.Format.read
  rw [signWeight, binade, infRung, leastPlace]
  show (if rung x < 4503599627370496 then _ else if rung x < 9218868437227405312 then _ else if rung x = 9218868437227405312 then _ else Ieee.Datum.nan (neg x) (rung x - 9218868437227405312)) = _
  rw [if_neg (by unfold inf at h; omega), if_neg (by unfold inf at h; omega), if_neg (by unfold inf at h; omega)]

/-- A word that is a number, as one whole number: all such are in its order. -/
def key (x : Nat) : Int := if neg x then -(rung x : Int) else rung x
def sw (x : Nat) : Int := if neg x then -(W (rung x) : Int) else W (rung x)
theorem sw_lt (x y : Nat) : sw x < sw y ↔ key x < key y := by
  unfold sw key
  have h1 := @W_lt (rung x) (rung y)
  have h2 := @W_lt (rung y) (rung x)
  have h3 := @W_lt 0 (rung x)
  have h4 := @W_lt 0 (rung y)
  rw [W_zero] at h3 h4
  cases neg x <;> cases neg y <;> simp <;> omega
theorem compare_key (x y : Nat) : compare (sw x) (sw y) = compare (key x) (key y) := by
  have h1 := sw_lt x y
  have h2 := sw_lt y x
  simp only [compare, compareOfLessAndEq]
  by_cases a : key x < key y
  · rw [if_pos a, if_pos (h1.2 a)]
  · rw [if_neg a, if_neg (fun h => a (h1.1 h))]
    by_cases b : key y < key x
    · rw [if_neg (by omega), if_neg (by have := h2.2 b; omega)]
    · have e1 : key x = key y := by omega
      have e2 : sw x = sw y := by
        have g1 := fun h => a (h1.1 h)
        have g2 := fun h => b (h2.1 h)
        omega
      rw [if_pos e1, if_pos e2]
theorem signed_up (s : Bool) (m a b c : Nat) (h : c ≤ a) (hb : b = a - c) : Ieee.signed s m b * (2 ^ c : Nat) = if s then -((m * 2 ^ a : Nat) : Int) else ((m * 2 ^ a : Nat) : Int) := by
  subst hb
  have e : m <<< (a - c) * 2 ^ c = m * 2 ^ a := by
    rw [Nat.shiftLeft_eq, Nat.mul_assoc, ← Nat.pow_add, Nat.sub_add_cancel h]
  unfold Ieee.signed
  cases s
  · simp only [Bool.false_eq_true, if_false]
    rw [← e, ← Int.natCast_mul]
  · simp only [if_true]
    rw [← e, Int.neg_mul, ← Int.natCast_mul]
theorem compare_mul {a b : Int} {c : Nat} (hc : 0 < c) : compare (a * (c : Int)) (b * (c : Int)) = compare a b := by
  have hc' : (0 : Int) < (c : Int) := by omega
  simp only [compare, compareOfLessAndEq]
  by_cases h : a < b
  · rw [if_pos h, if_pos (Int.mul_lt_mul_of_pos_right h hc')]
  · rw [if_neg h, if_neg (fun k => h (Int.lt_of_mul_lt_mul_right k (Int.le_of_lt hc')))]
    by_cases e : a = b
    · rw [if_pos e, e, if_pos rfl]
    · rw [if_neg e, if_neg (fun k => e (Int.eq_of_mul_eq_mul_right (by omega) k))]
theorem cmp_lt {a b : Int} (h : a < b) : compare a b = .lt := by simp only [compare, compareOfLessAndEq]; rw [if_pos h]
theorem cmp_gt {a b : Int} (h : b < a) : compare a b = .gt := by simp only [compare, compareOfLessAndEq]; rw [if_neg (by omega), if_neg (by omega)]
theorem cmp_eq {a b : Int} (h : a = b) : compare a b = .eq := by subst h; simp only [compare, compareOfLessAndEq]; simp
/-- Two that are numbers stand as their keys do. -/
theorem order_key {x y : Nat} (hx : rung x ≤ inf) (hy : rung y ≤ inf) : Ieee.double.order x y = some (compare (key x) (key y)) := by
  unfold Ieee.Format.order
  rcases Nat.lt_or_ge (rung x) inf with h1 | h1
  · rw [read_number h1]
    rcases Nat.lt_or_ge (rung y) inf with h2 | h2
    · rw [read_number h2]
      unfold Ieee.Datum.order
      dsimp only
      congr 1
      obtain ⟨a, ha⟩ : ∃ a, up (rung x) = a := ⟨_, rfl⟩
      obtain ⟨b, hb⟩ : ∃ b, up (rung y) = b := ⟨_, rfl⟩
      rw [ha, hb]
      have e1 : (-1074 + (a : Int) - min (-1074 + (a : Int)) (-1074 + (b : Int))).toNat = a - min a b := by omega
      have e2 : (-1074 + (b : Int) - min (-1074 + (a : Int)) (-1074 + (b : Int))).toNat = b - min a b := by omega
      rw [e1, e2, ← compare_key, ← compare_mul (c := 2 ^ min a b) (Nat.two_pow_pos _)]
      rw [signed_up (neg x) (mag (rung x)) a _ (min a b) (by omega) rfl, signed_up (neg y) (mag (rung y)) b _ (min a b) (by omega) rfl]
      unfold sw
      rw [W_eq, W_eq, ha, hb]
    · have h2' : rung y = inf := by omega
      rw [read_inf h2']
      unfold Ieee.Datum.order key
      dsimp only
      rw [h2']
      unfold inf at *
      congr 1
      cases neg x <;> cases neg y <;> simp only [if_true, if_false, Bool.false_eq_true] <;> first | exact (cmp_lt (by omega)).symm | exact (cmp_gt (by omega)).symm
  · have h1' : rung x = inf := by omega
    rw [read_inf h1']
    rcases Nat.lt_or_ge (rung y) inf with h2 | h2
    · rw [read_number h2]
      unfold Ieee.Datum.order key
      dsimp only
      rw [h1']
      unfold inf at *
      congr 1
      cases neg x <;> cases neg y <;> simp only [if_true, if_false, Bool.false_eq_true] <;> first | exact (cmp_lt (by omega)).symm | exact (cmp_gt (by omega)).symm
    · have h2' : rung y = inf := by omega
      rw [read_inf h2']
      unfold Ieee.Datum.order key
      dsimp only
      rw [h1', h2']
      cases neg x <;> cases neg y <;> rfl
theorem order_nan_left {x : Nat} (y : Nat) (h : inf < rung x) : Ieee.double.order x y = none := by
  unfold Ieee.Format.order
  rw [read_nan h]
  rfl
theorem order_nan_right (x : Nat) {y : Nat} (h : inf < rung y) : Ieee.double.order x y = none := by
  unfold Ieee.Format.order
  rw [read_nan h]
  cases Ieee.double.read x <;> rfl
end Go.Proofs.YteknpodofmmklaaDoor.F
