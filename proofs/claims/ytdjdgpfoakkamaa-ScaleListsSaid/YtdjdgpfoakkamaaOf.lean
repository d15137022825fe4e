/- The bits of a whole number, as the code's Of and the document's give them, over the translation. Conditions: the number is one of a word of eight bytes. -/
import Derived.Test.YtdjdgpfoakkamaaCells
namespace Go.Proofs.Ytdjdgpfoakkamaa
open Go.RowKit

/-- The word of a whole number. -/
def M.wordI (n : Int) : Int := if n < 0 then 9223372036854775808 + (F.R n.natAbs : Int) else (F.R n.natAbs : Int)
def M.ofI (n : Int) : Option Int := if n < -9007199254740992 ∨ 9007199254740992 < n then none else some (M.wordI n)
def M.ofV (o : Option Int) : Value := match o with
  | some k => .tuple #[.int .u64 k, .int .i64 0]
  | none => .tuple #[.int .u64 0, .int .i64 41]

theorem F.R_size {n : Nat} (h : n ≤ 9007199254740992) : F.R n < 9218868437227405312 := F.R_lt_inf h
theorem floatOf_word {n : Int} (h0 : -9007199254740992 ≤ n) (h1 : n ≤ 9007199254740992) : ((floatOfInt .f64 n : Nat) : Int) = M.wordI n := by
  have e : floatOfInt .f64 n = Ieee.double.nearest (decide (n < 0)) n.natAbs 0 := rfl
  rw [e, F.nearest_whole _ (by omega)]
  unfold M.wordI
  by_cases h : n < 0
  · rw [decide_eq_true h, if_pos h, if_pos rfl]; omega
  · rw [decide_eq_false h, if_neg h, if_neg (by decide)]

set_option maxHeartbeats 1000000 in
theorem of_any (n : Int) (w : World) (h0 : -9223372036854775808 ≤ n) (h1 : n ≤ 9223372036854775807) :
    Calls Try.prog 10 #[.int .i64 n] w fun r w' => r = .returned (M.ofV (M.ofI n)) ∧ w' = w := by
  unfold M.ofI
  by_cases h : n < -9007199254740992
  · rw [if_pos (.inl h)]
    go_enter Try.func10, Try.ntmps10
    go_wp2
    go_ret2
    exact ⟨rfl, rfl⟩
  · by_cases h' : 9007199254740992 < n
    · rw [if_pos (.inr h')]
      go_enter Try.func10, Try.ntmps10
      go_wp2
      go_ret2
      exact ⟨rfl, rfl⟩
    · rw [if_neg (by omega)]
      have e := floatOf_word (n := n) (by omega) (by omega)
      obtain ⟨k, hk⟩ : ∃ k, M.wordI n = k := ⟨_, rfl⟩
      rw [hk] at e ⊢
      obtain ⟨b, hb⟩ : ∃ b, floatOfInt .f64 n = b := ⟨_, rfl⟩
      rw [hb] at e
      subst e
      have hv : ∀ w, (convert 2 39 (.int .i64 n)).run Try.prog w = .ok (.float .f64 b) w := fun w => by rw [← hb]; exact run_convert_int_float w _ _ _ _ _ (by kernel_rfl) (by kernel_rfl)
      clear hk hb
      go_enter Try.func10, Try.ntmps10
      go_wp2
      go_ret2
      exact ⟨rfl, rfl⟩

/-- A number moved up by figures, till it has its highest bit. -/
theorem F.R_moved {n j : Nat} (h0 : n ≠ 0) (h1 : 4503599627370496 ≤ n * 2 ^ j) (h2 : n * 2 ^ j < 9007199254740992) (hj : j ≤ 1075) : F.R n = (1075 - j) * 4503599627370496 + n * 2 ^ j - 4503599627370496 := by
  have hb := F.log2_bounds h0
  have e52 : (2 : Nat) ^ 52 = 4503599627370496 := by decide
  have e53 : (2 : Nat) ^ 53 = 9007199254740992 := by decide
  have a1 : n.log2 + j ≤ 52 := by
    rcases Nat.lt_or_ge 52 (n.log2 + j) with g | g
    · have : 2 ^ 53 ≤ n * 2 ^ j := Nat.le_trans (Nat.pow_le_pow_right (by decide) g) (by rw [Nat.pow_add]; exact Nat.mul_le_mul_right _ hb.1)
      omega
    · exact g
  have a2 : 52 ≤ n.log2 + j := by
    rcases Nat.lt_or_ge (n.log2 + j) 52 with g | g
    · have : n * 2 ^ j < 2 ^ (n.log2 + 1 + j) := by rw [Nat.pow_add]; exact Nat.mul_lt_mul_of_pos_right hb.2 (Nat.two_pow_pos _)
      have := Nat.pow_le_pow_right (show 0 < 2 by decide) (show n.log2 + 1 + j ≤ 52 by omega)
      omega
    · exact g
  have ej : 52 - n.log2 = j := by omega
  unfold F.R F.norm
  rw [if_neg h0, if_pos (by omega), ej]
  have : n.log2 + 1022 = 1074 - j := by omega
  rw [this]
  have e1 : 1075 - j = (1074 - j) + 1 := by omega
  rw [e1, Nat.add_mul, Nat.one_mul]
  obtain ⟨p, hp⟩ : ∃ p, (1074 - j) * 4503599627370496 = p := ⟨_, rfl⟩
  rw [hp]
  omega
theorem F.R_top : F.R 9007199254740992 = 4845873199050653696 := by decide +kernel

theorem ret_of {a b : Int} (h : a = b) : Ending.returned (.tuple #[.int .u64 a, .int .i64 0]) = .returned (M.ofV (some b)) := by rw [h]; rfl

set_option maxHeartbeats 2000000 in
set_option maxRecDepth 100000 in
theorem refOf_out (n : Int) (w : World) (h : n < -9007199254740992 ∨ 9007199254740992 < n) :
    Calls Try.prog 11 #[.int .i64 n] w fun r w' => r = .returned (M.ofV none) ∧ w' = w := by
  by_cases h1 : n < -9007199254740992
  · go_enter Try.func11, Try.ntmps11
    go_wp2
    go_ret2
    exact ⟨rfl, rfl⟩
  · have h2 : 9007199254740992 < n := by omega
    clear h
    go_enter Try.func11, Try.ntmps11
    go_wp2
    go_ret2
    exact ⟨rfl, rfl⟩
theorem refOf_zero (w : World) :
    Calls Try.prog 11 #[.int .i64 0] w fun r w' => r = .returned (M.ofV (some 0)) ∧ w' = w := by
  go_enter Try.func11, Try.ntmps11
  go_wp2
  go_ret2
  exact ⟨rfl, rfl⟩
set_option maxHeartbeats 2000000 in
set_option maxRecDepth 100000 in
theorem refOf_pos (m : Nat) (w : World) (h0 : 0 < m) (hm : m < 9007199254740992) :
    Calls Try.prog 11 #[.int .i64 (m : Int)] w fun r w' => r = .returned (M.ofV (some (F.R m : Int))) ∧ w' = w := by
  obtain ⟨a, ha⟩ : ∃ a : Int, (F.R m : Int) = a := ⟨_, rfl⟩
  rw [ha]
  have HA := Lib.hid ha
  clear ha
  go_enter Try.func11, Try.ntmps11
  go_wp2
  go_loopw [6, 7] (fun v e wr => ∃ j t : Nat, t = m * 2 ^ j ∧ t < 9007199254740992 ∧ j ≤ 52 ∧ v = .int .u64 (t : Int) ∧ e = .int .u64 (1075 - (j : Int)) ∧ wr = w) (fun _ e _ => (intOf e).toNat)
  case atStart => exact ⟨0, m, by simp, hm, by omega, rfl, rfl, rfl⟩
  case round =>
    obtain ⟨j, t, ht, ht2, hj, rfl, rfl, rfl⟩ := hrel
    have htp : 0 < t := by rw [ht]; exact Nat.mul_pos h0 (Nat.two_pow_pos _)
    by_cases hlt : t < 4503599627370496
    · have hj2 : j + 1 ≤ 52 := by
        rcases Nat.lt_or_ge j 52 with g | g
        · exact g
        · have g1 := Nat.pow_le_pow_right (show 0 < 2 by decide) g
          have g2 : 2 ^ j ≤ m * 2 ^ j := Nat.le_mul_of_pos_left _ h0
          have e52 : (2 : Nat) ^ 52 = 4503599627370496 := by decide
          omega
      have ht3 : 2 * t = m * 2 ^ (j + 1) := by rw [ht, Nat.pow_succ]; rw [Nat.mul_comm 2, Nat.mul_assoc]
      have HT := Lib.hid ht3
      have HL := Lib.hid hlt
      obtain ⟨T, hT⟩ : ∃ T : Int, (t : Int) = T := ⟨_, rfl⟩
      obtain ⟨J, hJ⟩ : ∃ J : Int, (j : Int) = J := ⟨_, rfl⟩
      have T0 : 0 < T := by omega
      have T1 : T < 4503599627370496 := by omega
      have J0 : 0 ≤ J := by omega
      have J1 : J ≤ 51 := by omega
      rw [hT, hJ]
      have HT2 := Lib.hid hT
      have HJ2 := Lib.hid hJ
      have HJ3 := Lib.hid hj2
      clear ht ht3 hlt ht2 htp hT hJ hj hj2 h0 hm
      go_wp2
      go_roundw
      case rel => exact ⟨j + 1, 2 * t, HT.out, by have := HL.out; omega, HJ3.out, by have := HT2.out; subst this; go_num, by have := HJ2.out; subst this; go_num, trivial⟩
      case measure => simp [intOf]; omega
    · have hR := F.R_moved (n := m) (j := j) (by omega) (by omega) (by omega) (by omega)
      rw [← ht] at hR
      clear ht
      have hA := HA.out
      rw [hR] at hA
      have HB := Lib.hid hA
      obtain ⟨T, hT⟩ : ∃ T : Int, (t : Int) = T := ⟨_, rfl⟩
      obtain ⟨E, hE⟩ : ∃ E : Int, 1075 - (j : Int) = E := ⟨_, rfl⟩
      have T0 : 4503599627370496 ≤ T := by omega
      have T1 : T < 9007199254740992 := by omega
      have E0 : 1023 ≤ E := by omega
      have E1 : E ≤ 1075 := by omega
      rw [hT, hE]
      have HT2 := Lib.hid hT
      have HE2 := Lib.hid hE
      have HJ3 := Lib.hid hj
      clear HA hR hA hlt ht2 htp hT hE hj h0 hm
      go_wp2
      go_loopw [6, 7] (fun v e w2 => v = .int .u64 T ∧ e = .int .u64 E ∧ w2 = wr) (fun _ _ _ => 0)
      case atStart => exact ⟨rfl, rfl, rfl⟩
      case round =>
        obtain ⟨rfl, rfl, rfl⟩ := hrel
        go_wp2
        go_ret2
        refine ⟨?_, rfl⟩
        rw [← HB.out]
        refine ret_of ?_
        have b1 := HT2.out
        have b2 := HE2.out
        have b3 := HJ3.out
        omega
set_option maxHeartbeats 2000000 in
set_option maxRecDepth 100000 in
theorem refOf_neg (m : Nat) (w : World) (h0 : 0 < m) (hm : m < 9007199254740992) :
    Calls Try.prog 11 #[.int .i64 (-(m : Int))] w fun r w' => r = .returned (M.ofV (some (9223372036854775808 + (F.R m : Int)))) ∧ w' = w := by
  obtain ⟨a, ha⟩ : ∃ a : Int, 9223372036854775808 + (F.R m : Int) = a := ⟨_, rfl⟩
  rw [ha]
  have HA := Lib.hid ha
  clear ha
  go_enter Try.func11, Try.ntmps11
  go_wp2
  go_loopw [6, 7] (fun v e wr => ∃ j t : Nat, t = m * 2 ^ j ∧ t < 9007199254740992 ∧ j ≤ 52 ∧ v = .int .u64 (t : Int) ∧ e = .int .u64 (1075 - (j : Int)) ∧ wr = w) (fun _ e _ => (intOf e).toNat)
  case atStart => exact ⟨0, m, by simp, hm, by omega, rfl, rfl, rfl⟩
  case round =>
    obtain ⟨j, t, ht, ht2, hj, rfl, rfl, rfl⟩ := hrel
    have htp : 0 < t := by rw [ht]; exact Nat.mul_pos h0 (Nat.two_pow_pos _)
    by_cases hlt : t < 4503599627370496
    · have hj2 : j + 1 ≤ 52 := by
        rcases Nat.lt_or_ge j 52 with g | g
        · exact g
        · have g1 := Nat.pow_le_pow_right (show 0 < 2 by decide) g
          have g2 : 2 ^ j ≤ m * 2 ^ j := Nat.le_mul_of_pos_left _ h0
          have e52 : (2 : Nat) ^ 52 = 4503599627370496 := by decide
          omega
      have ht3 : 2 * t = m * 2 ^ (j + 1) := by rw [ht, Nat.pow_succ]; rw [Nat.mul_comm 2, Nat.mul_assoc]
      have HT := Lib.hid ht3
      have HL := Lib.hid hlt
      obtain ⟨T, hT⟩ : ∃ T : Int, (t : Int) = T := ⟨_, rfl⟩
      obtain ⟨J, hJ⟩ : ∃ J : Int, (j : Int) = J := ⟨_, rfl⟩
      have T0 : 0 < T := by omega
      have T1 : T < 4503599627370496 := by omega
      have J0 : 0 ≤ J := by omega
      have J1 : J ≤ 51 := by omega
      rw [hT, hJ]
      have HT2 := Lib.hid hT
      have HJ2 := Lib.hid hJ
      have HJ3 := Lib.hid hj2
      clear ht ht3 hlt ht2 htp hT hJ hj hj2 h0 hm
      go_wp2
      go_roundw
      case rel => exact ⟨j + 1, 2 * t, HT.out, by have := HL.out; omega, HJ3.out, by have := HT2.out; subst this; go_num, by have := HJ2.out; subst this; go_num, trivial⟩
      case measure => simp [intOf]; omega
    · have hR := F.R_moved (n := m) (j := j) (by omega) (by omega) (by omega) (by omega)
      rw [← ht] at hR
      clear ht
      have hA := HA.out
      rw [hR] at hA
      have HB := Lib.hid hA
      obtain ⟨T, hT⟩ : ∃ T : Int, (t : Int) = T := ⟨_, rfl⟩
      obtain ⟨E, hE⟩ : ∃ E : Int, 1075 - (j : Int) = E := ⟨_, rfl⟩
      have T0 : 4503599627370496 ≤ T := by omega
      have T1 : T < 9007199254740992 := by omega
      have E0 : 1023 ≤ E := by omega
      have E1 : E ≤ 1075 := by omega
      rw [hT, hE]
      have HT2 := Lib.hid hT
      have HE2 := Lib.hid hE
      have HJ3 := Lib.hid hj
      clear HA hR hA hlt ht2 htp hT hE hj h0 hm
      go_wp2
      go_loopw [6, 7] (fun v e w2 => v = .int .u64 T ∧ e = .int .u64 E ∧ w2 = wr) (fun _ _ _ => 0)
      case atStart => exact ⟨rfl, rfl, rfl⟩
      case round =>
        obtain ⟨rfl, rfl, rfl⟩ := hrel
        go_wp2
        go_ret2
        refine ⟨?_, rfl⟩
        rw [← HB.out]
        refine ret_of ?_
        have b1 := HT2.out
        have b2 := HE2.out
        have b3 := HJ3.out
        omega
set_option maxHeartbeats 2000000 in
set_option maxRecDepth 100000 in
theorem refOf_top (w : World) :
    Calls Try.prog 11 #[.int .i64 9007199254740992] w fun r w' => r = .returned (M.ofV (some 4845873199050653696)) ∧ w' = w := by
  go_enter Try.func11, Try.ntmps11
  go_wp2
  go_loopw [6, 7] (fun v e wr => v = .int .u64 9007199254740992 ∧ e = .int .u64 1075 ∧ wr = w) (fun _ _ _ => 0)
  case atStart => exact ⟨rfl, rfl, rfl⟩
  case round =>
    obtain ⟨rfl, rfl, rfl⟩ := hrel
    go_wp2
    go_loopw [6, 7] (fun v e w2 => (v = .int .u64 9007199254740992 ∧ e = .int .u64 1075 ∨ v = .int .u64 4503599627370496 ∧ e = .int .u64 1076) ∧ w2 = wr) (fun v _ _ => (intOf v).toNat)
    case atStart => exact ⟨.inl ⟨rfl, rfl⟩, rfl⟩
    case round =>
      obtain ⟨⟨rfl, rfl⟩ | ⟨rfl, rfl⟩, rfl⟩ := hrel
      · go_wp2
        go_roundw
        case rel => exact ⟨.inr ⟨by go_num, by go_num⟩, trivial⟩
        case measure => simp [intOf]
      · go_wp2
        go_ret2
        exact ⟨rfl, rfl⟩
set_option maxHeartbeats 2000000 in
set_option maxRecDepth 100000 in
theorem refOf_low (w : World) :
    Calls Try.prog 11 #[.int .i64 (-9007199254740992)] w fun r w' => r = .returned (M.ofV (some 14069245235905429504)) ∧ w' = w := by
  go_enter Try.func11, Try.ntmps11
  go_wp2
  go_loopw [6, 7] (fun v e wr => v = .int .u64 9007199254740992 ∧ e = .int .u64 1075 ∧ wr = w) (fun _ _ _ => 0)
  case atStart => exact ⟨rfl, rfl, rfl⟩
  case round =>
    obtain ⟨rfl, rfl, rfl⟩ := hrel
    go_wp2
    go_loopw [6, 7] (fun v e w2 => (v = .int .u64 9007199254740992 ∧ e = .int .u64 1075 ∨ v = .int .u64 4503599627370496 ∧ e = .int .u64 1076) ∧ w2 = wr) (fun v _ _ => (intOf v).toNat)
    case atStart => exact ⟨.inl ⟨rfl, rfl⟩, rfl⟩
    case round =>
      obtain ⟨⟨rfl, rfl⟩ | ⟨rfl, rfl⟩, rfl⟩ := hrel
      · go_wp2
        go_roundw
        case rel => exact ⟨.inr ⟨by go_num, by go_num⟩, trivial⟩
        case measure => simp [intOf]
      · go_wp2
        go_ret2
        exact ⟨rfl, rfl⟩
theorem refOf_any (n : Int) (w : World) :
    Calls Try.prog 11 #[.int .i64 n] w fun r w' => r = .returned (M.ofV (M.ofI n)) ∧ w' = w := by
  unfold M.ofI
  by_cases h : n < -9007199254740992 ∨ 9007199254740992 < n
  · rw [if_pos h]; exact refOf_out n w h
  · rw [if_neg h]
    unfold M.wordI
    rcases (show n = -9007199254740992 ∨ n = 9007199254740992 ∨ n = 0 ∨ (0 < n ∧ n < 9007199254740992) ∨ (n < 0 ∧ -9007199254740992 < n) by omega) with rfl | rfl | rfl | ⟨g0, g1⟩ | ⟨g0, g1⟩
    · rw [if_pos (by decide), show Int.natAbs (-9007199254740992) = 9007199254740992 from rfl, F.R_top]; exact refOf_low w
    · rw [if_neg (by decide), show Int.natAbs 9007199254740992 = 9007199254740992 from rfl, F.R_top]; exact refOf_top w
    · rw [if_neg (by decide)]; exact refOf_zero w
    · obtain ⟨m, rfl⟩ := Int.eq_ofNat_of_zero_le (show 0 ≤ n by omega)
      rw [if_neg (by omega)]
      exact refOf_pos m w (by omega) (by omega)
    · obtain ⟨m, hm⟩ := Int.eq_ofNat_of_zero_le (show 0 ≤ -n by omega)
      obtain rfl : n = -(m : Int) := by omega
      rw [if_pos g0, show Int.natAbs (-(m : Int)) = m by omega]
      exact refOf_neg m w (by omega) (by omega)

end Go.Proofs.Ytdjdgpfoakkamaa
