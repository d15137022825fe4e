/- The walk of stage 4's law of whole numbers: it answers true. Conditions: the arguments are those of words of eight bytes. -/
import Derived.Test.YtdjdgpfoakkamaaAlive
namespace Go.Proofs.Ytdjdgpfoakkamaa
open Go.RowKit

theorem R_rung {n : Nat} (h : n ≤ 9007199254740992) : F.rung (F.R n) = F.R n ∧ F.neg (F.R n) = false ∧ F.rung (9223372036854775808 + F.R n) = F.R n ∧ F.neg (9223372036854775808 + F.R n) = true ∧ F.R n < 9218868437227405312 := by
  have g := F.R_size h
  obtain ⟨r, hr⟩ : ∃ r, F.R n = r := ⟨_, rfl⟩
  rw [hr] at g ⊢
  refine ⟨by unfold F.rung; omega, ?_, by unfold F.rung; omega, ?_, g⟩
  · rw [F.neg_iff (by omega), decide_eq_false_iff_not]; omega
  · rw [F.neg_iff (by omega), decide_eq_true_iff]; omega
/-- The place of a whole number's word. -/
theorem rank_word {n : Int} (h0 : -9007199254740992 ≤ n) (h1 : n ≤ 9007199254740992) : F.rank (M.wordI n).toNat = (if n < 0 then -(F.R n.natAbs : Int) - 1 else (F.R n.natAbs : Int)) ∧ 0 ≤ M.wordI n ∧ M.wordI n ≤ 18446744073709551615 := by
  obtain ⟨g1, g2, g3, g4, g5⟩ := R_rung (n := n.natAbs) (by omega)
  have hz : F.inf = 9218868437227405312 := rfl
  unfold M.wordI
  by_cases h : n < 0
  · rw [if_pos h, if_pos h]
    have e : (9223372036854775808 + (F.R n.natAbs : Int)).toNat = 9223372036854775808 + F.R n.natAbs := by omega
    rw [e]
    unfold F.rank
    rw [g3, g4, if_neg (by omega), if_pos rfl]
    omega
  · rw [if_neg h, if_neg h]
    have e : ((F.R n.natAbs : Nat) : Int).toNat = F.R n.natAbs := by omega
    rw [e]
    unfold F.rank
    rw [g1, g2, if_neg (by omega), if_neg (by decide)]
    omega
theorem word_order {n m : Int} (h0 : -9007199254740992 ≤ n) (h1 : n ≤ 9007199254740992) (g0 : -9007199254740992 ≤ m) (g1 : m ≤ 9007199254740992) : M.orderI (M.wordI n) (M.wordI m) = M.signI n m ∧ (M.wordI n = M.wordI m ↔ n = m) := by
  obtain ⟨r1, a0, a1⟩ := rank_word h0 h1
  obtain ⟨r2, b0, b1⟩ := rank_word g0 g1
  have l1 := F.R_lt (n := n.natAbs) (m := m.natAbs) (by omega) (by omega)
  have l2 := F.R_lt (n := m.natAbs) (m := n.natAbs) (by omega) (by omega)
  have k1 := F.R_lt (n := 0) (m := n.natAbs) (by omega) (by omega)
  have k2 := F.R_lt (n := 0) (m := m.natAbs) (by omega) (by omega)
  rw [show F.R 0 = 0 from rfl] at k1 k2
  rw [order_place a0 a1 b0 b1, r1, r2]
  have s1 := F.R_size (n := n.natAbs) (by omega)
  have s2 := F.R_size (n := m.natAbs) (by omega)
  unfold M.signI M.wordI
  constructor
  · by_cases hn : n < 0 <;> by_cases hm : m < 0 <;> simp only [hn, hm, if_true, if_false] <;> (repeat' split) <;> omega
  · by_cases hn : n < 0 <;> by_cases hm : m < 0 <;> simp only [hn, hm, if_true, if_false] <;> omega
theorem xor_minus {r : Nat} (h : r < 9223372036854775808) : bits .xor .u64 ((9223372036854775808 + r : Nat) : Int) (r : Int) = 9223372036854775808 ∧ bits .xor .u64 (r : Int) ((9223372036854775808 + r : Nat) : Int) = 9223372036854775808 := by
  have e : (2 : Nat) ^ 63 = 9223372036854775808 := by decide
  have xu := F.xor_up (r := r) (by rw [e]; exact h)
  rw [e] at xu
  obtain ⟨C, hC⟩ : ∃ C, C = 9223372036854775808 := ⟨_, rfl⟩
  have hx : (C + r) ^^^ r = C := by
    rw [← hC] at xu
    have h2 : (C + r) ^^^ ((C + r) ^^^ C) = (C + r) ^^^ r := by rw [xu]
    rw [← Nat.xor_assoc, Nat.xor_self, Nat.zero_xor] at h2
    exact h2.symm
  have hb : ∀ n : Nat, n < 18446744073709551616 → (BitVec.ofInt 64 (n : Int)).toNat = n := fun n hn => by
    rw [BitVec.ofInt_natCast, BitVec.toNat_ofNat]; exact Nat.mod_eq_of_lt (by omega)
  rw [hC] at hx
  constructor
  · show IntKind.u64.wrap ((BitVec.ofInt 64 ((9223372036854775808 + r : Nat) : Int) ^^^ BitVec.ofInt 64 (r : Int)).toNat : Int) = _
    rw [BitVec.toNat_xor, hb _ (by omega), hb _ (by omega), hx]
    rfl
  · show IntKind.u64.wrap ((BitVec.ofInt 64 (r : Int) ^^^ BitVec.ofInt 64 ((9223372036854775808 + r : Nat) : Int)).toNat : Int) = _
    rw [BitVec.toNat_xor, hb _ (by omega), hb _ (by omega), Nat.xor_comm, hx]
    rfl
theorem word_minus {n : Int} (h : n ≠ 0) (h0 : -9007199254740992 ≤ n) (h1 : n ≤ 9007199254740992) : bits .xor .u64 (M.wordI n) (M.wordI (-n)) = 9223372036854775808 := by
  have s1 := F.R_size (n := n.natAbs) (by omega)
  obtain ⟨x1, x2⟩ := xor_minus (r := F.R n.natAbs) (by omega)
  unfold M.wordI
  rw [show (-n).natAbs = n.natAbs by omega]
  have c : (9223372036854775808 : Int) + (F.R n.natAbs : Int) = ((9223372036854775808 + F.R n.natAbs : Nat) : Int) := by omega
  by_cases hn : n < 0
  · rw [if_pos hn, if_neg (by omega), c]; exact x1
  · rw [if_neg hn, if_pos (by omega), c]; exact x2

set_option maxHeartbeats 4000000 in
theorem wholeOut_any (n m : Int) (w : World) (hn0 : -9223372036854775808 ≤ n) (hn1 : n ≤ 9223372036854775807) (hm0 : -9223372036854775808 ≤ m) (hm1 : m ≤ 9223372036854775807) (hout : (n < -9007199254740992 ∨ 9007199254740992 < n) ∨ (m < -9007199254740992 ∨ 9007199254740992 < m)) :
    Calls Try.prog 7 #[.int .i64 n, .int .i64 m] w fun r w' => r = .returned (.bool true) ∧ w' = w := by
  have ha := of_any n w hn0 hn1
  have hb := of_any m w hm0 hm1
  unfold M.ofI at ha hb
  have hnn : n < -9007199254740992 ∨ 9007199254740992 < n ∨ (-9007199254740992 ≤ n ∧ n ≤ 9007199254740992) := by omega
  have hmm : m < -9007199254740992 ∨ 9007199254740992 < m ∨ (-9007199254740992 ≤ m ∧ m ≤ 9007199254740992) := by omega
  rcases hnn with h | h | ⟨h, h'⟩
  · rw [if_pos (.inl h)] at ha
    rcases hmm with g | g | ⟨g, g'⟩
    · rw [if_pos (.inl g)] at hb
      simp only [M.ofV] at ha hb
      have HA := Lib.hid ha
      have HB := Lib.hid hb
      clear ha hb hout
      go_enter Try.func7, Try.ntmps7
      go_wp2_with fail
      refine HA.out.mono ?_
      rintro r w2 ⟨rfl, rfl⟩
      go_wp2_with fail
      refine HB.out.mono ?_
      rintro r w2 ⟨rfl, rfl⟩
      go_wp2_with fail
      refine (alive_true _).mono ?_
      rintro r w2 ⟨rfl, rfl⟩
      go_wp2
      go_ret
      exact ⟨rfl, rfl⟩
    · rw [if_pos (.inr g)] at hb
      simp only [M.ofV] at ha hb
      have HA := Lib.hid ha
      have HB := Lib.hid hb
      clear ha hb hout
      go_enter Try.func7, Try.ntmps7
      go_wp2_with fail
      refine HA.out.mono ?_
      rintro r w2 ⟨rfl, rfl⟩
      go_wp2_with fail
      refine HB.out.mono ?_
      rintro r w2 ⟨rfl, rfl⟩
      go_wp2_with fail
      refine (alive_true _).mono ?_
      rintro r w2 ⟨rfl, rfl⟩
      go_wp2
      go_ret
      exact ⟨rfl, rfl⟩
    · rw [if_neg (by omega)] at hb
      simp only [M.ofV] at ha hb
      have HA := Lib.hid ha
      have HB := Lib.hid hb
      clear ha hb hout
      go_enter Try.func7, Try.ntmps7
      go_wp2_with fail
      refine HA.out.mono ?_
      rintro r w2 ⟨rfl, rfl⟩
      go_wp2_with fail
      refine HB.out.mono ?_
      rintro r w2 ⟨rfl, rfl⟩
      go_wp2_with fail
      refine (alive_true _).mono ?_
      rintro r w2 ⟨rfl, rfl⟩
      go_wp2
      go_ret
      exact ⟨rfl, rfl⟩
  · rw [if_pos (.inr h)] at ha
    rcases hmm with g | g | ⟨g, g'⟩
    · rw [if_pos (.inl g)] at hb
      simp only [M.ofV] at ha hb
      have HA := Lib.hid ha
      have HB := Lib.hid hb
      clear ha hb hout
      go_enter Try.func7, Try.ntmps7
      go_wp2_with fail
      refine HA.out.mono ?_
      rintro r w2 ⟨rfl, rfl⟩
      go_wp2_with fail
      refine HB.out.mono ?_
      rintro r w2 ⟨rfl, rfl⟩
      go_wp2_with fail
      refine (alive_true _).mono ?_
      rintro r w2 ⟨rfl, rfl⟩
      go_wp2
      go_ret
      exact ⟨rfl, rfl⟩
    · rw [if_pos (.inr g)] at hb
      simp only [M.ofV] at ha hb
      have HA := Lib.hid ha
      have HB := Lib.hid hb
      clear ha hb hout
      go_enter Try.func7, Try.ntmps7
      go_wp2_with fail
      refine HA.out.mono ?_
      rintro r w2 ⟨rfl, rfl⟩
      go_wp2_with fail
      refine HB.out.mono ?_
      rintro r w2 ⟨rfl, rfl⟩
      go_wp2_with fail
      refine (alive_true _).mono ?_
      rintro r w2 ⟨rfl, rfl⟩
      go_wp2
      go_ret
      exact ⟨rfl, rfl⟩
    · rw [if_neg (by omega)] at hb
      simp only [M.ofV] at ha hb
      have HA := Lib.hid ha
      have HB := Lib.hid hb
      clear ha hb hout
      go_enter Try.func7, Try.ntmps7
      go_wp2_with fail
      refine HA.out.mono ?_
      rintro r w2 ⟨rfl, rfl⟩
      go_wp2_with fail
      refine HB.out.mono ?_
      rintro r w2 ⟨rfl, rfl⟩
      go_wp2_with fail
      refine (alive_true _).mono ?_
      rintro r w2 ⟨rfl, rfl⟩
      go_wp2
      go_ret
      exact ⟨rfl, rfl⟩
  · rw [if_neg (by omega)] at ha
    rcases hmm with g | g | ⟨g, g'⟩
    · rw [if_pos (.inl g)] at hb
      have e1 : decide (-9007199254740992 ≤ m) = false := decide_eq_false (by omega)
      simp only [M.ofV] at ha hb
      have HA := Lib.hid ha
      have HB := Lib.hid hb
      clear ha hb hout
      go_enter Try.func7, Try.ntmps7
      go_wp2_with fail
      refine HA.out.mono ?_
      rintro r w2 ⟨rfl, rfl⟩
      go_wp2_with fail
      refine HB.out.mono ?_
      rintro r w2 ⟨rfl, rfl⟩
      go_wp2_with fail
      refine (alive_true _).mono ?_
      rintro r w2 ⟨rfl, rfl⟩
      go_wp2
      go_ret
      exact ⟨rfl, rfl⟩
    · rw [if_pos (.inr g)] at hb
      have e1 : decide (m ≤ 9007199254740992) = false := decide_eq_false (by omega)
      simp only [M.ofV] at ha hb
      have HA := Lib.hid ha
      have HB := Lib.hid hb
      clear ha hb hout
      go_enter Try.func7, Try.ntmps7
      go_wp2_with fail
      refine HA.out.mono ?_
      rintro r w2 ⟨rfl, rfl⟩
      go_wp2_with fail
      refine HB.out.mono ?_
      rintro r w2 ⟨rfl, rfl⟩
      go_wp2_with fail
      refine (alive_true _).mono ?_
      rintro r w2 ⟨rfl, rfl⟩
      go_wp2
      go_ret
      exact ⟨rfl, rfl⟩
    · rw [if_neg (by omega)] at hb
      exfalso
      omega
set_option maxHeartbeats 4000000 in
theorem wholeIn_any (n m : Int) (w : World) (h0 : -9007199254740992 ≤ n) (h1 : n ≤ 9007199254740992) (g0 : -9007199254740992 ≤ m) (g1 : m ≤ 9007199254740992) :
    Calls Try.prog 7 #[.int .i64 n, .int .i64 m] w fun r w' => r = .returned (.bool true) ∧ w' = w := by
  have ha := of_any n w (by omega) (by omega)
  have hb := of_any m w (by omega) (by omega)
  have hc := of_any (-n) w (by omega) (by omega)
  unfold M.ofI at ha hb hc
  rw [if_neg (by omega)] at ha hb hc
  simp only [M.ofV] at ha hb hc
  obtain ⟨_, a0, a1⟩ := rank_word h0 h1
  obtain ⟨_, b0, b1⟩ := rank_word g0 g1
  have hd := order_at (M.wordI n) (M.wordI m) w a0 a1 b0 b1
  obtain ⟨o1, o2⟩ := word_order h0 h1 g0 g1
  rw [o1] at hd
  have hx := fun h => word_minus (n := n) h h0 h1
  obtain ⟨x, hX⟩ : ∃ x, M.wordI n = x := ⟨_, rfl⟩
  obtain ⟨y, hY⟩ : ∃ y, M.wordI m = y := ⟨_, rfl⟩
  obtain ⟨z, hZ⟩ : ∃ z, M.wordI (-n) = z := ⟨_, rfl⟩
  rw [hX] at ha hd o2 hx
  rw [hY] at hb hd o2
  rw [hZ] at hc hx
  clear hX hY hZ o1
  have HA := Lib.hid ha
  have HB := Lib.hid hb
  have HC := Lib.hid hc
  unfold M.signI at hd
  clear ha hb hc a0 a1 b0 b1
  rcases (show n < m ∨ m < n ∨ n = m by omega) with c | c | c
  · rw [if_pos c] at hd
    have HD := Lib.hid hd
    clear hd
    have e1 : (x == y) = false := by rw [beq_eq_false_iff_ne]; intro k; have := o2.1 k; omega
    have e2 : (n == m) = false := by rw [beq_eq_false_iff_ne]; omega
    clear o2
    by_cases z0 : n = 0
    · subst z0
      clear hx
      go_enter Try.func7, Try.ntmps7
      go_wp2_with fail
      refine HA.out.mono ?_
      rintro r w2 ⟨rfl, rfl⟩
      go_wp2_with fail
      refine HB.out.mono ?_
      rintro r w2 ⟨rfl, rfl⟩
      go_wp2_with fail
      refine HC.out.mono ?_
      rintro r w2 ⟨rfl, rfl⟩
      go_wp2_with fail
      refine (alive_true _).mono ?_
      rintro r w2 ⟨rfl, rfl⟩
      go_wp2_with fail
      refine HD.out.mono ?_
      rintro r w2 ⟨rfl, rfl⟩
      go_wp2
      go_ret
      exact ⟨rfl, rfl⟩
    · have hz := hx z0
      clear hx
      go_enter Try.func7, Try.ntmps7
      go_wp2_with fail
      refine HA.out.mono ?_
      rintro r w2 ⟨rfl, rfl⟩
      go_wp2_with fail
      refine HB.out.mono ?_
      rintro r w2 ⟨rfl, rfl⟩
      go_wp2_with fail
      refine HC.out.mono ?_
      rintro r w2 ⟨rfl, rfl⟩
      go_wp2_with fail
      refine (alive_true _).mono ?_
      rintro r w2 ⟨rfl, rfl⟩
      go_wp2_with fail
      refine HD.out.mono ?_
      rintro r w2 ⟨rfl, rfl⟩
      go_wp2
      go_ret
      exact ⟨rfl, rfl⟩
  · rw [if_neg (by omega), if_pos c] at hd
    have HD := Lib.hid hd
    clear hd
    have e1 : (x == y) = false := by rw [beq_eq_false_iff_ne]; intro k; have := o2.1 k; omega
    have e2 : (n == m) = false := by rw [beq_eq_false_iff_ne]; omega
    clear o2
    by_cases z0 : n = 0
    · subst z0
      clear hx
      go_enter Try.func7, Try.ntmps7
      go_wp2_with fail
      refine HA.out.mono ?_
      rintro r w2 ⟨rfl, rfl⟩
      go_wp2_with fail
      refine HB.out.mono ?_
      rintro r w2 ⟨rfl, rfl⟩
      go_wp2_with fail
      refine HC.out.mono ?_
      rintro r w2 ⟨rfl, rfl⟩
      go_wp2_with fail
      refine (alive_true _).mono ?_
      rintro r w2 ⟨rfl, rfl⟩
      go_wp2_with fail
      refine HD.out.mono ?_
      rintro r w2 ⟨rfl, rfl⟩
      go_wp2
      go_ret
      exact ⟨rfl, rfl⟩
    · have hz := hx z0
      clear hx
      go_enter Try.func7, Try.ntmps7
      go_wp2_with fail
      refine HA.out.mono ?_
      rintro r w2 ⟨rfl, rfl⟩
      go_wp2_with fail
      refine HB.out.mono ?_
      rintro r w2 ⟨rfl, rfl⟩
      go_wp2_with fail
      refine HC.out.mono ?_
      rintro r w2 ⟨rfl, rfl⟩
      go_wp2_with fail
      refine (alive_true _).mono ?_
      rintro r w2 ⟨rfl, rfl⟩
      go_wp2_with fail
      refine HD.out.mono ?_
      rintro r w2 ⟨rfl, rfl⟩
      go_wp2
      go_ret
      exact ⟨rfl, rfl⟩
  · rw [if_neg (by omega), if_neg (by omega)] at hd
    have HD := Lib.hid hd
    clear hd
    have hxy := o2.2 c
    subst hxy
    subst c
    clear o2
    by_cases z0 : n = 0
    · subst z0
      clear hx
      go_enter Try.func7, Try.ntmps7
      go_wp2_with fail
      refine HA.out.mono ?_
      rintro r w2 ⟨rfl, rfl⟩
      go_wp2_with fail
      refine HB.out.mono ?_
      rintro r w2 ⟨rfl, rfl⟩
      go_wp2_with fail
      refine HC.out.mono ?_
      rintro r w2 ⟨rfl, rfl⟩
      go_wp2_with fail
      refine (alive_true _).mono ?_
      rintro r w2 ⟨rfl, rfl⟩
      go_wp2_with fail
      refine HD.out.mono ?_
      rintro r w2 ⟨rfl, rfl⟩
      go_wp2
      go_ret
      exact ⟨rfl, rfl⟩
    · have hz := hx z0
      clear hx
      go_enter Try.func7, Try.ntmps7
      go_wp2_with fail
      refine HA.out.mono ?_
      rintro r w2 ⟨rfl, rfl⟩
      go_wp2_with fail
      refine HB.out.mono ?_
      rintro r w2 ⟨rfl, rfl⟩
      go_wp2_with fail
      refine HC.out.mono ?_
      rintro r w2 ⟨rfl, rfl⟩
      go_wp2_with fail
      refine (alive_true _).mono ?_
      rintro r w2 ⟨rfl, rfl⟩
      go_wp2_with fail
      refine HD.out.mono ?_
      rintro r w2 ⟨rfl, rfl⟩
      go_wp2
      go_ret
      exact ⟨rfl, rfl⟩
theorem whole_any (n m : Int) (w : World) (hn0 : -9223372036854775808 ≤ n) (hn1 : n ≤ 9223372036854775807) (hm0 : -9223372036854775808 ≤ m) (hm1 : m ≤ 9223372036854775807) :
    Calls Try.prog 7 #[.int .i64 n, .int .i64 m] w fun r w' => r = .returned (.bool true) ∧ w' = w := by
  by_cases h : (n < -9007199254740992 ∨ 9007199254740992 < n) ∨ (m < -9007199254740992 ∨ 9007199254740992 < m)
  · exact wholeOut_any n m w hn0 hn1 hm0 hm1 h
  · exact wholeIn_any n m w (by omega) (by omega) (by omega) (by omega)
end Go.Proofs.Ytdjdgpfoakkamaa
