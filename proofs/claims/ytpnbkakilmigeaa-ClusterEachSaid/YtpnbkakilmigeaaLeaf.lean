/- The small functions of package cluster, over the translation: which joins stand alone, which go with what is ahead, which are of one syllable; a picture at an end; how many Regionals are last. Conditions: the slices read as lists of joins, at most a thousand long. -/
import Derived.Test.YtpnbkakilmigeaaRefBreak
namespace Go.Proofs.Ytpnbkakilmigeaa
open Go.RowKit

/-- Extend, ZWJ, Spacing. -/
def M.trail (b : Int) : Bool := decide (b = 4 ∨ b = 5 ∨ b = 8)
/-- How many Regionals stand at the head. -/
def M.regs : List Int → Nat
  | [] => 0
  | j :: r => if j = 6 then M.regs r + 1 else 0
theorem M.regs_odd : ∀ r : List Int, M.oddR r = decide (M.regs r % 2 = 1)
  | [] => rfl
  | j :: r => by
    unfold M.oddR M.regs
    by_cases h : j = 6
    · rw [if_pos h, if_pos h, M.regs_odd r, Bool.eq_iff_iff]
      simp
      omega
    · rw [if_neg h, if_neg h]; rfl
theorem M.regs_le : ∀ r : List Int, M.regs r ≤ r.length
  | [] => Nat.le_refl _
  | j :: r => by
    unfold M.regs
    have := M.regs_le r
    split <;> simp <;> omega

set_option maxHeartbeats 1000000 in
theorem alone_any (j : Int) (w : World) : Calls Try.prog 24 #[.int .i64 j] w fun r w' => r = .returned (.bool (M.endsJ j)) ∧ w = w' := by
  unfold M.endsJ
  rcases (show j = 1 ∨ j = 2 ∨ j = 3 ∨ (j ≠ 1 ∧ j ≠ 2 ∧ j ≠ 3) by omega) with rfl | rfl | rfl | ⟨h1, h2, h3⟩
  iterate 3
    · go_enter Try.func24, Try.ntmps24
      go_wp2
      go_ret
      exact ⟨ret_bool (by simp), rfl⟩
  · have b1 : (j == 1) = false := by rw [beq_eq_false_iff_ne]; exact h1
    have b2 : (j == 2) = false := by rw [beq_eq_false_iff_ne]; exact h2
    have b3 : (j == 3) = false := by rw [beq_eq_false_iff_ne]; exact h3
    rw [decide_eq_false (by omega)]
    clear h1 h2 h3
    go_enter Try.func24, Try.ntmps24
    go_wp2
    go_ret
    exact ⟨ret_bool (by simp), rfl⟩

set_option maxHeartbeats 1000000 in
theorem trails_any (j : Int) (w : World) : Calls Try.prog 26 #[.int .i64 j] w fun r w' => r = .returned (.bool (M.trail j)) ∧ w = w' := by
  unfold M.trail
  rcases (show j = 4 ∨ j = 5 ∨ j = 8 ∨ (j ≠ 4 ∧ j ≠ 5 ∧ j ≠ 8) by omega) with rfl | rfl | rfl | ⟨h1, h2, h3⟩
  iterate 3
    · go_enter Try.func26, Try.ntmps26
      go_wp2
      go_ret
      exact ⟨ret_bool (by simp), rfl⟩
  · have b1 : (j == 4) = false := by rw [beq_eq_false_iff_ne]; exact h1
    have b2 : (j == 5) = false := by rw [beq_eq_false_iff_ne]; exact h2
    have b3 : (j == 8) = false := by rw [beq_eq_false_iff_ne]; exact h3
    rw [decide_eq_false (by omega)]
    clear h1 h2 h3
    go_enter Try.func26, Try.ntmps26
    go_wp2
    go_ret
    exact ⟨ret_bool (by simp), rfl⟩

set_option maxHeartbeats 4000000 in
theorem syllable_any (a b : Int) (w : World) : Calls Try.prog 25 #[.int .i64 a, .int .i64 b] w fun r w' => r = .returned (.bool (M.hang a b)) ∧ w = w' := by
  obtain ⟨ans, hans⟩ : ∃ ans, M.hang a b = ans := ⟨_, rfl⟩
  rw [hans]
  unfold M.hang at hans
  rcases (show a = 9 ∨ a = 12 ∨ a = 10 ∨ a = 13 ∨ a = 11 ∨ (a ≠ 9 ∧ a ≠ 12 ∧ a ≠ 10 ∧ a ≠ 13 ∧ a ≠ 11) by omega) with rfl | rfl | rfl | rfl | rfl | ⟨n0, n1, n2, n3, n4⟩
  · rcases (show b = 9 ∨ b = 10 ∨ b = 12 ∨ b = 13 ∨ (b ≠ 9 ∧ b ≠ 10 ∧ b ≠ 12 ∧ b ≠ 13) by omega) with rfl | rfl | rfl | rfl | ⟨h1, h2, h3, h4⟩
    iterate 4
      · obtain rfl : true = ans := by rw [← hans]; decide
        clear hans
        go_enter Try.func25, Try.ntmps25
        go_wp2
        go_ret
        exact ⟨rfl, rfl⟩
    · obtain rfl : false = ans := by rw [← hans]; exact (decide_eq_false (by omega)).symm
      have b1 : (b == 9) = false := by rw [beq_eq_false_iff_ne]; exact h1
      have b2 : (b == 10) = false := by rw [beq_eq_false_iff_ne]; exact h2
      have b3 : (b == 12) = false := by rw [beq_eq_false_iff_ne]; exact h3
      have b4 : (b == 13) = false := by rw [beq_eq_false_iff_ne]; exact h4
      clear hans h1 h2 h3 h4
      go_enter Try.func25, Try.ntmps25
      go_wp2
      go_ret
      exact ⟨rfl, rfl⟩
  iterate 2
    · rcases (show b = 10 ∨ b = 11 ∨ (b ≠ 10 ∧ b ≠ 11) by omega) with rfl | rfl | ⟨h1, h2⟩
      iterate 2
        · obtain rfl : true = ans := by rw [← hans]; decide
          clear hans
          go_enter Try.func25, Try.ntmps25
          go_wp2
          go_ret
          exact ⟨rfl, rfl⟩
      · obtain rfl : false = ans := by rw [← hans]; exact (decide_eq_false (by omega)).symm
        have b1 : (b == 10) = false := by rw [beq_eq_false_iff_ne]; exact h1
        have b2 : (b == 11) = false := by rw [beq_eq_false_iff_ne]; exact h2
        clear hans h1 h2
        go_enter Try.func25, Try.ntmps25
        go_wp2
        go_ret
        exact ⟨rfl, rfl⟩
  iterate 2
    · rcases (show b = 11 ∨ b ≠ 11 by omega) with rfl | h1
      · obtain rfl : true = ans := by rw [← hans]; decide
        clear hans
        go_enter Try.func25, Try.ntmps25
        go_wp2
        go_ret
        exact ⟨rfl, rfl⟩
      · obtain rfl : false = ans := by rw [← hans]; exact (decide_eq_false (by omega)).symm
        have b1 : (b == 11) = false := by rw [beq_eq_false_iff_ne]; exact h1
        clear hans h1
        go_enter Try.func25, Try.ntmps25
        go_wp2
        go_ret
        exact ⟨rfl, rfl⟩
  · obtain rfl : false = ans := by rw [← hans]; exact (decide_eq_false (by omega)).symm
    have b0 : (a == 9) = false := by rw [beq_eq_false_iff_ne]; exact n0
    have b1 : (a == 12) = false := by rw [beq_eq_false_iff_ne]; exact n1
    have b2 : (a == 10) = false := by rw [beq_eq_false_iff_ne]; exact n2
    have b3 : (a == 13) = false := by rw [beq_eq_false_iff_ne]; exact n3
    have b4 : (a == 11) = false := by rw [beq_eq_false_iff_ne]; exact n4
    clear hans n0 n1 n2 n3 n4
    go_enter Try.func25, Try.ntmps25
    go_wp2
    go_ret
    exact ⟨rfl, rfl⟩

set_option maxHeartbeats 2000000 in
theorem endsInPict_any (A : Option Addr) (ca n : Nat) (l : List Int) (w : World) (hr : RdS .i64 w w.heap.size A l) (hn : l.length = n) (hl : n ≤ 1000) :
    Calls Try.prog 27 #[.slice A n ca] w fun r w' => r = .returned (.bool (M.base l.reverse)) ∧ w = w' := by
  obtain ⟨ans, hans⟩ : ∃ ans, M.base l.reverse = ans := ⟨_, rfl⟩
  rw [hans]
  have hall : M.base (M.back l n) = ans := by rw [← hans]; unfold M.back; rw [List.take_of_length_le (by omega)]
  have HR := Lib.hid hr
  have HN := Lib.hid hn
  have HANS := Lib.hid hall
  have hl1 : (n : Int) ≤ 1000 := by omega
  clear hr hn hans hall
  go_enter Try.func27, Try.ntmps27
  go_wp2
  go_loopw [3] (fun v wr => ∃ k : Nat, v = .int .i64 ((k : Int) - 1) ∧ k ≤ n ∧ M.base (M.back l k) = ans ∧ w = wr) (fun v _ => (intOf v + 1).toNat)
  case atStart => exact ⟨n, rfl, Nat.le_refl _, HANS.out, rfl⟩
  case round =>
    obtain ⟨k, rfl, hk, hbase, rfl⟩ := hrel
    have hn := HN.out
    by_cases hk0 : 0 < k
    · obtain ⟨ad, y, rfl, hcy, hy, hab⟩ := rd_at HR.out (Below.refl _ _) (by omega : k - 1 < l.length)
      have hnext := M.back_next hy
      rw [show k - 1 + 1 = k by omega] at hnext
      have k1 : (0 : Int) < k := by omega
      have k2 : (k : Int) ≤ n := by omega
      have hbk : M.base (M.back l k) = if y = 4 then M.base (M.back l (k - 1)) else decide (y = 14) := by rw [hnext]; rfl
      rw [hbk] at hbase
      by_cases h4 : y = 4
      · subst h4
        rw [if_pos rfl] at hbase
        have HBA := Lib.hid hbase
        clear hab hn hnext hbk hbase hy hk
        go_wp2
        go_roundw
        case rel => exact ⟨k - 1, by go_num, by omega, HBA.out, trivial⟩
        case measure => simp [intOf]; omega
      · rw [if_neg h4] at hbase
        have b4 : (y == 4) = false := by rw [beq_eq_false_iff_ne]; exact h4
        clear hab hn hnext hbk hy h4 HANS hk
        by_cases h14 : y = 14
        · subst h14
          have HA2 := Lib.hid (show ans = true by rw [← hbase]; decide)
          clear hbase
          go_wp2
          go_ret
          exact ⟨by rw [HA2.out]; rfl, rfl⟩
        · have b14 : (y == 14) = false := by rw [beq_eq_false_iff_ne]; exact h14
          have HA2 := Lib.hid (show ans = false by rw [← hbase]; exact decide_eq_false h14)
          clear hbase h14
          go_wp2
          go_ret
          exact ⟨by rw [HA2.out]; rfl, rfl⟩
    · obtain rfl : k = 0 := by omega
      rw [M.back_zero] at hbase
      have HA2 := Lib.hid (show ans = false by rw [← hbase]; rfl)
      clear hn hbase HANS hk
      go_wp2
      go_ret
      exact ⟨by rw [HA2.out]; rfl, rfl⟩

set_option maxHeartbeats 2000000 in
theorem regionals_any (A : Option Addr) (ca n : Nat) (l : List Int) (w : World) (hr : RdS .i64 w w.heap.size A l) (hn : l.length = n) (hl : n ≤ 1000) :
    Calls Try.prog 28 #[.slice A n ca] w fun r w' => r = .returned (.int .i64 (M.regs l.reverse)) ∧ w = w' := by
  obtain ⟨ans, hans⟩ : ∃ ans, M.regs l.reverse = ans := ⟨_, rfl⟩
  rw [hans]
  have hall : M.regs (M.back l n) = ans := by rw [← hans]; unfold M.back; rw [List.take_of_length_le (by omega)]
  have HR := Lib.hid hr
  have HN := Lib.hid hn
  have HANS := Lib.hid hall
  have hl1 : (n : Int) ≤ 1000 := by omega
  clear hr hn hans hall
  go_enter Try.func28, Try.ntmps28
  go_wp2
  go_loopw [3] (fun v wr => ∃ m k : Nat, v = .int .i64 m ∧ m + k = n ∧ ans = m + M.regs (M.back l k) ∧ w = wr) (fun v _ => n - (intOf v).toNat)
  case atStart => exact ⟨0, n, rfl, by omega, by rw [HANS.out]; omega, rfl⟩
  case round =>
    obtain ⟨m, k, rfl, hk, hreg, rfl⟩ := hrel
    have hn := HN.out
    have m0 : (0 : Int) ≤ m := by omega
    by_cases hk0 : 0 < k
    · obtain ⟨ad, y, rfl, hcy, hy, hab⟩ := rd_at HR.out (Below.refl _ _) (by omega : k - 1 < l.length)
      have hnext := M.back_next hy
      rw [show k - 1 + 1 = k by omega] at hnext
      have m1 : (m : Int) < n := by omega
      have hbk : M.regs (M.back l k) = if y = 6 then M.regs (M.back l (k - 1)) + 1 else 0 := by rw [hnext]; rfl
      rw [hbk] at hreg
      have hcy' : w.cell? (ad.add (n - 1 - m)) = some (.int .i64 y) := by rw [← hcy]; congr 2; omega
      by_cases h6 : y = 6
      · subst h6
        rw [if_pos rfl] at hreg
        have HREG := Lib.hid hreg
        have HK := Lib.hid hk
        clear hab hn hnext hbk hreg hy hcy hk
        go_wp2
        go_roundw
        case rel => exact ⟨m + 1, k - 1, by go_num, by have := HK.out; omega, by rw [HREG.out]; omega, trivial⟩
        case measure => have := HK.out; simp [intOf]; omega
      · rw [if_neg h6] at hreg
        have b6 : (y == 6) = false := by rw [beq_eq_false_iff_ne]; exact h6
        have HREG := Lib.hid hreg
        clear hab hn hnext hbk hreg hy hcy h6 hk HANS
        go_wp2
        go_ret
        exact ⟨by rw [HREG.out]; rfl, rfl⟩
    · obtain rfl : k = 0 := by omega
      obtain rfl : m = n := by omega
      rw [M.back_zero] at hreg
      have HREG := Lib.hid hreg
      clear hn hreg hk HANS
      go_wp2
      go_ret
      exact ⟨by rw [HREG.out]; rfl, rfl⟩
end Go.Proofs.Ytpnbkakilmigeaa
