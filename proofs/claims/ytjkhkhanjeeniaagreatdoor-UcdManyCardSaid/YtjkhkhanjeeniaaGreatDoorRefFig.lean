/- The document's own figures of a number. Condition: the number is a scalar's. -/
import Derived.Test.YtjkhkhanjeeniaaGreatDoorRef
namespace Go.Proofs.YtjkhkhanjeeniaaGreatDoor
open Go.RowKit

theorem M.ndig_zero {n j : Nat} (hj : 4 ≤ j) (h : n / 16 ^ j = 0) : M.ndig n ≤ j := by
  rcases Nat.lt_or_ge j 6 with h6 | h6
  · have hlt : n < 16 ^ j := by
      rcases Nat.lt_or_ge n (16 ^ j) with h' | h'
      · exact h'
      · exact absurd (Nat.div_pos h' (Nat.pow_pos (by decide))) (by omega)
    rcases (show j = 4 ∨ j = 5 by omega) with rfl | rfl
    · have : n < 65536 := hlt
      unfold M.ndig
      (repeat' split) <;> omega
    · have : n < 1048576 := hlt
      unfold M.ndig
      (repeat' split) <;> omega
  · exact Nat.le_trans (M.ndig_le n).2 h6
theorem dig_str (d : Nat) (hd : d < 16) : (⟨#[48, 49, 50, 51, 52, 53, 54, 55, 56, 57, 65, 66, 67, 68, 69, 70]⟩ : ByteArray).extract d (d + 1) = M.bytes [M.digU d] := by
  apply byte_ext
  rw [M.bytes_list]
  have : ∀ d : Fin 16, ((⟨#[48, 49, 50, 51, 52, 53, 54, 55, 56, 57, 65, 66, 67, 68, 69, 70]⟩ : ByteArray).extract d.1 (d.1 + 1)).data.toList = [M.digU d.1] := by decide
  exact this ⟨d, hd⟩

set_option maxHeartbeats 4000000 in
theorem refFigures_any (n : Nat) (w : World) (hn : n ≤ 1114111) :
    Calls Tryz.prog 31 #[.int .i64 n] w fun e w' => e = .returned (.string (M.bytes (M.figs n))) ∧ Below w.heap.size w w' := by
  go_enter Tryz.func31, Tryz.ntmps31
  go_wp2
  go_loop [0, 3] (fun i v => ∃ j : Nat, j ≤ max 4 (M.ndig n) ∧ i = .int .i64 ((n / 16 ^ j : Nat) : Int) ∧ v = .string (M.bytes (M.up n j))) (fun _ v => 10 - (match v with | .string t => t.size | _ => 0))
  case atStart => exact ⟨0, by omega, by simp, rfl⟩
  case round =>
    obtain ⟨j, hj, rfl, rfl⟩ := hrel
    have hnd := M.ndig_le n
    obtain ⟨S, hS⟩ : ∃ S, M.bytes (M.up n j) = S := ⟨_, rfl⟩
    have hSs : S.size = j := by rw [← hS, bytes_size, M.up_length]
    obtain ⟨m, hm⟩ : ∃ m, n / 16 ^ j = m := ⟨_, rfl⟩
    have hml : m ≤ 1114111 := by rw [← hm]; exact Nat.le_trans (Nat.div_le_self _ _) hn
    rw [hS, hm]
    have HS := Lib.hid hS
    have HM := Lib.hid hm
    by_cases hc : j < 4 ∨ 0 < m
    · have hlt : j < max 4 (M.ndig n) := by
        rcases hc with hc | hc
        · omega
        · have : ¬ M.ndig n ≤ j := fun h => by have := M.zero_above hn h; omega
          omega
      have HN := Lib.hid (show n / 16 ^ (j + 1) = m / 16 by rw [← hm, Nat.div_div_eq_div_mul, Nat.pow_succ])
      have HU := Lib.hid (show M.bytes (M.up n (j + 1)) = M.bytes [M.digU (m % 16)] ++ S by
        rw [← hS, bytes_append]
        show M.bytes (M.digU (n / 16 ^ j % 16) :: M.up n j) = _
        rw [hm]
        rfl)
      have hd := dig_str (m % 16) (Nat.mod_lt _ (by decide))
      obtain ⟨D, hD⟩ : ∃ D, M.bytes [M.digU (m % 16)] = D := ⟨_, rfl⟩
      have hDs : D.size = 1 := by rw [← hD, bytes_size]; rfl
      rw [hD] at hd HU
      clear hS hm hD
      rcases (show j < 4 ∨ ¬ j < 4 ∧ 0 < m by omega) with h4 | ⟨h4, h0⟩
      all_goals
        go_wp2
        go_round
        case rel => exact ⟨j + 1, by omega, by rw [HN.out]; go_num, congrArg Value.string HU.out.symm⟩
        case measure => simp; omega
    · have HE := Lib.hid (show M.figs n = M.up n j by
        have h4 : 4 ≤ j := by omega
        have := M.ndig_zero h4 (hm.trans (by omega))
        unfold M.figs
        congr 1
        omega)
      have h4 : ¬ j < 4 := by omega
      have h0 : m = 0 := by omega
      clear hS hm
      subst h0
      go_wp2
      go_ret
      exact ⟨ret_str (by rw [HE.out, HS.out]), Below.refl _ _⟩
end Go.Proofs.YtjkhkhanjeeniaaGreatDoor
