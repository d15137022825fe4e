/- The document's own numbers of figures. Conditions: a string is no longer than the model lets it be. -/
import Derived.Test.YtjbpjnnflcmmhaaRef
namespace Go.Proofs.Ytjbpjnnflcmmhaa
open Go.RowKit

theorem ret_num {a b : Int} (h : a = b) : Ending.returned (.int .i64 a) = .returned (.int .i64 b) := by rw [h]
/-- A figure's number, or -1. -/
def M.dgt (r : Int) : Int := match M.figR r with
  | some d => d
  | none => -1
set_option maxHeartbeats 1000000 in
theorem refDigit_any (r : Int) (w : World) (h0 : 0 ≤ r) (h9 : r ≤ 255) :
    Calls Try.prog 38 #[.int .u8 r] w fun e w' => e = .returned (.int .i64 (M.dgt r)) ∧ w = w' := by
  rcases (show r < 48 ∨ (48 ≤ r ∧ r ≤ 57) ∨ (58 ≤ r ∧ r ≤ 64) ∨ (65 ≤ r ∧ r ≤ 70) ∨ 71 ≤ r by omega) with h | ⟨h, h'⟩ | ⟨h, h'⟩ | ⟨h, h'⟩ | h
  · have HD := Lib.hid (show M.dgt r = -1 by unfold M.dgt M.figR; rw [if_neg (by omega), if_neg (by omega)])
    go_enter Try.func38, Try.ntmps38
    go_wp2
    go_ret
    exact ⟨ret_num HD.out.symm, rfl⟩
  · have HD := Lib.hid (show M.dgt r = r - 48 by unfold M.dgt M.figR; rw [if_pos (by omega)]; simp; omega)
    go_enter Try.func38, Try.ntmps38
    go_wp2
    go_ret
    exact ⟨ret_num HD.out.symm, rfl⟩
  · have HD := Lib.hid (show M.dgt r = -1 by unfold M.dgt M.figR; rw [if_neg (by omega), if_neg (by omega)])
    go_enter Try.func38, Try.ntmps38
    go_wp2
    go_ret
    exact ⟨ret_num HD.out.symm, rfl⟩
  · have HD := Lib.hid (show M.dgt r = r - 65 + 10 by unfold M.dgt M.figR; rw [if_neg (by omega), if_pos (by omega)]; simp; omega)
    go_enter Try.func38, Try.ntmps38
    go_wp2
    go_ret
    exact ⟨ret_num HD.out.symm, rfl⟩
  · have HD := Lib.hid (show M.dgt r = -1 by unfold M.dgt M.figR; rw [if_neg (by omega), if_neg (by omega)])
    go_enter Try.func38, Try.ntmps38
    go_wp2
    go_ret
    exact ⟨ret_num HD.out.symm, rfl⟩

set_option maxHeartbeats 4000000 in
theorem refHex_any (s : ByteArray) (w : World) (hm : s.size ≤ maxLen) :
    Calls Try.prog 30 #[.string s] w fun e w' => e = .returned (.tuple #[.int .i64 (M.hexInt s.data.toList), .bool (M.hexIs s.data.toList)]) ∧ w = w' := by
  unfold maxLen at hm
  have HL := Lib.hid (show s.data.toList.length = s.size by simp)
  go_enter Try.func30, Try.ntmps30
  go_wp2
  go_loop [4, 5] (fun v i => ∃ k n : Nat, k ≤ s.size ∧ k ≤ 6 ∧ i = .int .i64 k ∧ v = .int .i64 n ∧ n < 16 ^ k ∧ M.hexv s.data.toList 0 = M.hexv (s.data.toList.drop k) n) (fun _ i => s.size - (intOf i).toNat)
  case atStart => exact ⟨0, 0, Nat.zero_le _, Nat.zero_le _, rfl, rfl, by omega, rfl⟩
  case round =>
    obtain ⟨k, n, hk, hk6, rfl, rfl, hn, hv⟩ := hrel
    have HV := Lib.hid hv
    have HN := Lib.hid hn
    have hn6 : n < 16777216 := Nat.lt_of_lt_of_le hn (Nat.le_trans (Nat.pow_le_pow_right (by omega) hk6) (by decide))
    clear hv hn
    by_cases hlt : k < s.size
    · have hget : s.data.toList[k]? = some s[k] := by rw [List.getElem?_eq_getElem (by simpa using hlt)]; rfl
      have h255 : s[k].toNat ≤ 255 := by have := s[k].toNat_lt; omega
      cases hf : M.figure s[k] with
      | none =>
        have HF := Lib.hid (show M.dgt ((s[k]).toNat : Int) = -1 by unfold M.dgt; rw [M.figR_byte, hf])
        have HT := Lib.hid (M.hex_not (show M.hex s.data.toList = none by unfold M.hex; rw [HV.out.trans (M.hexv_none (n := n) hget hf)]; simp))
        clear hf hget
        go_wp2_with fail
        refine (refDigit_any _ _ (by omega) (by omega)).mono ?_
        rintro e w' ⟨rfl, rfl⟩
        rw [HF.out]
        go_wp2
        go_ret2
        exact ⟨ret_two HT.out.1.symm HT.out.2.symm, rfl⟩
      | some d =>
        have HF := Lib.hid (show M.dgt ((s[k]).toNat : Int) = d by unfold M.dgt; rw [M.figR_byte, hf])
        have hd16 := M.figure_lt hf
        by_cases h6 : k < 6
        · have HT := Lib.hid (HV.out.trans (M.hexv_some (n := n) hget hf))
          have HP := Lib.hid (show 16 * n + d < 16 ^ (k + 1) by have := HN.out; rw [Nat.pow_succ]; omega)
          clear hf hget
          go_wp2_with fail
          refine (refDigit_any _ _ (by omega) (by omega)).mono ?_
          rintro e w' ⟨rfl, rfl⟩
          rw [HF.out]
          go_wp2
          go_round
          case rel => exact ⟨k + 1, 16 * n + d, by omega, by omega, by go_num, by go_num, HP.out, HT.out⟩
          case measure => simp [intOf]; omega
        · have HT := Lib.hid (M.hex_not (M.hex_len (l := s.data.toList) (by rw [HL.out]; omega)))
          clear hf hget
          go_wp2_with fail
          refine (refDigit_any _ _ (by omega) (by omega)).mono ?_
          rintro e w' ⟨rfl, rfl⟩
          rw [HF.out]
          go_wp2
          go_ret2
          exact ⟨ret_two HT.out.1.symm HT.out.2.symm, rfl⟩
    · have hend : M.hexv s.data.toList 0 = some n := by rw [HV.out, List.drop_eq_nil_of_le (by rw [HL.out]; omega)]; rfl
      by_cases h4 : s.size < 4
      · have HT := Lib.hid (M.hex_not (M.hex_len (l := s.data.toList) (by rw [HL.out]; omega)))
        clear hend
        go_wp2
        go_ret2
        exact ⟨ret_two HT.out.1.symm HT.out.2.symm, rfl⟩
      · by_cases hbig : 1114111 < n
        · have HT := Lib.hid (M.hex_not (show M.hex s.data.toList = none by unfold M.hex; rw [hend]; simp; omega))
          clear hend
          go_wp2
          go_ret2
          exact ⟨ret_two HT.out.1.symm HT.out.2.symm, rfl⟩
        · have HT := Lib.hid (M.hex_has (show M.hex s.data.toList = some n by unfold M.hex; rw [if_pos (by rw [HL.out]; omega), hend]; simp; omega))
          clear hend
          go_wp2
          go_ret2
          exact ⟨ret_two HT.out.1.symm HT.out.2.symm, rfl⟩
end Go.Proofs.Ytjbpjnnflcmmhaa
