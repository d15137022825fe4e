/- The document's own answers, as its functions Word and Right give them. Conditions: strings are no longer than the model lets them be. -/
import Derived.Test.YtjbpjnnflcmmhaaRight
namespace Go.Proofs.Ytjbpjnnflcmmhaa
open Go.RowKit

set_option maxHeartbeats 4000000 in
theorem refWord_any (s : ByteArray) (w : World) (hm : s.size ≤ maxLen) :
    Calls Try.prog 22 #[.string s] w fun e w' => e = .returned (.bool (M.word s.data.toList)) ∧ w = w' := by
  unfold maxLen at hm
  go_enter Try.func22, Try.ntmps22
  go_wp2
  go_loop [3] (fun i => ∃ k : Nat, k ≤ s.size ∧ i = .int .i64 k ∧ (s.data.toList.take k).all M.sign = true) (fun i => s.size - (intOf i).toNat)
  case atStart => exact ⟨0, Nat.zero_le _, rfl, rfl⟩
  case round =>
    obtain ⟨k, hk, rfl, hall⟩ := hrel
    have HA := Lib.hid hall
    clear hall
    by_cases hlt : k < s.size
    · have HY := Lib.hid (fun (h : M.sign s[k] = true) => (show (s.data.toList.take (k + 1)).all M.sign = true by rw [take_snoc s k hlt, List.all_append, HA.out]; simp [h]))
      have HNO := Lib.hid (fun (h : M.sign s[k] = false) => not_all_sign hlt h)
      have HC := Lib.hid (show ∀ r : Int, (s[k].toNat : Int) = r → M.sign s[k] = decide (97 ≤ r ∧ r ≤ 122 ∨ 65 ≤ r ∧ r ≤ 90 ∨ 48 ≤ r ∧ r ≤ 57 ∨ r = 95) from fun r hr => by
        unfold M.sign
        rw [Bool.eq_iff_iff, decide_eq_true_iff, decide_eq_true_iff]
        omega)
      rcases (show (s[k].toNat : Int) < 48 ∨ (48 ≤ (s[k].toNat : Int) ∧ (s[k].toNat : Int) ≤ 57) ∨ (58 ≤ (s[k].toNat : Int) ∧ (s[k].toNat : Int) ≤ 64) ∨ (65 ≤ (s[k].toNat : Int) ∧ (s[k].toNat : Int) ≤ 90) ∨ (91 ≤ (s[k].toNat : Int) ∧ (s[k].toNat : Int) ≤ 94) ∨ (s[k].toNat : Int) = 95 ∨ (s[k].toNat : Int) = 96 ∨ (97 ≤ (s[k].toNat : Int) ∧ (s[k].toNat : Int) ≤ 122) ∨ 123 ≤ (s[k].toNat : Int) by omega) with h | ⟨h, h'⟩ | ⟨h, h'⟩ | ⟨h, h'⟩ | ⟨h, h'⟩ | h | h | ⟨h, h'⟩ | h
      all_goals
        go_wp2
        all_goals
          try simp only [bne_eq_false_iff_eq, bne_iff_ne, ne_eq, Bool.not_eq_false', Bool.not_eq_true', decide_eq_true_eq, decide_eq_false_iff_not] at *
          first
          | (exfalso; omega)
          | (go_ret
             exact ⟨ret_bool (HNO.out (by rw [HC.out _ rfl, decide_eq_false_iff_not]; omega)).symm, rfl⟩)
          | (go_round
             case rel => exact ⟨k + 1, by omega, by go_num, HY.out (by rw [HC.out _ rfl, decide_eq_true_iff]; omega)⟩
             case measure => simp [intOf]; omega)
    · have HW := Lib.hid (show M.word s.data.toList = (decide (1 ≤ s.size) && decide (s.size ≤ 16)) by
        have := HA.out
        rw [List.take_of_length_le (by simp; omega)] at this
        unfold M.word
        rw [this]
        simp)
      by_cases h1 : 1 ≤ s.size
      · by_cases h2 : s.size ≤ 16
        · go_wp2
          go_ret
          exact ⟨ret_bool (by rw [HW.out, Bool.eq_iff_iff]; simp <;> omega), rfl⟩
        · go_wp2
          go_ret
          exact ⟨ret_bool (by rw [HW.out, Bool.eq_iff_iff]; simp <;> omega), rfl⟩
      · go_wp2
        go_ret
        exact ⟨ret_bool (by rw [HW.out, Bool.eq_iff_iff]; simp <;> omega), rfl⟩
set_option maxHeartbeats 4000000 in
theorem refRight_any (e : M.E) (w : World) (hv : e.v.size ≤ maxLen) (hx : e.x.size ≤ maxLen) :
    Calls Try.prog 33 #[e.val] w fun r w' => r = .returned (.bool (M.right e)) ∧ Below w.heap.size w w' := by
  obtain ⟨a, b, v, x⟩ := e
  unfold M.right M.rising M.E.val
  dsimp only at hv hx ⊢
  obtain ⟨wv, hwv⟩ : ∃ r, M.word v.data.toList = r := ⟨_, rfl⟩
  obtain ⟨wx, hwx⟩ : ∃ r, M.word x.data.toList = r := ⟨_, rfl⟩
  rw [hwv, hwx]
  have HV := Lib.hid hwv
  have HX := Lib.hid hwx
  clear hwv hwx
  have hb0 : Below w.heap.size w (w.alloc (.cells #[.int .i64 a, .int .i64 b, .string v, .string x] 36)) := (Below.refl _ _).alloc (Nat.le_refl _) _
  have HB0 := Lib.hid hb0
  clear hb0
  rcases (show (0 ≤ a ∧ a ≤ b ∧ b ≤ 1114111) ∨ a < 0 ∨ (0 ≤ a ∧ b < a) ∨ (0 ≤ a ∧ a ≤ b ∧ 1114111 < b) by omega) with ⟨h1, h2, h3⟩ | h1 | ⟨h1, h2⟩ | ⟨h1, h2, h3⟩
  all_goals
    by_cases hx0 : x.data.toList = []
    · obtain rfl : x = ByteArray.empty := by rw [← M.bytes_self x, hx0]; rfl
      cases wv
      all_goals
        go_enter Try.func33, Try.ntmps33
        go_wp2_with fail
        refine (refWord_any v _ hv).mono ?_
        rintro e w2 ⟨rfl, rfl⟩
        rw [HV.out]
        go_wp2
        go_ret
        exact ⟨ret_bool (by rw [Bool.eq_iff_iff]; simp <;> omega), HB0.out⟩
    · have hl0 : ¬ x.toList = [] := by rw [toList_nil]; exact hx0
      have hl1 : x.toList.isEmpty = false := by rw [List.isEmpty_eq_false_iff]; exact hl0
      cases wv
      all_goals
        cases wx
        all_goals
          go_enter Try.func33, Try.ntmps33
          go_wp2_with fail
          refine (refWord_any v _ hv).mono ?_
          rintro e w2 ⟨rfl, rfl⟩
          rw [HV.out]
          go_wp2_with fail
          refine (refWord_any x _ hx).mono ?_
          rintro e w3 ⟨rfl, rfl⟩
          rw [HX.out]
          go_wp2
          go_ret
          exact ⟨ret_bool (by rw [Bool.eq_iff_iff]; simp [hx0] <;> omega), HB0.out⟩
end Go.Proofs.Ytjbpjnnflcmmhaa
