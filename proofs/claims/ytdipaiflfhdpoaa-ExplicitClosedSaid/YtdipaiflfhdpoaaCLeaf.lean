/- The contracts of package explicit's begins, makes, counted and Strong. Condition of the last: the slice reads as a list of classes, at most a thousand long. -/
import Derived.Test.YtdipaiflfhdpoaaIso
namespace Go.Proofs.Ytdipaiflfhdpoaa
open Go.RowKit

theorem cbegins_any (c : Int) (w : World) : Calls Try.prog 23 #[.int .i64 c] w fun r w' => r = .returned (.bool (M.begins c)) ∧ w = w' := by
  have H := Lib.hid (show M.begins c = (decide (c = 19) || (decide (c = 20) || decide (c = 21))) from rfl)
  go_enter Try.func23, Try.ntmps23
  go_wp2_with fail
  all_goals
    go_ret
    exact ⟨ret_bool (by rw [H.out, Bool.eq_iff_iff]; simp_all), rfl⟩
theorem ret_mk {a b : Int} {p q : Bool} (h : a = b) (h2 : p = q) : Ending.returned (.tuple #[.int .i64 a, .bool p]) = .returned (.tuple #[.int .i64 b, .bool q]) := by rw [h, h2]
theorem makes_any (c : Int) (w : World) : Calls Try.prog 22 #[.int .i64 c] w fun r w' => r = .returned (.tuple #[.int .i64 (M.side c), .bool (M.isStr c)]) ∧ w = w' := by
  have H := Lib.hid (show M.side c = if c = 1 ∨ c = 2 then 1 else 0 from rfl)
  have H2 := Lib.hid (show M.isStr c = (decide (c = 0) || (decide (c = 1) || decide (c = 2))) from rfl)
  go_enter Try.func22, Try.ntmps22
  go_wp2_with fail
  all_goals
    go_ret2
    exact ⟨ret_mk (by rw [H.out]; simp_all) (by rw [H2.out, Bool.eq_iff_iff]; simp_all), rfl⟩
theorem counted_any (c : Int) (w : World) : Calls Try.prog 27 #[.int .i64 c] w fun r w' => r = .returned (.int .i64 (M.known c)) ∧ w = w' := by
  have H := Lib.hid (show M.known c = if c < 0 ∨ 22 < c then 13 else c from rfl)
  go_enter Try.func27, Try.ntmps27
  go_wp2_with fail
  all_goals
    go_ret
    exact ⟨ret_int (by rw [H.out]; split <;> omega), rfl⟩
set_option maxHeartbeats 4000000 in
theorem cstrong_any (A : Option Addr) (ca n : Nat) (l : List Int) (w : World) (hr : RdS .i64 w w.heap.size A l) (hn : l.length = n) (hl : n ≤ 1000) :
    Calls Try.prog 13 #[.slice A n ca] w fun r w' => r = .returned (.int .i64 (M.strong l)) ∧ w = w' := by
  have HR := Lib.hid hr
  have HN := Lib.hid hn
  have hl1 : (n : Int) ≤ 1000 := by omega
  clear hr hn
  go_enter Try.func13, Try.ntmps13
  go_wp2_with fail
  go_loop [3, 10] (fun dv v => ∃ (i : Nat) (d : Int), i ≤ n ∧ v = .int .i64 i ∧ dv = .int .i64 d ∧ 0 ≤ d ∧ d ≤ i ∧ M.strong l = M.cstr d (l.drop i)) (fun _ v => n - (intOf v).toNat)
  case atStart => exact ⟨0, 0, by omega, by go_num, rfl, by omega, by omega, (M.cstr_strong l).symm⟩
  case round =>
    obtain ⟨i, d, hi, rfl, rfl, hd, hdi, he⟩ := hrel
    by_cases hlt : i < n
    · obtain ⟨ad, c, rfl, hcc, hc, -⟩ := rd_at HR.out (Below.refl _ _) (by rw [HN.out]; exact hlt : i < l.length)
      have hi0 : (0 : Int) ≤ (i : Int) := by omega
      have hi1 : (i : Int) < (n : Int) := by omega
      have HE := Lib.hid (he.trans (M.cstr_at hc))
      have HBC := Lib.hid (cbegins_any c w)
      have HMK := Lib.hid (makes_any c w)
      obtain ⟨b, hb⟩ : ∃ b, M.begins c = b := ⟨_, rfl⟩
      obtain ⟨s, hs⟩ : ∃ s, M.isStr c = s := ⟨_, rfl⟩
      obtain ⟨t, ht⟩ : ∃ t, M.side c = t := ⟨_, rfl⟩
      rw [hb] at HBC HE
      rw [hs] at HMK HE
      rw [ht] at HMK HE
      clear he hc hb hs ht
      by_cases h10 : c = 10
      · rw [if_pos h10] at HE
        subst h10
        go_wp2_with fail
        refine HMK.out.mono ?_
        rintro r w1 ⟨rfl, rfl⟩
        go_wp2_with fail
        go_ret
        exact ⟨ret_int (by rw [HE.out]), rfl⟩
      · rw [if_neg h10] at HE
        cases b with
        | true =>
          rw [if_pos rfl] at HE
          go_wp2_with fail
          refine HMK.out.mono ?_
          rintro r w1 ⟨rfl, rfl⟩
          go_wp2_with fail
          refine HBC.out.mono ?_
          rintro r w1 ⟨rfl, rfl⟩
          go_wp2_with fail
          go_round
          case rel => exact ⟨i + 1, d + 1, by omega, by go_num, rfl, by omega, by omega, HE.out⟩
          case measure => simp [intOf]; omega
        | false =>
          rw [if_neg (by simp)] at HE
          by_cases h22 : c = 22
          · rw [if_pos h22] at HE
            subst h22
            by_cases h1 : d - 1 < 0
            · rw [if_pos h1] at HE
              have hm : max (d - 1) 0 = 0 := by omega
              go_wp2_with fail
              refine HMK.out.mono ?_
              rintro r w1 ⟨rfl, rfl⟩
              go_wp2_with fail
              refine HBC.out.mono ?_
              rintro r w1 ⟨rfl, rfl⟩
              go_wp2_with fail
              go_round
              case rel => exact ⟨i + 1, 0, by omega, by go_num, rfl, by omega, by omega, HE.out⟩
              case measure => simp [intOf]; omega
            · rw [if_neg h1] at HE
              go_wp2_with fail
              refine HMK.out.mono ?_
              rintro r w1 ⟨rfl, rfl⟩
              go_wp2_with fail
              refine HBC.out.mono ?_
              rintro r w1 ⟨rfl, rfl⟩
              go_wp2_with fail
              go_round
              case rel => exact ⟨i + 1, d - 1, by omega, by go_num, rfl, by omega, by omega, HE.out⟩
              case measure => simp [intOf]; omega
          · rw [if_neg h22] at HE
            by_cases h1 : s = true ∧ d = 0
            · rw [if_pos h1] at HE
              obtain ⟨rfl, rfl⟩ := h1
              go_wp2_with fail
              refine HMK.out.mono ?_
              rintro r w1 ⟨rfl, rfl⟩
              go_wp2_with fail
              refine HBC.out.mono ?_
              rintro r w1 ⟨rfl, rfl⟩
              go_wp2_with fail
              go_ret
              exact ⟨ret_int (by rw [HE.out]), rfl⟩
            · rw [if_neg h1] at HE
              cases s with
              | true =>
                have hd0 : ¬ d = 0 := fun e => h1 ⟨rfl, e⟩
                clear h1
                go_wp2_with fail
                refine HMK.out.mono ?_
                rintro r w1 ⟨rfl, rfl⟩
                go_wp2_with fail
                refine HBC.out.mono ?_
                rintro r w1 ⟨rfl, rfl⟩
                go_wp2_with fail
                go_round
                case rel => exact ⟨i + 1, d, by omega, by go_num, rfl, by omega, by omega, HE.out⟩
                case measure => simp [intOf]; omega
              | false =>
                clear h1
                go_wp2_with fail
                refine HMK.out.mono ?_
                rintro r w1 ⟨rfl, rfl⟩
                go_wp2_with fail
                refine HBC.out.mono ?_
                rintro r w1 ⟨rfl, rfl⟩
                go_wp2_with fail
                go_round
                case rel => exact ⟨i + 1, d, by omega, by go_num, rfl, by omega, by omega, HE.out⟩
                case measure => simp [intOf]; omega
    · obtain rfl : i = n := by omega
      have HF := Lib.hid (show M.strong l = 0 by rw [he, List.drop_eq_nil_of_le (by rw [HN.out]; exact Nat.le_refl _)]; rfl)
      clear he
      go_wp2_with fail
      go_ret
      exact ⟨ret_int (by rw [HF.out]), rfl⟩
end Go.Proofs.Ytdipaiflfhdpoaa
