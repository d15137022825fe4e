/- The contract of the document's beside. Conditions: the slice reads as a list, at most a thousand long; an ET stands there. -/
import Derived.Test.YtanlclmlkpchfaaRWeak
namespace Go.Proofs.Ytanlclmlkpchfaa
open Go.RowKit
set_option maxRecDepth 100000

set_option maxHeartbeats 8000000 in
theorem refBeside_any (A : Option Addr) (ca n i : Nat) (l : List Int) (w : World) (hr : RdS .i64 w w.heap.size A l) (hn : l.length = n) (hl : n ≤ 1000) (h5 : l[i]? = some 5) :
    Calls Try.prog 25 #[.slice A n ca, .int .i64 i] w fun r w' => r = .returned (.bool (M.en5 (l.take i).reverse || M.en5 (l.drop (i + 1)))) ∧ w = w' := by
  have hi := (List.getElem?_eq_some_iff.1 h5).1
  obtain ⟨ad, _, rfl, -⟩ := rd_at hr (Below.refl _ _) hi
  have HR := Lib.hid hr
  have HN := Lib.hid hn
  have hl1 : (n : Int) ≤ 1000 := by omega
  have hi1 : (i : Int) < n := by omega
  have hi0 : (0 : Int) ≤ i := by omega
  obtain ⟨X, hX⟩ : ∃ X, M.en5 (l.take i).reverse = X := ⟨_, rfl⟩
  obtain ⟨Y, hY⟩ : ∃ Y, M.en5 (l.drop (i + 1)) = Y := ⟨_, rfl⟩
  have HX := Lib.hid (show M.en5 (l.take (i + 1)).reverse = X by rw [M.take_next' h5, M.en5_cons, if_pos rfl, hX])
  have HY := Lib.hid (show M.en5 (l.drop i) = Y by rw [M.drop_next' h5, M.en5_cons, if_pos rfl, hY])
  rw [hX, hY]
  clear hr hn hX hY h5 hi
  go_enter Try.func25, Try.ntmps25
  go_wp2_with fail
  go_loop [5] (fun v => ∃ (k : Nat) (q : Int), k ≤ i + 1 ∧ v = .int .i64 q ∧ q + 1 = k ∧ M.en5 (l.take k).reverse = X) (fun v => (intOf v + 1).toNat)
  case atStart => exact ⟨i + 1, (i : Int), Nat.le_refl _, rfl, by omega, HX.out⟩
  case round =>
    obtain ⟨k, q, hki, rfl, hq, hto⟩ := hrel
    have HT := Lib.hid hto
    clear hto
    cases k with
    | zero =>
      have hq0 : ¬ 0 ≤ q := by omega
      have HX1 := Lib.hid (show false = X from HT.out)
      clear hq
      go_wp2_with fail
      go_loop [6] (fun v => ∃ (m : Nat), m ≤ n ∧ v = .int .i64 m ∧ M.en5 (l.drop m) = Y) (fun v => n - (intOf v).toNat)
      case atStart => exact ⟨i, by omega, rfl, HY.out⟩
      case round =>
        obtain ⟨m, hmn, rfl, hto⟩ := hrel
        have HT2 := Lib.hid hto
        have hm0 : (0 : Int) ≤ m := by omega
        clear hto
        by_cases hlt : m < n
        · have hm1 : (m : Int) < n := by omega
          obtain ⟨ad', y, e', hcy, hy, -⟩ := rd_at HR.out (Below.refl _ _) (by rw [HN.out]; exact hlt : m < l.length)
          obtain rfl : ad = ad' := by injection e'
          have h1 := HT2.out
          rw [M.drop_next' hy, M.en5_cons] at h1
          have H1' := Lib.hid h1
          clear hy h1 e'
          by_cases h5 : y = 5
          · subst h5
            rw [if_pos rfl] at H1'
            go_wp2_with fail
            go_round
            case rel => exact ⟨m + 1, by omega, by go_num, H1'.out⟩
            case measure => simp [intOf]; omega
          · rw [if_neg h5] at H1'
            have b5' : (y == 5) = false := by simp; omega
            have HY1 := Lib.hid (show (y == 3) = Y by rw [← H1'.out]; rfl)
            clear h5
            go_wp2_with fail
            all_goals (go_ret; exact ⟨ret_bool (by rw [← HX1.out, ← HY1.out]; try simp_all), rfl⟩)
        · obtain rfl : m = n := by omega
          have hm1 : ¬ (m : Int) < (m : Int) := by omega
          have h1 := HT2.out
          rw [List.drop_eq_nil_of_le (by rw [HN.out]; exact Nat.le_refl _)] at h1
          have HY1 := Lib.hid (show false = Y from h1)
          clear h1
          go_wp2_with fail
          all_goals (go_ret; exact ⟨ret_bool (by rw [← HX1.out, ← HY1.out]; try simp_all), rfl⟩)
    | succ k =>
      obtain rfl : q = (k : Nat) := by omega
      have hk0 : (0 : Int) ≤ k := by omega
      have hk1 : (k : Int) < n := by omega
      obtain ⟨ad', x, e', hcx, hx, -⟩ := rd_at HR.out (Below.refl _ _) (by rw [HN.out]; omega : k < l.length)
      obtain rfl : ad = ad' := by injection e'
      have h1 := HT.out
      rw [M.take_next' hx, M.en5_cons] at h1
      have H1 := Lib.hid h1
      clear hx h1 hq e'
      by_cases h5 : x = 5
      · subst h5
        rw [if_pos rfl] at H1
        have hw1 : IntKind.i64.wrap ((k : Int) - 1) = (k : Int) - 1 := by rw [IntKind.wrap_i64]; omega
        go_wp2_with fail
        go_round
        case rel => exact ⟨k, (k : Int) - 1, by omega, rfl, by omega, H1.out⟩
        case measure => simp [intOf]
      · rw [if_neg h5] at H1
        have b5 : (x == 5) = false := by simp; omega
        have HX1 := Lib.hid (show (x == 3) = X by rw [← H1.out]; rfl)
        clear h5
        go_wp2_with fail
        go_loop [6] (fun v => ∃ (m : Nat), m ≤ n ∧ v = .int .i64 m ∧ M.en5 (l.drop m) = Y) (fun v => n - (intOf v).toNat)
        case atStart => exact ⟨i, by omega, rfl, HY.out⟩
        case round =>
          obtain ⟨m, hmn, rfl, hto⟩ := hrel
          have HT2 := Lib.hid hto
          have hm0 : (0 : Int) ≤ m := by omega
          clear hto
          by_cases hlt : m < n
          · have hm1 : (m : Int) < n := by omega
            obtain ⟨ad', y, e', hcy, hy, -⟩ := rd_at HR.out (Below.refl _ _) (by rw [HN.out]; exact hlt : m < l.length)
            obtain rfl : ad = ad' := by injection e'
            have h1 := HT2.out
            rw [M.drop_next' hy, M.en5_cons] at h1
            have H1' := Lib.hid h1
            clear hy h1 e'
            by_cases h5 : y = 5
            · subst h5
              rw [if_pos rfl] at H1'
              go_wp2_with fail
              go_round
              case rel => exact ⟨m + 1, by omega, by go_num, H1'.out⟩
              case measure => simp [intOf]; omega
            · rw [if_neg h5] at H1'
              have b5' : (y == 5) = false := by simp; omega
              have HY1 := Lib.hid (show (y == 3) = Y by rw [← H1'.out]; rfl)
              clear h5
              go_wp2_with fail
              all_goals (go_ret; exact ⟨ret_bool (by rw [← HX1.out, ← HY1.out]; try simp_all), rfl⟩)
          · obtain rfl : m = n := by omega
            have hm1 : ¬ (m : Int) < (m : Int) := by omega
            have h1 := HT2.out
            rw [List.drop_eq_nil_of_le (by rw [HN.out]; exact Nat.le_refl _)] at h1
            have HY1 := Lib.hid (show false = Y from h1)
            clear h1
            go_wp2_with fail
            all_goals (go_ret; exact ⟨ret_bool (by rw [← HX1.out, ← HY1.out]; try simp_all), rfl⟩)
end Go.Proofs.Ytanlclmlkpchfaa
