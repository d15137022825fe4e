/- The contracts of the document's right, side and near. Conditions: the slices read as lists, at most a thousand long; near's levels are from -1; side's from 0 to a thousand. -/
import Derived.Test.YticiofpbijahbaaGF
section
namespace Go.Proofs.Yticiofpbijahbaa
open Go.RowKit
set_option maxRecDepth 100000

set_option maxHeartbeats 4000000 in
theorem right_any (A B : Option Addr) (ca cb n m : Nat) (l lv : List Int) (bs : Int) (w : World) (hr : RdS .i64 w w.heap.size A l) (hn : l.length = n) (hl : n ≤ 1000) (hr2 : RdS .i64 w w.heap.size B lv) (hm : lv.length = m) (hl2 : m ≤ 1000) :
    Calls Try.prog 23 #[.slice A n ca, .slice B m cb, .int .i64 bs] w (Tells (M.Fits l lv bs) w) := by
  have HR := Lib.hid hr
  have HR2 := Lib.hid hr2
  have HN := Lib.hid hn
  have HM := Lib.hid hm
  have hl1 : (n : Int) ≤ 1000 := by omega
  have hl21 : (m : Int) ≤ 1000 := by omega
  clear hr hr2 hn hm
  by_cases hnm : n = m
  · subst hnm
    by_cases hb0 : bs < 0
    · have HF := Lib.hid (show ¬ M.Fits l lv bs from fun h => by have := h.base; omega)
      go_enter Try.func23, Try.ntmps23
      go_wp2_with fail
      go_ret
      exact ⟨false, rfl, ⟨fun h => by (cases h), fun h => absurd h HF.out⟩, rfl⟩
    by_cases hb1 : 1 < bs
    · have HF := Lib.hid (show ¬ M.Fits l lv bs from fun h => by have := h.base; omega)
      go_enter Try.func23, Try.ntmps23
      go_wp2_with fail
      go_ret
      exact ⟨false, rfl, ⟨fun h => by (cases h), fun h => absurd h HF.out⟩, rfl⟩
    have hb01 : bs = 0 ∨ bs = 1 := by omega
    have HB01 := Lib.hid hb01
    clear hb01
    go_enter Try.func23, Try.ntmps23
    go_wp2_with fail
    go_loop [7] (fun v => ∃ k : Nat, k ≤ n ∧ v = .int .i64 k ∧ M.FitTo l lv k) (fun v => n - (intOf v).toNat)
    case atStart => exact ⟨0, Nat.zero_le _, rfl, fun i _ _ hi => by omega⟩
    case round =>
      obtain ⟨k, hk, rfl, hto⟩ := hrel
      have HT := Lib.hid hto
      have hk0 : (0 : Int) ≤ (k : Int) := by omega
      clear hto
      by_cases hlt : k < n
      · obtain ⟨ad, c, rfl, hcc, hc, -⟩ := rd_at HR.out (Below.refl _ _) (by rw [HN.out]; exact hlt : k < l.length)
        obtain ⟨ad2, x, rfl, hcx, hx, -⟩ := rd_at HR2.out (Below.refl _ _) (by rw [HM.out]; exact hlt : k < lv.length)
        have hk1 : (k : Int) < (n : Int) := by omega
        have HC := Lib.hid hc
        have HX := Lib.hid hx
        have HRM := Lib.hid (removed_any c w)
        obtain ⟨b, hb⟩ : ∃ b, M.removed c = b := ⟨_, rfl⟩
        rw [hb] at HRM
        have HB := Lib.hid hb
        clear hc hx hb
        by_cases h1 : x < -1
        · have HF := Lib.hid (show ¬ M.Fits l lv bs from fun h => by have := ((M.fits_iff.1 h).2.2 k c x (by rw [HM.out]; omega) HC.out HX.out).1; omega)
          go_wp2_with fail
          refine HRM.out.mono ?_
          rintro r w1 ⟨rfl, rfl⟩
          go_wp2_with fail
          go_ret
          exact ⟨false, rfl, ⟨fun h => by (cases h), fun h => absurd h HF.out⟩, rfl⟩
        · by_cases h2 : 125 < x
          · have HF := Lib.hid (show ¬ M.Fits l lv bs from fun h => by have := ((M.fits_iff.1 h).2.2 k c x (by rw [HM.out]; omega) HC.out HX.out).2.1; omega)
            go_wp2_with fail
            refine HRM.out.mono ?_
            rintro r w1 ⟨rfl, rfl⟩
            go_wp2_with fail
            go_ret
            exact ⟨false, rfl, ⟨fun h => by (cases h), fun h => absurd h HF.out⟩, rfl⟩
          · by_cases h3 : x = -1
            · subst h3
              cases b with
              | true =>
                have HT2 := Lib.hid (HT.out.next HC.out HX.out ⟨by omega, by omega, by simp [HB.out]⟩)
                go_wp2_with fail
                refine HRM.out.mono ?_
                rintro r w1 ⟨rfl, rfl⟩
                go_wp2_with fail
                go_round
                case rel => exact ⟨k + 1, by omega, by go_num, HT2.out⟩
                case measure => simp [intOf]; omega
              | false =>
                have HF := Lib.hid (show ¬ M.Fits l lv bs from fun h => by have := ((M.fits_iff.1 h).2.2 k c _ (by rw [HM.out]; omega) HC.out HX.out).2.2.1 rfl; rw [HB.out] at this; cases this)
                go_wp2_with fail
                refine HRM.out.mono ?_
                rintro r w1 ⟨rfl, rfl⟩
                go_wp2_with fail
                go_ret
                exact ⟨false, rfl, ⟨fun h => by (cases h), fun h => absurd h HF.out⟩, rfl⟩
            · have h3' : (x == -1) = false := by simp [h3]
              cases b with
              | true =>
                have HF := Lib.hid (show ¬ M.Fits l lv bs from fun h => by have := ((M.fits_iff.1 h).2.2 k c _ (by rw [HM.out]; omega) HC.out HX.out).2.2.2 HB.out; omega)
                go_wp2_with fail
                refine HRM.out.mono ?_
                rintro r w1 ⟨rfl, rfl⟩
                go_wp2_with fail
                go_ret
                exact ⟨false, rfl, ⟨fun h => by (cases h), fun h => absurd h HF.out⟩, rfl⟩
              | false =>
                have HT2 := Lib.hid (HT.out.next HC.out HX.out ⟨by omega, by omega, by rw [HB.out]; simp [h3]⟩)
                go_wp2_with fail
                refine HRM.out.mono ?_
                rintro r w1 ⟨rfl, rfl⟩
                go_wp2_with fail
                go_round
                case rel => exact ⟨k + 1, by omega, by go_num, HT2.out⟩
                case measure => simp [intOf]; omega
      · obtain rfl : k = n := by omega
        have hk1 : ¬ (k : Int) < (k : Int) := by omega
        go_wp2_with fail
        go_ret
        exact ⟨true, rfl, ⟨fun _ => M.fits_iff.2 ⟨HB01.out, by rw [HN.out, HM.out], by rw [HM.out]; exact HT.out⟩, fun _ => rfl⟩, rfl⟩
  · have hnm' : ¬ (n : Int) = m := by omega
    have HF := Lib.hid (show ¬ M.Fits l lv bs from fun h => by have := h.len; rw [HN.out, HM.out] at this; exact hnm this)
    go_enter Try.func23, Try.ntmps23
    go_wp2_with fail
    go_ret
    exact ⟨false, rfl, ⟨fun h => by (cases h), fun h => absurd h HF.out⟩, rfl⟩

theorem refside_any (a b : Int) (w : World) (ha : 0 ≤ a) (ha1 : a ≤ 1000) (hb : 0 ≤ b) (hb1 : b ≤ 1000) : Calls Try.prog 29 #[.int .i64 a, .int .i64 b] w fun r w' => r = .returned (.int .i64 (M.sd a b)) ∧ w = w' := by
  have H := Lib.hid (show M.sd a b = if max a b % 2 = 0 then 0 else 1 from rfl)
  rcases Int.lt_or_le a b with h | h
  · rw [Int.max_eq_right (by omega)] at H
    rcases Int.emod_two_eq b with h2 | h2
    · go_enter Try.func29, Try.ntmps29
      go_wp2_with fail
      go_ret
      exact ⟨ret_int (by rw [H.out, if_pos h2]), rfl⟩
    · go_enter Try.func29, Try.ntmps29
      go_wp2_with fail
      go_ret
      exact ⟨ret_int (by rw [H.out, if_neg (by omega)]), rfl⟩
  · rw [Int.max_eq_left (by omega)] at H
    rcases Int.emod_two_eq a with h2 | h2
    · go_enter Try.func29, Try.ntmps29
      go_wp2_with fail
      go_ret
      exact ⟨ret_int (by rw [H.out, if_pos h2]), rfl⟩
    · go_enter Try.func29, Try.ntmps29
      go_wp2_with fail
      go_ret
      exact ⟨ret_int (by rw [H.out, if_neg (by omega)]), rfl⟩

set_option maxHeartbeats 4000000 in
theorem near_up (B : Option Addr) (cb m k0 : Nat) (lv : List Int) (b : Int) (w : World) (hr2 : RdS .i64 w w.heap.size B lv) (hm : lv.length = m) (hl2 : m ≤ 1000) (hge : ∀ x ∈ lv, -1 ≤ x) (hk : k0 ≤ m) :
    Calls Try.prog 27 #[.slice B m cb, .int .i64 k0, .int .i64 1, .int .i64 b] w fun r w' => r = .returned (.int .i64 (M.near b (lv.drop k0))) ∧ w = w' := by
  have HR2 := Lib.hid hr2
  have HM := Lib.hid hm
  have HG := Lib.hid hge
  have hl21 : (m : Int) ≤ 1000 := by omega
  obtain ⟨R, hR⟩ : ∃ R, M.near b (lv.drop k0) = R := ⟨_, rfl⟩
  rw [hR]
  have HRR := Lib.hid hR
  clear hr2 hm hge hR
  go_enter Try.func27, Try.ntmps27
  go_wp2_with fail
  go_loop [1] (fun v => ∃ k : Nat, k ≤ m ∧ v = .int .i64 k ∧ M.near b (lv.drop k) = R) (fun v => m - (intOf v).toNat)
  case atStart => exact ⟨k0, hk, rfl, HRR.out⟩
  case round =>
    obtain ⟨k, hkm, rfl, hto⟩ := hrel
    have HT := Lib.hid hto
    have hk0' : (0 : Int) ≤ (k : Int) := by omega
    clear hto
    by_cases hlt : k < m
    · obtain ⟨ad2, x, rfl, hcx, hx, -⟩ := rd_at HR2.out (Below.refl _ _) (by rw [HM.out]; exact hlt : k < lv.length)
      have hk1 : (k : Int) < (m : Int) := by omega
      have hx1 := HG.out x (List.mem_of_getElem? hx)
      have hd := M.drop_next hx
      have h1 := HT.out
      rw [hd] at h1
      have H1 := Lib.hid h1
      clear hx hd h1
      by_cases hxm : x = -1
      · subst hxm
        rw [M.near_gap] at H1
        go_wp2_with fail
        go_round
        case rel => exact ⟨k + 1, by omega, by go_num, H1.out⟩
        case measure => simp [intOf]; omega
      · rw [M.near_on hxm] at H1
        have hx0 : 0 ≤ x := by omega
        go_wp2_with fail
        go_ret
        exact ⟨ret_int H1.out, rfl⟩
    · obtain rfl : k = m := by omega
      have hk1 : ¬ (k : Int) < (k : Int) := by omega
      have h1 := HT.out
      rw [List.drop_eq_nil_of_le (by rw [HM.out]; exact Nat.le_refl _)] at h1
      have H1 := Lib.hid (show b = R from h1)
      clear h1
      go_wp2_with fail
      go_ret
      exact ⟨ret_int H1.out, rfl⟩
set_option maxHeartbeats 4000000 in
theorem near_down (B : Option Addr) (cb m k0 : Nat) (lv : List Int) (b p : Int) (w : World) (hr2 : RdS .i64 w w.heap.size B lv) (hm : lv.length = m) (hl2 : m ≤ 1000) (hge : ∀ x ∈ lv, -1 ≤ x) (hk : k0 ≤ m) (hp : p + 1 = k0) :
    Calls Try.prog 27 #[.slice B m cb, .int .i64 p, .int .i64 (-1), .int .i64 b] w fun r w' => r = .returned (.int .i64 (M.near b (lv.take k0).reverse)) ∧ w = w' := by
  have HR2 := Lib.hid hr2
  have HM := Lib.hid hm
  have HG := Lib.hid hge
  have hl21 : (m : Int) ≤ 1000 := by omega
  obtain ⟨R, hR⟩ : ∃ R, M.near b (lv.take k0).reverse = R := ⟨_, rfl⟩
  rw [hR]
  have HRR := Lib.hid hR
  clear hr2 hm hge hR
  go_enter Try.func27, Try.ntmps27
  go_wp2_with fail
  go_loop [1] (fun v => ∃ (k : Nat) (q : Int), k ≤ m ∧ v = .int .i64 q ∧ q + 1 = k ∧ M.near b (lv.take k).reverse = R) (fun v => (intOf v + 1).toNat)
  case atStart => exact ⟨k0, p, hk, rfl, hp, HRR.out⟩
  case round =>
    obtain ⟨k, q, hkm, rfl, hq, hto⟩ := hrel
    have HT := Lib.hid hto
    clear hto
    cases k with
    | zero =>
      have H1 := Lib.hid (show b = R from HT.out)
      have hq0 : ¬ 0 ≤ q := by omega
      clear hq
      go_wp2_with fail
      go_ret
      exact ⟨ret_int H1.out, rfl⟩
    | succ k =>
      obtain rfl : q = (k : Nat) := by omega
      have hk0' : (0 : Int) ≤ (k : Int) := by omega
      obtain ⟨ad2, x, rfl, hcx, hx, -⟩ := rd_at HR2.out (Below.refl _ _) (by rw [HM.out]; omega : k < lv.length)
      have hk1 : (k : Int) < (m : Int) := by omega
      have hx1 := HG.out x (List.mem_of_getElem? hx)
      have hd := M.take_next hx
      have h1 := HT.out
      rw [hd] at h1
      have H1 := Lib.hid h1
      clear hx hd h1
      by_cases hxm : x = -1
      · subst hxm
        rw [M.near_gap] at H1
        have hw1 : IntKind.i64.wrap ((k : Int) + -1) = (k : Int) - 1 := by rw [IntKind.wrap_i64]; omega
        go_wp2_with fail
        go_round
        case rel => exact ⟨k, (k : Int) - 1, by omega, by go_num, by omega, H1.out⟩
        case measure => simp [intOf]
      · rw [M.near_on hxm] at H1
        have hx0 : 0 ≤ x := by omega
        go_wp2_with fail
        go_ret
        exact ⟨ret_int H1.out, rfl⟩
end Go.Proofs.Yticiofpbijahbaa
end
