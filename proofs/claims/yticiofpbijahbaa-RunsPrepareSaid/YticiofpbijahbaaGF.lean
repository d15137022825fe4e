/- The contracts of package runs' isBase, begins, removed, side and fit. Conditions: side's levels are from 0 to a thousand; fit's slices read as lists, at most a thousand long. -/
/- The contract of package runs' fit. Condition: both slices read as lists, at most a thousand long. -/
import Derived.Test.YticiofpbijahbaaGD
import Derived.Test.YticiofpbijahbaaGE
section
namespace Go.Proofs.Yticiofpbijahbaa
open Go.RowKit
set_option maxRecDepth 100000

theorem isBase_any (b : Int) (w : World) : Calls Try.prog 18 #[.int .i64 b] w fun r w' => r = .returned (.bool (decide (b = 0) || decide (b = 1))) ∧ w = w' := by
  go_enter Try.func18, Try.ntmps18
  go_wp2_with fail
  all_goals
    go_ret
    exact ⟨ret_bool (by rw [Bool.eq_iff_iff]; simp_all), rfl⟩
theorem rbegins_any (c : Int) (w : World) : Calls Try.prog 22 #[.int .i64 c] w fun r w' => r = .returned (.bool (M.begins c)) ∧ w = w' := by
  have H := Lib.hid (show M.begins c = (decide (c = 19) || (decide (c = 20) || decide (c = 21))) from rfl)
  go_enter Try.func22, Try.ntmps22
  go_wp2_with fail
  all_goals
    go_ret
    exact ⟨ret_bool (by rw [H.out, Bool.eq_iff_iff]; simp_all), rfl⟩
theorem rremoved_any (c : Int) (w : World) : Calls Try.prog 38 #[.int .i64 c] w fun r w' => r = .returned (.bool (M.removed c)) ∧ w = w' := by
  have H := Lib.hid (show M.removed c = (decide (c = 14) || (decide (c = 16) || (decide (c = 15) || (decide (c = 17) || (decide (c = 18) || decide (c = 9)))))) from rfl)
  go_enter Try.func38, Try.ntmps38
  go_wp2_with fail
  all_goals
    go_ret
    exact ⟨ret_bool (by rw [H.out, Bool.eq_iff_iff]; simp_all), rfl⟩
theorem rside_any (a b : Int) (w : World) (ha : 0 ≤ a) (ha1 : a ≤ 1000) (hb : 0 ≤ b) (hb1 : b ≤ 1000) : Calls Try.prog 21 #[.int .i64 a, .int .i64 b] w fun r w' => r = .returned (.int .i64 (M.sd a b)) ∧ w = w' := by
  have H := Lib.hid (show M.sd a b = if max a b % 2 = 0 then 0 else 1 from rfl)
  rcases Int.lt_or_le a b with h | h
  · rw [Int.max_eq_right (by omega)] at H
    rcases Int.emod_two_eq b with h2 | h2
    · go_enter Try.func21, Try.ntmps21
      go_wp2_with fail
      go_ret
      exact ⟨ret_int (by rw [H.out, if_pos h2]), rfl⟩
    · go_enter Try.func21, Try.ntmps21
      go_wp2_with fail
      go_ret
      exact ⟨ret_int (by rw [H.out, if_neg (by omega)]), rfl⟩
  · rw [Int.max_eq_left (by omega)] at H
    rcases Int.emod_two_eq a with h2 | h2
    · go_enter Try.func21, Try.ntmps21
      go_wp2_with fail
      go_ret
      exact ⟨ret_int (by rw [H.out, if_pos h2]), rfl⟩
    · go_enter Try.func21, Try.ntmps21
      go_wp2_with fail
      go_ret
      exact ⟨ret_int (by rw [H.out, if_neg (by omega)]), rfl⟩
end Go.Proofs.Yticiofpbijahbaa
end

section
namespace Go.Proofs.Yticiofpbijahbaa
open Go.RowKit
set_option maxRecDepth 100000

/-- Whether a level may be a class's. -/
def M.okc (c x : Int) : Prop := -1 ≤ x ∧ x ≤ 125 ∧ (x = -1 ↔ M.removed c = true)
/-- The first k levels may be those of classes. -/
def M.FitTo (l lv : List Int) (k : Nat) : Prop := ∀ (i : Nat) (c x : Int), i < k → l[i]? = some c → lv[i]? = some x → M.okc c x
theorem M.FitTo.next {l lv : List Int} {k : Nat} {c x : Int} (h : M.FitTo l lv k) (hc : l[k]? = some c) (hx : lv[k]? = some x) (ho : M.okc c x) : M.FitTo l lv (k + 1) := fun i c' x' hi hc' hx' => by
  rcases Nat.lt_or_ge i k with h1 | h1
  · exact h i c' x' h1 hc' hx'
  · obtain rfl : i = k := by omega
    rw [hc] at hc'
    rw [hx] at hx'
    obtain rfl := Option.some.inj hc'
    obtain rfl := Option.some.inj hx'
    exact ho
def M.FitL (l lv : List Int) : Prop := l.length = lv.length ∧ M.FitTo l lv lv.length
theorem M.fits_iff {l lv : List Int} {b : Int} : M.Fits l lv b ↔ (b = 0 ∨ b = 1) ∧ M.FitL l lv :=
  ⟨fun h => ⟨h.base, h.len, fun i c x _ hc hx => h.at_ i c x hc hx⟩, fun h => ⟨h.1, h.2.1, fun i c x hc hx => h.2.2 i c x ((List.getElem?_eq_some_iff.1 hx).1) hc hx⟩⟩
/-- Whether it is so. -/
def Tells (p : Prop) (w : World) (r : Ending) (w' : World) : Prop := ∃ b : Bool, r = .returned (.bool b) ∧ (b = true ↔ p) ∧ w = w'
set_option maxHeartbeats 4000000 in
theorem fit_any (A B : Option Addr) (ca cb n m : Nat) (l lv : List Int) (w : World) (hr : RdS .i64 w w.heap.size A l) (hn : l.length = n) (hl : n ≤ 1000) (hr2 : RdS .i64 w w.heap.size B lv) (hm : lv.length = m) (hl2 : m ≤ 1000) :
    Calls Try.prog 19 #[.slice A n ca, .slice B m cb] w (Tells (M.FitL l lv) w) := by
  have HR := Lib.hid hr
  have HR2 := Lib.hid hr2
  have HN := Lib.hid hn
  have HM := Lib.hid hm
  have hl1 : (n : Int) ≤ 1000 := by omega
  clear hr hr2 hn hm
  by_cases hnm : n = m
  · subst hnm
    go_enter Try.func19, Try.ntmps19
    go_wp2_with fail
    go_loop [14] (fun v => ∃ k : Nat, k ≤ n ∧ v = .int .i64 k ∧ M.FitTo l lv k) (fun v => n - (intOf v).toNat)
    case atStart => exact ⟨0, Nat.zero_le _, rfl, fun i _ _ hi => by omega⟩
    case round =>
      obtain ⟨k, hk, rfl, hto⟩ := hrel
      have HT := Lib.hid hto
      have hk0 : (0 : Int) ≤ (k : Int) := by omega
      clear hto
      by_cases hlt : k < n
      · obtain ⟨ad, c, rfl, hcc, hc, -⟩ := rd_at HR.out (Below.refl _ _) (by rw [HN.out]; exact hlt : k < l.length)
        obtain ⟨ad2, x, rfl, hcx, hx, -⟩ := rd_at HR2.out (Below.refl _ _) (by rw [HM.out]; exact hlt : k < lv.length)
        have hk1 : (k : Int) < (n : Int) := by omega
        have HC := Lib.hid hc
        have HX := Lib.hid hx
        have HRM := Lib.hid (rremoved_any c w)
        obtain ⟨b, hb⟩ : ∃ b, M.removed c = b := ⟨_, rfl⟩
        rw [hb] at HRM
        have HB := Lib.hid hb
        clear hc hx hb
        by_cases h1 : x < -1
        · have HF := Lib.hid (show ¬ M.FitL l lv from fun h => by have := (h.2 k c x (by rw [HM.out]; omega) HC.out HX.out).1; omega)
          go_wp2_with fail
          go_ret
          exact ⟨false, rfl, ⟨fun h => by (cases h), fun h => absurd h HF.out⟩, rfl⟩
        · by_cases h2 : 125 < x
          · have HF := Lib.hid (show ¬ M.FitL l lv from fun h => by have := (h.2 k c x (by rw [HM.out]; omega) HC.out HX.out).2.1; omega)
            go_wp2_with fail
            go_ret
            exact ⟨false, rfl, ⟨fun h => by (cases h), fun h => absurd h HF.out⟩, rfl⟩
          · by_cases h3 : x = -1
            · subst h3
              cases b with
              | true =>
                have HT2 := Lib.hid (HT.out.next HC.out HX.out ⟨by omega, by omega, by simp [HB.out]⟩)
                go_wp2_with fail
                refine HRM.out.mono ?_
                rintro r w1 ⟨rfl, rfl⟩
                go_wp2_with fail
                go_round
                case rel => exact ⟨k + 1, by omega, by go_num, HT2.out⟩
                case measure => simp [intOf]; omega
              | false =>
                have HF := Lib.hid (show ¬ M.FitL l lv from fun h => by have := (h.2 k c _ (by rw [HM.out]; omega) HC.out HX.out).2.2.1 rfl; rw [HB.out] at this; cases this)
                go_wp2_with fail
                refine HRM.out.mono ?_
                rintro r w1 ⟨rfl, rfl⟩
                go_wp2_with fail
                go_ret
                exact ⟨false, rfl, ⟨fun h => by (cases h), fun h => absurd h HF.out⟩, rfl⟩
            · have h3' : (x == -1) = false := by simp [h3]
              cases b with
              | true =>
                have HF := Lib.hid (show ¬ M.FitL l lv from fun h => by have := (h.2 k c _ (by rw [HM.out]; omega) HC.out HX.out).2.2.2 HB.out; omega)
                go_wp2_with fail
                refine HRM.out.mono ?_
                rintro r w1 ⟨rfl, rfl⟩
                go_wp2_with fail
                go_ret
                exact ⟨false, rfl, ⟨fun h => by (cases h), fun h => absurd h HF.out⟩, rfl⟩
              | false =>
                have HT2 := Lib.hid (HT.out.next HC.out HX.out ⟨by omega, by omega, by rw [HB.out]; simp [h3]⟩)
                go_wp2_with fail
                refine HRM.out.mono ?_
                rintro r w1 ⟨rfl, rfl⟩
                go_wp2_with fail
                go_round
                case rel => exact ⟨k + 1, by omega, by go_num, HT2.out⟩
                case measure => simp [intOf]; omega
      · obtain rfl : k = n := by omega
        have hk1 : ¬ (k : Int) < (k : Int) := by omega
        go_wp2_with fail
        go_ret
        exact ⟨true, rfl, ⟨fun _ => ⟨by rw [HN.out, HM.out], by rw [HM.out]; exact HT.out⟩, fun _ => rfl⟩, rfl⟩
  · have hnm' : ¬ (n : Int) = m := by omega
    have HF := Lib.hid (show ¬ M.FitL l lv from fun h => by have := h.1; rw [HN.out, HM.out] at this; exact hnm this)
    have hl21 : (m : Int) ≤ 1000 := by omega
    go_enter Try.func19, Try.ntmps19
    go_wp2_with fail
    go_ret
    exact ⟨false, rfl, ⟨fun h => by (cases h), fun h => absurd h HF.out⟩, rfl⟩
end Go.Proofs.Yticiofpbijahbaa
end
