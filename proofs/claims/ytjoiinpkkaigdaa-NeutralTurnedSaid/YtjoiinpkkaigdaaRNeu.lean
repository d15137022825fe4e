/- The contracts of the document's Neutral, side and at. Conditions: the slice reads as a list, at most a thousand long; a neutral place. -/
import Derived.Test.YtjoiinpkkaigdaaBase
import Derived.Test.YtjoiinpkkaigdaaNeuM
import Derived.Handy
namespace Go.Proofs.Ytjoiinpkkaigdaa
open Go.RowKit
set_option maxRecDepth 100000

theorem M.take_next' {l : List Int} {k : Nat} {x : Int} (h : l[k]? = some x) : (l.take (k + 1)).reverse = x :: (l.take k).reverse := by
  obtain ⟨hk, rfl⟩ := List.getElem?_eq_some_iff.1 h
  rw [List.take_succ_eq_append_getElem hk]
  simp
theorem M.drop_next' {l : List Int} {k : Nat} {x : Int} (h : l[k]? = some x) : l.drop k = x :: l.drop (k + 1) := by
  obtain ⟨hk, rfl⟩ := List.getElem?_eq_some_iff.1 h
  exact List.drop_eq_getElem_cons hk
set_option maxHeartbeats 4000000 in
theorem refNeu_any (c : Int) (w : World) : Calls Try.prog 15 #[.int .i64 c] w fun r w' => r = .returned (.bool (decide (M.neu c))) ∧ w = w' := by
  have H := Lib.hid (show M.neu c ↔ (c = 10 ∨ c = 11 ∨ c = 12 ∨ c = 13 ∨ c = 19 ∨ c = 20 ∨ c = 21 ∨ c = 22) from Iff.rfl)
  go_enter Try.func15, Try.ntmps15
  go_wp2_with fail
  all_goals (go_ret; exact ⟨ret_bool (by rw [Bool.eq_iff_iff, decide_eq_true_iff, H.out]; simp_all), rfl⟩)
theorem refSide_any (c : Int) (w : World) : Calls Try.prog 26 #[.int .i64 c] w fun r w' => r = .returned (.int .i64 (M.sd2 c)) ∧ w = w' := by
  have H := Lib.hid (show M.sd2 c = if c = 0 then 0 else if c = 1 ∨ c = 3 ∨ c = 6 then 1 else 10 from rfl)
  go_enter Try.func26, Try.ntmps26
  go_wp2_with fail
  all_goals (go_ret; exact ⟨ret_int (by rw [H.out]; simp_all), rfl⟩)
/-- A struct of three numbers in a new block, under a name. -/
theorem new_three (w : World) (a b c : Int) (t : TypeId) : ∃ W : World, w.alloc (.cells #[.int .i64 a, .int .i64 b, .int .i64 c] t) = W ∧ Below w.heap.size w W ∧ W.cell? ⟨w.heap.size, 0, none⟩ = some (.int .i64 a) ∧ W.cell? ⟨w.heap.size, 1, none⟩ = some (.int .i64 b) ∧ W.cell? ⟨w.heap.size, 2, none⟩ = some (.int .i64 c) ∧ w.heap.size < W.heap.size :=
  ⟨_, rfl, (Below.refl _ _).alloc (Nat.le_refl _) _, by simp [go_sem], by simp [go_sem], by simp [go_sem], by simp⟩
set_option maxHeartbeats 16000000 in
theorem refAt_any (A : Option Addr) (ca n i : Nat) (l : List Int) (lv f g : Int) (w : World) (hr : RdS .i64 w w.heap.size A l) (hn : l.length = n) (hl : n ≤ 1000) (hlv : 0 ≤ lv) (hi : ∃ c, l[i]? = some c ∧ M.neu c) :
    Calls Try.prog 21 #[.slice A n ca, .agg #[.int .i64 lv, .int .i64 f, .int .i64 g], .int .i64 i] w fun r w' => r = .returned (.int .i64 (M.nat (M.own lv) f g (l.take i).reverse (l.drop (i + 1)))) ∧ Below w.heap.size w w' := by
  obtain ⟨c0, hc0, hneu⟩ := hi
  have hin := (List.getElem?_eq_some_iff.1 hc0).1
  obtain ⟨ad, _, rfl, -⟩ := rd_at hr (Below.refl _ _) hin
  obtain ⟨W1, hW1, hb1, e0, e1, e2, -⟩ := new_three w lv f g 25
  have HR := Lib.hid ((hr.below hb1).more hb1.size)
  have HN := Lib.hid hn
  have HB1 := Lib.hid hb1
  obtain ⟨R, hR⟩ : ∃ R, M.nat (M.own lv) f g (l.take i).reverse (l.drop (i + 1)) = R := ⟨_, rfl⟩
  rw [hR]
  obtain ⟨X, hX⟩ : ∃ X, M.sa f (l.take i).reverse = X := ⟨_, rfl⟩
  obtain ⟨Y, hY⟩ : ∃ Y, M.sa g (l.drop (i + 1)) = Y := ⟨_, rfl⟩
  have HX := Lib.hid (show M.sa f (l.take (i + 1)).reverse = X by rw [M.take_next' hc0, M.sa_cons, if_pos hneu, hX])
  have HY := Lib.hid (show M.sa g (l.drop i) = Y by rw [M.drop_next' hc0, M.sa_cons, if_pos hneu, hY])
  have hR2 : (if X = Y ∧ X ≠ 10 then X else M.own lv) = R := by rw [← hR, ← hX, ← hY]; rfl
  have hl1 : (n : Int) ≤ 1000 := by omega
  have hi1 : (i : Int) < n := by omega
  have hi0 : (0 : Int) ≤ i := by omega
  clear hr hn hR hX hY hb1 hc0 hneu
  rcases Int.emod_two_eq lv with h2 | h2
  · rw [show M.own lv = 0 by unfold M.own; rw [h2]; rfl] at hR2
    have HRR := Lib.hid hR2
    have hb2 : (lv % 2 == 1) = false := by rw [h2]; rfl
    clear hR2 h2
    go_enter Try.func21, Try.ntmps21
    go_wp2_with fail
    go_loop [8] (fun v => ∃ (k : Nat) (q : Int), k ≤ i + 1 ∧ v = .int .i64 q ∧ q + 1 = k ∧ M.sa f (l.take k).reverse = X) (fun v => (intOf v + 1).toNat)
    case atStart => exact ⟨i + 1, (i : Int), Nat.le_refl _, rfl, by omega, HX.out⟩
    case round =>
      obtain ⟨k, q, hki, rfl, hq, hto⟩ := hrel
      have HT := Lib.hid hto
      clear hto
      cases k with
      | zero =>
        have hq0 : ¬ 0 ≤ q := by omega
        obtain rfl : f = X := HT.out
        clear hq
        go_wp2_with fail
        go_loop [9] (fun v => ∃ (m : Nat), m ≤ n ∧ v = .int .i64 m ∧ M.sa g (l.drop m) = Y) (fun v => n - (intOf v).toNat)
        case atStart => exact ⟨i, by omega, rfl, HY.out⟩
        case round =>
          obtain ⟨m, hmn, rfl, hto⟩ := hrel
          have HT2 := Lib.hid hto
          have hm0 : (0 : Int) ≤ m := by omega
          clear hto
          by_cases hlt : m < n
          · have hm1 : (m : Int) < n := by omega
            obtain ⟨ad', y, e', hcy, hy, -⟩ := rd_at HR.out (Below.refl _ _) (by rw [HN.out]; exact hlt : m < l.length)
            obtain rfl : ad = ad' := by injection e'
            have h1 := HT2.out
            rw [M.drop_next' hy, M.sa_cons] at h1
            have HNE2 := Lib.hid (refNeu_any y W1)
            have HSD2 := Lib.hid (refSide_any y W1)
            clear hy e'
            by_cases hne : M.neu y
            · rw [if_pos hne] at h1
              rw [decide_eq_true hne] at HNE2
              have H1' := Lib.hid h1
              clear hne h1
              go_wp2_with fail
              refine HNE2.out.mono ?_
              rintro r w1 ⟨rfl, rfl⟩
              go_wp2_with fail
              go_round
              case rel => exact ⟨m + 1, by omega, by go_num, H1'.out⟩
              case measure => simp [intOf]; omega
            · rw [if_neg hne] at h1
              rw [decide_eq_false hne] at HNE2
              rw [h1] at HSD2
              clear hne h1
              go_wp2_with fail
              refine HNE2.out.mono ?_
              rintro r w1 ⟨rfl, rfl⟩
              go_wp2_with fail
              refine HSD2.out.mono ?_
              rintro r w1 ⟨rfl, rfl⟩
              go_wp2_with fail
              all_goals (go_ret; exact ⟨ret_int (by rw [← HRR.out]; simp_all), HB1.out⟩)
          · obtain rfl : n = m := by omega
            have hm1 : ¬ (n : Int) < (n : Int) := by omega
            have h1 := HT2.out
            rw [List.drop_eq_nil_of_le (by rw [HN.out]; exact Nat.le_refl _)] at h1
            obtain rfl : g = Y := h1
            go_wp2_with fail
            all_goals (go_ret; exact ⟨ret_int (by rw [← HRR.out]; simp_all), HB1.out⟩)
      | succ k =>
        obtain rfl : q = (k : Nat) := by omega
        have hk0 : (0 : Int) ≤ k := by omega
        have hk1 : (k : Int) < n := by omega
        obtain ⟨ad', x, e', hcx, hx, -⟩ := rd_at HR.out (Below.refl _ _) (by rw [HN.out]; omega : k < l.length)
        obtain rfl : ad = ad' := by injection e'
        have h1 := HT.out
        rw [M.take_next' hx, M.sa_cons] at h1
        have HNE := Lib.hid (refNeu_any x W1)
        have HSD := Lib.hid (refSide_any x W1)
        clear hx hq e'
        by_cases hne : M.neu x
        · rw [if_pos hne] at h1
          rw [decide_eq_true hne] at HNE
          have H1 := Lib.hid h1
          have hw1 : IntKind.i64.wrap ((k : Int) - 1) = (k : Int) - 1 := by rw [IntKind.wrap_i64]; omega
          clear hne h1
          go_wp2_with fail
          refine HNE.out.mono ?_
          rintro r w1 ⟨rfl, rfl⟩
          go_wp2_with fail
          go_round
          case rel => exact ⟨k, (k : Int) - 1, by omega, rfl, by omega, H1.out⟩
          case measure => simp [intOf]
        · rw [if_neg hne] at h1
          rw [decide_eq_false hne] at HNE
          rw [h1] at HSD
          clear hne h1
          go_wp2_with fail
          refine HNE.out.mono ?_
          rintro r w1 ⟨rfl, rfl⟩
          go_wp2_with fail
          go_loop [9] (fun v => ∃ (m : Nat), m ≤ n ∧ v = .int .i64 m ∧ M.sa g (l.drop m) = Y) (fun v => n - (intOf v).toNat)
          case atStart => exact ⟨i, by omega, rfl, HY.out⟩
          case round =>
            obtain ⟨m, hmn, rfl, hto⟩ := hrel
            have HT2 := Lib.hid hto
            have hm0 : (0 : Int) ≤ m := by omega
            clear hto
            by_cases hlt : m < n
            · have hm1 : (m : Int) < n := by omega
              obtain ⟨ad', y, e', hcy, hy, -⟩ := rd_at HR.out (Below.refl _ _) (by rw [HN.out]; exact hlt : m < l.length)
              obtain rfl : ad = ad' := by injection e'
              have h1 := HT2.out
              rw [M.drop_next' hy, M.sa_cons] at h1
              have HNE2 := Lib.hid (refNeu_any y W1)
              have HSD2 := Lib.hid (refSide_any y W1)
              clear hy e'
              by_cases hne : M.neu y
              · rw [if_pos hne] at h1
                rw [decide_eq_true hne] at HNE2
                have H1' := Lib.hid h1
                clear hne h1
                go_wp2_with fail
                refine HNE2.out.mono ?_
                rintro r w1 ⟨rfl, rfl⟩
                go_wp2_with fail
                go_round
                case rel => exact ⟨m + 1, by omega, by go_num, H1'.out⟩
                case measure => simp [intOf]; omega
              · rw [if_neg hne] at h1
                rw [decide_eq_false hne] at HNE2
                rw [h1] at HSD2
                clear hne h1
                go_wp2_with fail
                refine HNE2.out.mono ?_
                rintro r w1 ⟨rfl, rfl⟩
                go_wp2_with fail
                refine HSD.out.mono ?_
                rintro r w1 ⟨rfl, rfl⟩
                go_wp2_with fail
                refine HSD2.out.mono ?_
                rintro r w1 ⟨rfl, rfl⟩
                go_wp2_with fail
                all_goals (go_ret; exact ⟨ret_int (by rw [← HRR.out]; simp_all), HB1.out⟩)
            · obtain rfl : n = m := by omega
              have hm1 : ¬ (n : Int) < (n : Int) := by omega
              have h1 := HT2.out
              rw [List.drop_eq_nil_of_le (by rw [HN.out]; exact Nat.le_refl _)] at h1
              obtain rfl : g = Y := h1
              go_wp2_with fail
              refine HSD.out.mono ?_
              rintro r w1 ⟨rfl, rfl⟩
              go_wp2_with fail
              all_goals (go_ret; exact ⟨ret_int (by rw [← HRR.out]; simp_all), HB1.out⟩)
  · rw [show M.own lv = 1 by unfold M.own; rw [h2]; rfl] at hR2
    have HRR := Lib.hid hR2
    have hb2 : (lv % 2 == 1) = true := by rw [h2]; rfl
    clear hR2 h2
    go_enter Try.func21, Try.ntmps21
    go_wp2_with fail
    go_loop [8] (fun v => ∃ (k : Nat) (q : Int), k ≤ i + 1 ∧ v = .int .i64 q ∧ q + 1 = k ∧ M.sa f (l.take k).reverse = X) (fun v => (intOf v + 1).toNat)
    case atStart => exact ⟨i + 1, (i : Int), Nat.le_refl _, rfl, by omega, HX.out⟩
    case round =>
      obtain ⟨k, q, hki, rfl, hq, hto⟩ := hrel
      have HT := Lib.hid hto
      clear hto
      cases k with
      | zero =>
        have hq0 : ¬ 0 ≤ q := by omega
        obtain rfl : f = X := HT.out
        clear hq
        go_wp2_with fail
        go_loop [9] (fun v => ∃ (m : Nat), m ≤ n ∧ v = .int .i64 m ∧ M.sa g (l.drop m) = Y) (fun v => n - (intOf v).toNat)
        case atStart => exact ⟨i, by omega, rfl, HY.out⟩
        case round =>
          obtain ⟨m, hmn, rfl, hto⟩ := hrel
          have HT2 := Lib.hid hto
          have hm0 : (0 : Int) ≤ m := by omega
          clear hto
          by_cases hlt : m < n
          · have hm1 : (m : Int) < n := by omega
            obtain ⟨ad', y, e', hcy, hy, -⟩ := rd_at HR.out (Below.refl _ _) (by rw [HN.out]; exact hlt : m < l.length)
            obtain rfl : ad = ad' := by injection e'
            have h1 := HT2.out
            rw [M.drop_next' hy, M.sa_cons] at h1
            have HNE2 := Lib.hid (refNeu_any y W1)
            have HSD2 := Lib.hid (refSide_any y W1)
            clear hy e'
            by_cases hne : M.neu y
            · rw [if_pos hne] at h1
              rw [decide_eq_true hne] at HNE2
              have H1' := Lib.hid h1
              clear hne h1
              go_wp2_with fail
              refine HNE2.out.mono ?_
              rintro r w1 ⟨rfl, rfl⟩
              go_wp2_with fail
              go_round
              case rel => exact ⟨m + 1, by omega, by go_num, H1'.out⟩
              case measure => simp [intOf]; omega
            · rw [if_neg hne] at h1
              rw [decide_eq_false hne] at HNE2
              rw [h1] at HSD2
              clear hne h1
              go_wp2_with fail
              refine HNE2.out.mono ?_
              rintro r w1 ⟨rfl, rfl⟩
              go_wp2_with fail
              refine HSD2.out.mono ?_
              rintro r w1 ⟨rfl, rfl⟩
              go_wp2_with fail
              all_goals (go_ret; exact ⟨ret_int (by rw [← HRR.out]; simp_all), HB1.out⟩)
          · obtain rfl : n = m := by omega
            have hm1 : ¬ (n : Int) < (n : Int) := by omega
            have h1 := HT2.out
            rw [List.drop_eq_nil_of_le (by rw [HN.out]; exact Nat.le_refl _)] at h1
            obtain rfl : g = Y := h1
            go_wp2_with fail
            all_goals (go_ret; exact ⟨ret_int (by rw [← HRR.out]; simp_all), HB1.out⟩)
      | succ k =>
        obtain rfl : q = (k : Nat) := by omega
        have hk0 : (0 : Int) ≤ k := by omega
        have hk1 : (k : Int) < n := by omega
        obtain ⟨ad', x, e', hcx, hx, -⟩ := rd_at HR.out (Below.refl _ _) (by rw [HN.out]; omega : k < l.length)
        obtain rfl : ad = ad' := by injection e'
        have h1 := HT.out
        rw [M.take_next' hx, M.sa_cons] at h1
        have HNE := Lib.hid (refNeu_any x W1)
        have HSD := Lib.hid (refSide_any x W1)
        clear hx hq e'
        by_cases hne : M.neu x
        · rw [if_pos hne] at h1
          rw [decide_eq_true hne] at HNE
          have H1 := Lib.hid h1
          have hw1 : IntKind.i64.wrap ((k : Int) - 1) = (k : Int) - 1 := by rw [IntKind.wrap_i64]; omega
          clear hne h1
          go_wp2_with fail
          refine HNE.out.mono ?_
          rintro r w1 ⟨rfl, rfl⟩
          go_wp2_with fail
          go_round
          case rel => exact ⟨k, (k : Int) - 1, by omega, rfl, by omega, H1.out⟩
          case measure => simp [intOf]
        · rw [if_neg hne] at h1
          rw [decide_eq_false hne] at HNE
          rw [h1] at HSD
          clear hne h1
          go_wp2_with fail
          refine HNE.out.mono ?_
          rintro r w1 ⟨rfl, rfl⟩
          go_wp2_with fail
          go_loop [9] (fun v => ∃ (m : Nat), m ≤ n ∧ v = .int .i64 m ∧ M.sa g (l.drop m) = Y) (fun v => n - (intOf v).toNat)
          case atStart => exact ⟨i, by omega, rfl, HY.out⟩
          case round =>
            obtain ⟨m, hmn, rfl, hto⟩ := hrel
            have HT2 := Lib.hid hto
            have hm0 : (0 : Int) ≤ m := by omega
            clear hto
            by_cases hlt : m < n
            · have hm1 : (m : Int) < n := by omega
              obtain ⟨ad', y, e', hcy, hy, -⟩ := rd_at HR.out (Below.refl _ _) (by rw [HN.out]; exact hlt : m < l.length)
              obtain rfl : ad = ad' := by injection e'
              have h1 := HT2.out
              rw [M.drop_next' hy, M.sa_cons] at h1
              have HNE2 := Lib.hid (refNeu_any y W1)
              have HSD2 := Lib.hid (refSide_any y W1)
              clear hy e'
              by_cases hne : M.neu y
              · rw [if_pos hne] at h1
                rw [decide_eq_true hne] at HNE2
                have H1' := Lib.hid h1
                clear hne h1
                go_wp2_with fail
                refine HNE2.out.mono ?_
                rintro r w1 ⟨rfl, rfl⟩
                go_wp2_with fail
                go_round
                case rel => exact ⟨m + 1, by omega, by go_num, H1'.out⟩
                case measure => simp [intOf]; omega
              · rw [if_neg hne] at h1
                rw [decide_eq_false hne] at HNE2
                rw [h1] at HSD2
                clear hne h1
                go_wp2_with fail
                refine HNE2.out.mono ?_
                rintro r w1 ⟨rfl, rfl⟩
                go_wp2_with fail
                refine HSD.out.mono ?_
                rintro r w1 ⟨rfl, rfl⟩
                go_wp2_with fail
                refine HSD2.out.mono ?_
                rintro r w1 ⟨rfl, rfl⟩
                go_wp2_with fail
                all_goals (go_ret; exact ⟨ret_int (by rw [← HRR.out]; simp_all), HB1.out⟩)
            · obtain rfl : n = m := by omega
              have hm1 : ¬ (n : Int) < (n : Int) := by omega
              have h1 := HT2.out
              rw [List.drop_eq_nil_of_le (by rw [HN.out]; exact Nat.le_refl _)] at h1
              obtain rfl : g = Y := h1
              go_wp2_with fail
              refine HSD.out.mono ?_
              rintro r w1 ⟨rfl, rfl⟩
              go_wp2_with fail
              all_goals (go_ret; exact ⟨ret_int (by rw [← HRR.out]; simp_all), HB1.out⟩)
end Go.Proofs.Ytjoiinpkkaigdaa
