/- The contracts of the document's strong, isolates, beside and separates. Conditions: the slices read as lists, at most a thousand long. -/
import Derived.Test.YtanlclmlkpchfaaBase
import Derived.Test.YtanlclmlkpchfaaWeakM
namespace Go.Proofs.Ytanlclmlkpchfaa
open Go.RowKit
set_option maxRecDepth 100000

theorem M.take_next' {l : List Int} {k : Nat} {x : Int} (h : l[k]? = some x) : (l.take (k + 1)).reverse = x :: (l.take k).reverse := by
  obtain ⟨hk, rfl⟩ := List.getElem?_eq_some_iff.1 h
  rw [List.take_succ_eq_append_getElem hk]
  simp
theorem M.drop_next' {l : List Int} {k : Nat} {x : Int} (h : l[k]? = some x) : l.drop k = x :: l.drop (k + 1) := by
  obtain ⟨hk, rfl⟩ := List.getElem?_eq_some_iff.1 h
  exact List.drop_eq_getElem_cons hk
set_option maxHeartbeats 4000000 in
theorem refStg_any (A : Option Addr) (ca n at_ : Nat) (l : List Int) (f : Int) (w : World) (hr : RdS .i64 w w.heap.size A l) (hn : l.length = n) (hl : n ≤ 1000) (hat : at_ ≤ n) :
    Calls Try.prog 23 #[.slice A n ca, .int .i64 at_, .int .i64 f] w fun r w' => r = .returned (.int .i64 (M.stg f (l.take at_).reverse)) ∧ w = w' := by
  have HR := Lib.hid hr
  have HN := Lib.hid hn
  have hl1 : (n : Int) ≤ 1000 := by omega
  have ha1 : (at_ : Int) ≤ n := by omega
  have ha0 : (0 : Int) ≤ at_ := by omega
  obtain ⟨R, hR⟩ : ∃ R, M.stg f (l.take at_).reverse = R := ⟨_, rfl⟩
  rw [hR]
  have HRR := Lib.hid hR
  clear hr hn hR
  go_enter Try.func23, Try.ntmps23
  have hw0 : IntKind.i64.wrap ((at_ : Int) - 1) = (at_ : Int) - 1 := by rw [IntKind.wrap_i64]; omega
  go_wp2_with fail
  go_loop [7] (fun v => ∃ (k : Nat) (q : Int), k ≤ at_ ∧ v = .int .i64 q ∧ q + 1 = k ∧ M.stg f (l.take k).reverse = R) (fun v => (intOf v + 1).toNat)
  case atStart => exact ⟨at_, (at_ : Int) - 1, Nat.le_refl _, by go_num, by omega, HRR.out⟩
  case round =>
    obtain ⟨k, q, hkm, rfl, hq, hto⟩ := hrel
    have HT := Lib.hid hto
    clear hto
    cases k with
    | zero =>
      have H1 := Lib.hid (show f = R from HT.out)
      have hq0 : ¬ 0 ≤ q := by omega
      clear hq
      go_wp2_with fail
      go_ret
      exact ⟨ret_int H1.out, rfl⟩
    | succ k =>
      obtain rfl : q = (k : Nat) := by omega
      have hk0' : (0 : Int) ≤ (k : Int) := by omega
      obtain ⟨ad2, x, rfl, hcx, hx, -⟩ := rd_at HR.out (Below.refl _ _) (by rw [HN.out]; omega : k < l.length)
      have hk1 : (k : Int) < (n : Int) := by omega
      have hd := M.take_next' hx
      have h1 := HT.out
      rw [hd, M.stg_cons] at h1
      have H1 := Lib.hid h1
      have hw1 : IntKind.i64.wrap ((k : Int) - 1) = (k : Int) - 1 := by rw [IntKind.wrap_i64]; omega
      clear hx hd h1
      clear hq
      by_cases hx3 : x = 0 ∨ x = 1 ∨ x = 2
      · rw [if_pos hx3] at H1
        rcases hx3 with rfl | rfl | rfl
        all_goals
          go_wp2_with fail
          go_ret
          exact ⟨ret_int H1.out, rfl⟩
      · rw [if_neg hx3] at H1
        have b0 : (x == 0) = false := by simp; omega
        have b1 : (x == 1) = false := by simp; omega
        have b2 : (x == 2) = false := by simp; omega
        clear hx3
        go_wp2_with fail
        go_round
        case rel => exact ⟨k, (k : Int) - 1, by omega, rfl, by omega, H1.out⟩
        case measure => simp [intOf]
theorem refIso_any (c : Int) (w : World) : Calls Try.prog 22 #[.int .i64 c] w fun r w' => r = .returned (.bool (decide (M.iso c))) ∧ w = w' := by
  have H := Lib.hid (show M.iso c ↔ (c = 19 ∨ c = 20 ∨ c = 21 ∨ c = 22) from Iff.rfl)
  go_enter Try.func22, Try.ntmps22
  go_wp2_with fail
  all_goals (go_ret; exact ⟨ret_bool (by rw [Bool.eq_iff_iff, decide_eq_true_iff, H.out]; simp_all), rfl⟩)
set_option maxHeartbeats 4000000 in
theorem refSep_any (A B : Option Addr) (ca cb n k : Nat) (l o : List Int) (c : Int) (w : World) (hr : RdS .i64 w w.heap.size A l) (hn : l.length = n) (hl : n ≤ 1000) (hr2 : RdS .i64 w w.heap.size B o) (ho : o.length = k) (hc : l[k]? = some c) :
    Calls Try.prog 24 #[.slice A n ca, .slice B k cb, .int .i64 k] w fun r w' => r = .returned (.int .i64 (M.sep o.reverse c (l.drop (k + 1)))) ∧ w = w' := by
  have hk := (List.getElem?_eq_some_iff.1 hc).1
  obtain ⟨ad, c', rfl, hcc, hc', -⟩ := rd_at hr (Below.refl _ _) hk
  obtain rfl : c = c' := by rw [hc] at hc'; injection hc'
  obtain ⟨R, hR⟩ : ∃ R, M.sep o.reverse c (l.drop (k + 1)) = R := ⟨_, rfl⟩
  rw [hR]
  have hl1 : (n : Int) ≤ 1000 := by omega
  have hk1 : (k : Int) < n := by omega
  have hk0 : (0 : Int) ≤ k := by omega
  by_cases hz : k = 0
  · have ho0 : o = [] := List.eq_nil_of_length_eq_zero (by omega)
    have H1 := Lib.hid (show c = R by rw [← hR, ho0]; exact (M.sep_no0 _ _).symm)
    have b0 : ((k : Int) == 0) = true := by simp; omega
    clear hr hn hr2 ho hc hc' hR ho0 hz
    go_enter Try.func24, Try.ntmps24
    go_wp2_with fail
    go_ret
    exact ⟨ret_int H1.out, rfl⟩
  · obtain ⟨j, hj⟩ : ∃ j : Nat, k = j + 1 := ⟨k - 1, by omega⟩
    obtain ⟨m, hm⟩ : ∃ m : Nat, m = k + 1 := ⟨k + 1, rfl⟩
    have b0 : ((k : Int) == 0) = false := by simp; omega
    have hw1 : IntKind.i64.wrap ((k : Int) + 1) = (m : Int) := by rw [IntKind.wrap_i64]; omega
    have hw2 : IntKind.i64.wrap ((k : Int) - 1) = (j : Int) := by rw [IntKind.wrap_i64]; omega
    have hj0 : (0 : Int) ≤ j := by omega
    have hj1 : (j : Int) < k := by omega
    by_cases hend : m = n
    · have H1 := Lib.hid (show c = R by rw [← hR, List.drop_eq_nil_of_le (by omega)]; exact (M.sep_no _ _).symm)
      have b1 : ((m : Int) == (n : Int)) = true := by simp; omega
      clear hr hn hr2 ho hc hc' hR hend hj hm hz
      go_enter Try.func24, Try.ntmps24
      go_wp2_with fail
      go_ret
      exact ⟨ret_int H1.out, rfl⟩
    · obtain ⟨ad2, a, rfl, hca, ha, -⟩ := rd_at hr2 (Below.refl _ _) (by omega : j < o.length)
      obtain ⟨ad3, b, hA3, hcb, hb, -⟩ := rd_at hr (Below.refl _ _) (by omega : m < l.length)
      obtain rfl : ad = ad3 := by injection hA3
      have ho' : o.reverse = a :: (o.take j).reverse := by
        rw [← M.take_next' ha, List.take_of_length_le (by omega)]
      rw [ho', ← hm, M.drop_next' hb, M.sep_cons] at hR
      have HRR := Lib.hid hR
      have b1 : ((m : Int) == (n : Int)) = false := by simp; omega
      have hm1 : (m : Int) < n := by omega
      have hm0 : (0 : Int) ≤ m := by omega
      clear hr hn hr2 ho hc hc' hR hend ho' ha hb hA3 hj hm hz
      go_enter Try.func24, Try.ntmps24
      go_wp2_with fail
      all_goals (go_ret; exact ⟨ret_int (by rw [← HRR.out]; simp_all), rfl⟩)
end Go.Proofs.Ytanlclmlkpchfaa
