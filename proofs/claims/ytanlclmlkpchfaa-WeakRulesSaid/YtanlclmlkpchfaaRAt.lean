/- The contract of the document's at. Conditions: the slices read as lists, at most a thousand long; what is made is as long as the place's number. -/
import Derived.Test.YtanlclmlkpchfaaRBeside
namespace Go.Proofs.Ytanlclmlkpchfaa
open Go.RowKit
set_option maxRecDepth 100000
set_option maxHeartbeats 8000000 in
theorem refAt_any (A B : Option Addr) (ca cb n k : Nat) (l o : List Int) (c nn f : Int) (w : World) (hr : RdS .i64 w w.heap.size A l) (hn : l.length = n) (hl : n ≤ 1000) (hr2 : RdS .i64 w w.heap.size B o) (ho : o.length = k) (hc : l[k]? = some c) :
    Calls Try.prog 16 #[.int .i64 nn, .slice A n ca, .slice B k cb, .int .i64 k, .int .i64 f] w fun r w' => r = .returned (.int .i64 (M.wat nn f (l.take k).reverse o.reverse c (l.drop (k + 1)))) ∧ w = w' := by
  have hk := (List.getElem?_eq_some_iff.1 hc).1
  obtain ⟨ad, c', rfl, hcc, hc', -⟩ := rd_at hr (Below.refl _ _) hk
  obtain rfl : c = c' := by rw [hc] at hc'; injection hc'
  have HST := Lib.hid (refStg_any (some ad) ca n k l f w hr hn hl (by omega))
  have HSEP := Lib.hid (refSep_any (some ad) B ca cb n k l o c w hr hn hl hr2 ho hc)
  have HBE := Lib.hid (fun h5 : c = 5 => refBeside_any (some ad) ca n k l w hr hn hl (by rw [hc, h5]))
  obtain ⟨R, hR⟩ : ∃ R, M.wat nn f (l.take k).reverse o.reverse c (l.drop (k + 1)) = R := ⟨_, rfl⟩
  rw [hR]
  have hl1 : (n : Int) ≤ 1000 := by omega
  have hk1 : (k : Int) < n := by omega
  have hk0 : (0 : Int) ≤ k := by omega
  obtain ⟨S, hS⟩ : ∃ S, M.stg f (l.take k).reverse = S := ⟨_, rfl⟩
  obtain ⟨T, hT⟩ : ∃ T, M.sep o.reverse c (l.drop (k + 1)) = T := ⟨_, rfl⟩
  obtain ⟨E, hE⟩ : ∃ E, (M.en5 (l.take k).reverse || M.en5 (l.drop (k + 1))) = E := ⟨_, rfl⟩
  rw [hS] at HST
  rw [hT] at HSEP
  rw [hE] at HBE
  have hE' : (M.en5 (l.take k).reverse = true ∨ M.en5 (l.drop (k + 1)) = true) ↔ E = true := by rw [← hE, Bool.or_eq_true]
  unfold M.wat at hR
  rw [hS, hT] at hR
  simp only [hE'] at hR
  by_cases n1 : nn = 1
  · subst n1
    by_cases h8 : c = 8
    · subst h8
      rw [if_pos ⟨rfl, rfl⟩] at hR
      by_cases hz : k = 0
      · have ho0 : o = [] := List.eq_nil_of_length_eq_zero (by omega)
        have b0 : ((k : Int) == 0) = true := by simp; omega
        rw [ho0] at hR
        have H1 := Lib.hid (show f = R from hR)
        clear hR ho0 hz
        clear hr hn hr2 ho hc hc' hE hE' hS hT
        go_enter Try.func16, Try.ntmps16
        go_wp2_with fail
        go_ret
        exact ⟨ret_int H1.out, rfl⟩
      · obtain ⟨j, hj⟩ : ∃ j : Nat, k = j + 1 := ⟨k - 1, by omega⟩
        have b0 : ((k : Int) == 0) = false := by simp; omega
        have hw2 : IntKind.i64.wrap ((k : Int) - 1) = (j : Int) := by rw [IntKind.wrap_i64]; omega
        have hj0 : (0 : Int) ≤ j := by omega
        have hj1 : (j : Int) < k := by omega
        obtain ⟨ad2, a, rfl, hca, ha, -⟩ := rd_at hr2 (Below.refl _ _) (by omega : j < o.length)
        have ho' : o.reverse = a :: (o.take j).reverse := by
          rw [← M.take_next' ha, List.take_of_length_le (by omega)]
        rw [ho'] at hR
        dsimp only at hR
        have HI := Lib.hid (refIso_any a w)
        by_cases hi : M.iso a
        · rw [if_pos hi] at hR
          rw [decide_eq_true hi] at HI
          have H1 := Lib.hid hR
          clear hR hi ho' ha hj hz
          clear hr hn hr2 ho hc hc' hE hE' hS hT
          go_enter Try.func16, Try.ntmps16
          go_wp2_with fail
          refine HI.out.mono ?_
          rintro r w1 ⟨rfl, rfl⟩
          go_wp2_with fail
          go_ret
          exact ⟨ret_int H1.out, rfl⟩
        · rw [if_neg hi] at hR
          rw [decide_eq_false hi] at HI
          have H1 := Lib.hid hR
          clear hR hi ho' ha hj hz
          clear hr hn hr2 ho hc hc' hE hE' hS hT
          go_enter Try.func16, Try.ntmps16
          go_wp2_with fail
          refine HI.out.mono ?_
          rintro r w1 ⟨rfl, rfl⟩
          go_wp2_with fail
          go_ret
          exact ⟨ret_int H1.out, rfl⟩
    · have b8 : (c == 8) = false := by simp; omega
      rw [if_neg (by omega), if_neg (by omega), if_neg (by omega), if_neg (by omega), if_neg (by omega), if_neg (by omega), if_neg (by omega)] at hR
      have H1 := Lib.hid hR
      clear hR
      clear hr hn hr2 ho hc hc' hE hE' hS hT
      go_enter Try.func16, Try.ntmps16
      go_wp2_with fail
      go_ret
      exact ⟨ret_int H1.out, rfl⟩
  by_cases n2 : nn = 2
  · subst n2
    by_cases h3 : c = 3
    · subst h3
      by_cases hs : S = 2
      · subst hs
        rw [if_neg (by omega), if_pos (by omega)] at hR
        have H1 := Lib.hid hR
        clear hR
        clear hr hn hr2 ho hc hc' hE hE' hS hT
        go_enter Try.func16, Try.ntmps16
        go_wp2_with fail
        refine HST.out.mono ?_
        rintro r w1 ⟨rfl, rfl⟩
        go_wp2_with fail
        go_ret
        exact ⟨ret_int H1.out, rfl⟩
      · have bs : (S == 2) = false := by simp; omega
        rw [if_neg (by omega), if_neg (by omega), if_neg (by omega), if_neg (by omega), if_neg (by omega), if_neg (by omega), if_neg (by omega)] at hR
        have H1 := Lib.hid hR
        clear hR
        clear hs
        clear hr hn hr2 ho hc hc' hE hE' hS hT
        go_enter Try.func16, Try.ntmps16
        go_wp2_with fail
        refine HST.out.mono ?_
        rintro r w1 ⟨rfl, rfl⟩
        go_wp2_with fail
        go_ret
        exact ⟨ret_int H1.out, rfl⟩
    · have b3 : (c == 3) = false := by simp; omega
      rw [if_neg (by omega), if_neg (by omega), if_neg (by omega), if_neg (by omega), if_neg (by omega), if_neg (by omega), if_neg (by omega)] at hR
      have H1 := Lib.hid hR
      clear hR
      clear h3
      clear hr hn hr2 ho hc hc' hE hE' hS hT
      go_enter Try.func16, Try.ntmps16
      go_wp2_with fail
      go_ret
      exact ⟨ret_int H1.out, rfl⟩
  by_cases n3 : nn = 3
  · subst n3
    by_cases h2 : c = 2
    · subst h2
      rw [if_neg (by omega), if_neg (by omega), if_pos (by omega)] at hR
      have H1 := Lib.hid hR
      clear hR
      clear hr hn hr2 ho hc hc' hE hE' hS hT
      go_enter Try.func16, Try.ntmps16
      go_wp2_with fail
      go_ret
      exact ⟨ret_int H1.out, rfl⟩
    · have b2 : (c == 2) = false := by simp; omega
      rw [if_neg (by omega), if_neg (by omega), if_neg (by omega), if_neg (by omega), if_neg (by omega), if_neg (by omega), if_neg (by omega)] at hR
      have H1 := Lib.hid hR
      clear hR
      clear h2
      clear hr hn hr2 ho hc hc' hE hE' hS hT
      go_enter Try.func16, Try.ntmps16
      go_wp2_with fail
      go_ret
      exact ⟨ret_int H1.out, rfl⟩
  by_cases n4 : nn = 4
  · subst n4
    by_cases h4 : c = 4 ∨ c = 7
    · rcases h4 with rfl | rfl
      all_goals
        rw [if_neg (by omega), if_neg (by omega), if_neg (by omega), if_pos (by omega)] at hR
        have H1 := Lib.hid hR
        clear hR
        clear hr hn hr2 ho hc hc' hE hE' hS hT
        go_enter Try.func16, Try.ntmps16
        go_wp2_with fail
        refine HSEP.out.mono ?_
        rintro r w1 ⟨rfl, rfl⟩
        go_wp2_with fail
        go_ret
        exact ⟨ret_int H1.out, rfl⟩
    · have b4 : (c == 4) = false := by simp; omega
      have b7 : (c == 7) = false := by simp; omega
      rw [if_neg (by omega), if_neg (by omega), if_neg (by omega), if_neg (by omega), if_neg (by omega), if_neg (by omega), if_neg (by omega)] at hR
      have H1 := Lib.hid hR
      clear hR
      clear h4
      clear hr hn hr2 ho hc hc' hE hE' hS hT
      go_enter Try.func16, Try.ntmps16
      go_wp2_with fail
      go_ret
      exact ⟨ret_int H1.out, rfl⟩
  by_cases n5 : nn = 5
  · subst n5
    by_cases h5 : c = 5
    · subst h5
      have HB := Lib.hid (HBE.out rfl)
      clear HBE
      cases E with
      | true =>
        rw [if_neg (by omega), if_neg (by omega), if_neg (by omega), if_neg (by omega), if_pos ⟨rfl, rfl, rfl⟩] at hR
        have H1 := Lib.hid hR
        clear hR
        clear hr hn hr2 ho hc hc' hE hE' hS hT
        go_enter Try.func16, Try.ntmps16
        go_wp2_with fail
        refine HB.out.mono ?_
        rintro r w1 ⟨rfl, rfl⟩
        go_wp2_with fail
        go_ret
        exact ⟨ret_int H1.out, rfl⟩
      | false =>
        rw [if_neg (by omega), if_neg (by omega), if_neg (by omega), if_neg (by omega), if_neg (by simp), if_neg (by omega), if_neg (by omega)] at hR
        have H1 := Lib.hid hR
        clear hR
        clear hr hn hr2 ho hc hc' hE hE' hS hT
        go_enter Try.func16, Try.ntmps16
        go_wp2_with fail
        refine HB.out.mono ?_
        rintro r w1 ⟨rfl, rfl⟩
        go_wp2_with fail
        go_ret
        exact ⟨ret_int H1.out, rfl⟩
    · have b5 : (c == 5) = false := by simp; omega
      rw [if_neg (by omega), if_neg (by omega), if_neg (by omega), if_neg (by omega), if_neg (by omega), if_neg (by omega), if_neg (by omega)] at hR
      have H1 := Lib.hid hR
      clear hR
      clear h5
      clear hr hn hr2 ho hc hc' hE hE' hS hT
      go_enter Try.func16, Try.ntmps16
      go_wp2_with fail
      go_ret
      exact ⟨ret_int H1.out, rfl⟩
  by_cases n6 : nn = 6
  · subst n6
    by_cases h6 : c = 4 ∨ c = 5 ∨ c = 7
    · rcases h6 with rfl | rfl | rfl
      all_goals
        rw [if_neg (by omega), if_neg (by omega), if_neg (by omega), if_neg (by omega), if_neg (by omega), if_pos (by omega)] at hR
        have H1 := Lib.hid hR
        clear hR
        clear hr hn hr2 ho hc hc' hE hE' hS hT
        go_enter Try.func16, Try.ntmps16
        go_wp2_with fail
        go_ret
        exact ⟨ret_int H1.out, rfl⟩
    · have b4 : (c == 4) = false := by simp; omega
      have b5 : (c == 5) = false := by simp; omega
      have b7 : (c == 7) = false := by simp; omega
      rw [if_neg (by omega), if_neg (by omega), if_neg (by omega), if_neg (by omega), if_neg (by omega), if_neg (by omega), if_neg (by omega)] at hR
      have H1 := Lib.hid hR
      clear hR
      clear h6
      clear hr hn hr2 ho hc hc' hE hE' hS hT
      go_enter Try.func16, Try.ntmps16
      go_wp2_with fail
      go_ret
      exact ⟨ret_int H1.out, rfl⟩
  by_cases n7 : nn = 7
  · subst n7
    by_cases h3 : c = 3
    · subst h3
      by_cases hs : S = 0
      · subst hs
        rw [if_neg (by omega), if_neg (by omega), if_neg (by omega), if_neg (by omega), if_neg (by omega), if_neg (by omega), if_pos (by omega)] at hR
        have H1 := Lib.hid hR
        clear hR
        clear hr hn hr2 ho hc hc' hE hE' hS hT
        go_enter Try.func16, Try.ntmps16
        go_wp2_with fail
        refine HST.out.mono ?_
        rintro r w1 ⟨rfl, rfl⟩
        go_wp2_with fail
        go_ret
        exact ⟨ret_int H1.out, rfl⟩
      · have bs : (S == 0) = false := by simp; omega
        rw [if_neg (by omega), if_neg (by omega), if_neg (by omega), if_neg (by omega), if_neg (by omega), if_neg (by omega), if_neg (by omega)] at hR
        have H1 := Lib.hid hR
        clear hR
        clear hs
        clear hr hn hr2 ho hc hc' hE hE' hS hT
        go_enter Try.func16, Try.ntmps16
        go_wp2_with fail
        refine HST.out.mono ?_
        rintro r w1 ⟨rfl, rfl⟩
        go_wp2_with fail
        go_ret
        exact ⟨ret_int H1.out, rfl⟩
    · have b3 : (c == 3) = false := by simp; omega
      rw [if_neg (by omega), if_neg (by omega), if_neg (by omega), if_neg (by omega), if_neg (by omega), if_neg (by omega), if_neg (by omega)] at hR
      have H1 := Lib.hid hR
      clear hR
      clear h3
      clear hr hn hr2 ho hc hc' hE hE' hS hT
      go_enter Try.func16, Try.ntmps16
      go_wp2_with fail
      go_ret
      exact ⟨ret_int H1.out, rfl⟩
  have m1 : (nn == 1) = false := by simp; omega
  have m2 : (nn == 2) = false := by simp; omega
  have m3 : (nn == 3) = false := by simp; omega
  have m4 : (nn == 4) = false := by simp; omega
  have m5 : (nn == 5) = false := by simp; omega
  have m6 : (nn == 6) = false := by simp; omega
  have m7 : (nn == 7) = false := by simp; omega
  rw [if_neg (by omega), if_neg (by omega), if_neg (by omega), if_neg (by omega), if_neg (by omega), if_neg (by omega), if_neg (by omega)] at hR
  have H1 := Lib.hid hR
  clear hR
  clear n1 n2 n3 n4 n5 n6 n7
  clear hr hn hr2 ho hc hc' hE hE' hS hT
  go_enter Try.func16, Try.ntmps16
  go_wp2_with fail
  go_ret
  exact ⟨ret_int H1.out, rfl⟩
end Go.Proofs.Ytanlclmlkpchfaa
