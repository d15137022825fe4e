/- The live question of stage 4's laws, over the translation: it is answered. And the document's order of words as the order of whole numbers. No condition. -/
import Derived.Test.YtdjdgpfoakkamaaOf
namespace Go.Proofs.Ytdjdgpfoakkamaa
open Go.RowKit

theorem u64_bounds {n : Int} (h : (Lit.int .u64 n).wf = true) : 0 ≤ n ∧ n ≤ 18446744073709551615 := by
  simp [Lit.wf, IntKind.min, IntKind.max, IntKind.signed, IntKind.bits] at h
  exact h
theorem i64_bounds {n : Int} (h : (Lit.int .i64 n).wf = true) : -9223372036854775808 ≤ n ∧ n ≤ 9223372036854775807 := by
  simp [Lit.wf, IntKind.min, IntKind.max, IntKind.signed, IntKind.bits] at h
  exact h

theorem sort_at (x : Int) (w : World) (h0 : 0 ≤ x) (h1 : x ≤ 18446744073709551615) :
    Calls Try.prog 13 #[.int .u64 x] w fun r w' => r = .returned (.int .i64 (M.sortI x)) ∧ w' = w := by
  obtain ⟨n, rfl⟩ := Int.eq_ofNat_of_zero_le h0
  exact sort_any n w (by omega)
theorem order_at (x y : Int) (w : World) (h0 : 0 ≤ x) (h1 : x ≤ 18446744073709551615) (g0 : 0 ≤ y) (g1 : y ≤ 18446744073709551615) :
    Calls Try.prog 15 #[.int .u64 x, .int .u64 y] w fun r w' => r = .returned (.int .i64 (M.orderI x y)) ∧ w' = w := by
  obtain ⟨n, rfl⟩ := Int.eq_ofNat_of_zero_le h0
  obtain ⟨m, rfl⟩ := Int.eq_ofNat_of_zero_le g0
  exact order_any n m w (by omega) (by omega)
theorem cells_at (x : Int) (w : World) (h0 : 0 ≤ x) (h1 : x ≤ 18446744073709551615) :
    Calls Try.prog 8 #[.int .u64 x] w fun r w' => r = .returned (M.cellsV (M.cellsI x)) ∧ w' = w := by
  obtain ⟨n, rfl⟩ := Int.eq_ofNat_of_zero_le h0
  exact cells_any n w (by omega)

/-- A word's place among all words. -/
def F.rank (x : Nat) : Int := if inf < rung x then -36893488147419103232 else if neg x then -(rung x : Int) - 1 else (rung x : Int)
theorem order_rank {x y : Nat} (hx : x < 18446744073709551616) (hy : y < 18446744073709551616) : M.orderI (x : Int) (y : Int) = M.signI (F.rank x) (F.rank y) := by
  have ex : ((x : Int) % 9223372036854775808) = (F.rung x : Int) := by unfold F.rung; omega
  have ey : ((y : Int) % 9223372036854775808) = (F.rung y : Int) := by unfold F.rung; omega
  have hz : F.inf = 9218868437227405312 := rfl
  have lx := F.rung_le x
  have ly := F.rung_le y
  unfold M.orderI F.rank
  rw [ex, ey]
  unfold M.signI
  have hx := F.sorts hx
  have hy := F.sorts hy
  clear ex ey
  obtain ⟨s, hs⟩ : ∃ s, M.sortI (x : Int) = s := ⟨_, rfl⟩
  obtain ⟨s2, hs2⟩ : ∃ s2, M.sortI (y : Int) = s2 := ⟨_, rfl⟩
  rw [hs] at hx ⊢
  rw [hs2] at hy ⊢
  clear hs hs2
  obtain ⟨r, hr1⟩ : ∃ r, F.rung x = r := ⟨_, rfl⟩
  obtain ⟨t, ht1⟩ : ∃ t, F.rung y = t := ⟨_, rfl⟩
  rw [hr1] at hx lx ⊢
  rw [ht1] at hy ly ⊢
  rcases hx with ⟨rfl, h⟩ | ⟨rfl, h', h⟩ | ⟨rfl, h', _, h⟩ | ⟨rfl, h', h⟩ | ⟨rfl, h', h⟩ | ⟨rfl, h', _, h⟩ | ⟨rfl, h', h⟩ <;>
  rcases hy with ⟨rfl, g⟩ | ⟨rfl, g', g⟩ | ⟨rfl, g', _, g⟩ | ⟨rfl, g', g⟩ | ⟨rfl, g', g⟩ | ⟨rfl, g', _, g⟩ | ⟨rfl, g', g⟩ <;>
  (try rw [h]) <;> (try rw [g]) <;> simp only [if_true, if_false, Bool.false_eq_true, Int.reduceEq, Int.reduceLT] <;> (repeat' split) <;> omega

/-- The order of any two, by their places. -/
theorem order_place {x y : Int} (h0 : 0 ≤ x) (h1 : x ≤ 18446744073709551615) (g0 : 0 ≤ y) (g1 : y ≤ 18446744073709551615) : M.orderI x y = M.signI (F.rank x.toNat) (F.rank y.toNat) := by
  obtain ⟨n, rfl⟩ := Int.eq_ofNat_of_zero_le h0
  obtain ⟨m, rfl⟩ := Int.eq_ofNat_of_zero_le g0
  exact order_rank (by omega) (by omega)
theorem sort_same {x y : Int} (h : M.orderI x y = 0) : M.sortI x = M.sortI y := by
  by_cases e : M.sortI x = M.sortI y
  · exact e
  · unfold M.orderI M.signI at h
    rw [if_neg e] at h
    repeat' split at h
    all_goals omega

theorem live : M.cellsI 4612811918334230528 = some 3 ∧ M.cellsI 4611686018427387905 = some 3 ∧ M.cellsI 9223372036854775808 = some 0 ∧ M.cellsI 9221120237041090560 = none ∧ M.ofI 2 = some 4611686018427387904 ∧ M.sortI 9218868437227405312 = 6 ∧ M.orderI 9223372036854775808 0 = -1 := by decide +kernel

set_option maxHeartbeats 1000000 in
theorem alive_true (w : World) : Calls Try.prog 12 #[] w fun r w' => r = .returned (.bool true) ∧ w' = w := by
  obtain ⟨l1, l2, l3, l4, l5, l6, l7⟩ := live
  have h1 := cells_at 4612811918334230528 w (by decide) (by decide)
  have h2 := cells_at 4611686018427387905 w (by decide) (by decide)
  have h3 := cells_at 9223372036854775808 w (by decide) (by decide)
  have h4 := cells_at 9221120237041090560 w (by decide) (by decide)
  have h5 := of_any 2 w (by decide) (by decide)
  have h6 := sort_at 9218868437227405312 w (by decide) (by decide)
  have h7 := order_at 9223372036854775808 0 w (by decide) (by decide) (by decide) (by decide)
  rw [l1] at h1
  rw [l2] at h2
  rw [l3] at h3
  rw [l4] at h4
  rw [l5] at h5
  rw [l6] at h6
  rw [l7] at h7
  simp only [M.cellsV, M.ofV] at h1 h2 h3 h4 h5
  have H1 := Lib.hid h1
  have H2 := Lib.hid h2
  have H3 := Lib.hid h3
  have H4 := Lib.hid h4
  have H5 := Lib.hid h5
  have H6 := Lib.hid h6
  have H7 := Lib.hid h7
  clear h1 h2 h3 h4 h5 h6 h7 l1 l2 l3 l4 l5 l6 l7
  go_enter Try.func12, Try.ntmps12
  go_wp2_with fail
  refine H1.out.mono ?_
  rintro r w2 ⟨rfl, rfl⟩
  go_wp2_with fail
  refine H2.out.mono ?_
  rintro r w2 ⟨rfl, rfl⟩
  go_wp2_with fail
  refine H3.out.mono ?_
  rintro r w2 ⟨rfl, rfl⟩
  go_wp2_with fail
  refine H4.out.mono ?_
  rintro r w2 ⟨rfl, rfl⟩
  go_wp2_with fail
  refine H5.out.mono ?_
  rintro r w2 ⟨rfl, rfl⟩
  go_wp2_with fail
  refine H6.out.mono ?_
  rintro r w2 ⟨rfl, rfl⟩
  go_wp2_with fail
  refine H7.out.mono ?_
  rintro r w2 ⟨rfl, rfl⟩
  go_wp2
  go_ret
  exact ⟨rfl, rfl⟩
end Go.Proofs.Ytdjdgpfoakkamaa
