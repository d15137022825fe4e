/- The code's Order over the translation: it is the document's, on the bits. Conditions: the bits are those of words of eight bytes. -/
import Derived.Test.YtdjdgpfoakkamaaFlt
namespace Go.Proofs.Ytdjdgpfoakkamaa
open Go.RowKit

set_option maxHeartbeats 1000000 in
theorem compareInt_any (a b : Int) (w : World) :
    Calls Try.prog 29 #[.int .i64 a, .int .i64 b] w fun r w' => r = .returned (.int .i64 (M.signI a b)) ∧ w' = w := by
  unfold M.signI
  by_cases h1 : a < b
  · go_enter Try.func29, Try.ntmps29
    go_wp2
    go_ret
    exact ⟨ret_int (by simp), rfl⟩
  · by_cases h2 : b < a
    · go_enter Try.func29, Try.ntmps29
      go_wp2
      go_ret
      exact ⟨ret_int (by simp), rfl⟩
    · go_enter Try.func29, Try.ntmps29
      go_wp2
      go_ret
      exact ⟨ret_int (by simp), rfl⟩

/-- Two that are no numbers are as one to the library. -/
theorem compareNone_any (a b : Nat) (w : World) (ha : F.inf < F.rung a) (hb : F.inf < F.rung b) :
    Calls Try.prog 30 #[.float .f64 a, .float .f64 b] w fun r w' => r = .returned (.int .i64 0) ∧ w' = w := by
  have HA := Lib.hid (cmpNaN_any a w)
  have HB := Lib.hid (cmpNaN_any b w)
  rw [decide_eq_true ha] at HA
  rw [decide_eq_true hb] at HB
  go_enter Try.func30, Try.ntmps30
  go_wp2_with fail
  refine HA.out.mono ?_
  rintro r w2 ⟨rfl, rfl⟩
  go_wp2_with fail
  refine HB.out.mono ?_
  rintro r w2 ⟨rfl, rfl⟩
  go_wp2
  go_ret
  exact ⟨rfl, rfl⟩

theorem compareSome_any (a b : Nat) (w : World) (ha : F.rung a ≤ F.inf) (hb : F.rung b ≤ F.inf) :
    Calls Try.prog 30 #[.float .f64 a, .float .f64 b] w fun r w' => r = .returned (.int .i64 (M.signI (F.key a) (F.key b))) ∧ w' = w := by
  have HA := Lib.hid (cmpNaN_any a w)
  have HB := Lib.hid (cmpNaN_any b w)
  rw [decide_eq_false (by omega)] at HA HB
  have hl := F.cmp_lt_iff ha hb
  have hg := F.cmp_gt_iff ha hb
  unfold F.cmp at hl hg
  unfold M.signI
  by_cases h1 : F.key a < F.key b
  · rw [if_pos h1]
    rw [decide_eq_true h1] at hl
    clear hg
    go_enter Try.func30, Try.ntmps30
    go_wp2_with fail
    refine HA.out.mono ?_
    rintro r w2 ⟨rfl, rfl⟩
    go_wp2_with fail
    refine HB.out.mono ?_
    rintro r w2 ⟨rfl, rfl⟩
    go_wp2
    go_ret
    exact ⟨rfl, rfl⟩
  · rw [if_neg h1]
    rw [decide_eq_false h1] at hl
    by_cases h2 : F.key b < F.key a
    · rw [if_pos h2]
      rw [decide_eq_true h2] at hg
      go_enter Try.func30, Try.ntmps30
      go_wp2_with fail
      refine HA.out.mono ?_
      rintro r w2 ⟨rfl, rfl⟩
      go_wp2_with fail
      refine HB.out.mono ?_
      rintro r w2 ⟨rfl, rfl⟩
      go_wp2
      go_ret
      exact ⟨rfl, rfl⟩
    · rw [if_neg h2]
      rw [decide_eq_false h2] at hg
      go_enter Try.func30, Try.ntmps30
      go_wp2_with fail
      refine HA.out.mono ?_
      rintro r w2 ⟨rfl, rfl⟩
      go_wp2_with fail
      refine HB.out.mono ?_
      rintro r w2 ⟨rfl, rfl⟩
      go_wp2
      go_ret
      exact ⟨rfl, rfl⟩

theorem F.sorts {x : Nat} (h : x < 18446744073709551616) :
    (M.sortI (x : Int) = 0 ∧ F.inf < F.rung x) ∨ (M.sortI (x : Int) = 1 ∧ F.rung x = F.inf ∧ F.neg x = true) ∨ (M.sortI (x : Int) = 2 ∧ F.rung x < F.inf ∧ 0 < F.rung x ∧ F.neg x = true) ∨ (M.sortI (x : Int) = 3 ∧ F.rung x = 0 ∧ F.neg x = true) ∨ (M.sortI (x : Int) = 4 ∧ F.rung x = 0 ∧ F.neg x = false) ∨ (M.sortI (x : Int) = 5 ∧ F.rung x < F.inf ∧ 0 < F.rung x ∧ F.neg x = false) ∨ (M.sortI (x : Int) = 6 ∧ F.rung x = F.inf ∧ F.neg x = false) := by
  rw [F.sort_eq h]
  have hz : F.inf = 9218868437227405312 := rfl
  by_cases h1 : F.inf < F.rung x
  · rw [if_pos h1]; exact .inl ⟨rfl, h1⟩
  · rw [if_neg h1]
    by_cases h2 : F.rung x = F.inf
    · rw [if_pos h2]
      cases F.neg x <;> simp [h2]
    · rw [if_neg h2]
      by_cases h3 : F.rung x = 0
      · rw [if_pos h3]
        cases F.neg x <;> simp [h3]
      · rw [if_neg h3]
        have h4 : F.rung x < F.inf := by omega
        have h5 : 0 < F.rung x := by omega
        cases F.neg x <;> simp [h4, h5]

/-- What the document's order is of two of one sort that are numbers: that of their keys. -/
theorem order_keys {x y : Nat} (hx : x < 18446744073709551616) (hy : y < 18446744073709551616) (hr : F.rung x ≤ F.inf) (he : M.sortI (x : Int) = M.sortI (y : Int)) :
    F.rung y ≤ F.inf ∧ M.orderI (x : Int) (y : Int) = M.signI (F.key x) (F.key y) := by
  have ex : ((x : Int) % 9223372036854775808) = (F.rung x : Int) := by unfold F.rung; omega
  have ey : ((y : Int) % 9223372036854775808) = (F.rung y : Int) := by unfold F.rung; omega
  have hz : F.inf = 9218868437227405312 := rfl
  unfold M.orderI
  rw [if_pos he, ex, ey, F.key_eq, F.key_eq]
  unfold M.signI
  have hx := F.sorts hx
  have hy := F.sorts hy
  rw [← he] at hy
  clear he ex ey
  obtain ⟨s, hs⟩ : ∃ s, M.sortI (x : Int) = s := ⟨_, rfl⟩
  rw [hs] at hx hy ⊢
  clear hs
  obtain ⟨r, hr1⟩ : ∃ r, F.rung x = r := ⟨_, rfl⟩
  obtain ⟨t, ht1⟩ : ∃ t, F.rung y = t := ⟨_, rfl⟩
  rw [hr1] at hx hr ⊢
  rw [ht1] at hy ⊢
  rcases hx with ⟨_, h⟩ | ⟨rfl, rfl, h⟩ | ⟨rfl, _, _, h⟩ | ⟨rfl, rfl, h⟩ | ⟨rfl, rfl, h⟩ | ⟨rfl, _, _, h⟩ | ⟨rfl, rfl, h⟩
  · omega
  all_goals
    rcases hy with ⟨k, _⟩ | ⟨k, k1, g⟩ | ⟨k, k1, _, g⟩ | ⟨k, k1, g⟩ | ⟨k, k1, g⟩ | ⟨k, k1, _, g⟩ | ⟨k, k1, g⟩ <;> first | (exfalso; omega) | skip
    rw [h, g]
    refine ⟨by omega, ?_⟩
    simp only [if_true, if_false, Bool.false_eq_true, Int.reduceEq]
    try (repeat' split)
    all_goals omega
theorem order_none {x y : Nat} (hx : x < 18446744073709551616) (hy : y < 18446744073709551616) (hr : F.inf < F.rung x) (he : M.sortI (x : Int) = M.sortI (y : Int)) :
    F.inf < F.rung y ∧ M.orderI (x : Int) (y : Int) = 0 := by
  unfold M.orderI
  have h0 : M.sortI (x : Int) = 0 := by rw [F.sort_eq hx, if_pos hr]
  rw [if_pos he, if_pos h0]
  refine ⟨?_, rfl⟩
  rw [h0] at he
  rcases F.sorts hy with ⟨_, h⟩ | ⟨h, _⟩ | ⟨h, _⟩ | ⟨h, _⟩ | ⟨h, _⟩ | ⟨h, _⟩ | ⟨h, _⟩
  · exact h
  all_goals omega

set_option maxHeartbeats 1000000 in
theorem order_any (x y : Nat) (w : World) (hx : x < 18446744073709551616) (hy : y < 18446744073709551616) :
    Calls Try.prog 15 #[.int .u64 (x : Int), .int .u64 (y : Int)] w fun r w' => r = .returned (.int .i64 (M.orderI (x : Int) (y : Int))) ∧ w' = w := by
  have HX := Lib.hid (sort_any x w hx)
  have HY := Lib.hid (sort_any y w hy)
  have HC := Lib.hid (compareInt_any (M.sortI (x : Int)) (M.sortI (y : Int)) w)
  by_cases he : M.sortI (x : Int) = M.sortI (y : Int)
  · have hs : M.signI (M.sortI (x : Int)) (M.sortI (y : Int)) = 0 := by unfold M.signI; rw [if_neg (by omega), if_neg (by omega)]
    rw [hs] at HC
    by_cases hr : F.inf < F.rung x
    · obtain ⟨hr2, ho⟩ := order_none hx hy hr he
      rw [ho]
      have HF := Lib.hid (compareNone_any x y w hr hr2)
      clear ho hs he hr hr2
      go_enter Try.func15, Try.ntmps15
      go_wp2_with fail
      refine HX.out.mono ?_
      rintro r w2 ⟨rfl, rfl⟩
      go_wp2_with fail
      refine HY.out.mono ?_
      rintro r w2 ⟨rfl, rfl⟩
      go_wp2_with fail
      refine HC.out.mono ?_
      rintro r w2 ⟨rfl, rfl⟩
      go_wp2_with fail
      refine HF.out.mono ?_
      rintro r w2 ⟨rfl, rfl⟩
      go_wp2
      go_ret
      exact ⟨rfl, rfl⟩
    · obtain ⟨hr2, ho⟩ := order_keys hx hy (by omega) he
      rw [ho]
      have HF := Lib.hid (compareSome_any x y w (by omega) hr2)
      obtain ⟨k, hk⟩ : ∃ k, M.signI (F.key x) (F.key y) = k := ⟨_, rfl⟩
      rw [hk] at HF ⊢
      clear hk ho hs he hr hr2
      go_enter Try.func15, Try.ntmps15
      go_wp2_with fail
      refine HX.out.mono ?_
      rintro r w2 ⟨rfl, rfl⟩
      go_wp2_with fail
      refine HY.out.mono ?_
      rintro r w2 ⟨rfl, rfl⟩
      go_wp2_with fail
      refine HC.out.mono ?_
      rintro r w2 ⟨rfl, rfl⟩
      go_wp2_with fail
      refine HF.out.mono ?_
      rintro r w2 ⟨rfl, rfl⟩
      go_wp2
      go_ret
      exact ⟨rfl, rfl⟩
  · have hs : M.signI (M.sortI (x : Int)) (M.sortI (y : Int)) ≠ 0 := by unfold M.signI; repeat' split; all_goals omega
    have ho : M.orderI (x : Int) (y : Int) = M.signI (M.sortI (x : Int)) (M.sortI (y : Int)) := by unfold M.orderI; rw [if_neg he]
    rw [ho]
    obtain ⟨k, hk⟩ : ∃ k, M.signI (M.sortI (x : Int)) (M.sortI (y : Int)) = k := ⟨_, rfl⟩
    rw [hk] at HC hs ⊢
    clear hk ho he
    go_enter Try.func15, Try.ntmps15
    go_wp2_with fail
    refine HX.out.mono ?_
    rintro r w2 ⟨rfl, rfl⟩
    go_wp2_with fail
    refine HY.out.mono ?_
    rintro r w2 ⟨rfl, rfl⟩
    go_wp2_with fail
    refine HC.out.mono ?_
    rintro r w2 ⟨rfl, rfl⟩
    go_wp2
    go_ret
    exact ⟨rfl, rfl⟩
end Go.Proofs.Ytdjdgpfoakkamaa
