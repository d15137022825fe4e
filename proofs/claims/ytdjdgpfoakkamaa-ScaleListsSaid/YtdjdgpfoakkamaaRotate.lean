/- The library's rotation of two stretches that stand side by side, over the translation. Conditions: none of the two is empty. -/
import Derived.Test.YtdjdgpfoakkamaaRow
namespace Go.Proofs.Ytdjdgpfoakkamaa
open Go.RowKit

set_option maxHeartbeats 2000000 in
theorem rotate_any (g a m b len ca : Nat) (p u v s : List Int) (V : Value) (w : World) (hr : Row w g (p ++ (u ++ (v ++ s)))) (hp : p.length = a) (hu : a + u.length = m) (hv : m + v.length = b) (hu0 : 0 < u.length) (hv0 : 0 < v.length) (hl : b + s.length = len) (hc : len ≤ 1000) :
    Calls Try.prog 44 #[.slice (some ⟨g, 0, none⟩) len ca, .int .i64 a, .int .i64 m, .int .i64 b, V] w fun r w' => r = .returned (.tuple #[]) ∧ Row w' g (p ++ (v ++ (u ++ s))) ∧ Below g w w' := by
  obtain ⟨T, hT⟩ : ∃ T, p ++ (v ++ (u ++ s)) = T := ⟨_, rfl⟩
  rw [hT]
  have z0 : (0 : Int) ≤ a := by omega
  have z1 : (a : Int) ≤ m := by omega
  have z2 : (m : Int) ≤ b := by omega
  have z3 : (b : Int) ≤ len := by omega
  have hstart : ∃ (i j : Nat) (p u v s : List Int), (m : Int) - a = i ∧ (b : Int) - m = j ∧ u.length = i ∧ v.length = j ∧ p.length + i = m ∧ 0 < i ∧ 0 < j ∧ m + j + s.length = len ∧ Row w g (p ++ (u ++ (v ++ s))) ∧ p ++ (v ++ (u ++ s)) = T :=
    ⟨u.length, v.length, p, u, v, s, by omega, by omega, rfl, rfl, by omega, hu0, hv0, by omega, hr, hT⟩
  have HST := Lib.hid hstart
  clear hr hT hstart hp hu hv hu0 hv0 hl p u v s
  go_enter Try.func44, Try.ntmps44
  go_wp2
  go_loopw [10, 11] (fun x y wr => ∃ (i j : Nat) (p u v s : List Int), x = .int .i64 i ∧ y = .int .i64 j ∧ u.length = i ∧ v.length = j ∧ p.length + i = m ∧ 0 < i ∧ 0 < j ∧ m + j + s.length = len ∧ Row wr g (p ++ (u ++ (v ++ s))) ∧ p ++ (v ++ (u ++ s)) = T ∧ Below g w wr) (fun x y _ => (intOf x).toNat + (intOf y).toNat)
  case atStart =>
    obtain ⟨i, j, p, u, v, s, e1, e2, h3, h4, h5, h6, h7, h8, h9, h10⟩ := HST.out
    exact ⟨i, j, p, u, v, s, by rw [e1], by rw [e2], h3, h4, h5, h6, h7, h8, h9, h10, Below.refl _ _⟩
  case round =>
    obtain ⟨i, j, p, u, v, s, rfl, rfl, hu, hv, hp, hi, hj, hl, hr, ht, hb⟩ := hrel
    have HB := Lib.hid hb
    clear hb
    have hij : (j : Int) ≤ len := by omega
    have him : (i : Int) ≤ m := by omega
    rcases Nat.lt_trichotomy i j with hlt | heq | hgt
    · obtain ⟨v1, v2, hv12, hl2, hl1⟩ : ∃ v1 v2, v = v1 ++ v2 ∧ v2.length = i ∧ v1.length = j - i := ⟨v.take (j - i), v.drop (j - i), by simp, by simp; omega, by simp; omega⟩
      subst hv12
      have hr2 : Row wr g (p ++ (u ++ (v1 ++ (v2 ++ s)))) := by simpa using hr
      have HC0 := swapRange_any g (m - i) (m + j - i) i len ca p u v1 v2 s V wr hr2 (by omega) hu hl2 (by omega) (by omega) hc
      rw [show ((m - i : Nat) : Int) = (m : Int) - i by omega, show ((m + j - i : Nat) : Int) = (m : Int) + j - i by omega] at HC0
      have HC := Lib.hid HC0
      have HREL := Lib.hid (show v2.length = i ∧ v1.length = j - i ∧ p.length + i = m ∧ 0 < i ∧ 0 < j - i ∧ m + (j - i) + (u ++ s).length = len ∧ p ++ (v1 ++ (v2 ++ (u ++ s))) = T from ⟨hl2, hl1, hp, hi, by omega, by simp; omega, by rw [← ht]; simp⟩)
      have hne : ((i : Int) == (j : Int)) = false := by rw [beq_eq_false_iff_ne]; omega
      have hne2 : (i == j) = false := by rw [beq_eq_false_iff_ne]; omega
      have hgt : ¬ (j : Int) < i := by omega
      have hc2 : (len : Int) ≤ 1000 := by omega
      have hi2 : (0 : Int) < i := by omega
      clear hr hr2 HC0 hu hl hl1 hl2 hp ht hv hi
      go_wp2_with fail
      refine HC.out.mono ?_
      rintro r w1 ⟨rfl, hr3, hb3⟩
      have HR3 := Lib.hid hr3
      have HB3 := Lib.hid (HB.out.trans hb3)
      clear hr3 hb3
      go_wp2
      go_roundw
      case rel =>
        obtain ⟨q1, q2, q3, q4, q5, q6, q7⟩ := HREL.out
        exact ⟨i, j - i, p, v2, v1, u ++ s, rfl, by go_num, q1, q2, q3, q4, q5, q6, HR3.out, q7, HB3.out⟩
      case measure => simp [intOf]; omega
    · subst heq
      have hr2 : Row wr g (p ++ (u ++ ([] ++ (v ++ s)))) := by simpa using hr
      have HC0 := swapRange_any g (m - i) m i len ca p u [] v s V wr hr2 (by omega) hu hv (by simp; omega) (by simp; omega) hc
      rw [show ((m - i : Nat) : Int) = (m : Int) - i by omega] at HC0
      have HC := Lib.hid HC0
      have HT := Lib.hid (show p ++ (v ++ ([] ++ (u ++ s))) = T by rw [← ht]; simp)
      have hc2 : (len : Int) ≤ 1000 := by omega
      clear hr hr2 HC0 hu hl hp ht hv hi
      go_wp2_with fail
      refine HC.out.mono ?_
      rintro r w1 ⟨rfl, hr3, hb3⟩
      rw [HT.out] at hr3
      have HR3 := Lib.hid hr3
      have HB3 := Lib.hid (HB.out.trans hb3)
      clear hr3 hb3
      go_wp2
      go_end0
      exact ⟨rfl, HR3.out, HB3.out⟩
    · obtain ⟨u1, u2, hu12, hl1, hl2⟩ : ∃ u1 u2, u = u1 ++ u2 ∧ u1.length = j ∧ u2.length = i - j := ⟨u.take j, u.drop j, by simp, by simp; omega, by simp; omega⟩
      subst hu12
      have hr2 : Row wr g (p ++ (u1 ++ (u2 ++ (v ++ s)))) := by simpa using hr
      have HC0 := swapRange_any g (m - i) m j len ca p u1 u2 v s V wr hr2 (by omega) hl1 hv (by omega) (by omega) hc
      rw [show ((m - i : Nat) : Int) = (m : Int) - i by omega] at HC0
      have HC := Lib.hid HC0
      have HREL := Lib.hid (show u2.length = i - j ∧ u1.length = j ∧ (p ++ v).length + (i - j) = m ∧ 0 < i - j ∧ 0 < j ∧ m + j + s.length = len ∧ (p ++ v) ++ (u1 ++ (u2 ++ s)) = T from ⟨hl2, hl1, by simp; omega, by omega, hj, hl, by rw [← ht]; simp⟩)
      have hne : ((i : Int) == (j : Int)) = false := by rw [beq_eq_false_iff_ne]; omega
      have hne2 : (i == j) = false := by rw [beq_eq_false_iff_ne]; omega
      have hgt : (j : Int) < i := by omega
      have hc2 : (len : Int) ≤ 1000 := by omega
      have hj2 : (0 : Int) < j := by omega
      clear hr hr2 HC0 hu hl hl1 hl2 hp ht hv hj
      go_wp2_with fail
      refine HC.out.mono ?_
      rintro r w1 ⟨rfl, hr3, hb3⟩
      have hr4 : Row w1 g ((p ++ v) ++ (u2 ++ (u1 ++ s))) := by simpa using hr3
      have HR3 := Lib.hid hr4
      have HB3 := Lib.hid (HB.out.trans hb3)
      clear hr3 hb3 hr4
      go_wp2
      go_roundw
      case rel =>
        obtain ⟨q1, q2, q3, q4, q5, q6, q7⟩ := HREL.out
        exact ⟨i - j, j, p ++ v, u2, u1, s, by go_num, rfl, q1, q2, q3, q4, q5, q6, HR3.out, q7, HB3.out⟩
      case measure => simp [intOf]; omega
end Go.Proofs.Ytdjdgpfoakkamaa
