/- The document's own answers for sorts, as its functions Sort and Order give them, over the translation: on bits alone. Conditions: the bits are those of a word of eight bytes. -/
import Derived.Test.YtdjdgpfoakkamaaRows
import Derived.WalkKit
import Derived.Lib.Hide
import Derived.WalkSpells
import Derived.WalkLawsBesides
namespace Go.Proofs.Ytdjdgpfoakkamaa
open Go.RowKit

/-- The sort of a word's bits: sign, exponent and fraction tell it. -/
def M.sortI (x : Int) : Int :=
  let s := x / 9223372036854775808
  let e := x / 4503599627370496 % 2048
  let f := x % 4503599627370496
  if e = 2047 ∧ 0 < f then 0
  else if e = 2047 ∧ s = 1 then 1
  else if e = 2047 then 6
  else if e = 0 ∧ f = 0 then 4 - s
  else 5 - 3 * s

def M.signI (a b : Int) : Int := if a < b then -1 else if b < a then 1 else 0

def M.orderI (x y : Int) : Int :=
  if M.sortI x = M.sortI y then
    if M.sortI x = 0 then 0
    else if M.sortI x = 2 then - M.signI (x % 9223372036854775808) (y % 9223372036854775808)
    else M.signI (x % 9223372036854775808) (y % 9223372036854775808)
  else M.signI (M.sortI x) (M.sortI y)

theorem refParts_any (x : Int) (w : World) (h0 : 0 ≤ x) (h1 : x ≤ 18446744073709551615) :
    Calls Try.prog 24 #[.int .u64 x] w fun r w' => r = .returned (.tuple #[.int .u64 (x / 9223372036854775808), .int .i64 (x / 4503599627370496 % 2048), .int .u64 (x % 4503599627370496)]) ∧ w' = w := by
  go_enter Try.func24, Try.ntmps24
  go_wp2
  go_ret3
  exact ⟨rfl, rfl⟩

theorem refSign_any (a b : Int) (w : World) :
    Calls Try.prog 31 #[.int .u64 a, .int .u64 b] w fun r w' => r = .returned (.int .i64 (M.signI a b)) ∧ w' = w := by
  unfold M.signI
  go_enter Try.func31, Try.ntmps31
  by_cases h1 : a < b
  · go_wp2
    go_ret
    exact ⟨by simp, rfl⟩
  · by_cases h2 : b < a
    · go_wp2
      go_ret
      exact ⟨by simp, rfl⟩
    · go_wp2
      go_ret
      exact ⟨by simp, rfl⟩

theorem M.sortI_le (x : Int) (h0 : 0 ≤ x) (h1 : x ≤ 18446744073709551615) : 0 ≤ M.sortI x ∧ M.sortI x ≤ 6 := by
  unfold M.sortI
  dsimp only
  have : 0 ≤ x / 9223372036854775808 ∧ x / 9223372036854775808 ≤ 1 := by omega
  repeat' split
  all_goals omega

set_option maxHeartbeats 1000000 in
theorem refSort_any (x : Int) (w : World) (h0 : 0 ≤ x) (h1 : x ≤ 18446744073709551615) :
    Calls Try.prog 14 #[.int .u64 x] w fun r w' => r = .returned (.int .i64 (M.sortI x)) ∧ w' = w := by
  have hp := refParts_any x w h0 h1
  obtain ⟨s, hs⟩ : ∃ s, x / 9223372036854775808 = s := ⟨_, rfl⟩
  obtain ⟨e, he⟩ : ∃ e, x / 4503599627370496 % 2048 = e := ⟨_, rfl⟩
  obtain ⟨f, hf⟩ : ∃ f, x % 4503599627370496 = f := ⟨_, rfl⟩
  have hs0 : 0 ≤ s := by omega
  have hs1 : s ≤ 1 := by omega
  have he0 : 0 ≤ e := by omega
  have hf0 : 0 ≤ f := by omega
  unfold M.sortI
  dsimp only
  rw [hs, he, hf] at hp ⊢
  have HP := Lib.hid hp
  clear hs he hf hp h0 h1
  go_enter Try.func14, Try.ntmps14
  go_wp2_with fail
  refine HP.out.mono ?_
  rintro r w2 ⟨rfl, rfl⟩
  by_cases c1 : e = 2047
  · subst c1
    by_cases c2 : 0 < f
    · go_wp2
      go_ret
      exact ⟨by simp, rfl⟩
    · by_cases c3 : s = 1
      · subst c3
        go_wp2
        go_ret
        exact ⟨by simp, rfl⟩
      · go_wp2
        go_ret
        exact ⟨by simp, rfl⟩
  · by_cases c4 : e = 0
    · subst c4
      by_cases c5 : f = 0
      · subst c5
        go_wp2
        go_ret
        exact ⟨by simp, rfl⟩
      · go_wp2
        go_ret
        exact ⟨by simp, rfl⟩
    · go_wp2
      go_ret
      exact ⟨by simp, rfl⟩

theorem M.signI_in (a b : Int) : -1 ≤ M.signI a b ∧ M.signI a b ≤ 1 := by
  unfold M.signI
  repeat' split
  all_goals omega

set_option maxHeartbeats 1000000 in
theorem refOrder_any (x y : Int) (w : World) (hx0 : 0 ≤ x) (hx1 : x ≤ 18446744073709551615) (hy0 : 0 ≤ y) (hy1 : y ≤ 18446744073709551615) :
    Calls Try.prog 16 #[.int .u64 x, .int .u64 y] w fun r w' => r = .returned (.int .i64 (M.orderI x y)) ∧ w' = w := by
  have ha := refSort_any x w hx0 hx1
  have hb := refSort_any y w hy0 hy1
  obtain ⟨a0, a1⟩ := M.sortI_le x hx0 hx1
  obtain ⟨b0, b1⟩ := M.sortI_le y hy0 hy1
  unfold M.orderI
  obtain ⟨a, hsa⟩ : ∃ a, M.sortI x = a := ⟨_, rfl⟩
  obtain ⟨b, hsb⟩ : ∃ b, M.sortI y = b := ⟨_, rfl⟩
  rw [hsa] at ha a0 a1 ⊢
  rw [hsb] at hb b0 b1 ⊢
  have HA := Lib.hid ha
  have HB := Lib.hid hb
  clear ha hb hsa hsb
  have HS := Lib.hid (refSign_any a b w)
  have HN := Lib.hid (refSign_any (x % 9223372036854775808) (y % 9223372036854775808) w)
  obtain ⟨n0, n1⟩ := M.signI_in (x % 9223372036854775808) (y % 9223372036854775808)
  obtain ⟨n, hn⟩ : ∃ n, M.signI (x % 9223372036854775808) (y % 9223372036854775808) = n := ⟨_, rfl⟩
  rw [hn] at n0 n1 HN ⊢
  clear hn
  go_enter Try.func16, Try.ntmps16
  go_wp2_with fail
  refine HA.out.mono ?_
  rintro r w2 ⟨rfl, rfl⟩
  go_wp2_with fail
  refine HB.out.mono ?_
  rintro r w3 ⟨rfl, rfl⟩
  by_cases hab : a = b
  · subst hab
    by_cases h0 : a = 0
    · subst h0
      go_wp2
      go_ret
      exact ⟨by simp, rfl⟩
    · go_wp2_with fail
      refine HN.out.mono ?_
      rintro r w4 ⟨rfl, rfl⟩
      by_cases h2 : a = 2
      · subst h2
        go_wp2
        go_ret
        exact ⟨by simp, rfl⟩
      · go_wp2
        go_ret
        exact ⟨by simp, rfl⟩
  · go_wp2_with fail
    refine HS.out.mono ?_
    rintro r w4 ⟨rfl, rfl⟩
    go_wp2
    go_ret
    exact ⟨by simp, rfl⟩
end Go.Proofs.Ytdjdgpfoakkamaa
