/- The document's own answers for sorts, as its functions Sort and Order give them, over the translation: on bits alone. Conditions: the bits are those of a word of eight bytes. -/
import Derived.Test.YteknpodofmmklaaDoorRows
import Derived.WalkKit
import Derived.Lib.Hide
import Derived.WalkSpells
import Derived.WalkLawsBesides
namespace Go.Proofs.YteknpodofmmklaaDoor
open Go.RowKit

/-- The sort of a word's bits: sign, exponent and fraction tell it. -/
def M.sortI (x : Int) : Int :=
  let s := x / 9223372036854775808
  let e := x / 4503599627370496 % 2048
  let f := x % 4503599627370496
  if e = 2047 ∧ 0 < f then 0
  else if e = 2047 ∧ s = 1 then 1
  else if e = 2047 then 6
  else if e = 0 ∧ f = 0 then 4 - s
  else 5 - 3 * s

def M.signI (a b : Int) : Int := if a < b then -1 else if b < a then 1 else 0

def M.orderI (x y : Int) : Int :=
  if M.sortI x = M.sortI y then
    if M.sortI x = 0 then 0
    else if M.sortI x = 2 then - M.signI (x % 9223372036854775808) (y % 9223372036854775808)
    else M.signI (x % 9223372036854775808) (y % 9223372036854775808)
  else M.signI (M.sortI x) (M.sortI y)

theorem refParts_any (x : Int) (w : World) (h0 : 0 ≤ x) (h1 : x ≤ 18446744073709551615) :
    Calls Tryd.prog 41 #[.int .u64 x] w fun r w' => r = .returned (.tuple #[.int .u64 (x / 9223372036854775808), .int .i64 (x / 4503599627370496 % 2048), .int .u64 (x % 4503599627370496)]) ∧ w' = w := by
  go_enter Tryd.func41, Tryd.ntmps41
  go_wp2
  go_ret3
  exact ⟨rfl, rfl⟩

theorem M.sortI_le (x : Int) (h0 : 0 ≤ x) (h1 : x ≤ 18446744073709551615) : 0 ≤ M.sortI x ∧ M.sortI x ≤ 6 := by
  unfold M.sortI
  dsimp only
  have : 0 ≤ x / 9223372036854775808 ∧ x / 9223372036854775808 ≤ 1 := by omega
  repeat' split
  all_goals omega

set_option maxHeartbeats 1000000 in
theorem refSort_any (x : Int) (w : World) (h0 : 0 ≤ x) (h1 : x ≤ 18446744073709551615) :
    Calls Tryd.prog 40 #[.int .u64 x] w fun r w' => r = .returned (.int .i64 (M.sortI x)) ∧ w' = w := by
  have hp := refParts_any x w h0 h1
  obtain ⟨s, hs⟩ : ∃ s, x / 9223372036854775808 = s := ⟨_, rfl⟩
  obtain ⟨e, he⟩ : ∃ e, x / 4503599627370496 % 2048 = e := ⟨_, rfl⟩
  obtain ⟨f, hf⟩ : ∃ f, x % 4503599627370496 = f := ⟨_, rfl⟩
  have hs0 : 0 ≤ s := by omega
  have hs1 : s ≤ 1 := by omega
  have he0 : 0 ≤ e := by omega
  have hf0 : 0 ≤ f := by omega
  unfold M.sortI
  dsimp only
  rw [hs, he, hf] at hp ⊢
  have HP := Lib.hid hp
  clear hs he hf hp h0 h1
  go_enter Tryd.func40, Tryd.ntmps40
  go_wp2_with fail
  refine HP.out.mono ?_
  rintro r w2 ⟨rfl, rfl⟩
  by_cases c1 : e = 2047
  · subst c1
    by_cases c2 : 0 < f
    · go_wp2
      go_ret
      exact ⟨by simp, rfl⟩
    · by_cases c3 : s = 1
      · subst c3
        go_wp2
        go_ret
        exact ⟨by simp, rfl⟩
      · go_wp2
        go_ret
        exact ⟨by simp, rfl⟩
  · by_cases c4 : e = 0
    · subst c4
      by_cases c5 : f = 0
      · subst c5
        go_wp2
        go_ret
        exact ⟨by simp, rfl⟩
      · go_wp2
        go_ret
        exact ⟨by simp, rfl⟩
    · go_wp2
      go_ret
      exact ⟨by simp, rfl⟩

theorem M.signI_in (a b : Int) : -1 ≤ M.signI a b ∧ M.signI a b ≤ 1 := by
  unfold M.signI
  repeat' split
  all_goals omega

end Go.Proofs.YteknpodofmmklaaDoor
