/- The walk of stage 4's law of an order: it answers true. Conditions: the arguments are those of words of eight bytes. -/
import Derived.Test.YtdjdgpfoakkamaaAlive
namespace Go.Proofs.Ytdjdgpfoakkamaa
open Go.RowKit

theorem orders (x y z p q : Int) : 
    let a := M.signI x y
    let b := M.signI y z
    let c := M.signI x z
    M.signI y x = -a ∧ (a = 1 ∨ (a = 0 ∧ 0 < b) ∨ (a = 0 ∧ b ≤ 0 ∧ c ≤ 0) ∨ (a = -1 ∧ 0 < b) ∨ (a = -1 ∧ b ≤ 0 ∧ c < 0)) ∧ (p ≤ x → M.signI p x ≤ 0) ∧ (x ≤ q → M.signI x q ≤ 0) ∧ M.signI x x = 0 := by
  dsimp only
  unfold M.signI
  refine ⟨?_, ?_, fun h => ?_, fun h => ?_, ?_⟩ <;> (repeat' split) <;> omega
theorem rank_least (x : Nat) : F.rank 9221120237041090561 ≤ F.rank x := by
  have e : F.rank 9221120237041090561 = -36893488147419103232 := by decide
  have := F.rung_le x
  rw [e]
  unfold F.rank
  repeat' split
  all_goals omega
theorem rank_most (x : Nat) : F.rank x ≤ F.rank 9218868437227405312 := by
  have e : F.rank 9218868437227405312 = 9218868437227405312 := by decide
  rw [e]
  have hz : F.inf = 9218868437227405312 := rfl
  unfold F.rank
  repeat' split
  all_goals omega

set_option maxHeartbeats 4000000 in
theorem orderLaw_any (x y z : Int) (w : World) (hx0 : 0 ≤ x) (hx1 : x ≤ 18446744073709551615) (hy0 : 0 ≤ y) (hy1 : y ≤ 18446744073709551615) (hz0 : 0 ≤ z) (hz1 : z ≤ 18446744073709551615) :
    Calls Try.prog 5 #[.int .u64 x, .int .u64 y, .int .u64 z] w fun r w' => r = .returned (.bool true) ∧ w' = w := by
  have ha := order_at x y w hx0 hx1 hy0 hy1
  have hb := order_at y z w hy0 hy1 hz0 hz1
  have hc := order_at x z w hx0 hx1 hz0 hz1
  have hd := order_at y x w hy0 hy1 hx0 hx1
  have hp := order_at 9221120237041090561 x w (by decide) (by decide) hx0 hx1
  have hq := order_at x 9218868437227405312 w hx0 hx1 (by decide) (by decide)
  have hs := order_at x x w hx0 hx1 hx0 hx1
  have hX := sort_at x w hx0 hx1
  have hY := sort_at y w hy0 hy1
  have same := @sort_same x y
  rw [order_place hx0 hx1 hy0 hy1] at ha same
  rw [order_place hy0 hy1 hz0 hz1] at hb
  rw [order_place hx0 hx1 hz0 hz1] at hc
  rw [order_place hy0 hy1 hx0 hx1] at hd
  rw [order_place (by decide) (by decide) hx0 hx1] at hp
  rw [order_place hx0 hx1 (by decide) (by decide)] at hq
  rw [order_place hx0 hx1 hx0 hx1] at hs
  obtain ⟨e1, e2, e3, e4, e5⟩ := orders (F.rank x.toNat) (F.rank y.toNat) (F.rank z.toNat) (F.rank 9221120237041090561) (F.rank 9218868437227405312)
  have hp0 := e3 (rank_least _)
  have hq0 := e4 (rank_most _)
  rw [e1] at hd
  rw [e5] at hs
  clear e1 e3 e4 e5
  rw [show Int.toNat 9221120237041090561 = 9221120237041090561 from rfl] at hp
  rw [show Int.toNat 9218868437227405312 = 9218868437227405312 from rfl] at hq
  obtain ⟨p, hpp⟩ : ∃ p, M.signI (F.rank 9221120237041090561) (F.rank x.toNat) = p := ⟨_, rfl⟩
  obtain ⟨q, hqq⟩ : ∃ q, M.signI (F.rank x.toNat) (F.rank 9218868437227405312) = q := ⟨_, rfl⟩
  rw [hpp] at hp hp0
  rw [hqq] at hq hq0
  clear hpp hqq
  obtain ⟨a, haa⟩ : ∃ a, M.signI (F.rank x.toNat) (F.rank y.toNat) = a := ⟨_, rfl⟩
  obtain ⟨b, hbb⟩ : ∃ b, M.signI (F.rank y.toNat) (F.rank z.toNat) = b := ⟨_, rfl⟩
  obtain ⟨c, hcc⟩ : ∃ c, M.signI (F.rank x.toNat) (F.rank z.toNat) = c := ⟨_, rfl⟩
  rw [haa] at ha hd same e2
  rw [hbb] at hb e2
  rw [hcc] at hc e2
  clear haa hbb hcc
  have HA := Lib.hid ha
  have HB := Lib.hid hb
  have HC := Lib.hid hc
  have HD := Lib.hid hd
  have HP := Lib.hid hp
  have HQ := Lib.hid hq
  have HS := Lib.hid hs
  clear ha hb hc hd hp hq hs
  rcases e2 with e | ⟨e, e'⟩ | ⟨e, e', e''⟩ | ⟨e, e'⟩ | ⟨e, e', e''⟩
  · subst e
    clear same hX hY
    go_enter Try.func5, Try.ntmps5
    go_wp2_with fail
    refine HA.out.mono ?_
    rintro r w2 ⟨rfl, rfl⟩
    go_wp2_with fail
    refine HB.out.mono ?_
    rintro r w2 ⟨rfl, rfl⟩
    go_wp2_with fail
    refine HC.out.mono ?_
    rintro r w2 ⟨rfl, rfl⟩
    go_wp2_with fail
    refine HD.out.mono ?_
    rintro r w2 ⟨rfl, rfl⟩
    go_wp2_with fail
    refine HP.out.mono ?_
    rintro r w2 ⟨rfl, rfl⟩
    go_wp2_with fail
    refine HQ.out.mono ?_
    rintro r w2 ⟨rfl, rfl⟩
    go_wp2_with fail
    refine (alive_true _).mono ?_
    rintro r w2 ⟨rfl, rfl⟩
    go_wp2_with fail
    refine HS.out.mono ?_
    rintro r w2 ⟨rfl, rfl⟩
    go_wp2
    go_ret
    exact ⟨rfl, rfl⟩
  · subst e
    have hsame := same rfl
    rw [hsame] at hX
    obtain ⟨s, hss⟩ : ∃ s, M.sortI y = s := ⟨_, rfl⟩
    rw [hss] at hX hY
    clear hss hsame same
    have HX := Lib.hid hX
    have HY := Lib.hid hY
    clear hX hY
    go_enter Try.func5, Try.ntmps5
    go_wp2_with fail
    refine HA.out.mono ?_
    rintro r w2 ⟨rfl, rfl⟩
    go_wp2_with fail
    refine HB.out.mono ?_
    rintro r w2 ⟨rfl, rfl⟩
    go_wp2_with fail
    refine HC.out.mono ?_
    rintro r w2 ⟨rfl, rfl⟩
    go_wp2_with fail
    refine HD.out.mono ?_
    rintro r w2 ⟨rfl, rfl⟩
    go_wp2_with fail
    refine HP.out.mono ?_
    rintro r w2 ⟨rfl, rfl⟩
    go_wp2_with fail
    refine HQ.out.mono ?_
    rintro r w2 ⟨rfl, rfl⟩
    go_wp2_with fail
    refine (alive_true _).mono ?_
    rintro r w2 ⟨rfl, rfl⟩
    go_wp2_with fail
    refine HS.out.mono ?_
    rintro r w2 ⟨rfl, rfl⟩
    go_wp2_with fail
    refine HX.out.mono ?_
    rintro r w2 ⟨rfl, rfl⟩
    go_wp2_with fail
    refine HY.out.mono ?_
    rintro r w2 ⟨rfl, rfl⟩
    go_wp2
    go_ret
    exact ⟨rfl, rfl⟩
  · subst e
    have hsame := same rfl
    rw [hsame] at hX
    obtain ⟨s, hss⟩ : ∃ s, M.sortI y = s := ⟨_, rfl⟩
    rw [hss] at hX hY
    clear hss hsame same
    have HX := Lib.hid hX
    have HY := Lib.hid hY
    clear hX hY
    go_enter Try.func5, Try.ntmps5
    go_wp2_with fail
    refine HA.out.mono ?_
    rintro r w2 ⟨rfl, rfl⟩
    go_wp2_with fail
    refine HB.out.mono ?_
    rintro r w2 ⟨rfl, rfl⟩
    go_wp2_with fail
    refine HC.out.mono ?_
    rintro r w2 ⟨rfl, rfl⟩
    go_wp2_with fail
    refine HD.out.mono ?_
    rintro r w2 ⟨rfl, rfl⟩
    go_wp2_with fail
    refine HP.out.mono ?_
    rintro r w2 ⟨rfl, rfl⟩
    go_wp2_with fail
    refine HQ.out.mono ?_
    rintro r w2 ⟨rfl, rfl⟩
    go_wp2_with fail
    refine (alive_true _).mono ?_
    rintro r w2 ⟨rfl, rfl⟩
    go_wp2_with fail
    refine HS.out.mono ?_
    rintro r w2 ⟨rfl, rfl⟩
    go_wp2_with fail
    refine HX.out.mono ?_
    rintro r w2 ⟨rfl, rfl⟩
    go_wp2_with fail
    refine HY.out.mono ?_
    rintro r w2 ⟨rfl, rfl⟩
    go_wp2
    go_ret
    exact ⟨rfl, rfl⟩
  · subst e
    clear same hX hY
    go_enter Try.func5, Try.ntmps5
    go_wp2_with fail
    refine HA.out.mono ?_
    rintro r w2 ⟨rfl, rfl⟩
    go_wp2_with fail
    refine HB.out.mono ?_
    rintro r w2 ⟨rfl, rfl⟩
    go_wp2_with fail
    refine HC.out.mono ?_
    rintro r w2 ⟨rfl, rfl⟩
    go_wp2_with fail
    refine HD.out.mono ?_
    rintro r w2 ⟨rfl, rfl⟩
    go_wp2_with fail
    refine HP.out.mono ?_
    rintro r w2 ⟨rfl, rfl⟩
    go_wp2_with fail
    refine HQ.out.mono ?_
    rintro r w2 ⟨rfl, rfl⟩
    go_wp2_with fail
    refine (alive_true _).mono ?_
    rintro r w2 ⟨rfl, rfl⟩
    go_wp2_with fail
    refine HS.out.mono ?_
    rintro r w2 ⟨rfl, rfl⟩
    go_wp2
    go_ret
    exact ⟨rfl, rfl⟩
  · subst e
    have e3 : c ≤ 0 := by omega
    clear same hX hY
    go_enter Try.func5, Try.ntmps5
    go_wp2_with fail
    refine HA.out.mono ?_
    rintro r w2 ⟨rfl, rfl⟩
    go_wp2_with fail
    refine HB.out.mono ?_
    rintro r w2 ⟨rfl, rfl⟩
    go_wp2_with fail
    refine HC.out.mono ?_
    rintro r w2 ⟨rfl, rfl⟩
    go_wp2_with fail
    refine HD.out.mono ?_
    rintro r w2 ⟨rfl, rfl⟩
    go_wp2_with fail
    refine HP.out.mono ?_
    rintro r w2 ⟨rfl, rfl⟩
    go_wp2_with fail
    refine HQ.out.mono ?_
    rintro r w2 ⟨rfl, rfl⟩
    go_wp2_with fail
    refine (alive_true _).mono ?_
    rintro r w2 ⟨rfl, rfl⟩
    go_wp2_with fail
    refine HS.out.mono ?_
    rintro r w2 ⟨rfl, rfl⟩
    go_wp2
    go_ret
    exact ⟨rfl, rfl⟩
end Go.Proofs.Ytdjdgpfoakkamaa
