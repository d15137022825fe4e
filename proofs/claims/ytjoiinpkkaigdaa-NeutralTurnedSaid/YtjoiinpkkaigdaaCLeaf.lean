/- The contracts of package neutral's isLevel, isSide, isNeutral, side, between, steps and fill. Conditions: a level is 0 or more where it is halved; fill's row is a block of one's own. -/
import Derived.Test.YtjoiinpkkaigdaaRRaise
namespace Go.Proofs.Ytjoiinpkkaigdaa
open Go.RowKit
set_option maxRecDepth 100000

theorem cisLevel_any (lv : Int) (w : World) : Calls Try.prog 16 #[.int .i64 lv] w fun r w' => r = .returned (.bool (decide (0 ≤ lv ∧ lv ≤ 125))) ∧ w = w' := by
  go_enter Try.func16, Try.ntmps16
  go_wp2_with fail
  all_goals (go_ret; exact ⟨ret_bool (by rw [Bool.eq_iff_iff]; simp; omega), rfl⟩)
theorem cisSide_any (c : Int) (w : World) : Calls Try.prog 17 #[.int .i64 c] w fun r w' => r = .returned (.bool (decide (c = 0 ∨ c = 1))) ∧ w = w' := by
  go_enter Try.func17, Try.ntmps17
  go_wp2_with fail
  all_goals (go_ret; exact ⟨ret_bool (by rw [Bool.eq_iff_iff, decide_eq_true_iff]; simp_all), rfl⟩)
set_option maxHeartbeats 4000000 in
theorem cisNeu_any (c : Int) (w : World) : Calls Try.prog 24 #[.int .i64 c] w fun r w' => r = .returned (.bool (decide (M.neu c))) ∧ w = w' := by
  have H := Lib.hid (show M.neu c ↔ (c = 10 ∨ c = 11 ∨ c = 12 ∨ c = 13 ∨ c = 19 ∨ c = 20 ∨ c = 21 ∨ c = 22) from Iff.rfl)
  go_enter Try.func24, Try.ntmps24
  go_wp2_with fail
  all_goals (go_ret; exact ⟨ret_bool (by rw [Bool.eq_iff_iff, decide_eq_true_iff, H.out]; simp_all), rfl⟩)
def M.sd0 (c : Int) : Int := if c = 0 then 0 else if c = 1 ∨ c = 3 ∨ c = 6 then 1 else 0
def M.isSd (c : Int) : Bool := if c = 0 then true else if c = 1 ∨ c = 3 ∨ c = 6 then true else false
theorem M.sd_is (c : Int) : M.sd2 c = if M.isSd c = true then M.sd0 c else 10 := by
  unfold M.sd2 M.isSd M.sd0
  (repeat' split) <;> simp_all
theorem cside_any (c : Int) (w : World) : Calls Try.prog 25 #[.int .i64 c] w fun r w' => r = .returned (.tuple #[.int .i64 (M.sd0 c), .bool (M.isSd c)]) ∧ w = w' := by
  have H := Lib.hid (show M.sd0 c = if c = 0 then 0 else if c = 1 ∨ c = 3 ∨ c = 6 then 1 else 0 from rfl)
  have H2 := Lib.hid (show M.isSd c = if c = 0 then true else if c = 1 ∨ c = 3 ∨ c = 6 then true else false from rfl)
  go_enter Try.func25, Try.ntmps25
  go_wp2_with fail
  all_goals (go_returns; exact ⟨by rw [H.out, H2.out]; simp_all, rfl⟩)
def M.btw (lv a b : Int) : Int := if M.sd2 a = M.sd2 b ∧ M.sd2 a ≠ 10 then M.sd2 a else M.own lv
theorem cbetween_any (a b lv : Int) (w : World) (h0 : 0 ≤ lv) : Calls Try.prog 20 #[.int .i64 a, .int .i64 b, .int .i64 lv] w fun r w' => r = .returned (.int .i64 (M.btw lv a b)) ∧ w = w' := by
  have HA := Lib.hid (cside_any a w)
  have HB := Lib.hid (cside_any b w)
  obtain ⟨R, hR⟩ : ∃ R, M.btw lv a b = R := ⟨_, rfl⟩
  rw [hR]
  have e : (if M.isSd a = true ∧ M.isSd b = true ∧ M.sd0 a = M.sd0 b then M.sd0 a else M.own lv) = R := by
    rw [← hR]
    have := M.sd2_or a
    unfold M.btw
    rw [M.sd_is a, M.sd_is b] at *
    (repeat' split) <;> simp_all
    all_goals (unfold M.sd0 at *; (repeat' split at *) <;> simp_all)
  obtain ⟨x, hx⟩ : ∃ x, M.sd0 a = x := ⟨_, rfl⟩
  obtain ⟨y, hy⟩ : ∃ y, M.sd0 b = y := ⟨_, rfl⟩
  obtain ⟨p, hp⟩ : ∃ x, M.isSd a = x := ⟨_, rfl⟩
  obtain ⟨q, hq⟩ : ∃ y, M.isSd b = y := ⟨_, rfl⟩
  rw [hx, hp] at HA
  rw [hy, hq] at HB
  rw [hx, hy, hp, hq] at e
  have HE := Lib.hid e
  clear hR e hx hy hp hq
  rcases Int.emod_two_eq lv with h2 | h2
  · have HO := Lib.hid (show M.own lv = 0 by unfold M.own; rw [h2]; rfl)
    have hb2 : (lv % 2 == 1) = false := by rw [h2]; rfl
    clear h2
    go_enter Try.func20, Try.ntmps20
    go_wp2_with fail
    refine HA.out.mono ?_
    rintro r w1 ⟨rfl, rfl⟩
    go_wp2_with fail
    refine HB.out.mono ?_
    rintro r w1 ⟨rfl, rfl⟩
    go_wp2_with fail
    all_goals (go_ret; exact ⟨ret_int (by rw [← HE.out, HO.out]; simp_all), rfl⟩)
  · have HO := Lib.hid (show M.own lv = 1 by unfold M.own; rw [h2]; rfl)
    have hb2 : (lv % 2 == 1) = true := by rw [h2]; rfl
    clear h2
    go_enter Try.func20, Try.ntmps20
    go_wp2_with fail
    refine HA.out.mono ?_
    rintro r w1 ⟨rfl, rfl⟩
    go_wp2_with fail
    refine HB.out.mono ?_
    rintro r w1 ⟨rfl, rfl⟩
    go_wp2_with fail
    all_goals (go_ret; exact ⟨ret_int (by rw [← HE.out, HO.out]; simp_all), rfl⟩)
theorem csteps_any (c lv : Int) (w : World) (h0 : 0 ≤ lv) (h1 : lv ≤ 125) : Calls Try.prog 22 #[.int .i64 c, .int .i64 lv] w fun r w' => r = .returned (.int .i64 (M.rs lv c - lv)) ∧ w = w' := by
  obtain ⟨R, hR⟩ : ∃ R, M.rs lv c - lv = R := ⟨_, rfl⟩
  rw [hR]
  have e : (if c = 0 then lv % 2 else if c = 1 then 1 - lv % 2 else if c = 3 ∨ c = 6 then 2 - lv % 2 else 0) = R := by
    rw [← hR]
    unfold M.rs
    (repeat' split) <;> omega
  have HE := Lib.hid e
  clear hR e
  have m0 : 0 ≤ lv % 2 := by omega
  have m1 : lv % 2 ≤ 1 := by omega
  go_enter Try.func22, Try.ntmps22
  go_wp2_with fail
  all_goals (go_ret; exact ⟨ret_int (by rw [← HE.out]; simp_all), rfl⟩)
end Go.Proofs.Ytjoiinpkkaigdaa
