/- The contracts of the closures of span's At, Insert and Delete. Conditions: the variables that they hold read as whole numbers that are not too great; so do the ends of the span. -/
import Derived.Test.YteknpodofmmklaaDoorSmall
import Derived.Deep.RegionWith
namespace Go.Proofs.YteknpodofmmklaaDoor
open Go.RowKit

set_option maxHeartbeats 1000000 in
theorem has_any (s : M.S) (i : Int) (b : Nat) (w : World) (hc : w.cell? ⟨b, 0, none⟩ = some (.int .i64 i)) (hb : b < w.heap.size) :
    Calls Tryd.prog 26 #[s.val, .pointer (some ⟨b, 0, none⟩)] w fun r w' => r = .returned (.bool (s.has i)) ∧ Below w.heap.size w w' := by
  obtain ⟨f, t, p, c, r, x⟩ := s
  unfold M.S.val M.S.has
  dsimp only
  by_cases h1 : f ≤ i
  · by_cases h2 : i < t
    · rw [decide_eq_true h1, decide_eq_true h2]
      go_enter Tryd.func26, Tryd.ntmps26
      go_wp2
      go_ret
      exact ⟨rfl, (Below.refl _ _).alloc (Nat.le_refl _) _⟩
    · rw [decide_eq_true h1, decide_eq_false h2]
      go_enter Tryd.func26, Tryd.ntmps26
      go_wp2
      go_ret
      exact ⟨rfl, (Below.refl _ _).alloc (Nat.le_refl _) _⟩
  · rw [decide_eq_false h1]
    go_enter Tryd.func26, Tryd.ntmps26
    go_wp2
    go_ret
    exact ⟨rfl, (Below.refl _ _).alloc (Nat.le_refl _) _⟩

/-- What a closure that moves a span leaves: the span, and whether it is left. -/
def MoveOut (o : Option M.S) (w : World) (r : Ending) (w' : World) : Prop := ∃ z : M.S, r = .returned (.tuple #[z.val, .bool o.isSome]) ∧ (∀ s, o = some s → z = s) ∧ Below w.heap.size w w'
theorem stay_move (s : M.S) (w : World) : Calls Tryd.prog 32 #[s.val] w (MoveOut (some s) w) :=
  (stay_any s w).mono fun _ _ ⟨h1, h2⟩ => ⟨s, h1, fun _ h => Option.some.inj h, h2⟩

set_option maxHeartbeats 4000000 in
theorem ins_any (s : M.S) (a n : Int) (b b' : Nat) (w : World) (hc : w.cell? ⟨b, 0, none⟩ = some (.int .i64 a)) (hb : b < w.heap.size) (hc' : w.cell? ⟨b', 0, none⟩ = some (.int .i64 n)) (hb' : b' < w.heap.size)
    (a0 : 0 ≤ a) (a1 : a ≤ 4000000) (n0 : 0 ≤ n) (n1 : n ≤ 4000000) (s0 : 0 ≤ s.f) (s1 : s.f < s.t) (s2 : s.t ≤ 4000000) :
    Calls Tryd.prog 33 #[s.val, .pointer (some ⟨b, 0, none⟩), .pointer (some ⟨b', 0, none⟩)] w (MoveOut (M.insS a n s) w) := by
  obtain ⟨f, t, p, c, r, x⟩ := s
  dsimp only at s0 s1 s2
  by_cases hd : c = true ∧ f < a ∧ a < t ∧ 4 - n < t - f
  · have HD := Lib.hid (show M.insS a n ⟨f, t, p, c, r, x⟩ = none by unfold M.insS; rw [if_pos hd])
    obtain ⟨rfl, h1, h2, h3⟩ := hd
    unfold M.S.val
    go_enter Tryd.func33, Tryd.ntmps33
    go_wp2
    refine bodyPost_ret (v := .tuple #[M.zeroS.val, .bool false]) (by simp [results, Tryd.results33, go_sem, M.S.val, M.zeroS]) rfl ⟨M.zeroS, by rw [HD.out]; rfl, fun s h => by rw [HD.out] at h; (cases h), ?_⟩
    exact ((Below.refl _ _).alloc (Nat.le_refl _) _).alloc (by simp) _
  · have HD := Lib.hid (show M.insS a n ⟨f, t, p, c, r, x⟩ = some ⟨if a ≤ f then f + n else f, if a < t then t + n else t, p, c, r, x⟩ by unfold M.insS; rw [if_neg hd])
    have HN := Lib.hid hd
    clear hd
    by_cases h1 : a ≤ f
    · have h2 : a < t := by omega
      have HS := Lib.hid (show M.insS a n ⟨f, t, p, c, r, x⟩ = some ⟨f + n, t + n, p, c, r, x⟩ by rw [HD.out, if_pos h1, if_pos h2])
      unfold M.S.val
      cases c
      all_goals
        go_enter Tryd.func33, Tryd.ntmps33
        go_wp2
        refine bodyPost_ret (v := .tuple #[M.S.val ⟨f + n, t + n, p, _, r, x⟩, .bool true]) (by simp [results, Tryd.results33, go_sem, M.S.val]; rfl) rfl ⟨_, by rw [HS.out]; rfl, fun s h => by rw [HS.out] at h; exact Option.some.inj h, ?_⟩
        exact ((Below.refl _ _).alloc (Nat.le_refl _) _).alloc (by simp) _
    · by_cases h2 : a < t
      · have HS := Lib.hid (show M.insS a n ⟨f, t, p, c, r, x⟩ = some ⟨f, t + n, p, c, r, x⟩ by rw [HD.out, if_neg h1, if_pos h2])
        unfold M.S.val
        cases c
        · go_enter Tryd.func33, Tryd.ntmps33
          go_wp2
          refine bodyPost_ret (v := .tuple #[M.S.val ⟨f, t + n, p, _, r, x⟩, .bool true]) (by simp [results, Tryd.results33, go_sem, M.S.val]; rfl) rfl ⟨_, by rw [HS.out]; rfl, fun s h => by rw [HS.out] at h; exact Option.some.inj h, ?_⟩
          exact ((Below.refl _ _).alloc (Nat.le_refl _) _).alloc (by simp) _
        · have h3 : ¬ 4 - n < t - f := fun h => HN.out ⟨rfl, by omega, h2, h⟩
          go_enter Tryd.func33, Tryd.ntmps33
          go_wp2
          refine bodyPost_ret (v := .tuple #[M.S.val ⟨f, t + n, p, _, r, x⟩, .bool true]) (by simp [results, Tryd.results33, go_sem, M.S.val]; rfl) rfl ⟨_, by rw [HS.out]; rfl, fun s h => by rw [HS.out] at h; exact Option.some.inj h, ?_⟩
          exact ((Below.refl _ _).alloc (Nat.le_refl _) _).alloc (by simp) _
      · have HS := Lib.hid (show M.insS a n ⟨f, t, p, c, r, x⟩ = some ⟨f, t, p, c, r, x⟩ by rw [HD.out, if_neg h1, if_neg h2])
        unfold M.S.val
        cases c
        all_goals
          go_enter Tryd.func33, Tryd.ntmps33
          go_wp2
          refine bodyPost_ret (v := .tuple #[M.S.val ⟨f, t, p, _, r, x⟩, .bool true]) (by simp [results, Tryd.results33, go_sem, M.S.val]; rfl) rfl ⟨_, by rw [HS.out]; rfl, fun s h => by rw [HS.out] at h; exact Option.some.inj h, ?_⟩
          exact ((Below.refl _ _).alloc (Nat.le_refl _) _).alloc (by simp) _
set_option maxHeartbeats 1000000 in
theorem back_any (e a b : Int) (ba bb : Nat) (w : World) (hc : w.cell? ⟨ba, 0, none⟩ = some (.int .i64 a)) (hc' : w.cell? ⟨bb, 0, none⟩ = some (.int .i64 b))
    (a0 : 0 ≤ a) (a1 : a ≤ b) (b1 : b ≤ 4000000) (e0 : 0 ≤ e) (e1 : e ≤ 4000000) :
    Calls Tryd.prog 34 #[.int .i64 e, .pointer (some ⟨ba, 0, none⟩), .pointer (some ⟨bb, 0, none⟩)] w fun r w' => r = .returned (.int .i64 (M.back a b e)) ∧ w' = w := by
  by_cases h : e ≤ a
  · have HD := Lib.hid (show M.back a b e = e by unfold M.back; rw [if_pos h])
    go_enter Tryd.func34, Tryd.ntmps34
    go_wp2
    go_ret
    exact ⟨ret_int (by rw [HD.out]), rfl⟩
  · have HD := Lib.hid (show M.back a b e = a + max (e - b) 0 by unfold M.back; rw [if_neg h])
    go_enter Tryd.func34, Tryd.ntmps34
    go_wp2
    all_goals
      go_ret
      exact ⟨ret_int (by rw [HD.out]; omega), rfl⟩
end Go.Proofs.YteknpodofmmklaaDoor
