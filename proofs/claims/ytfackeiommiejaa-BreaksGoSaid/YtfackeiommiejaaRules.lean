/- The rules of package breaks, one by one, over the translation: does each speak of two clusters? -/
import Derived.Test.YtfackeiommiejaaLeaf
namespace Go.Proofs.Ytfackeiommiejaa
open Go.RowKit

/-- Two clusters, as a value. -/
def M.P.val (p : M.P) : Value := .agg #[.int .i64 p.a, .int .i64 p.b, .int .i64 p.h, .bool p.m]

set_option maxHeartbeats 1000000 in
theorem rule2_any (p : M.P) (w : World) : Calls Try.prog 30 #[p.val] w fun r w' => r = .returned (.bool (M.rl 1 p)) ∧ Below w.heap.size w w' := by
  obtain ⟨a, b, h, m⟩ := p
  unfold M.P.val M.rl
  dsimp only
  go_enter Try.func30, Try.ntmps30
  go_wp2
  all_goals
    go_ret
    exact ⟨ret_bool (by rw [Bool.eq_iff_iff]; simp_all), (Below.refl _ _).alloc (Nat.le_refl _) _⟩

set_option maxHeartbeats 1000000 in
theorem rule1_any (p : M.P) (w : World) : Calls Try.prog 29 #[p.val] w fun r w' => r = .returned (.bool (M.rl 0 p)) ∧ Below w.heap.size w w' := by
  obtain ⟨a, b, h, m⟩ := p
  unfold M.P.val M.rl
  dsimp only
  go_enter Try.func29, Try.ntmps29
  go_wp2_with (go_at_call 28; refine (bears_any _ _).mono ?_; rintro r w1 ⟨rfl, rfl⟩)
  all_goals
    go_ret
    exact ⟨ret_bool (by rw [Bool.eq_iff_iff]; simp_all), (Below.refl _ _).alloc (Nat.le_refl _) _⟩

set_option maxHeartbeats 1000000 in
theorem rule3_any (p : M.P) (w : World) : Calls Try.prog 31 #[p.val] w fun r w' => r = .returned (.bool (M.rl 2 p)) ∧ Below w.heap.size w w' := by
  obtain ⟨a, b, h, m⟩ := p
  unfold M.P.val M.rl
  dsimp only
  go_enter Try.func31, Try.ntmps31
  go_wp2
  all_goals
    go_ret
    exact ⟨ret_bool (by rw [Bool.eq_iff_iff]; simp_all), (Below.refl _ _).alloc (Nat.le_refl _) _⟩

set_option maxHeartbeats 1000000 in
theorem rule4_any (p : M.P) (w : World) : Calls Try.prog 32 #[p.val] w fun r w' => r = .returned (.bool (M.rl 3 p)) ∧ Below w.heap.size w w' := by
  obtain ⟨a, b, h, m⟩ := p
  unfold M.P.val M.rl
  dsimp only
  go_enter Try.func32, Try.ntmps32
  go_wp2
  all_goals
    go_ret
    exact ⟨ret_bool (by rw [Bool.eq_iff_iff]; simp_all), (Below.refl _ _).alloc (Nat.le_refl _) _⟩

set_option maxHeartbeats 1000000 in
theorem rule5_any (p : M.P) (w : World) : Calls Try.prog 33 #[p.val] w fun r w' => r = .returned (.bool (M.rl 4 p)) ∧ Below w.heap.size w w' := by
  obtain ⟨a, b, h, m⟩ := p
  unfold M.P.val M.rl
  dsimp only
  go_enter Try.func33, Try.ntmps33
  go_wp2
  all_goals
    go_ret
    exact ⟨ret_bool (by rw [Bool.eq_iff_iff]; simp_all), (Below.refl _ _).alloc (Nat.le_refl _) _⟩

set_option maxHeartbeats 1000000 in
theorem rule6_any (p : M.P) (w : World) : Calls Try.prog 34 #[p.val] w fun r w' => r = .returned (.bool (M.rl 5 p)) ∧ Below w.heap.size w w' := by
  obtain ⟨a, b, h, m⟩ := p
  unfold M.P.val M.rl
  dsimp only
  go_enter Try.func34, Try.ntmps34
  go_wp2
  all_goals
    go_ret
    exact ⟨ret_bool (by rw [Bool.eq_iff_iff]; simp_all), (Below.refl _ _).alloc (Nat.le_refl _) _⟩

set_option maxHeartbeats 1000000 in
theorem rule7_any (p : M.P) (w : World) : Calls Try.prog 35 #[p.val] w fun r w' => r = .returned (.bool (M.rl 6 p)) ∧ Below w.heap.size w w' := by
  obtain ⟨a, b, h, m⟩ := p
  unfold M.P.val M.rl
  dsimp only
  go_enter Try.func35, Try.ntmps35
  go_wp2
  all_goals
    go_ret
    exact ⟨ret_bool (by rw [Bool.eq_iff_iff]; simp_all), (Below.refl _ _).alloc (Nat.le_refl _) _⟩

set_option maxHeartbeats 1000000 in
theorem rule8_any (p : M.P) (w : World) : Calls Try.prog 36 #[p.val] w fun r w' => r = .returned (.bool (M.rl 7 p)) ∧ Below w.heap.size w w' := by
  obtain ⟨a, b, h, m⟩ := p
  unfold M.P.val M.rl
  dsimp only
  go_enter Try.func36, Try.ntmps36
  go_wp2
  all_goals
    go_ret
    exact ⟨ret_bool (by rw [Bool.eq_iff_iff]; simp_all), (Below.refl _ _).alloc (Nat.le_refl _) _⟩

set_option maxHeartbeats 1000000 in
theorem rule9_any (p : M.P) (w : World) : Calls Try.prog 37 #[p.val] w fun r w' => r = .returned (.bool (M.rl 8 p)) ∧ Below w.heap.size w w' := by
  obtain ⟨a, b, h, m⟩ := p
  unfold M.P.val M.rl
  dsimp only
  go_enter Try.func37, Try.ntmps37
  go_wp2
  all_goals
    go_ret
    exact ⟨ret_bool (by rw [Bool.eq_iff_iff]; simp_all), (Below.refl _ _).alloc (Nat.le_refl _) _⟩

set_option maxHeartbeats 1000000 in
theorem rule10_any (p : M.P) (w : World) : Calls Try.prog 38 #[p.val] w fun r w' => r = .returned (.bool (M.rl 9 p)) ∧ Below w.heap.size w w' := by
  obtain ⟨a, b, h, m⟩ := p
  unfold M.P.val M.rl
  dsimp only
  go_enter Try.func38, Try.ntmps38
  go_wp2_with (go_at_call 39; refine (ofWord_any _ _).mono ?_; rintro r w1 ⟨rfl, rfl⟩)
  all_goals
    go_ret
    exact ⟨ret_bool (by rw [Bool.eq_iff_iff]; simp_all), (Below.refl _ _).alloc (Nat.le_refl _) _⟩

set_option maxHeartbeats 1000000 in
theorem rule11_any (p : M.P) (w : World) : Calls Try.prog 40 #[p.val] w fun r w' => r = .returned (.bool (M.rl 10 p)) ∧ Below w.heap.size w w' := by
  obtain ⟨a, b, h, m⟩ := p
  unfold M.P.val M.rl
  dsimp only
  go_enter Try.func40, Try.ntmps40
  go_wp2
  all_goals
    go_ret
    exact ⟨ret_bool (by rw [Bool.eq_iff_iff]; simp_all), (Below.refl _ _).alloc (Nat.le_refl _) _⟩
end Go.Proofs.Ytfackeiommiejaa
