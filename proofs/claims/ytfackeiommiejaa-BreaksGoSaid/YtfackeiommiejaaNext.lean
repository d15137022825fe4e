/- The contract of a pair's next, over the translation. -/
import Derived.Test.YtfackeiommiejaaRules
import Derived.Deep.RegionHeld3
import Derived.Deep.DrawnRows
namespace Go.Proofs.Ytfackeiommiejaa
open Go.RowKit
attribute [local go_sem ↓] Go.wp_at_zero Go.wp_at_succ

set_option maxRecDepth 100000 in
set_option maxHeartbeats 4000000 in
theorem next_any (p : M.P) (k : Int) (w : World) : Calls Try.prog 26 #[p.val, .int .i64 k] w fun r w' => r = .returned (p.next k).val ∧ Below w.heap.size w w' := by
  obtain ⟨a, b, h, m⟩ := p
  unfold M.P.val M.P.next
  dsimp only
  obtain ⟨c, hc⟩ : ∃ c, M.cnt b k = c := ⟨_, rfl⟩
  rw [hc]
  have HC := Lib.hid hc
  clear hc
  by_cases h8 : b = 8
  · subst h8
    rw [if_pos rfl]
    go_enter Try.func26, Try.ntmps26
    go_wp2_with fail
    go_region_held3 (fun w' => w'.cell? ⟨w.heap.size, 1, none⟩ = some (.int .i64 8) ∧ w'.cell? ⟨w.heap.size, 2, none⟩ = some (.int .i64 h)) (go_keep) (first | (go_at_call 19; refine (counted_any _ _ _).mono ?_; rintro r w1 ⟨rfl, rfl⟩; rw [HC.out]))
    all_goals
      go_wp2
      refine bodyPost_ret (v := .agg #[.int .i64 8, .int .i64 c, .int .i64 h, .bool (k == 10)]) (by simp [results, Try.results26, go_sem]) rfl ⟨rfl, ?_⟩
      exact ((((Below.refl _ _).alloc (Nat.le_refl _) _).alloc (by simp) _).alloc (by simp; omega) _).drew
  · rw [if_neg h8]
    have b8 : (b == 8) = false := by rw [beq_eq_false_iff_ne]; exact h8
    clear h8
    go_enter Try.func26, Try.ntmps26
    go_wp2_with fail
    go_region_held3 (fun w' => w'.cell? ⟨w.heap.size, 1, none⟩ = some (.int .i64 b) ∧ w'.cell? ⟨w.heap.size, 2, none⟩ = some (.int .i64 h)) (go_keep) (first | (go_at_call 19; refine (counted_any _ _ _).mono ?_; rintro r w1 ⟨rfl, rfl⟩; rw [HC.out]))
    all_goals
      go_wp2
      refine bodyPost_ret (v := .agg #[.int .i64 b, .int .i64 c, .int .i64 b, .bool (k == 10)]) (by simp [results, Try.results26, go_sem]) rfl ⟨rfl, ?_⟩
      exact ((((Below.refl _ _).alloc (Nat.le_refl _) _).alloc (by simp) _).alloc (by simp; omega) _).drew
end Go.Proofs.Ytfackeiommiejaa
