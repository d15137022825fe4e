/- The contracts of small functions: style, plain, stay, and the document's bare. No condition. -/
import Derived.Test.YteknpodofmmklaaDoorSpn
namespace Go.Proofs.YteknpodofmmklaaDoor
open Go.RowKit

set_option maxHeartbeats 1000000 in
theorem style_any (s : M.S) (w : World) : Calls Tryd.prog 27 #[s.val] w fun r w' => r = .returned s.bare.val ∧ Below w.heap.size w w' := by
  unfold M.S.val
  go_enter Tryd.func27, Tryd.ntmps27
  go_wp2
  refine bodyPost_ret (v := s.bare.val) (by simp [results, Tryd.results27, go_sem, M.S.val, M.S.bare]) rfl ⟨rfl, ?_⟩
  exact ((Below.refl _ _).alloc (Nat.le_refl _) _).alloc (by simp) _
set_option maxHeartbeats 1000000 in
theorem bare_any (s : M.S) (w : World) : Calls Tryd.prog 30 #[s.val] w fun r w' => r = .returned s.bare.val ∧ Below w.heap.size w w' := by
  unfold M.S.val
  go_enter Tryd.func30, Tryd.ntmps30
  go_wp2
  refine bodyPost_ret (v := s.bare.val) (by simp [results, Tryd.results30, go_sem, M.S.val, M.S.bare]) rfl ⟨rfl, ?_⟩
  exact ((Below.refl _ _).alloc (Nat.le_refl _) _).alloc (by simp) _
set_option maxHeartbeats 1000000 in
theorem plain_any (w : World) : Calls Tryd.prog 28 #[] w fun r w' => r = .returned M.zeroS.val ∧ Below w.heap.size w w' := by
  go_enter Tryd.func28, Tryd.ntmps28
  go_wp2
  refine bodyPost_ret (v := M.zeroS.val) (by simp [results, Tryd.results28, go_sem, M.S.val, M.zeroS]) rfl ⟨rfl, ?_⟩
  exact (Below.refl _ _).alloc (Nat.le_refl _) _
set_option maxHeartbeats 1000000 in
theorem stay_any (s : M.S) (w : World) : Calls Tryd.prog 32 #[s.val] w fun r w' => r = .returned (.tuple #[s.val, .bool true]) ∧ Below w.heap.size w w' := by
  unfold M.S.val
  go_enter Tryd.func32, Tryd.ntmps32
  go_wp2
  refine bodyPost_ret (v := .tuple #[s.val, .bool true]) (by simp [results, Tryd.results32, go_sem, M.S.val]) rfl ⟨rfl, ?_⟩
  exact ((Below.refl _ _).alloc (Nat.le_refl _) _).alloc (by simp) _
end Go.Proofs.YteknpodofmmklaaDoor
