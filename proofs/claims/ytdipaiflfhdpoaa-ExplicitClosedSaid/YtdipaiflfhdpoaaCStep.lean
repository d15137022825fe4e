/- What the function that is looked up for a class does, whatever the class: it answers the level and class, and turns the walk, as the document says. Condition: the walk is right, its counts small, its overrides known. -/
import Derived.Test.YtdipaiflfhdpoaaCSteps
import Derived.Test.YtdipaiflfhdpoaaLevels
namespace Go.Proofs.Ytdipaiflfhdpoaa
open Go.RowKit

/-- The number of the function that is called for a class. -/
def M.fnOf (c : Int) (fid : Nat) : Prop := (M.isStep c ∧ fid = M.stepF c) ∨ (¬ M.isStep c ∧ fid = 28)
theorem at22 (m : M.Mc) : m.at_ 22 = m.closed := rfl
theorem turn_odd {b odd odd' c : Int} {m : M.Mc} (h : M.begins c = false) : m.turn b odd c = m.turn b odd' c := by
  unfold M.Mc.turn
  (repeat' split) <;> first | rfl | (rename_i h2; rw [h] at h2; cases h2)
theorem remove_walk (base mb g cap : Nat) (b : Int) (m : M.Mc) (c f : Int) (w : World) (h : WalkAt w base mb g cap b m) :
    Calls Try.prog 41 #[.pointer (some ⟨mb, 0, none⟩), .agg #[.int .i64 c, .int .i64 f]] w (StepOut base mb g b m (-1) c w) :=
  (cremove_any mb c f w).mono fun _ _ ⟨h1, h2⟩ => ⟨h1, g, cap, h.below h2, Spun.of_below h2 mb g⟩
theorem step_any (base mb g cap k : Nat) (b : Int) (m : M.Mc) (c f : Int) (fid : Nat) (hfid : M.fnOf c fid) (w : World) (h : WalkAt w base mb g cap b m) (hf : m.Fit b k) (hov : m.Ov) (hk : k ≤ 5000) (hb : 0 ≤ b) :
    Calls Try.prog fid #[.pointer (some ⟨mb, 0, none⟩), .agg #[.int .i64 c, .int .i64 f]] w (StepOut base mb g b (m.turn b (M.oddOf c f) c) (m.lev b c) (m.cls c) w) := by
  have ho := hov.top hf.ok.ne_nil
  rcases hfid with ⟨hs, rfl⟩ | ⟨hs, rfl⟩
  · rcases hs with rfl | rfl | rfl | rfl | rfl | rfl | rfl | rfl | rfl | rfl | rfl
    · exact cembed_any base mb g cap k b m 16 f 1 13 (.inr (.inl ⟨rfl, rfl, rfl, rfl⟩)) w h hf hk hb
    · exact cembed_any base mb g cap k b m 14 f 0 13 (.inr (.inr (.inr (.inl ⟨rfl, rfl, rfl, rfl⟩)))) w h hf hk hb
    · exact cembed_any base mb g cap k b m 17 f 1 1 (.inl ⟨rfl, rfl, rfl, rfl⟩) w h hf hk hb
    · exact cembed_any base mb g cap k b m 15 f 0 0 (.inr (.inr (.inl ⟨rfl, rfl, rfl, rfl⟩))) w h hf hk hb
    · exact cisolate_any base mb g cap k b m 20 f (by decide) w h hf hk hb ho
    · exact cisolate_any base mb g cap k b m 19 f (by decide) w h hf hk hb ho
    · exact cisolate_any base mb g cap k b m 21 f (by decide) w h hf hk hb ho
    · exact cend_any base mb g cap k b m f w h hf hk hov
    · exact cpdf_any base mb g cap k b m 18 f w h hf hk
    · exact canew_any base mb g cap b m 10 f w h
    · exact remove_walk base mb g cap b m 9 f w h
  · obtain ⟨n, hn, hnk⟩ := hf.size
    unfold M.isStep at hs
    simp only [not_or] at hs
    obtain ⟨h0, h1, h2, h3, h4, h5, h6, h7, h8, h9, h10⟩ := hs
    have hr : M.removed c = false := by unfold M.removed; simp; omega
    have hbg : M.begins c = false := by unfold M.begins; simp; omega
    have e1 : m.turn b (M.oddOf c f) c = m := M.turn_no hr h9 h7 hbg
    have e2 : m.lev b c = m.top.lv := M.lev_at hr h9 (M.at_no h7) rfl
    have e3 : m.cls c = if m.top.ov ≠ 13 then m.top.ov else c := by unfold M.Mc.cls; rw [if_neg (by rw [hr]; simp), if_neg h9, M.at_no h7]
    rw [e1, e2, e3]
    exact (cstay_any base mb g cap n b m c f w h hn (by omega) ho).mono fun _ _ ⟨h1, h2⟩ => ⟨h1, g, cap, h.below h2, Spun.of_below h2 mb g⟩
/-- Each of these functions is entered by its number. -/
theorem step_enter {c : Int} {fid : Nat} (hfid : M.fnOf c fid) (args : Array Value) (w : World) : (callFunc fid args).run Try.prog w = .ok (.enter fid args) w := by
  rcases hfid with ⟨hs, rfl⟩ | ⟨hs, rfl⟩
  · rcases hs with rfl | rfl | rfl | rfl | rfl | rfl | rfl | rfl | rfl | rfl | rfl <;> kernel_rfl
  · kernel_rfl
end Go.Proofs.Ytdipaiflfhdpoaa
