/- The contract of span's joins. Condition: the fields are those of spans. -/
import Derived.Test.YteknpodofmmklaaDoorSmall
import Derived.Deep.QuietTactic
import Derived.BigQuiet
import Derived.Lib.QuietBelow
namespace Go.Proofs.YteknpodofmmklaaDoor
open Go.RowKit

theorem M.joins_code (z s : M.S) : M.joins z s = (decide (z.t = s.f) && (z.bare.same s.bare && (!z.c && decide (z.r.toList = [])))) := by
  unfold M.joins
  cases h : z.bare.same s.bare
  · simp
  · have e := M.same_iff.1 h
    have ec : z.c = s.c := (show z.bare.c = s.bare.c by rw [e])
    have er : z.r = s.r := (show z.bare.r = s.bare.r by rw [e])
    rw [ec, er]
set_option maxRecDepth 100000 in
set_option maxHeartbeats 4000000 in
theorem joins_any (z s : M.S) (w : World) :
    Calls Tryd.prog 29 #[z.val, s.val] w fun r w' => r = .returned (.bool (M.joins z s)) ∧ Below w.heap.size w w' := by
  obtain ⟨f, t, p, c, r, x⟩ := z
  obtain ⟨W1, hW1, hb1, hZ1, -⟩ := new_span w ⟨f, t, p, c, r, x⟩
  obtain ⟨W2, hW2, hb2, hS2, -⟩ := new_span W1 s
  have hlt : w.heap.size < W1.heap.size := by rw [← hW1]; simp
  have hZ2 := hZ1.below hb2 hlt
  have HB := Lib.hid (hb1.trans (hb2.mono hb1.size))
  have CZ := Lib.hid (fun d os => Calls.regrown_of (style_any ⟨f, t, p, c, r, x⟩ (Sort.grow (redrawn W2 d) os)))
  have CS := Lib.hid (fun d os => Calls.regrown_of (style_any s (Sort.grow (redrawn W2 d) os)))
  unfold M.S.val M.S.bare at CZ CS
  dsimp only at CZ CS
  dsimp only at hW1
  obtain ⟨c0, c1, c2, c3, c4, c5, _, _, _, _, _, _⟩ := hZ2
  obtain ⟨e0, e1, e2, e3, e4, e5, _, _, _, _, _, _⟩ := hS2
  dsimp only at c0 c1 c2 c3 c4 c5
  have g0 := fun d os => cell_regrown c0 d os
  have g1 := fun d os => cell_regrown c1 d os
  have g2 := fun d os => cell_regrown c2 d os
  have g3 := fun d os => cell_regrown c3 d os
  have g4 := fun d os => cell_regrown c4 d os
  have g5 := fun d os => cell_regrown c5 d os
  have k0 := fun d os => cell_regrown e0 d os
  have k1 := fun d os => cell_regrown e1 d os
  have k2 := fun d os => cell_regrown e2 d os
  have k3 := fun d os => cell_regrown e3 d os
  have k4 := fun d os => cell_regrown e4 d os
  have k5 := fun d os => cell_regrown e5 d os
  have HJ := Lib.hid (M.joins_code ⟨f, t, p, c, r, x⟩ s)
  have hg := guard_span
  have hq := fun w => eql_span w 0 0 p c r x 0 0 s.p s.c s.r s.x
  have HQ := Lib.hid (show M.eq6 0 0 p c r x 0 0 s.p s.c s.r s.x = M.S.same (M.S.bare ⟨f, t, p, c, r, x⟩) s.bare from rfl)
  clear hb1 hb2 hZ1
  unfold M.S.val
  by_cases h1 : t = s.f
  · have h1' : (t == s.f) = true := by rw [beq_iff_eq]; exact h1
    cases h2 : M.S.same (M.S.bare ⟨f, t, p, c, r, x⟩) s.bare
    · rw [HQ.out, h2] at hq
      have HF := Lib.hid (show M.joins ⟨f, t, p, _, r, x⟩ s = false by rw [HJ.out, h2]; simp)
      clear h1 h2
      go_enter Tryd.func29, Tryd.ntmps29
      go_wp2_with fail
      refine wp_region_quiet_below (by kernel_rfl) (by kernel_rfl) ?_
      repeat (go_big_quiet_step (first | (with_reducible exact CZ.out _ _) | (with_reducible exact CS.out _ _)))
      refine wpQuiet_nil ?_
      intro _ hw'
      obtain ⟨⟨dq, osq⟩, hw4⟩ := hw'
      subst hw4
      go_wp2
      go_ret
      exact ⟨ret_bool (by rw [HF.out]), HB.out.trans (below_regrown W2 dq osq |>.mono HB.out.size)⟩
    · rw [HQ.out, h2] at hq
      cases c
      · by_cases hr : r.toList = []
        · have hr2 : r.toList.isEmpty = true := by rw [hr]; rfl
          have HF := Lib.hid (show M.joins ⟨f, t, p, _, r, x⟩ s = true by rw [HJ.out, h2, decide_eq_true h1, decide_eq_true hr]; rfl)
          clear h1 h2
          go_enter Tryd.func29, Tryd.ntmps29
          go_wp2_with fail
          refine wp_region_quiet_below (by kernel_rfl) (by kernel_rfl) ?_
          repeat (go_big_quiet_step (first | (with_reducible exact CZ.out _ _) | (with_reducible exact CS.out _ _)))
          refine wpQuiet_nil ?_
          intro _ hw'
          obtain ⟨⟨dq, osq⟩, hw4⟩ := hw'
          subst hw4
          go_wp2
          go_ret
          exact ⟨ret_bool (by rw [HF.out]), HB.out.trans (below_regrown W2 dq osq |>.mono HB.out.size)⟩
        · have hr2 : r.toList.isEmpty = false := by rw [List.isEmpty_eq_false_iff]; exact hr
          have HF := Lib.hid (show M.joins ⟨f, t, p, _, r, x⟩ s = false by rw [HJ.out, decide_eq_false hr]; simp)
          clear h1 h2
          go_enter Tryd.func29, Tryd.ntmps29
          go_wp2_with fail
          refine wp_region_quiet_below (by kernel_rfl) (by kernel_rfl) ?_
          repeat (go_big_quiet_step (first | (with_reducible exact CZ.out _ _) | (with_reducible exact CS.out _ _)))
          refine wpQuiet_nil ?_
          intro _ hw'
          obtain ⟨⟨dq, osq⟩, hw4⟩ := hw'
          subst hw4
          go_wp2
          go_ret
          exact ⟨ret_bool (by rw [HF.out]), HB.out.trans (below_regrown W2 dq osq |>.mono HB.out.size)⟩
      · have HF := Lib.hid (show M.joins ⟨f, t, p, _, r, x⟩ s = false by rw [HJ.out]; simp)
        clear h1 h2
        go_enter Tryd.func29, Tryd.ntmps29
        go_wp2_with fail
        refine wp_region_quiet_below (by kernel_rfl) (by kernel_rfl) ?_
        repeat (go_big_quiet_step (first | (with_reducible exact CZ.out _ _) | (with_reducible exact CS.out _ _)))
        refine wpQuiet_nil ?_
        intro _ hw'
        obtain ⟨⟨dq, osq⟩, hw4⟩ := hw'
        subst hw4
        go_wp2
        go_ret
        exact ⟨ret_bool (by rw [HF.out]), HB.out.trans (below_regrown W2 dq osq |>.mono HB.out.size)⟩
  · have h1' : (t == s.f) = false := by rw [beq_eq_false_iff_ne]; exact h1
    have HF := Lib.hid (show M.joins ⟨f, t, p, _, r, x⟩ s = false by rw [HJ.out, decide_eq_false h1]; rfl)
    clear h1
    go_enter Tryd.func29, Tryd.ntmps29
    go_wp2_with fail
    refine wp_region_quiet_below (by kernel_rfl) (by kernel_rfl) ?_
    repeat (go_big_quiet_step (first | (with_reducible exact CZ.out _ _) | (with_reducible exact CS.out _ _)))
    refine wpQuiet_nil ?_
    intro _ hw'
    obtain ⟨⟨dq, osq⟩, hw4⟩ := hw'
    subst hw4
    go_wp2
    go_ret
    exact ⟨ret_bool (by rw [HF.out]), HB.out.trans (below_regrown W2 dq osq |>.mono HB.out.size)⟩
end Go.Proofs.YteknpodofmmklaaDoor
