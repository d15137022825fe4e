/- The walk of the statement SpanOthers over the translation: it answers true. Conditions: the slice reads as a list of spans whose fields are of their types; the variable lengths holds the four rows of the program's text. -/
import Derived.Test.YteknpodofmmklaaDoorBackWalk
import Derived.Lib.QuietBelow
namespace Go.Proofs.YteknpodofmmklaaDoor
open Go.RowKit

set_option maxRecDepth 100000 in
set_option maxHeartbeats 8000000 in
theorem others_any (A : Option Addr) (ca : Nat) (l : List M.S) (n a b c : Int) (w : World) (hl : LensOk w) (hr : RdP w w.heap.size A l) (hcl : l.length ≤ ca) (hca : ca ≤ maxLen) (ht : Typed l) (_hna : A = none → ca = 0) :
    Calls Tryd.prog 7 #[.slice A l.length ca, .int .i64 n, .agg #[.int .i64 a, .int .i64 b, .int .i64 c]] w fun r w' => r = .returned (.bool true) ∧ Below w.heap.size w w' := by
  obtain ⟨W0, hW0⟩ : ∃ W0, w.alloc (.cells #[.int .i64 a, .int .i64 b, .int .i64 c] 35) = W0 := ⟨_, rfl⟩
  have hb0 : Below w.heap.size w W0 := by rw [← hW0]; exact (Below.refl _ _).alloc (Nat.le_refl _) _
  have hlt0 : w.heap.size < W0.heap.size := by rw [← hW0]; simp
  have k0' : W0.cell? ⟨w.heap.size, 0, none⟩ = some (.int .i64 a) := by rw [← hW0]; simp [go_sem]
  have k1' : W0.cell? ⟨w.heap.size, 1, none⟩ = some (.int .i64 b) := by rw [← hW0]; simp [go_sem]
  have k2' : W0.cell? ⟨w.heap.size, 2, none⟩ = some (.int .i64 c) := by rw [← hW0]; simp [go_sem]
  have KA := Lib.hid (fun (W : World) (hW : Below W0.heap.size W0 W) => (hW.cell (p := ⟨w.heap.size, 0, none⟩) hlt0).trans k0')
  have KB := Lib.hid (fun (W : World) (hW : Below W0.heap.size W0 W) => (hW.cell (p := ⟨w.heap.size, 1, none⟩) hlt0).trans k1')
  have KC := Lib.hid (fun (W : World) (hW : Below W0.heap.size W0 W) => (hW.cell (p := ⟨w.heap.size, 2, none⟩) hlt0).trans k2')
  have HR0 := Lib.hid (hr.after hb0)
  have HF := Lib.hid (fits_any A ca l n W0 (hr.after hb0) (Nat.le_trans hcl hca) ht)
  have HL := Lib.hid hl
  have HB0 := Lib.hid hb0
  have HT := Lib.hid ht
  obtain ⟨i0, i1'⟩ := and_1023 a
  obtain ⟨i1, i2⟩ := and_1023 b
  obtain ⟨u0, u1⟩ := and_63 c
  obtain ⟨q0, hq0⟩ : ∃ q0, bits .and .i64 a 1023 = q0 := ⟨_, rfl⟩
  obtain ⟨q1, hq1⟩ : ∃ q1, bits .and .i64 b 1023 = q1 := ⟨_, rfl⟩
  obtain ⟨q2, hq2⟩ : ∃ q2, bits .and .i64 c 63 = q2 := ⟨_, rfl⟩
  rw [hq0] at i0 i1'
  rw [hq1] at i1 i2
  rw [hq2] at u0 u1
  clear hl hr hca ht hb0 k0' k1' k2'
  go_enter Tryd.func7, Tryd.ntmps7
  go_wp2_with fail
  refine HF.out.mono ?_
  rintro r w1 ⟨bb, rfl, himp, hb1⟩
  have HB1 := Lib.hid (HB0.out.trans (hb1.mono HB0.out.size))
  have HR1 := Lib.hid (HR0.out.after hb1)
  have ka := KA.out w1 hb1
  have kb := KB.out w1 hb1
  have kc := KC.out w1 hb1
  clear hb1
  cases bb
  · clear himp
    go_wp2_with fail
    refine (alive_any _ (HL.out.below HB1.out HL.out.lt)).mono ?_
    rintro r wz ⟨rfl, hbz⟩
    have HBZ := Lib.hid (HB1.out.trans (hbz.mono HB1.out.size))
    clear hbz
    go_wp2_with fail
    go_ret
    exact ⟨rfl, HBZ.out⟩
  · have hfit := himp rfl
    have hm60 := hfit.len
    have hn0 := hfit.lo
    have hn1 := hfit.hi
    have HSZ := Lib.hid (szd_of HT.out hfit.ruby)
    have HFIT := Lib.hid hfit
    clear himp hfit
    by_cases hnz : n = 0
    · have hn2 : (n == 0) = true := by rw [beq_iff_eq]; exact hnz
      clear hnz
      go_wp2_with fail
      refine (alive_any _ (HL.out.below HB1.out HL.out.lt)).mono ?_
      rintro r wz ⟨rfl, hbz⟩
      have HBZ := Lib.hid (HB1.out.trans (hbz.mono HB1.out.size))
      clear hbz
      go_wp2_with fail
      go_ret
      exact ⟨rfl, HBZ.out⟩
    · have hn2 : (n == 0) = false := by rw [beq_eq_false_iff_ne]; exact hnz
      by_cases hin : n ≤ q0
      · go_wp2_with fail
        refine (alive_any _ (HL.out.below HB1.out HL.out.lt)).mono ?_
        rintro r wz ⟨rfl, hbz⟩
        have HBZ := Lib.hid (HB1.out.trans (hbz.mono HB1.out.size))
        clear hbz
        go_wp2_with fail
        go_ret
        exact ⟨rfl, HBZ.out⟩
      · by_cases hfn : n < q1
        · go_wp2_with fail
          refine (alive_any _ (HL.out.below HB1.out HL.out.lt)).mono ?_
          rintro r wz ⟨rfl, hbz⟩
          have HBZ := Lib.hid (HB1.out.trans (hbz.mono HB1.out.size))
          clear hbz
          go_wp2_with fail
          go_ret
          exact ⟨rfl, HBZ.out⟩
        · have hri := HFIT.out.right
          have hrt := (M.right_iff.1 hri).2
          have hmi : M.ins l q1 q2 = l.filterMap (M.insS q1 q2) := by unfold M.ins; rw [if_neg (by omega)]
          have hde : M.del l q1 (q1 + q2) = l.filterMap (M.delS q1 (q1 + q2)) := by unfold M.del; rw [if_neg (by omega)]
          have HDL := Lib.hid (show ¬ (q1 ≤ q0 ∧ q0 < q1 + q2) → M.look (M.del l q1 (q1 + q2)) (if q1 + q2 ≤ q0 then q0 - q2 else q0) = M.look l q0 by rw [hde]; exact M.del_look hrt i1 u0)
          have HIL := Lib.hid (show (M.look l q0).c = false → M.look (M.ins l q1 q2) (if q1 ≤ q0 then q0 + q2 else q0) = M.look l q0 by rw [hmi]; exact M.ins_look hrt i1 u0)
          have hlm : (M.ins l q1 q2).length ≤ 60 := Nat.le_trans (ins_len l q1 q2) hm60
          have hld : (M.del l q1 (q1 + q2)).length ≤ 60 := Nat.le_trans (del_len l q1 (q1 + q2)) hm60
          clear hri hrt hmi hde
          go_wp2_with fail
          refine (delete_any A ca l q1 (q1 + q2) w1 HR1.out hm60 HFIT.out.lim (by omega) (by omega)).mono ?_
          rintro r w2 ⟨v2, rfl, ho2, hb2⟩
          obtain ⟨A2, c2, rfl, hr2, hc2, hm2, hn2⟩ := ho2.shape
          have HR2 := Lib.hid (HR1.out.after hb2)
          have HD2 := Lib.hid hr2
          have HB2 := Lib.hid (HB1.out.trans (hb2.mono HB1.out.size))
          clear hb2 ho2 hr2 hc2 hm2 hn2
          go_wp2_with fail
          refine (insert_any A ca l q1 q2 w2 HR2.out hm60 HFIT.out.lim (by omega) (by omega)).mono ?_
          rintro r w3 ⟨v3, rfl, ho3, hb3⟩
          obtain ⟨A3, c3, rfl, hr3, hc3, hm3, hn3⟩ := ho3.shape
          have HR3 := Lib.hid (HR2.out.after hb3)
          have HD3 := Lib.hid (HD2.out.after hb3)
          have HM3 := Lib.hid hr3
          have HB3 := Lib.hid (HB2.out.trans (hb3.mono HB2.out.size))
          clear hb3 ho3 hr3 hc3 hm3 hn3
          go_wp2_with fail
          refine (look_any A ca l q0 w3 HR3.out hm60).mono ?_
          rintro r w4 ⟨rfl, hb4⟩
          have HD4 := Lib.hid (HD3.out.after hb4)
          have HM4 := Lib.hid (HM3.out.after hb4)
          have HB4 := Lib.hid (HB3.out.trans (hb4.mono HB3.out.size))
          clear hb4
          obtain ⟨y, hy⟩ : ∃ y, M.look l q0 = y := ⟨_, rfl⟩
          rw [hy] at HDL HIL ⊢
          clear hy
          obtain ⟨yf, yt, yp, yc, yr, yx⟩ := y
          unfold M.S.val
          obtain ⟨W, hW, hbW, hSW, -⟩ := new_span w4 ⟨yf, yt, yp, yc, yr, yx⟩
          dsimp only at hW
          have HBW := Lib.hid (HB4.out.trans (hbW.mono HB4.out.size))
          have HDW := Lib.hid (HD4.out.after hbW)
          have HMW := Lib.hid (HM4.out.after hbW)
          obtain ⟨e0, e1, e2, e3, e4, e5, _, _, _, _, _, _⟩ := hSW
          dsimp only at e0 e1 e2 e3 e4 e5
          have g0 := fun d os => cell_regrown e0 d os
          have g1 := fun d os => cell_regrown e1 d os
          have g2 := fun d os => cell_regrown e2 d os
          have g3 := fun d os => cell_regrown e3 d os
          have g4 := fun d os => cell_regrown e4 d os
          have g5 := fun d os => cell_regrown e5 d os
          have CA := Lib.hid (fun d os => Calls.regrown_of (alive_any (Sort.grow (redrawn W d) os) ((HL.out.below HBW.out HL.out.lt).below (below_regrown W d os) (HL.out.below HBW.out HL.out.lt).lt)))
          have hg := guard_span
          have hq := fun w => (eql_span w yf yt yp yc yr yx yf yt yp yc yr yx).trans (by rw [show M.eq6 yf yt yp yc yr yx yf yt yp yc yr yx = true from M.same_iff (a := ⟨yf, yt, yp, yc, yr, yx⟩) (b := ⟨yf, yt, yp, yc, yr, yx⟩) |>.2 rfl] : _ = .ok (.bool true) w)
          dsimp only at HIL
          clear hbW
          rcases (show (q1 + q2 ≤ q0 ∧ q1 ≤ q0) ∨ (q0 < q1 + q2 ∧ q1 ≤ q0) ∨ q0 < q1 by omega) with ⟨h1, h2⟩ | ⟨h1, h2⟩ | h1
          · have hd1 : decide (q0 < q1 + q2) = false := by rw [decide_eq_false_iff_not]; omega
            have CD := Lib.hid (fun d os => by
              have := Calls.regrown_of (look_any A2 c2 (M.del l q1 (q1 + q2)) (q0 - q2) (Sort.grow (redrawn W d) os) (HDW.out.after (below_regrown W d os)) hld)
              have hh := HDL.out (by omega)
              rw [if_pos h1] at hh
              rw [hh] at this
              exact this)
            unfold M.S.val at CD
            dsimp only at CD
            cases yc
            · have CI := Lib.hid (fun d os => by
                have := Calls.regrown_of (look_any A3 c3 (M.ins l q1 q2) (q0 + q2) (Sort.grow (redrawn W d) os) (HMW.out.after (below_regrown W d os)) hlm)
                have hh := HIL.out rfl
                rw [if_pos h2] at hh
                rw [hh] at this
                exact this)
              unfold M.S.val at CI
              dsimp only at CI
              go_wp2_with fail
              refine wp_region_quiet_below (by kernel_rfl) (by kernel_rfl) ?_
              repeat (go_big_quiet_step (first | (with_reducible exact CA.out _ _) | (with_reducible exact CD.out _ _) | (with_reducible exact CI.out _ _)))
              refine wpQuiet_nil ?_
              intro _ hw'
              obtain ⟨⟨dq, osq⟩, hw4⟩ := hw'
              subst hw4
              have HBV := Lib.hid (HBW.out.trans ((below_regrown W dq osq).mono HBW.out.size))
              go_wp2
              go_ret
              exact ⟨rfl, HBV.out⟩
            · go_wp2_with fail
              refine wp_region_quiet_below (by kernel_rfl) (by kernel_rfl) ?_
              repeat (go_big_quiet_step (first | (with_reducible exact CA.out _ _) | (with_reducible exact CD.out _ _)))
              refine wpQuiet_nil ?_
              intro _ hw'
              obtain ⟨⟨dq, osq⟩, hw4⟩ := hw'
              subst hw4
              have HBV := Lib.hid (HBW.out.trans ((below_regrown W dq osq).mono HBW.out.size))
              go_wp2
              go_ret
              exact ⟨rfl, HBV.out⟩
          · have hd1 : decide (q0 < q1 + q2) = true := by rw [decide_eq_true_iff]; exact h1
            cases yc
            · have CI := Lib.hid (fun d os => by
                have := Calls.regrown_of (look_any A3 c3 (M.ins l q1 q2) (q0 + q2) (Sort.grow (redrawn W d) os) (HMW.out.after (below_regrown W d os)) hlm)
                have hh := HIL.out rfl
                rw [if_pos h2] at hh
                rw [hh] at this
                exact this)
              unfold M.S.val at CI
              dsimp only at CI
              go_wp2_with fail
              refine wp_region_quiet_below (by kernel_rfl) (by kernel_rfl) ?_
              repeat (go_big_quiet_step (first | (with_reducible exact CA.out _ _) | (with_reducible exact CI.out _ _)))
              refine wpQuiet_nil ?_
              intro _ hw'
              obtain ⟨⟨dq, osq⟩, hw4⟩ := hw'
              subst hw4
              have HBV := Lib.hid (HBW.out.trans ((below_regrown W dq osq).mono HBW.out.size))
              go_wp2
              go_ret
              exact ⟨rfl, HBV.out⟩
            · go_wp2_with fail
              refine wp_region_quiet_below (by kernel_rfl) (by kernel_rfl) ?_
              repeat (go_big_quiet_step (first | (with_reducible exact CA.out _ _)))
              refine wpQuiet_nil ?_
              intro _ hw'
              obtain ⟨⟨dq, osq⟩, hw4⟩ := hw'
              subst hw4
              have HBV := Lib.hid (HBW.out.trans ((below_regrown W dq osq).mono HBW.out.size))
              go_wp2
              go_ret
              exact ⟨rfl, HBV.out⟩
          · have h2' : q0 < q1 + q2 := by omega
            have CD := Lib.hid (fun d os => by
              have := Calls.regrown_of (look_any A2 c2 (M.del l q1 (q1 + q2)) q0 (Sort.grow (redrawn W d) os) (HDW.out.after (below_regrown W d os)) hld)
              have hh := HDL.out (by omega)
              rw [if_neg (by omega)] at hh
              rw [hh] at this
              exact this)
            unfold M.S.val at CD
            dsimp only at CD
            cases yc
            · have CI := Lib.hid (fun d os => by
                have := Calls.regrown_of (look_any A3 c3 (M.ins l q1 q2) q0 (Sort.grow (redrawn W d) os) (HMW.out.after (below_regrown W d os)) hlm)
                have hh := HIL.out rfl
                rw [if_neg (by omega)] at hh
                rw [hh] at this
                exact this)
              unfold M.S.val at CI
              dsimp only at CI
              go_wp2_with fail
              refine wp_region_quiet_below (by kernel_rfl) (by kernel_rfl) ?_
              repeat (go_big_quiet_step (first | (with_reducible exact CA.out _ _) | (with_reducible exact CD.out _ _) | (with_reducible exact CI.out _ _)))
              refine wpQuiet_nil ?_
              intro _ hw'
              obtain ⟨⟨dq, osq⟩, hw4⟩ := hw'
              subst hw4
              have HBV := Lib.hid (HBW.out.trans ((below_regrown W dq osq).mono HBW.out.size))
              go_wp2
              go_ret
              exact ⟨rfl, HBV.out⟩
            · go_wp2_with fail
              refine wp_region_quiet_below (by kernel_rfl) (by kernel_rfl) ?_
              repeat (go_big_quiet_step (first | (with_reducible exact CA.out _ _) | (with_reducible exact CD.out _ _)))
              refine wpQuiet_nil ?_
              intro _ hw'
              obtain ⟨⟨dq, osq⟩, hw4⟩ := hw'
              subst hw4
              have HBV := Lib.hid (HBW.out.trans ((below_regrown W dq osq).mono HBW.out.size))
              go_wp2
              go_ret
              exact ⟨rfl, HBV.out⟩
end Go.Proofs.YteknpodofmmklaaDoor
