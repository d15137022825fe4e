/- The regions of the body of package runs' Split's range that draw their order. -/
/- Two more of the regions of the body of package runs' Split's range that draw their order. -/
import Derived.Test.YticiofpbijahbaaGJ
section
namespace Go.Proofs.Yticiofpbijahbaa
open Go.RowKit Go.Shelf
attribute [local go_sem] Oper.semAt_some
set_option maxRecDepth 100000

/-- The body of the first range over a function. -/
noncomputable def rangeBody : Code → Option Code
  | .seq a b => (rangeBody a).or (rangeBody b)
  | .block _ c => rangeBody c
  | .rangeFunc _ _ _ c => some c
  | _ => none
/-- A region, by its number. -/
noncomputable def regionAt (k : Nat) : Code → Option Code
  | .seq a b => (regionAt k a).or (regionAt k b)
  | .block _ c => regionAt k c
  | .cond _ a b => (regionAt k a).or (regionAt k b)
  | .region i o d => if i = k then some (.region i o d) else none
  | _ => none
/-- What stands from a region on. -/
noncomputable def tailAt (k : Nat) : Code → Option Code
  | .seq (.region i o d) b => if i = k then some (.seq (.region i o d) b) else tailAt k b
  | .seq a b => (tailAt k a).or (tailAt k b)
  | .block _ c => tailAt k c
  | _ => none
/-- The body of Split's range. -/
noncomputable def splitBody : Code := ((rangeBody ((Try.f8.body).getD .skip))).getD .skip

set_option maxHeartbeats 8000000 in
theorem reg11 {c : Code} (hc : regionAt 11 splitBody = some c) {j nn : Nat} {Q : Exit → Act → World → Prop} {BA Br K c4 g cap : Nat} {A4 : Option Addr} {x0 a0 sv : Int} {X D D1 D2 : World} {t0 t1 t2 t3 t4 t5 t6 t7 t9 t10 t12 t13 t14 t15 t16 t17 t18 t19 t20 t21 t22 t23 t24 t25 t26 t27 t28 t29 t30 t31 t32 t33 t34 t35 t36 t37 t38 t39 t40 t41 t42 t43 t44 t45 t57 t58 t59 t60 t61 t62 t63 t64 t65 t66 t67 t68 t69 t70 t71 t72 t73 t74 t75 t76 t77 t78 t79 t80 t81 t82 t83 t84 t85 t86 t87 t88 t89 t90 t91 t92 t93 t94 t95 t96 t97 t98 t99 t100 t101 t102 t103 t104 t105 t106 : Value} {t46 t47 t48 t49 t50 t51 t52 t53 t54 t55 t56 : Value}
    (hD : X.drew = D) (e1 : D.cell? ⟨Br, 1, none⟩ = some (.int .i64 x0)) (e2 : D.cell? ⟨Br, 2, none⟩ = some (.int .i64 a0)) (cA0 : D.cell? ⟨BA, 0, none⟩ = some (.slice A4 K c4)) (hsd : ∀ Z, Calls Try.prog 21 #[.int .i64 x0, .int .i64 a0] Z fun r w' => r = .returned (.int .i64 sv) ∧ Z = w')
    (hD1 : D.alloc (.cells #[.slice none 0 0, .int .i64 x0, .int .i64 sv, .int .i64 0] 46) = D1) (j1 : D1.cell? ⟨Br, 1, none⟩ = some (.int .i64 x0) ∧ D1.cell? ⟨Br, 2, none⟩ = some (.int .i64 a0)) (cA1 : D1.cell? ⟨BA, 0, none⟩ = some (.slice A4 K c4))
    (hrun : (Builtin.append_ #[25, 25] 25 #[.slice A4 K c4, .slice (some ⟨D.heap.size, 0, none⟩) 1 1]).run Try.prog D1 = .ok (.slice (some ⟨g, 0, none⟩) (K + 1) cap) D2) (j2 : D2.cell? ⟨Br, 1, none⟩ = some (.int .i64 x0) ∧ D2.cell? ⟨Br, 2, none⟩ = some (.int .i64 a0))
    (cA2 : D2.cell? ⟨BA, 0, none⟩ = some (.slice A4 K c4)) (bA2 : D2.frozen? ⟨BA, 0, none⟩ = false)
    (j3 : (D2.setCell ⟨BA, 0, none⟩ (.slice (some ⟨g, 0, none⟩) (K + 1) cap)).cell? ⟨Br, 1, none⟩ = some (.int .i64 x0) ∧ (D2.setCell ⟨BA, 0, none⟩ (.slice (some ⟨g, 0, none⟩) (K + 1) cap)).cell? ⟨Br, 2, none⟩ = some (.int .i64 a0))
    (hend : Q .normal ⟨(List.toArray (t0 :: t1 :: t2 :: t3 :: t4 :: t5 :: t6 :: t7 :: (.pointer (some ⟨BA, 0, none⟩)) :: t9 :: t10 :: (.pointer (some ⟨Br, 0, none⟩)) :: t12 :: t13 :: t14 :: t15 :: t16 :: t17 :: t18 :: t19 :: t20 :: t21 :: t22 :: t23 :: t24 :: t25 :: t26 :: t27 :: t28 :: t29 :: t30 :: t31 :: t32 :: t33 :: t34 :: t35 :: t36 :: t37 :: t38 :: t39 :: t40 :: t41 :: t42 :: t43 :: t44 :: t45 :: (.slice A4 K c4) :: (.pointer (some ⟨Br, 1, none⟩)) :: (.int .i64 x0) :: (.pointer (some ⟨Br, 1, none⟩)) :: (.int .i64 x0) :: (.pointer (some ⟨Br, 2, none⟩)) :: (.int .i64 a0) :: (.int .i64 sv) :: (.agg #[.slice none 0 0, .int .i64 x0, .int .i64 sv, .int .i64 0]) :: (.slice (some ⟨D.heap.size, 0, none⟩) 1 1) :: (.slice (some ⟨g, 0, none⟩) (K + 1) cap) :: t57 :: t58 :: t59 :: t60 :: t61 :: t62 :: t63 :: t64 :: t65 :: t66 :: t67 :: t68 :: t69 :: t70 :: t71 :: t72 :: t73 :: t74 :: t75 :: t76 :: t77 :: t78 :: t79 :: t80 :: t81 :: t82 :: t83 :: t84 :: t85 :: t86 :: t87 :: t88 :: t89 :: t90 :: t91 :: t92 :: t93 :: t94 :: t95 :: t96 :: t97 :: t98 :: t99 :: t100 :: t101 :: t102 :: t103 :: t104 :: t105 :: t106 :: [])), []⟩ (D2.setCell ⟨BA, 0, none⟩ (.slice (some ⟨g, 0, none⟩) (K + 1) cap))) :
    c.wpIn (Fence.wide.inRound j) nn Try.prog Q ⟨(List.toArray (t0 :: t1 :: t2 :: t3 :: t4 :: t5 :: t6 :: t7 :: (.pointer (some ⟨BA, 0, none⟩)) :: t9 :: t10 :: (.pointer (some ⟨Br, 0, none⟩)) :: t12 :: t13 :: t14 :: t15 :: t16 :: t17 :: t18 :: t19 :: t20 :: t21 :: t22 :: t23 :: t24 :: t25 :: t26 :: t27 :: t28 :: t29 :: t30 :: t31 :: t32 :: t33 :: t34 :: t35 :: t36 :: t37 :: t38 :: t39 :: t40 :: t41 :: t42 :: t43 :: t44 :: t45 :: t46 :: t47 :: t48 :: t49 :: t50 :: t51 :: t52 :: t53 :: t54 :: t55 :: t56 :: t57 :: t58 :: t59 :: t60 :: t61 :: t62 :: t63 :: t64 :: t65 :: t66 :: t67 :: t68 :: t69 :: t70 :: t71 :: t72 :: t73 :: t74 :: t75 :: t76 :: t77 :: t78 :: t79 :: t80 :: t81 :: t82 :: t83 :: t84 :: t85 :: t86 :: t87 :: t88 :: t89 :: t90 :: t91 :: t92 :: t93 :: t94 :: t95 :: t96 :: t97 :: t98 :: t99 :: t100 :: t101 :: t102 :: t103 :: t104 :: t105 :: t106 :: [])), []⟩ X := by
  simp [regionAt, splitBody, rangeBody, Try.f8] at hc
  subst hc
  have HSD := Lib.hid hsd
  have HD1 := Lib.hid hD1
  have HE := Lib.hid hend
  clear hsd hD1 hend
  have hHeld : D.cell? ⟨Br, 1, none⟩ = some (.int .i64 x0) ∧ D.cell? ⟨Br, 2, none⟩ = some (.int .i64 a0) := ⟨e1, e2⟩
  refine region_by (S := fun w' => w'.cell? ⟨Br, 1, none⟩ = some (.int .i64 x0) ∧ w'.cell? ⟨Br, 2, none⟩ = some (.int .i64 a0)) (k := 12) (by kernel_rfl) (by kernel_rfl) rfl (listed := #[false, false, false, false, false, false, false, false, false, false, false, false]) rfl ?_
  rw [hD]
  refine takeH (i := 1) (d := 47) (v := .pointer (some ⟨Br, 1, none⟩)) (listed' := #[false, true, false, false, false, false, false, false, false, false, false, false]) rfl (by kernel_rfl) (by kernel_rfl) (by kernel_rfl) rfl rfl hHeld (by intro w hSw; (try dsimp only at hSw); go_simp) rfl (by simp only [List.setIfInBounds_toArray, List.set_cons_zero, List.set_cons_succ]; try rfl) ?_
  refine takeH (i := 3) (d := 49) (v := .pointer (some ⟨Br, 1, none⟩)) (listed' := #[false, true, false, true, false, false, false, false, false, false, false, false]) rfl (by kernel_rfl) (by kernel_rfl) (by kernel_rfl) rfl rfl hHeld (by intro w hSw; (try dsimp only at hSw); go_simp) rfl (by simp only [List.setIfInBounds_toArray, List.set_cons_zero, List.set_cons_succ]; try rfl) ?_
  refine takeH (i := 5) (d := 51) (v := .pointer (some ⟨Br, 2, none⟩)) (listed' := #[false, true, false, true, false, true, false, false, false, false, false, false]) rfl (by kernel_rfl) (by kernel_rfl) (by kernel_rfl) rfl rfl hHeld (by intro w hSw; (try dsimp only at hSw); go_simp) rfl (by simp only [List.setIfInBounds_toArray, List.set_cons_zero, List.set_cons_succ]; try rfl) ?_
  refine takeH (i := 2) (d := 48) (v := .int .i64 x0) (listed' := #[false, true, true, true, false, true, false, false, false, false, false, false]) rfl (by kernel_rfl) (by kernel_rfl) (by kernel_rfl) rfl rfl hHeld (by intro w hSw; (try dsimp only at hSw); go_simp) rfl (by simp only [List.setIfInBounds_toArray, List.set_cons_zero, List.set_cons_succ]; try rfl) ?_
  refine takeH (i := 4) (d := 50) (v := .int .i64 x0) (listed' := #[false, true, true, true, true, true, false, false, false, false, false, false]) rfl (by kernel_rfl) (by kernel_rfl) (by kernel_rfl) rfl rfl hHeld (by intro w hSw; (try dsimp only at hSw); go_simp) rfl (by simp only [List.setIfInBounds_toArray, List.set_cons_zero, List.set_cons_succ]; try rfl) ?_
  refine takeH (i := 6) (d := 52) (v := .int .i64 a0) (listed' := #[false, true, true, true, true, true, true, false, false, false, false, false]) rfl (by kernel_rfl) (by kernel_rfl) (by kernel_rfl) rfl rfl hHeld (by intro w hSw; (try dsimp only at hSw); go_simp) rfl (by simp only [List.setIfInBounds_toArray, List.set_cons_zero, List.set_cons_succ]; try rfl) ?_
  refine twoH (i := 0) (k := 7) (by kernel_rfl) ?_ ?_
  · refine runH (i := 0) (d := 46) (v := .slice A4 K c4) (w' := D) (listed' := #[true, true, true, true, true, true, true, false, false, false, false, false]) rfl rfl rfl (by go_simp) ⟨e1, e2⟩ rfl (by simp only [List.setIfInBounds_toArray, List.set_cons_zero, List.set_cons_succ]; try rfl) ?_
    refine oneH (i := 7) (by kernel_rfl) ?_
    refine callH (i := 7) (d := 53) (f := 21) (args := #[.int .i64 x0, .int .i64 a0]) (v := .int .i64 sv) (listed' := #[true, true, true, true, true, true, true, true, false, false, false, false]) rfl rfl rfl (by go_simp) (HSD.out D) ⟨e1, e2⟩ rfl (by simp only [List.setIfInBounds_toArray, List.set_cons_zero, List.set_cons_succ]; try rfl) ?_
    refine takeH (i := 8) (d := 54) (v := .agg #[.slice none 0 0, .int .i64 x0, .int .i64 sv, .int .i64 0]) (listed' := #[true, true, true, true, true, true, true, true, true, false, false, false]) rfl (by kernel_rfl) (by kernel_rfl) (by kernel_rfl) rfl rfl hHeld (by intro w hSw; (try dsimp only at hSw); go_simp) rfl (by simp only [List.setIfInBounds_toArray, List.set_cons_zero, List.set_cons_succ]; try rfl) ?_
    refine oneH (i := 9) (by kernel_rfl) ?_
    refine runH (i := 9) (d := 55) (v := .slice (some ⟨D.heap.size, 0, none⟩) 1 1) (w' := D1) (listed' := #[true, true, true, true, true, true, true, true, true, true, false, false]) rfl rfl rfl (by rw [← HD1.out]; go_simp) j1 rfl (by simp only [List.setIfInBounds_toArray, List.set_cons_zero, List.set_cons_succ]; try rfl) ?_
    refine oneH (i := 10) (by kernel_rfl) ?_
    refine runH (i := 10) (d := 56) (v := .slice (some ⟨g, 0, none⟩) (K + 1) cap) (w' := D2) (listed' := #[true, true, true, true, true, true, true, true, true, true, true, false]) rfl rfl rfl (by exact exec_append rfl rfl rfl hrun) j2 rfl (by simp only [List.setIfInBounds_toArray, List.set_cons_zero, List.set_cons_succ]; try rfl) ?_
    refine oneH (i := 11) (by kernel_rfl) ?_
    refine skipH (i := 11) (v := .skip) (w' := (D2.setCell ⟨BA, 0, none⟩ (.slice (some ⟨g, 0, none⟩) (K + 1) cap))) (listed' := #[true, true, true, true, true, true, true, true, true, true, true, true]) rfl rfl rfl (by go_simp) (.inl rfl) j3 rfl ?_
    exact wpAnyH_done (Q := AtEnd Q) (by kernel_rfl) HE.out _
  · refine callH (i := 7) (d := 53) (f := 21) (args := #[.int .i64 x0, .int .i64 a0]) (v := .int .i64 sv) (listed' := #[false, true, true, true, true, true, true, true, false, false, false, false]) rfl rfl rfl (by go_simp) (HSD.out D) ⟨e1, e2⟩ rfl (by simp only [List.setIfInBounds_toArray, List.set_cons_zero, List.set_cons_succ]; try rfl) ?_
    refine takeH (i := 8) (d := 54) (v := .agg #[.slice none 0 0, .int .i64 x0, .int .i64 sv, .int .i64 0]) (listed' := #[false, true, true, true, true, true, true, true, true, false, false, false]) rfl (by kernel_rfl) (by kernel_rfl) (by kernel_rfl) rfl rfl hHeld (by intro w hSw; (try dsimp only at hSw); go_simp) rfl (by simp only [List.setIfInBounds_toArray, List.set_cons_zero, List.set_cons_succ]; try rfl) ?_
    refine twoH (i := 0) (k := 9) (by kernel_rfl) ?_ ?_
    · refine runH (i := 0) (d := 46) (v := .slice A4 K c4) (w' := D) (listed' := #[true, true, true, true, true, true, true, true, true, false, false, false]) rfl rfl rfl (by go_simp) ⟨e1, e2⟩ rfl (by simp only [List.setIfInBounds_toArray, List.set_cons_zero, List.set_cons_succ]; try rfl) ?_
      refine oneH (i := 9) (by kernel_rfl) ?_
      refine runH (i := 9) (d := 55) (v := .slice (some ⟨D.heap.size, 0, none⟩) 1 1) (w' := D1) (listed' := #[true, true, true, true, true, true, true, true, true, true, false, false]) rfl rfl rfl (by rw [← HD1.out]; go_simp) j1 rfl (by simp only [List.setIfInBounds_toArray, List.set_cons_zero, List.set_cons_succ]; try rfl) ?_
      refine oneH (i := 10) (by kernel_rfl) ?_
      refine runH (i := 10) (d := 56) (v := .slice (some ⟨g, 0, none⟩) (K + 1) cap) (w' := D2) (listed' := #[true, true, true, true, true, true, true, true, true, true, true, false]) rfl rfl rfl (by exact exec_append rfl rfl rfl hrun) j2 rfl (by simp only [List.setIfInBounds_toArray, List.set_cons_zero, List.set_cons_succ]; try rfl) ?_
      refine oneH (i := 11) (by kernel_rfl) ?_
      refine skipH (i := 11) (v := .skip) (w' := (D2.setCell ⟨BA, 0, none⟩ (.slice (some ⟨g, 0, none⟩) (K + 1) cap))) (listed' := #[true, true, true, true, true, true, true, true, true, true, true, true]) rfl rfl rfl (by go_simp) (.inl rfl) j3 rfl ?_
      exact wpAnyH_done (Q := AtEnd Q) (by kernel_rfl) HE.out _
    · refine runH (i := 9) (d := 55) (v := .slice (some ⟨D.heap.size, 0, none⟩) 1 1) (w' := D1) (listed' := #[false, true, true, true, true, true, true, true, true, true, false, false]) rfl rfl rfl (by rw [← HD1.out]; go_simp) j1 rfl (by simp only [List.setIfInBounds_toArray, List.set_cons_zero, List.set_cons_succ]; try rfl) ?_
      refine oneH (i := 0) (by kernel_rfl) ?_
      refine runH (i := 0) (d := 46) (v := .slice A4 K c4) (w' := D1) (listed' := #[true, true, true, true, true, true, true, true, true, true, false, false]) rfl rfl rfl (by go_simp) j1 rfl (by simp only [List.setIfInBounds_toArray, List.set_cons_zero, List.set_cons_succ]; try rfl) ?_
      refine oneH (i := 10) (by kernel_rfl) ?_
      refine runH (i := 10) (d := 56) (v := .slice (some ⟨g, 0, none⟩) (K + 1) cap) (w' := D2) (listed' := #[true, true, true, true, true, true, true, true, true, true, true, false]) rfl rfl rfl (by exact exec_append rfl rfl rfl hrun) j2 rfl (by simp only [List.setIfInBounds_toArray, List.set_cons_zero, List.set_cons_succ]; try rfl) ?_
      refine oneH (i := 11) (by kernel_rfl) ?_
      refine skipH (i := 11) (v := .skip) (w' := (D2.setCell ⟨BA, 0, none⟩ (.slice (some ⟨g, 0, none⟩) (K + 1) cap))) (listed' := #[true, true, true, true, true, true, true, true, true, true, true, true]) rfl rfl rfl (by go_simp) (.inl rfl) j3 rfl ?_
      exact wpAnyH_done (Q := AtEnd Q) (by kernel_rfl) HE.out _
end Go.Proofs.Yticiofpbijahbaa
end

section
namespace Go.Proofs.Yticiofpbijahbaa
open Go.RowKit Go.Shelf
attribute [local go_sem] Oper.semAt_some
set_option maxRecDepth 100000

set_option maxHeartbeats 8000000 in
theorem reg17 {c : Code} (hc : regionAt 17 splitBody = some c) {j nn : Nat} {Q : Exit → Act → World → Prop} {BE BM mb n cE q k : Nat} {ad : Addr} {en : Int} {X D D1 : World} {t0 t1 t2 t3 t4 t5 t6 t7 t8 t11 t13 t15 t16 t17 t18 t19 t20 t21 t22 t23 t24 t25 t26 t27 t28 t29 t30 t31 t32 t33 t34 t35 t36 t37 t38 t39 t40 t41 t42 t43 t44 t45 t46 t47 t48 t49 t50 t51 t52 t53 t54 t55 t56 t57 t58 t59 t60 t61 t62 t63 t64 t65 t66 t67 t68 t69 t70 t71 t72 t73 t74 t75 t76 t77 t84 t85 t86 t87 t88 t89 t90 t91 t92 t93 t94 t95 t96 t97 t98 t99 t100 t101 t102 t103 t104 t105 t106 : Value} {t78 t79 t80 t81 t82 t83 : Value}
    (hq0 : (0 : Int) ≤ q) (hq1 : (q : Int) < n) (hD : X.drew = D) (hS : D.cell? ⟨BM, 0, none⟩ = some (.map (some mb)) ∧ D.cell? ⟨BE, 0, none⟩ = some (.slice (some ad) n cE) ∧ D.cell? (ad.add q) = some (.int .i64 en)) (hrun : (Instr.mapUpdate 50 (.map (some mb)) (.int .i64 en) (.int .i64 k)).run Try.prog D = .ok () D1) (hS1 : D1.cell? ⟨BM, 0, none⟩ = some (.map (some mb)) ∧ D1.cell? ⟨BE, 0, none⟩ = some (.slice (some ad) n cE) ∧ D1.cell? (ad.add q) = some (.int .i64 en))
    (hend : Q .normal ⟨(List.toArray (t0 :: t1 :: t2 :: t3 :: t4 :: t5 :: t6 :: t7 :: t8 :: (.pointer (some ⟨BE, 0, none⟩)) :: (.pointer (some ⟨BM, 0, none⟩)) :: t11 :: (.int .i64 k) :: t13 :: (.int .i64 q) :: t15 :: t16 :: t17 :: t18 :: t19 :: t20 :: t21 :: t22 :: t23 :: t24 :: t25 :: t26 :: t27 :: t28 :: t29 :: t30 :: t31 :: t32 :: t33 :: t34 :: t35 :: t36 :: t37 :: t38 :: t39 :: t40 :: t41 :: t42 :: t43 :: t44 :: t45 :: t46 :: t47 :: t48 :: t49 :: t50 :: t51 :: t52 :: t53 :: t54 :: t55 :: t56 :: t57 :: t58 :: t59 :: t60 :: t61 :: t62 :: t63 :: t64 :: t65 :: t66 :: t67 :: t68 :: t69 :: t70 :: t71 :: t72 :: t73 :: t74 :: t75 :: t76 :: t77 :: (.map (some mb)) :: (.slice (some ad) n cE) :: (.int .i64 q) :: (.pointer (some (ad.add q))) :: (.int .i64 en) :: (.int .i64 k) :: t84 :: t85 :: t86 :: t87 :: t88 :: t89 :: t90 :: t91 :: t92 :: t93 :: t94 :: t95 :: t96 :: t97 :: t98 :: t99 :: t100 :: t101 :: t102 :: t103 :: t104 :: t105 :: t106 :: [])), []⟩ D1) :
    c.wpIn (Fence.wide.inRound j) nn Try.prog Q ⟨(List.toArray (t0 :: t1 :: t2 :: t3 :: t4 :: t5 :: t6 :: t7 :: t8 :: (.pointer (some ⟨BE, 0, none⟩)) :: (.pointer (some ⟨BM, 0, none⟩)) :: t11 :: (.int .i64 k) :: t13 :: (.int .i64 q) :: t15 :: t16 :: t17 :: t18 :: t19 :: t20 :: t21 :: t22 :: t23 :: t24 :: t25 :: t26 :: t27 :: t28 :: t29 :: t30 :: t31 :: t32 :: t33 :: t34 :: t35 :: t36 :: t37 :: t38 :: t39 :: t40 :: t41 :: t42 :: t43 :: t44 :: t45 :: t46 :: t47 :: t48 :: t49 :: t50 :: t51 :: t52 :: t53 :: t54 :: t55 :: t56 :: t57 :: t58 :: t59 :: t60 :: t61 :: t62 :: t63 :: t64 :: t65 :: t66 :: t67 :: t68 :: t69 :: t70 :: t71 :: t72 :: t73 :: t74 :: t75 :: t76 :: t77 :: t78 :: t79 :: t80 :: t81 :: t82 :: t83 :: t84 :: t85 :: t86 :: t87 :: t88 :: t89 :: t90 :: t91 :: t92 :: t93 :: t94 :: t95 :: t96 :: t97 :: t98 :: t99 :: t100 :: t101 :: t102 :: t103 :: t104 :: t105 :: t106 :: [])), []⟩ X := by
  simp [regionAt, splitBody, rangeBody, Try.f8] at hc
  subst hc
  have HE := Lib.hid hend
  clear hend
  have hHeld := hS
  obtain ⟨s1, s2, s3⟩ := hS
  refine region_by (S := fun w' => w'.cell? ⟨BM, 0, none⟩ = some (.map (some mb)) ∧ w'.cell? ⟨BE, 0, none⟩ = some (.slice (some ad) n cE) ∧ w'.cell? (ad.add q) = some (.int .i64 en)) (k := 7) (by kernel_rfl) (by kernel_rfl) rfl (listed := #[false, false, false, false, false, false, false]) rfl ?_
  rw [hD]
  refine takeH (i := 0) (d := 78) (v := .map (some mb)) (listed' := #[true, false, false, false, false, false, false]) rfl (by kernel_rfl) (by kernel_rfl) (by kernel_rfl) rfl rfl hHeld (by intro w hSw; (try dsimp only at hSw); go_simp) rfl (by simp only [List.setIfInBounds_toArray, List.set_cons_zero, List.set_cons_succ]; try rfl) ?_
  refine takeH (i := 1) (d := 79) (v := .slice (some ad) n cE) (listed' := #[true, true, false, false, false, false, false]) rfl (by kernel_rfl) (by kernel_rfl) (by kernel_rfl) rfl rfl hHeld (by intro w hSw; (try dsimp only at hSw); go_simp) rfl (by simp only [List.setIfInBounds_toArray, List.set_cons_zero, List.set_cons_succ]; try rfl) ?_
  refine takeH (i := 2) (d := 80) (v := .int .i64 q) (listed' := #[true, true, true, false, false, false, false]) rfl (by kernel_rfl) (by kernel_rfl) (by kernel_rfl) rfl rfl hHeld (by intro w hSw; (try dsimp only at hSw); go_simp) rfl (by simp only [List.setIfInBounds_toArray, List.set_cons_zero, List.set_cons_succ]; try rfl) ?_
  refine takeH (i := 3) (d := 81) (v := .pointer (some (ad.add q))) (listed' := #[true, true, true, true, false, false, false]) rfl (by kernel_rfl) (by kernel_rfl) (by kernel_rfl) rfl rfl hHeld (by intro w hSw; (try dsimp only at hSw); go_simp) rfl (by simp only [List.setIfInBounds_toArray, List.set_cons_zero, List.set_cons_succ]; try rfl) ?_
  refine takeH (i := 4) (d := 82) (v := .int .i64 en) (listed' := #[true, true, true, true, true, false, false]) rfl (by kernel_rfl) (by kernel_rfl) (by kernel_rfl) rfl rfl hHeld (by intro w hSw; (try dsimp only at hSw); go_simp) rfl (by simp only [List.setIfInBounds_toArray, List.set_cons_zero, List.set_cons_succ]; try rfl) ?_
  refine takeH (i := 5) (d := 83) (v := .int .i64 k) (listed' := #[true, true, true, true, true, true, false]) rfl (by kernel_rfl) (by kernel_rfl) (by kernel_rfl) rfl rfl hHeld (by intro w hSw; (try dsimp only at hSw); go_simp) rfl (by simp only [List.setIfInBounds_toArray, List.set_cons_zero, List.set_cons_succ]; try rfl) ?_
  refine oneH (i := 6) (by kernel_rfl) ?_
  refine skipH (i := 6) (v := .skip) (w' := D1) (listed' := #[true, true, true, true, true, true, true]) rfl rfl rfl (by go_simp) (.inl rfl) hS1 rfl ?_
  exact wpAnyH_done (Q := AtEnd Q) (by kernel_rfl) HE.out _

set_option maxHeartbeats 8000000 in
theorem reg19 {c : Code} (hc : regionAt 19 splitBody = some c) {j nn : Nat} {Q : Exit → Act → World → Prop} {Br G o K c4 g2 p c2 g N cap : Nat} {A4 : Option Addr} {X D D1 : World} {t0 t1 t2 t3 t4 t5 t6 t7 t8 t9 t10 t12 t13 t14 t15 t17 t18 t19 t20 t21 t22 t23 t24 t25 t26 t27 t28 t29 t30 t31 t32 t33 t34 t35 t36 t37 t38 t39 t40 t41 t42 t43 t44 t45 t46 t47 t48 t49 t50 t51 t52 t53 t54 t55 t56 t57 t58 t59 t60 t61 t62 t63 t64 t65 t66 t67 t68 t69 t70 t71 t72 t73 t74 t75 t76 t77 t78 t79 t80 t81 t82 t83 t84 t85 t86 t97 t98 t99 t100 t101 t102 t103 t104 t105 t106 : Value} {t87 t88 t89 t90 t91 t92 t93 t94 t95 t96 : Value}
    (hD : X.drew = D) (e1 : D.cell? ⟨Br, 0, none⟩ = some (.slice (some ⟨g2, 0, none⟩) p c2)) (e2 : D.cell? ⟨G, o, none⟩ = some (.slice A4 K c4)) (hrun : (Builtin.append_ #[23, 23] 23 #[.slice A4 K c4, .slice (some ⟨g2, 0, none⟩) p c2]).run Try.prog D = .ok (.slice (some ⟨g, 0, none⟩) N cap) D1)
    (j1 : D1.cell? ⟨Br, 0, none⟩ = some (.slice (some ⟨g2, 0, none⟩) p c2)) (j2 : D1.cell? ⟨G, o, none⟩ = some (.slice A4 K c4)) (f2 : D1.frozen? ⟨G, o, none⟩ = false) (j3 : (D1.setCell ⟨G, o, none⟩ (.slice (some ⟨g, 0, none⟩) N cap)).cell? ⟨Br, 0, none⟩ = some (.slice (some ⟨g2, 0, none⟩) p c2))
    (hend : Q .normal ⟨(List.toArray (t0 :: t1 :: t2 :: t3 :: t4 :: t5 :: t6 :: t7 :: t8 :: t9 :: t10 :: (.pointer (some ⟨Br, 0, none⟩)) :: t12 :: t13 :: t14 :: t15 :: (.pointer (some ⟨G, o, none⟩)) :: t17 :: t18 :: t19 :: t20 :: t21 :: t22 :: t23 :: t24 :: t25 :: t26 :: t27 :: t28 :: t29 :: t30 :: t31 :: t32 :: t33 :: t34 :: t35 :: t36 :: t37 :: t38 :: t39 :: t40 :: t41 :: t42 :: t43 :: t44 :: t45 :: t46 :: t47 :: t48 :: t49 :: t50 :: t51 :: t52 :: t53 :: t54 :: t55 :: t56 :: t57 :: t58 :: t59 :: t60 :: t61 :: t62 :: t63 :: t64 :: t65 :: t66 :: t67 :: t68 :: t69 :: t70 :: t71 :: t72 :: t73 :: t74 :: t75 :: t76 :: t77 :: t78 :: t79 :: t80 :: t81 :: t82 :: t83 :: t84 :: t85 :: t86 :: (.pointer (some ⟨G, o, none⟩)) :: (.pointer (some ⟨G, o, none⟩)) :: (.pointer (some ⟨G, o, none⟩)) :: (.pointer (some ⟨G, o, none⟩)) :: (.slice A4 K c4) :: (.pointer (some ⟨Br, 0, none⟩)) :: (.slice (some ⟨g2, 0, none⟩) p c2) :: (.slice (some ⟨g, 0, none⟩) N cap) :: (.pointer (some ⟨G, o, none⟩)) :: (.pointer (some ⟨G, o, none⟩)) :: t97 :: t98 :: t99 :: t100 :: t101 :: t102 :: t103 :: t104 :: t105 :: t106 :: [])), []⟩ (D1.setCell ⟨G, o, none⟩ (.slice (some ⟨g, 0, none⟩) N cap))) :
    c.wpIn (Fence.wide.inRound j) nn Try.prog Q ⟨(List.toArray (t0 :: t1 :: t2 :: t3 :: t4 :: t5 :: t6 :: t7 :: t8 :: t9 :: t10 :: (.pointer (some ⟨Br, 0, none⟩)) :: t12 :: t13 :: t14 :: t15 :: (.pointer (some ⟨G, o, none⟩)) :: t17 :: t18 :: t19 :: t20 :: t21 :: t22 :: t23 :: t24 :: t25 :: t26 :: t27 :: t28 :: t29 :: t30 :: t31 :: t32 :: t33 :: t34 :: t35 :: t36 :: t37 :: t38 :: t39 :: t40 :: t41 :: t42 :: t43 :: t44 :: t45 :: t46 :: t47 :: t48 :: t49 :: t50 :: t51 :: t52 :: t53 :: t54 :: t55 :: t56 :: t57 :: t58 :: t59 :: t60 :: t61 :: t62 :: t63 :: t64 :: t65 :: t66 :: t67 :: t68 :: t69 :: t70 :: t71 :: t72 :: t73 :: t74 :: t75 :: t76 :: t77 :: t78 :: t79 :: t80 :: t81 :: t82 :: t83 :: t84 :: t85 :: t86 :: t87 :: t88 :: t89 :: t90 :: t91 :: t92 :: t93 :: t94 :: t95 :: t96 :: t97 :: t98 :: t99 :: t100 :: t101 :: t102 :: t103 :: t104 :: t105 :: t106 :: [])), []⟩ X := by
  simp [regionAt, splitBody, rangeBody, Try.f8] at hc
  subst hc
  have HE := Lib.hid hend
  clear hend
  have hHeld := e1
  refine region_by (S := fun w' => w'.cell? ⟨Br, 0, none⟩ = some (.slice (some ⟨g2, 0, none⟩) p c2)) (k := 11) (by kernel_rfl) (by kernel_rfl) rfl (listed := #[false, false, false, false, false, false, false, false, false, false, false]) rfl ?_
  rw [hD]
  refine takeH (i := 0) (d := 87) (v := .pointer (some ⟨G, o, none⟩)) (listed' := #[true, false, false, false, false, false, false, false, false, false, false]) rfl (by kernel_rfl) (by kernel_rfl) (by kernel_rfl) rfl rfl hHeld (by intro w hSw; (try dsimp only at hSw); go_simp) rfl (by simp only [List.setIfInBounds_toArray, List.set_cons_zero, List.set_cons_succ]; try rfl) ?_
  refine takeH (i := 1) (d := 88) (v := .pointer (some ⟨G, o, none⟩)) (listed' := #[true, true, false, false, false, false, false, false, false, false, false]) rfl (by kernel_rfl) (by kernel_rfl) (by kernel_rfl) rfl rfl hHeld (by intro w hSw; (try dsimp only at hSw); go_simp) rfl (by simp only [List.setIfInBounds_toArray, List.set_cons_zero, List.set_cons_succ]; try rfl) ?_
  refine takeH (i := 2) (d := 89) (v := .pointer (some ⟨G, o, none⟩)) (listed' := #[true, true, true, false, false, false, false, false, false, false, false]) rfl (by kernel_rfl) (by kernel_rfl) (by kernel_rfl) rfl rfl hHeld (by intro w hSw; (try dsimp only at hSw); go_simp) rfl (by simp only [List.setIfInBounds_toArray, List.set_cons_zero, List.set_cons_succ]; try rfl) ?_
  refine takeH (i := 3) (d := 90) (v := .pointer (some ⟨G, o, none⟩)) (listed' := #[true, true, true, true, false, false, false, false, false, false, false]) rfl (by kernel_rfl) (by kernel_rfl) (by kernel_rfl) rfl rfl hHeld (by intro w hSw; (try dsimp only at hSw); go_simp) rfl (by simp only [List.setIfInBounds_toArray, List.set_cons_zero, List.set_cons_succ]; try rfl) ?_
  refine takeH (i := 5) (d := 92) (v := .pointer (some ⟨Br, 0, none⟩)) (listed' := #[true, true, true, true, false, true, false, false, false, false, false]) rfl (by kernel_rfl) (by kernel_rfl) (by kernel_rfl) rfl rfl hHeld (by intro w hSw; (try dsimp only at hSw); go_simp) rfl (by simp only [List.setIfInBounds_toArray, List.set_cons_zero, List.set_cons_succ]; try rfl) ?_
  refine takeH (i := 6) (d := 93) (v := .slice (some ⟨g2, 0, none⟩) p c2) (listed' := #[true, true, true, true, false, true, true, false, false, false, false]) rfl (by kernel_rfl) (by kernel_rfl) (by kernel_rfl) rfl rfl hHeld (by intro w hSw; (try dsimp only at hSw); go_simp) rfl (by simp only [List.setIfInBounds_toArray, List.set_cons_zero, List.set_cons_succ]; try rfl) ?_
  refine oneH (i := 4) (by kernel_rfl) ?_
  refine runH (i := 4) (d := 91) (v := .slice A4 K c4) (w' := D) (listed' := #[true, true, true, true, true, true, true, false, false, false, false]) rfl rfl rfl (by go_simp) e1 rfl (by simp only [List.setIfInBounds_toArray, List.set_cons_zero, List.set_cons_succ]; try rfl) ?_
  refine oneH (i := 7) (by kernel_rfl) ?_
  refine runH (i := 7) (d := 94) (v := .slice (some ⟨g, 0, none⟩) N cap) (w' := D1) (listed' := #[true, true, true, true, true, true, true, true, false, false, false]) rfl rfl rfl (by exact exec_append rfl rfl rfl hrun) j1 rfl (by simp only [List.setIfInBounds_toArray, List.set_cons_zero, List.set_cons_succ]; try rfl) ?_
  refine takeH (i := 8) (d := 95) (v := .pointer (some ⟨G, o, none⟩)) (listed' := #[true, true, true, true, true, true, true, true, true, false, false]) rfl (by kernel_rfl) (by kernel_rfl) (by kernel_rfl) rfl rfl j1 (by intro w hSw; (try dsimp only at hSw); go_simp) rfl (by simp only [List.setIfInBounds_toArray, List.set_cons_zero, List.set_cons_succ]; try rfl) ?_
  refine takeH (i := 9) (d := 96) (v := .pointer (some ⟨G, o, none⟩)) (listed' := #[true, true, true, true, true, true, true, true, true, true, false]) rfl (by kernel_rfl) (by kernel_rfl) (by kernel_rfl) rfl rfl j1 (by intro w hSw; (try dsimp only at hSw); go_simp) rfl (by simp only [List.setIfInBounds_toArray, List.set_cons_zero, List.set_cons_succ]; try rfl) ?_
  refine oneH (i := 10) (by kernel_rfl) ?_
  refine skipH (i := 10) (v := .skip) (w' := (D1.setCell ⟨G, o, none⟩ (.slice (some ⟨g, 0, none⟩) N cap))) (listed' := #[true, true, true, true, true, true, true, true, true, true, true]) rfl rfl rfl (by go_simp) (.inl rfl) j3 rfl ?_
  exact wpAnyH_done (Q := AtEnd Q) (by kernel_rfl) HE.out _
end Go.Proofs.Yticiofpbijahbaa
end
