/- Two more of the regions of the body of package runs' Split's range that draw their order. -/
/- The walk of the rest of the body of package runs' Split's range: the run is put behind its sequence. -/
import Derived.Test.YtjlfgojblimobaaGreatA15
section
namespace Go.Proofs.YtjlfgojblimobaaGreat
open Go.RowKit Go.Shelf
attribute [local go_sem] Oper.semAt_some
set_option maxRecDepth 100000

set_option maxHeartbeats 8000000 in
theorem reg17 {c : Code} (hc : regionAt 17 splitBody = some c) {j nn : Nat} {Q : Exit → Act → World → Prop} {BE BM mb n cE q k : Nat} {ad : Addr} {en : Int} {X D D1 : World} {t0 t1 t2 t3 t4 t5 t6 t7 t8 t11 t13 t15 t16 t17 t18 t19 t20 t21 t22 t23 t24 t25 t26 t27 t28 t29 t30 t31 t32 t33 t34 t35 t36 t37 t38 t39 t40 t41 t42 t43 t44 t45 t46 t47 t48 t49 t50 t51 t52 t53 t54 t55 t56 t57 t58 t59 t60 t61 t62 t63 t64 t65 t66 t67 t68 t69 t70 t71 t72 t73 t74 t75 t76 t77 t84 t85 t86 t87 t88 t89 t90 t91 t92 t93 t94 t95 t96 t97 t98 t99 t100 t101 t102 t103 t104 t105 t106 : Value} {t78 t79 t80 t81 t82 t83 : Value}
    (hq0 : (0 : Int) ≤ q) (hq1 : (q : Int) < n) (hD : X.drew = D) (hS : D.cell? ⟨BM, 0, none⟩ = some (.map (some mb)) ∧ D.cell? ⟨BE, 0, none⟩ = some (.slice (some ad) n cE) ∧ D.cell? (ad.add q) = some (.int .i64 en)) (hrun : (Instr.mapUpdate 116 (.map (some mb)) (.int .i64 en) (.int .i64 k)).run Tryz.prog D = .ok () D1) (hS1 : D1.cell? ⟨BM, 0, none⟩ = some (.map (some mb)) ∧ D1.cell? ⟨BE, 0, none⟩ = some (.slice (some ad) n cE) ∧ D1.cell? (ad.add q) = some (.int .i64 en))
    (hend : Q .normal ⟨(List.toArray (t0 :: t1 :: t2 :: t3 :: t4 :: t5 :: t6 :: t7 :: t8 :: (.pointer (some ⟨BE, 0, none⟩)) :: (.pointer (some ⟨BM, 0, none⟩)) :: t11 :: (.int .i64 k) :: t13 :: (.int .i64 q) :: t15 :: t16 :: t17 :: t18 :: t19 :: t20 :: t21 :: t22 :: t23 :: t24 :: t25 :: t26 :: t27 :: t28 :: t29 :: t30 :: t31 :: t32 :: t33 :: t34 :: t35 :: t36 :: t37 :: t38 :: t39 :: t40 :: t41 :: t42 :: t43 :: t44 :: t45 :: t46 :: t47 :: t48 :: t49 :: t50 :: t51 :: t52 :: t53 :: t54 :: t55 :: t56 :: t57 :: t58 :: t59 :: t60 :: t61 :: t62 :: t63 :: t64 :: t65 :: t66 :: t67 :: t68 :: t69 :: t70 :: t71 :: t72 :: t73 :: t74 :: t75 :: t76 :: t77 :: (.map (some mb)) :: (.slice (some ad) n cE) :: (.int .i64 q) :: (.pointer (some (ad.add q))) :: (.int .i64 en) :: (.int .i64 k) :: t84 :: t85 :: t86 :: t87 :: t88 :: t89 :: t90 :: t91 :: t92 :: t93 :: t94 :: t95 :: t96 :: t97 :: t98 :: t99 :: t100 :: t101 :: t102 :: t103 :: t104 :: t105 :: t106 :: [])), []⟩ D1) :
    c.wpIn (Fence.wide.inRound j) nn Tryz.prog Q ⟨(List.toArray (t0 :: t1 :: t2 :: t3 :: t4 :: t5 :: t6 :: t7 :: t8 :: (.pointer (some ⟨BE, 0, none⟩)) :: (.pointer (some ⟨BM, 0, none⟩)) :: t11 :: (.int .i64 k) :: t13 :: (.int .i64 q) :: t15 :: t16 :: t17 :: t18 :: t19 :: t20 :: t21 :: t22 :: t23 :: t24 :: t25 :: t26 :: t27 :: t28 :: t29 :: t30 :: t31 :: t32 :: t33 :: t34 :: t35 :: t36 :: t37 :: t38 :: t39 :: t40 :: t41 :: t42 :: t43 :: t44 :: t45 :: t46 :: t47 :: t48 :: t49 :: t50 :: t51 :: t52 :: t53 :: t54 :: t55 :: t56 :: t57 :: t58 :: t59 :: t60 :: t61 :: t62 :: t63 :: t64 :: t65 :: t66 :: t67 :: t68 :: t69 :: t70 :: t71 :: t72 :: t73 :: t74 :: t75 :: t76 :: t77 :: t78 :: t79 :: t80 :: t81 :: t82 :: t83 :: t84 :: t85 :: t86 :: t87 :: t88 :: t89 :: t90 :: t91 :: t92 :: t93 :: t94 :: t95 :: t96 :: t97 :: t98 :: t99 :: t100 :: t101 :: t102 :: t103 :: t104 :: t105 :: t106 :: [])), []⟩ X := by
  simp [regionAt, splitBody, rangeBody, Tryz.f39] at hc
  subst hc
  have HE := Lib.hid hend
  clear hend
  have hHeld := hS
  obtain ⟨s1, s2, s3⟩ := hS
  refine region_by (S := fun w' => w'.cell? ⟨BM, 0, none⟩ = some (.map (some mb)) ∧ w'.cell? ⟨BE, 0, none⟩ = some (.slice (some ad) n cE) ∧ w'.cell? (ad.add q) = some (.int .i64 en)) (k := 7) (by kernel_rfl) (by kernel_rfl) rfl (listed := #[false, false, false, false, false, false, false]) rfl ?_
  rw [hD]
  refine takeH (i := 0) (d := 78) (v := .map (some mb)) (listed' := #[true, false, false, false, false, false, false]) rfl (by kernel_rfl) (by kernel_rfl) (by kernel_rfl) rfl rfl hHeld (by intro w hSw; (try dsimp only at hSw); go_simp) rfl (by simp only [List.setIfInBounds_toArray, List.set_cons_zero, List.set_cons_succ]; try rfl) ?_
  refine takeH (i := 1) (d := 79) (v := .slice (some ad) n cE) (listed' := #[true, true, false, false, false, false, false]) rfl (by kernel_rfl) (by kernel_rfl) (by kernel_rfl) rfl rfl hHeld (by intro w hSw; (try dsimp only at hSw); go_simp) rfl (by simp only [List.setIfInBounds_toArray, List.set_cons_zero, List.set_cons_succ]; try rfl) ?_
  refine takeH (i := 2) (d := 80) (v := .int .i64 q) (listed' := #[true, true, true, false, false, false, false]) rfl (by kernel_rfl) (by kernel_rfl) (by kernel_rfl) rfl rfl hHeld (by intro w hSw; (try dsimp only at hSw); go_simp) rfl (by simp only [List.setIfInBounds_toArray, List.set_cons_zero, List.set_cons_succ]; try rfl) ?_
  refine takeH (i := 3) (d := 81) (v := .pointer (some (ad.add q))) (listed' := #[true, true, true, true, false, false, false]) rfl (by kernel_rfl) (by kernel_rfl) (by kernel_rfl) rfl rfl hHeld (by intro w hSw; (try dsimp only at hSw); go_simp) rfl (by simp only [List.setIfInBounds_toArray, List.set_cons_zero, List.set_cons_succ]; try rfl) ?_
  refine takeH (i := 4) (d := 82) (v := .int .i64 en) (listed' := #[true, true, true, true, true, false, false]) rfl (by kernel_rfl) (by kernel_rfl) (by kernel_rfl) rfl rfl hHeld (by intro w hSw; (try dsimp only at hSw); go_simp) rfl (by simp only [List.setIfInBounds_toArray, List.set_cons_zero, List.set_cons_succ]; try rfl) ?_
  refine takeH (i := 5) (d := 83) (v := .int .i64 k) (listed' := #[true, true, true, true, true, true, false]) rfl (by kernel_rfl) (by kernel_rfl) (by kernel_rfl) rfl rfl hHeld (by intro w hSw; (try dsimp only at hSw); go_simp) rfl (by simp only [List.setIfInBounds_toArray, List.set_cons_zero, List.set_cons_succ]; try rfl) ?_
  refine oneH (i := 6) (by kernel_rfl) ?_
  refine skipH (i := 6) (v := .skip) (w' := D1) (listed' := #[true, true, true, true, true, true, true]) rfl rfl rfl (by go_simp) (.inl rfl) hS1 rfl ?_
  exact wpAnyH_done (Q := AtEnd Q) (by kernel_rfl) HE.out _

set_option maxHeartbeats 8000000 in
theorem reg19 {c : Code} (hc : regionAt 19 splitBody = some c) {j nn : Nat} {Q : Exit → Act → World → Prop} {Br G o K c4 g2 p c2 g N cap : Nat} {A4 : Option Addr} {X D D1 : World} {t0 t1 t2 t3 t4 t5 t6 t7 t8 t9 t10 t12 t13 t14 t15 t17 t18 t19 t20 t21 t22 t23 t24 t25 t26 t27 t28 t29 t30 t31 t32 t33 t34 t35 t36 t37 t38 t39 t40 t41 t42 t43 t44 t45 t46 t47 t48 t49 t50 t51 t52 t53 t54 t55 t56 t57 t58 t59 t60 t61 t62 t63 t64 t65 t66 t67 t68 t69 t70 t71 t72 t73 t74 t75 t76 t77 t78 t79 t80 t81 t82 t83 t84 t85 t86 t97 t98 t99 t100 t101 t102 t103 t104 t105 t106 : Value} {t87 t88 t89 t90 t91 t92 t93 t94 t95 t96 : Value}
    (hD : X.drew = D) (e1 : D.cell? ⟨Br, 0, none⟩ = some (.slice (some ⟨g2, 0, none⟩) p c2)) (e2 : D.cell? ⟨G, o, none⟩ = some (.slice A4 K c4)) (hrun : (Builtin.append_ #[25, 25] 25 #[.slice A4 K c4, .slice (some ⟨g2, 0, none⟩) p c2]).run Tryz.prog D = .ok (.slice (some ⟨g, 0, none⟩) N cap) D1)
    (j1 : D1.cell? ⟨Br, 0, none⟩ = some (.slice (some ⟨g2, 0, none⟩) p c2)) (j2 : D1.cell? ⟨G, o, none⟩ = some (.slice A4 K c4)) (f2 : D1.frozen? ⟨G, o, none⟩ = false) (j3 : (D1.setCell ⟨G, o, none⟩ (.slice (some ⟨g, 0, none⟩) N cap)).cell? ⟨Br, 0, none⟩ = some (.slice (some ⟨g2, 0, none⟩) p c2))
    (hend : Q .normal ⟨(List.toArray (t0 :: t1 :: t2 :: t3 :: t4 :: t5 :: t6 :: t7 :: t8 :: t9 :: t10 :: (.pointer (some ⟨Br, 0, none⟩)) :: t12 :: t13 :: t14 :: t15 :: (.pointer (some ⟨G, o, none⟩)) :: t17 :: t18 :: t19 :: t20 :: t21 :: t22 :: t23 :: t24 :: t25 :: t26 :: t27 :: t28 :: t29 :: t30 :: t31 :: t32 :: t33 :: t34 :: t35 :: t36 :: t37 :: t38 :: t39 :: t40 :: t41 :: t42 :: t43 :: t44 :: t45 :: t46 :: t47 :: t48 :: t49 :: t50 :: t51 :: t52 :: t53 :: t54 :: t55 :: t56 :: t57 :: t58 :: t59 :: t60 :: t61 :: t62 :: t63 :: t64 :: t65 :: t66 :: t67 :: t68 :: t69 :: t70 :: t71 :: t72 :: t73 :: t74 :: t75 :: t76 :: t77 :: t78 :: t79 :: t80 :: t81 :: t82 :: t83 :: t84 :: t85 :: t86 :: (.pointer (some ⟨G, o, none⟩)) :: (.pointer (some ⟨G, o, none⟩)) :: (.pointer (some ⟨G, o, none⟩)) :: (.pointer (some ⟨G, o, none⟩)) :: (.slice A4 K c4) :: (.pointer (some ⟨Br, 0, none⟩)) :: (.slice (some ⟨g2, 0, none⟩) p c2) :: (.slice (some ⟨g, 0, none⟩) N cap) :: (.pointer (some ⟨G, o, none⟩)) :: (.pointer (some ⟨G, o, none⟩)) :: t97 :: t98 :: t99 :: t100 :: t101 :: t102 :: t103 :: t104 :: t105 :: t106 :: [])), []⟩ (D1.setCell ⟨G, o, none⟩ (.slice (some ⟨g, 0, none⟩) N cap))) :
    c.wpIn (Fence.wide.inRound j) nn Tryz.prog Q ⟨(List.toArray (t0 :: t1 :: t2 :: t3 :: t4 :: t5 :: t6 :: t7 :: t8 :: t9 :: t10 :: (.pointer (some ⟨Br, 0, none⟩)) :: t12 :: t13 :: t14 :: t15 :: (.pointer (some ⟨G, o, none⟩)) :: t17 :: t18 :: t19 :: t20 :: t21 :: t22 :: t23 :: t24 :: t25 :: t26 :: t27 :: t28 :: t29 :: t30 :: t31 :: t32 :: t33 :: t34 :: t35 :: t36 :: t37 :: t38 :: t39 :: t40 :: t41 :: t42 :: t43 :: t44 :: t45 :: t46 :: t47 :: t48 :: t49 :: t50 :: t51 :: t52 :: t53 :: t54 :: t55 :: t56 :: t57 :: t58 :: t59 :: t60 :: t61 :: t62 :: t63 :: t64 :: t65 :: t66 :: t67 :: t68 :: t69 :: t70 :: t71 :: t72 :: t73 :: t74 :: t75 :: t76 :: t77 :: t78 :: t79 :: t80 :: t81 :: t82 :: t83 :: t84 :: t85 :: t86 :: t87 :: t88 :: t89 :: t90 :: t91 :: t92 :: t93 :: t94 :: t95 :: t96 :: t97 :: t98 :: t99 :: t100 :: t101 :: t102 :: t103 :: t104 :: t105 :: t106 :: [])), []⟩ X := by
  simp [regionAt, splitBody, rangeBody, Tryz.f39] at hc
  subst hc
  have HE := Lib.hid hend
  clear hend
  have hHeld := e1
  refine region_by (S := fun w' => w'.cell? ⟨Br, 0, none⟩ = some (.slice (some ⟨g2, 0, none⟩) p c2)) (k := 11) (by kernel_rfl) (by kernel_rfl) rfl (listed := #[false, false, false, false, false, false, false, false, false, false, false]) rfl ?_
  rw [hD]
  refine takeH (i := 0) (d := 87) (v := .pointer (some ⟨G, o, none⟩)) (listed' := #[true, false, false, false, false, false, false, false, false, false, false]) rfl (by kernel_rfl) (by kernel_rfl) (by kernel_rfl) rfl rfl hHeld (by intro w hSw; (try dsimp only at hSw); go_simp) rfl (by simp only [List.setIfInBounds_toArray, List.set_cons_zero, List.set_cons_succ]; try rfl) ?_
  refine takeH (i := 1) (d := 88) (v := .pointer (some ⟨G, o, none⟩)) (listed' := #[true, true, false, false, false, false, false, false, false, false, false]) rfl (by kernel_rfl) (by kernel_rfl) (by kernel_rfl) rfl rfl hHeld (by intro w hSw; (try dsimp only at hSw); go_simp) rfl (by simp only [List.setIfInBounds_toArray, List.set_cons_zero, List.set_cons_succ]; try rfl) ?_
  refine takeH (i := 2) (d := 89) (v := .pointer (some ⟨G, o, none⟩)) (listed' := #[true, true, true, false, false, false, false, false, false, false, false]) rfl (by kernel_rfl) (by kernel_rfl) (by kernel_rfl) rfl rfl hHeld (by intro w hSw; (try dsimp only at hSw); go_simp) rfl (by simp only [List.setIfInBounds_toArray, List.set_cons_zero, List.set_cons_succ]; try rfl) ?_
  refine takeH (i := 3) (d := 90) (v := .pointer (some ⟨G, o, none⟩)) (listed' := #[true, true, true, true, false, false, false, false, false, false, false]) rfl (by kernel_rfl) (by kernel_rfl) (by kernel_rfl) rfl rfl hHeld (by intro w hSw; (try dsimp only at hSw); go_simp) rfl (by simp only [List.setIfInBounds_toArray, List.set_cons_zero, List.set_cons_succ]; try rfl) ?_
  refine takeH (i := 5) (d := 92) (v := .pointer (some ⟨Br, 0, none⟩)) (listed' := #[true, true, true, true, false, true, false, false, false, false, false]) rfl (by kernel_rfl) (by kernel_rfl) (by kernel_rfl) rfl rfl hHeld (by intro w hSw; (try dsimp only at hSw); go_simp) rfl (by simp only [List.setIfInBounds_toArray, List.set_cons_zero, List.set_cons_succ]; try rfl) ?_
  refine takeH (i := 6) (d := 93) (v := .slice (some ⟨g2, 0, none⟩) p c2) (listed' := #[true, true, true, true, false, true, true, false, false, false, false]) rfl (by kernel_rfl) (by kernel_rfl) (by kernel_rfl) rfl rfl hHeld (by intro w hSw; (try dsimp only at hSw); go_simp) rfl (by simp only [List.setIfInBounds_toArray, List.set_cons_zero, List.set_cons_succ]; try rfl) ?_
  refine oneH (i := 4) (by kernel_rfl) ?_
  refine runH (i := 4) (d := 91) (v := .slice A4 K c4) (w' := D) (listed' := #[true, true, true, true, true, true, true, false, false, false, false]) rfl rfl rfl (by go_simp) e1 rfl (by simp only [List.setIfInBounds_toArray, List.set_cons_zero, List.set_cons_succ]; try rfl) ?_
  refine oneH (i := 7) (by kernel_rfl) ?_
  refine runH (i := 7) (d := 94) (v := .slice (some ⟨g, 0, none⟩) N cap) (w' := D1) (listed' := #[true, true, true, true, true, true, true, true, false, false, false]) rfl rfl rfl (by exact exec_append rfl rfl rfl hrun) j1 rfl (by simp only [List.setIfInBounds_toArray, List.set_cons_zero, List.set_cons_succ]; try rfl) ?_
  refine takeH (i := 8) (d := 95) (v := .pointer (some ⟨G, o, none⟩)) (listed' := #[true, true, true, true, true, true, true, true, true, false, false]) rfl (by kernel_rfl) (by kernel_rfl) (by kernel_rfl) rfl rfl j1 (by intro w hSw; (try dsimp only at hSw); go_simp) rfl (by simp only [List.setIfInBounds_toArray, List.set_cons_zero, List.set_cons_succ]; try rfl) ?_
  refine takeH (i := 9) (d := 96) (v := .pointer (some ⟨G, o, none⟩)) (listed' := #[true, true, true, true, true, true, true, true, true, true, false]) rfl (by kernel_rfl) (by kernel_rfl) (by kernel_rfl) rfl rfl j1 (by intro w hSw; (try dsimp only at hSw); go_simp) rfl (by simp only [List.setIfInBounds_toArray, List.set_cons_zero, List.set_cons_succ]; try rfl) ?_
  refine oneH (i := 10) (by kernel_rfl) ?_
  refine skipH (i := 10) (v := .skip) (w' := (D1.setCell ⟨G, o, none⟩ (.slice (some ⟨g, 0, none⟩) N cap))) (listed' := #[true, true, true, true, true, true, true, true, true, true, true]) rfl rfl rfl (by go_simp) (.inl rfl) j3 rfl ?_
  exact wpAnyH_done (Q := AtEnd Q) (by kernel_rfl) HE.out _
end Go.Proofs.YtjlfgojblimobaaGreat
end

section
namespace Go.Proofs.YtjlfgojblimobaaGreat
open Go.RowKit Go.Shelf
attribute [local go_sem] Oper.semAt_some
set_option maxRecDepth 100000

theorem MapI.more {w : World} {mb t : Nat} {f g : Int → Option Nat} (h : MapI w mb t f) (hg : ∀ e, g e = f e) : MapI w mb (t + 1) g := by
  obtain ⟨n, D, h1, h2, h3⟩ := h
  exact ⟨n, D, h1, by omega, fun e => by rw [hg]; exact h3 e⟩
theorem MapI.same {w : World} {mb t : Nat} {f g : Int → Option Nat} (h : MapI w mb t f) (hg : ∀ e, g e = f e) : MapI w mb t g := by
  obtain ⟨n, D, h1, h2, h3⟩ := h
  exact ⟨n, D, h1, h2, fun e => by rw [hg]; exact h3 e⟩
theorem SpMid.same {BL BB BA BE BM mb n0 : Nat} {A : Option Addr} {ca n : Nat} {AE : Option Addr} {cE : Nat} {l : List Int} {b : Int} {w W0 : World} {Br g2 p c2 : Nat} {r : M.Rn} {ss : List M.Sq} {vs : List Sv} {va : Value} {f g : Int → Option Nat} {t : Nat} {W : World} (h : SpMid BL BB BA BE BM mb n0 A ca n AE cE l b w W0 Br g2 p c2 r ss vs va f t W) (hg : ∀ e, g e = f e) : SpMid BL BB BA BE BM mb n0 A ca n AE cE l b w W0 Br g2 p c2 r ss vs va g (t + 1) W :=
  { h with map := h.map.more hg }

theorem row_ne {W : World} {G base n : Nat} {cs : Array Value} {v : Value} {xs : List Value} (hG : W.heap[G]? = some (.cells cs 49 (0, 0))) (ho : W.ownsRow base 3 1 v n xs) : some G ≠ v.ownBlock := fun e => by
  obtain ⟨_, cs', m, h'⟩ := own_type ho e.symm
  rw [hG] at h'
  injection h' with h'
  injection h' with _ h' _
  revert h'
  decide
set_option maxHeartbeats 8000000 in
theorem tail12 {c : Code} (hc : tailAt 12 splitBody = some c) {j nn : Nat} {Q : Exit → Act → World → Prop} {BL BB BA BE BM mb n0 : Nat} {ad : Addr} {ca n : Nat} {AE : Option Addr} {cE : Nat} {l : List Int} {b : Int} {w W0 : World} {Br g2 p c2 : Nat} {r : M.Rn} {ss : List M.Sq} {vs : List Sv} {va : Value} {f : Int → Option Nat} {t kk q : Nat} {s : M.Sq} {v : Sv} {cq : Int} {Y : World} {t0 t1 t2 t4 t6 t7 t13 t14 t15 t16 t17 t18 t19 t20 t21 t22 t23 t24 t25 t26 t27 t28 t29 t30 t31 t32 t33 t34 t35 t36 t37 t38 t39 t40 t41 t42 t43 t44 t45 t46 t47 t48 t49 t50 t51 t52 t53 t54 t55 t56 t57 t58 t59 t60 t61 t62 t63 t64 t65 t66 t67 t68 t69 t70 t71 t72 t73 t74 t75 t76 t77 t78 t79 t80 t81 t82 t83 t84 t85 t86 t87 t88 t89 t90 t91 t92 t93 t94 t95 t96 t97 t98 t99 t100 t101 t102 t103 t104 t105 t106 : Value}
    (hlie : SpLie BL BB BA BE BM mb n0 w) (hmid : SpMid BL BB BA BE BM mb n0 (some ad) ca n AE cE l b w W0 Br g2 (p + 1) c2 r ss vs va (f) (t) Y) (hBr : n0 ≤ Br) (hs : ss[kk]? = some s) (hv : vs[kk]? = some v) (hk1 : ss.length ≤ 1001) (ht : t + 1 ≤ 1000)
    (hr : RdS .i64 w w.heap.size (some ad) l) (hcq : l[q]? = some cq) (hqn : q < n) (hn : l.length = n) (hl : n ≤ 1000) (hpq : r.pl[p]? = some (q : Int)) (hpl : r.pl.length = p + 1) (hls : r.ls = q) (hp : p + 1 ≤ 1000) (hsl : s.pl.length ≤ 1000)
    (hlv : 0 ≤ s.lv ∧ s.lv ≤ 125) (hbh : 0 ≤ M.bh l b r ∧ M.bh l b r ≤ 125)
    (hend : ∀ ts Y' vs' va', SpFix BL BB BA BE BM mb n0 (some ad) ca n AE cE l b w Y' → SpSq n0 BA Y' (ss.set kk (s.with_ l b r)) vs' va' → MapI Y' mb (t + 1) (fun e => if M.endI l q ≠ -1 ∧ e = M.endI l q then some kk else f e) → Kept n0 BA mb W0 Y' → Q .normal ⟨ts, []⟩ Y') :
    c.wpIn (Fence.wide.inRound j) nn Tryz.prog Q ⟨(List.toArray (t0 :: t1 :: t2 :: (.pointer (some ⟨BL, 0, none⟩)) :: t4 :: (.pointer (some ⟨BB, 0, none⟩)) :: t6 :: t7 :: (.pointer (some ⟨BA, 0, none⟩)) :: (.pointer (some ⟨BE, 0, none⟩)) :: (.pointer (some ⟨BM, 0, none⟩)) :: (.pointer (some ⟨Br, 0, none⟩)) :: (.int .i64 kk) :: t13 :: t14 :: t15 :: t16 :: t17 :: t18 :: t19 :: t20 :: t21 :: t22 :: t23 :: t24 :: t25 :: t26 :: t27 :: t28 :: t29 :: t30 :: t31 :: t32 :: t33 :: t34 :: t35 :: t36 :: t37 :: t38 :: t39 :: t40 :: t41 :: t42 :: t43 :: t44 :: t45 :: t46 :: t47 :: t48 :: t49 :: t50 :: t51 :: t52 :: t53 :: t54 :: t55 :: t56 :: t57 :: t58 :: t59 :: t60 :: t61 :: t62 :: t63 :: t64 :: t65 :: t66 :: t67 :: t68 :: t69 :: t70 :: t71 :: t72 :: t73 :: t74 :: t75 :: t76 :: t77 :: t78 :: t79 :: t80 :: t81 :: t82 :: t83 :: t84 :: t85 :: t86 :: t87 :: t88 :: t89 :: t90 :: t91 :: t92 :: t93 :: t94 :: t95 :: t96 :: t97 :: t98 :: t99 :: t100 :: t101 :: t102 :: t103 :: t104 :: t105 :: t106 :: [])), []⟩ Y := by
  obtain ⟨hbh0, hbh1⟩ := hbh
  obtain ⟨hlv0, hlv1⟩ := hlv
  have hkk := (List.getElem?_eq_some_iff.1 hs).1
  have d0 := hmid.run.cell (i := 0) rfl
  have d3 := hmid.run.cell (i := 3) rfl
  have dq : Y.cell? ⟨g2, p, none⟩ = some (.int .i64 q) := (World.ownsRow.cellAt (size := 1) hmid.row p (by omega)).trans (by rw [List.getElem?_map, hpq]; rfl)
  have dl := hmid.fix.boxL.cell
  have db := hmid.fix.boxB.cell
  have de := hmid.fix.boxE.cell
  have hB : BA < n0 := by have := hlie.am; have := hlie.mn; omega
  obtain ⟨i0, hi, hi1, hi2, hi3⟩ := info_parts Tryz.infoIntR
  obtain ⟨G, cG, hva, -⟩ := hmid.sq.cells hs hv
  subst hva
  obtain ⟨KK, hKK⟩ : ∃ x, ss.length = x := ⟨_, rfl⟩
  have hkK : kk < KK := by omega
  have k2 : (0 : Int) ≤ kk := by omega
  have k3 : (kk : Int) < KK := by omega
  have da := hmid.sq.box.cell
  rw [hKK] at da
  have HKK := Lib.hid hKK
  obtain ⟨ad0, hA0, -, dc⟩ := (hr.below hmid.fix.below) q cq hcq
  obtain rfl : ad = ad0 := by injection hA0
  obtain ⟨ade, rfl, dz⟩ := hmid.fix.end_ (show q < l.length by omega)
  have hen1 : -1 ≤ M.endI l q := by have := M.endI_late l q; omega
  have hen2 : M.endI l q ≤ 1000 := by have := M.endI_lt (l := l) (k := q); omega
  have hbq : M.bh l b r = if M.begins cq = true then b else r.be := by
    unfold M.bh
    rw [hls, Int.toNat_natCast, List.getD_eq_getElem?_getD, hcq]
    rfl
  obtain ⟨en, hen⟩ : ∃ e, M.endI l q = e := ⟨_, rfl⟩
  rw [hen] at dz hen1 hen2 hend
  have HB := Lib.hid (rbegins_any cq Y)
  have HMID := Lib.hid hmid
  have HLIE := Lib.hid hlie
  have HS := Lib.hid hs
  have HV := Lib.hid hv
  have HPL := Lib.hid hpl
  have HEND := Lib.hid hend
  have HBQ := Lib.hid hbq
  have HEN := Lib.hid hen
  have HCQ := Lib.hid hcq
  have q0 : (0 : Int) ≤ q := by omega
  have q1 : (q : Int) < n := by omega
  have p0 : (0 : Int) ≤ p := by omega
  have p1 : (p : Int) ≤ 1000 := by omega
  simp [tailAt, splitBody, rangeBody, Tryz.f39] at hc
  subst hc
  clear hr hmid hlie hs hv hpl hend hbq hen hcq hpq hls hKK hkk
  cases hbc : M.begins cq with
  | true =>
    rw [hbc] at HB HBQ
    rw [if_pos rfl] at HBQ
    gi_wp2_with fail
    refine ⟨trivial, fun h => (by cases h), ?_⟩
    refine (CallsIn.inRound j (callsIn_wide.2 HB.out)).mono ?_
    rintro rr w1 ⟨rfl, rfl⟩
    by_cases hne1 : en = -1
    · subst hne1
      gi_wp2_with fail
      obtain ⟨D, hD⟩ : ∃ D, Y.drew = D := ⟨_, rfl⟩
      have hmD := HMID.out.later HLIE.out (show Below Y.heap.size Y D by rw [← hD]; exact (Below.refl _ _).drew)
      obtain ⟨G', cG', hva, hG, ⟨cs, hcs⟩, m0, m1, m2, m3, mf⟩ := hmD.sq.cells HS.out HV.out
      obtain rfl : G = G' := by injection hva with e; injection e with e; injection e
      have hown := hmD.sq.rws.own kk v s.pl HV.out (by rw [List.getElem?_map, HS.out]; rfl)
      have hsz := hmD.fix.size
      obtain ⟨g, cap, D1, hrunA, hownA, hgrowA, hatA, -⟩ := run_append_lies (P := Tryz.prog) D 25 25 n0 3 i0 _ 1 8 Tryz.underlying25 hi hi1 hi2 hi3 rfl (by decide) _ s.pl.length _ hown ⟨g2, 0, none⟩ (p + 1) c2 (r.pl.map (Value.int .i64)) (by rw [List.length_map, HPL.out, Nat.mul_one]) (World.ownsRow.cells hmD.row (g := g2) rfl) (by intro x hx; rw [List.mem_map] at hx; obtain ⟨_, _, rfl⟩ := hx; rfl) (by omega) (by unfold maxLen; omega) (by omega) hsz _ rfl
      have hk1 := Kept.row (mb := mb) (BA := BA) hsz hown (Nat.le_refl _) (.inl rfl) hgrowA
      obtain ⟨hkp, hsp⟩ := hmD.sq.placed (mb := mb) hB hsz HS.out HV.out hva hgrowA (new := r.pl) (by rw [HPL.out]; exact hownA) hatA
      rw [HPL.out] at hkp hsp
      have e1 : D.cell? ⟨Br, 0, none⟩ = some (.slice (some ⟨g2, 0, none⟩) (p + 1) c2) := hmD.run.cell (i := 0) rfl
      have j1 : D1.cell? ⟨Br, 0, none⟩ = some (.slice (some ⟨g2, 0, none⟩) (p + 1) c2) := (hk1.run hmD.run hBr).cell (i := 0) rfl
      have hne := row_ne hcs hown
      have lG : G < D.heap.size := lt_of_block hcs
      have j2 : D1.cell? ⟨G, kk * 4, none⟩ = some (.slice v.1 s.pl.length v.2) := (hgrowA.cell_far _ lG hne).trans m0
      have f2 : D1.frozen? ⟨G, kk * 4, none⟩ = false := (hgrowA.frozen_far _ lG hne).trans (mf _)
      obtain ⟨D3, hD3⟩ : ∃ x, D1.setCell ⟨G, kk * 4, none⟩ (.slice (some ⟨g, 0, none⟩) (s.pl.length + (p + 1)) cap) = x := ⟨_, rfl⟩
      rw [hD3] at hkp hsp
      have j3 : D3.cell? ⟨Br, 0, none⟩ = some (.slice (some ⟨g2, 0, none⟩) (p + 1) c2) := (hkp.run hmD.run hBr).cell (i := 0) rfl
      refine reg19 rfl hD e1 m0 hrunA j1 j2 f2 (by rw [hD3]; exact j3) ?_
      rw [hD3]
      -- its last side
      have hlk := (List.getElem?_eq_some_iff.1 HS.out).1
      have hs3 : (ss.set kk ⟨s.pl ++ r.pl, s.lv, s.fi, s.la⟩)[kk]? = some ⟨s.pl ++ r.pl, s.lv, s.fi, s.la⟩ := List.getElem?_set_self hlk
      have hv3 : (vs.set kk (some ⟨g, 0, none⟩, cap))[kk]? = some (some ⟨g, 0, none⟩, cap) := List.getElem?_set_self (by rw [hmD.sq.len]; exact hlk)
      obtain ⟨G', cG', hva3, -, -, z0, z1, z2, z3, zf⟩ := hsp.cells hs3 hv3
      obtain rfl : G = G' := by injection hva3 with e; injection e with e; injection e
      have hlast := hsp.lasted (mb := mb) hB hs3 hv3 hva3 (M.sd s.lv b)
      rw [List.set_set] at hlast
      have hfin : ss.set kk ⟨s.pl ++ r.pl, s.lv, s.fi, M.sd s.lv b⟩ = ss.set kk (s.with_ l b r) := by unfold M.Sq.with_; rw [HBQ.out]
      dsimp only at hlast
      rw [hfin] at hlast
      have hkall := hkp.trans hlast.1
      have hmb : ∀ u, (D3.setCell ⟨G, kk * 4 + 3, none⟩ u).heap[mb]? = D.heap[mb]? := fun u => by
        have hmG : mb ≠ G := by have := HLIE.out.mn; omega
        rw [Below.heap_setCell _ _ _ mb hmG, ← hD3, Below.heap_setCell _ _ _ mb hmG]
        exact hgrowA.block mb hmD.map.lt (fun e => by have := (World.ownsRow.lt hown mb e.symm).1; have := HLIE.out.mn; omega)
      have HMAP := Lib.hid (hmD.map.keep (hmb (.int .i64 (M.sd s.lv b))))
      have z1' : D3.cell? ⟨G, kk * 4 + 1, none⟩ = some (.int .i64 s.lv) := z1
      have z3' : D3.cell? ⟨G, kk * 4 + 3, none⟩ = some (.int .i64 s.la) := z3
      have zf3 := zf (kk * 4 + 3)
      have HSD := Lib.hid (rside_any s.lv b D3 hlv0 (by omega) (by have := HBQ.out; omega) (by have := HBQ.out; omega))
      have HLAST := Lib.hid hlast
      have HKALL := Lib.hid hkall
      have HMD := Lib.hid hmD
      clear hmb z0 z1 z2 z3 zf hlast hkall hs3 hv3 hva3 hkp hsp e1 m0 hrunA j1 j2 f2 j3 hk1 hown hownA hgrowA hatA m1 m2 m3 mf hcs hne lG hva hfin hlk hD hD3 hmD hsz
      gi_wp2_with fail
      refine ⟨trivial, fun h => (by cases h), ?_⟩
      refine (CallsIn.inRound j (callsIn_wide.2 HSD.out)).mono ?_
      rintro rr w1 ⟨rfl, rfl⟩
      gi_wp2_with fail
      exact HEND.out _ _ _ _ (HMD.out.fix.kept HLIE.out HKALL.out) HLAST.out.2 (HMAP.out.more (fun e => by simp)) (HMD.out.kept.trans HKALL.out)
    · obtain ⟨D0, hD0⟩ : ∃ D, Y.drew = D := ⟨_, rfl⟩
      have hm0 := HMID.out.later HLIE.out (show Below Y.heap.size Y D0 by rw [← hD0]; exact (Below.refl _ _).drew)
      obtain ⟨Z, hrunM, hmapZ, hgM⟩ := hm0.map.update (by omega) hen1 hen2 (n := kk) (by have := HKK.out; omega)
      have hm2 := hm0.mapd HLIE.out hBr hgM (hmapZ.same (g := fun e => if en ≠ -1 ∧ e = en then some kk else f e) (fun e => by by_cases he : e = en <;> simp [he, hne1]))
      have HM2 := Lib.hid hm2
      obtain ⟨ad1, ha1, dz1⟩ := hm0.fix.end_ (show q < l.length by omega)
      obtain rfl : ade = ad1 := by injection ha1
      obtain ⟨ad1, ha2, dz2⟩ := hm2.fix.end_ (show q < l.length by omega)
      obtain rfl : ade = ad1 := by injection ha2
      rw [HEN.out] at dz1 dz2
      have s1 := And.intro hm0.fix.boxM.cell (And.intro hm0.fix.boxE.cell dz1)
      have s2 := And.intro hm2.fix.boxM.cell (And.intro hm2.fix.boxE.cell dz2)
      have da2 := hm2.sq.box.cell
      rw [HKK.out] at da2
      have hne2 : (en == -1) = false := by simp [hne1]
      clear hm0 hm2 hmapZ hgM dz1 dz2 ha1 ha2
      gi_wp2_with fail
      refine reg17 rfl q0 q1 hD0 s1 hrunM s2 ?_
      clear d0 d3 dq dl db da dc de dz s1 s2 hrunM hD0
      gi_wp2_with fail
      obtain ⟨D, hD⟩ : ∃ D, Z.drew = D := ⟨_, rfl⟩
      have hmD := HM2.out.later HLIE.out (show Below Z.heap.size Z D by rw [← hD]; exact (Below.refl _ _).drew)
      obtain ⟨G', cG', hva, hG, ⟨cs, hcs⟩, m0, m1, m2, m3, mf⟩ := hmD.sq.cells HS.out HV.out
      obtain rfl : G = G' := by injection hva with e; injection e with e; injection e
      have hown := hmD.sq.rws.own kk v s.pl HV.out (by rw [List.getElem?_map, HS.out]; rfl)
      have hsz := hmD.fix.size
      obtain ⟨g, cap, D1, hrunA, hownA, hgrowA, hatA, -⟩ := run_append_lies (P := Tryz.prog) D 25 25 n0 3 i0 _ 1 8 Tryz.underlying25 hi hi1 hi2 hi3 rfl (by decide) _ s.pl.length _ hown ⟨g2, 0, none⟩ (p + 1) c2 (r.pl.map (Value.int .i64)) (by rw [List.length_map, HPL.out, Nat.mul_one]) (World.ownsRow.cells hmD.row (g := g2) rfl) (by intro x hx; rw [List.mem_map] at hx; obtain ⟨_, _, rfl⟩ := hx; rfl) (by omega) (by unfold maxLen; omega) (by omega) hsz _ rfl
      have hk1 := Kept.row (mb := mb) (BA := BA) hsz hown (Nat.le_refl _) (.inl rfl) hgrowA
      obtain ⟨hkp, hsp⟩ := hmD.sq.placed (mb := mb) hB hsz HS.out HV.out hva hgrowA (new := r.pl) (by rw [HPL.out]; exact hownA) hatA
      rw [HPL.out] at hkp hsp
      have e1 : D.cell? ⟨Br, 0, none⟩ = some (.slice (some ⟨g2, 0, none⟩) (p + 1) c2) := hmD.run.cell (i := 0) rfl
      have j1 : D1.cell? ⟨Br, 0, none⟩ = some (.slice (some ⟨g2, 0, none⟩) (p + 1) c2) := (hk1.run hmD.run hBr).cell (i := 0) rfl
      have hne := row_ne hcs hown
      have lG : G < D.heap.size := lt_of_block hcs
      have j2 : D1.cell? ⟨G, kk * 4, none⟩ = some (.slice v.1 s.pl.length v.2) := (hgrowA.cell_far _ lG hne).trans m0
      have f2 : D1.frozen? ⟨G, kk * 4, none⟩ = false := (hgrowA.frozen_far _ lG hne).trans (mf _)
      obtain ⟨D3, hD3⟩ : ∃ x, D1.setCell ⟨G, kk * 4, none⟩ (.slice (some ⟨g, 0, none⟩) (s.pl.length + (p + 1)) cap) = x := ⟨_, rfl⟩
      rw [hD3] at hkp hsp
      have j3 : D3.cell? ⟨Br, 0, none⟩ = some (.slice (some ⟨g2, 0, none⟩) (p + 1) c2) := (hkp.run hmD.run hBr).cell (i := 0) rfl
      refine reg19 rfl hD e1 m0 hrunA j1 j2 f2 (by rw [hD3]; exact j3) ?_
      rw [hD3]
      -- its last side
      have hlk := (List.getElem?_eq_some_iff.1 HS.out).1
      have hs3 : (ss.set kk ⟨s.pl ++ r.pl, s.lv, s.fi, s.la⟩)[kk]? = some ⟨s.pl ++ r.pl, s.lv, s.fi, s.la⟩ := List.getElem?_set_self hlk
      have hv3 : (vs.set kk (some ⟨g, 0, none⟩, cap))[kk]? = some (some ⟨g, 0, none⟩, cap) := List.getElem?_set_self (by rw [hmD.sq.len]; exact hlk)
      obtain ⟨G', cG', hva3, -, -, z0, z1, z2, z3, zf⟩ := hsp.cells hs3 hv3
      obtain rfl : G = G' := by injection hva3 with e; injection e with e; injection e
      have hlast := hsp.lasted (mb := mb) hB hs3 hv3 hva3 (M.sd s.lv b)
      rw [List.set_set] at hlast
      have hfin : ss.set kk ⟨s.pl ++ r.pl, s.lv, s.fi, M.sd s.lv b⟩ = ss.set kk (s.with_ l b r) := by unfold M.Sq.with_; rw [HBQ.out]
      dsimp only at hlast
      rw [hfin] at hlast
      have hkall := hkp.trans hlast.1
      have hmb : ∀ u, (D3.setCell ⟨G, kk * 4 + 3, none⟩ u).heap[mb]? = D.heap[mb]? := fun u => by
        have hmG : mb ≠ G := by have := HLIE.out.mn; omega
        rw [Below.heap_setCell _ _ _ mb hmG, ← hD3, Below.heap_setCell _ _ _ mb hmG]
        exact hgrowA.block mb hmD.map.lt (fun e => by have := (World.ownsRow.lt hown mb e.symm).1; have := HLIE.out.mn; omega)
      have HMAP := Lib.hid (hmD.map.keep (hmb (.int .i64 (M.sd s.lv b))))
      have z1' : D3.cell? ⟨G, kk * 4 + 1, none⟩ = some (.int .i64 s.lv) := z1
      have z3' : D3.cell? ⟨G, kk * 4 + 3, none⟩ = some (.int .i64 s.la) := z3
      have zf3 := zf (kk * 4 + 3)
      have HSD := Lib.hid (rside_any s.lv b D3 hlv0 (by omega) (by have := HBQ.out; omega) (by have := HBQ.out; omega))
      have HLAST := Lib.hid hlast
      have HKALL := Lib.hid hkall
      have HMD := Lib.hid hmD
      clear hmb z0 z1 z2 z3 zf hlast hkall hs3 hv3 hva3 hkp hsp e1 m0 hrunA j1 j2 f2 j3 hk1 hown hownA hgrowA hatA m1 m2 m3 mf hcs hne lG hva hfin hlk hD hD3 hmD hsz
      gi_wp2_with fail
      refine ⟨trivial, fun h => (by cases h), ?_⟩
      refine (CallsIn.inRound j (callsIn_wide.2 HSD.out)).mono ?_
      rintro rr w1 ⟨rfl, rfl⟩
      gi_wp2_with fail
      exact HEND.out _ _ _ _ (HMD.out.fix.kept HLIE.out HKALL.out) HLAST.out.2 HMAP.out (HMD.out.kept.trans HKALL.out)
  | false =>
    rw [hbc] at HB HBQ
    rw [if_neg (by simp)] at HBQ
    obtain rfl : en = -1 := by rw [← HEN.out]; exact M.endI_no HCQ.out hbc
    gi_wp2_with fail
    refine ⟨trivial, fun h => (by cases h), ?_⟩
    refine (CallsIn.inRound j (callsIn_wide.2 HB.out)).mono ?_
    rintro rr w1 ⟨rfl, rfl⟩
    gi_wp2_with fail
    obtain ⟨D, hD⟩ : ∃ D, Y.drew = D := ⟨_, rfl⟩
    have hmD := HMID.out.later HLIE.out (show Below Y.heap.size Y D by rw [← hD]; exact (Below.refl _ _).drew)
    obtain ⟨G', cG', hva, hG, ⟨cs, hcs⟩, m0, m1, m2, m3, mf⟩ := hmD.sq.cells HS.out HV.out
    obtain rfl : G = G' := by injection hva with e; injection e with e; injection e
    have hown := hmD.sq.rws.own kk v s.pl HV.out (by rw [List.getElem?_map, HS.out]; rfl)
    have hsz := hmD.fix.size
    obtain ⟨g, cap, D1, hrunA, hownA, hgrowA, hatA, -⟩ := run_append_lies (P := Tryz.prog) D 25 25 n0 3 i0 _ 1 8 Tryz.underlying25 hi hi1 hi2 hi3 rfl (by decide) _ s.pl.length _ hown ⟨g2, 0, none⟩ (p + 1) c2 (r.pl.map (Value.int .i64)) (by rw [List.length_map, HPL.out, Nat.mul_one]) (World.ownsRow.cells hmD.row (g := g2) rfl) (by intro x hx; rw [List.mem_map] at hx; obtain ⟨_, _, rfl⟩ := hx; rfl) (by omega) (by unfold maxLen; omega) (by omega) hsz _ rfl
    have hk1 := Kept.row (mb := mb) (BA := BA) hsz hown (Nat.le_refl _) (.inl rfl) hgrowA
    obtain ⟨hkp, hsp⟩ := hmD.sq.placed (mb := mb) hB hsz HS.out HV.out hva hgrowA (new := r.pl) (by rw [HPL.out]; exact hownA) hatA
    rw [HPL.out] at hkp hsp
    have e1 : D.cell? ⟨Br, 0, none⟩ = some (.slice (some ⟨g2, 0, none⟩) (p + 1) c2) := hmD.run.cell (i := 0) rfl
    have j1 : D1.cell? ⟨Br, 0, none⟩ = some (.slice (some ⟨g2, 0, none⟩) (p + 1) c2) := (hk1.run hmD.run hBr).cell (i := 0) rfl
    have hne := row_ne hcs hown
    have lG : G < D.heap.size := lt_of_block hcs
    have j2 : D1.cell? ⟨G, kk * 4, none⟩ = some (.slice v.1 s.pl.length v.2) := (hgrowA.cell_far _ lG hne).trans m0
    have f2 : D1.frozen? ⟨G, kk * 4, none⟩ = false := (hgrowA.frozen_far _ lG hne).trans (mf _)
    obtain ⟨D3, hD3⟩ : ∃ x, D1.setCell ⟨G, kk * 4, none⟩ (.slice (some ⟨g, 0, none⟩) (s.pl.length + (p + 1)) cap) = x := ⟨_, rfl⟩
    rw [hD3] at hkp hsp
    have j3 : D3.cell? ⟨Br, 0, none⟩ = some (.slice (some ⟨g2, 0, none⟩) (p + 1) c2) := (hkp.run hmD.run hBr).cell (i := 0) rfl
    refine reg19 rfl hD e1 m0 hrunA j1 j2 f2 (by rw [hD3]; exact j3) ?_
    rw [hD3]
    -- its last side
    have hlk := (List.getElem?_eq_some_iff.1 HS.out).1
    have hs3 : (ss.set kk ⟨s.pl ++ r.pl, s.lv, s.fi, s.la⟩)[kk]? = some ⟨s.pl ++ r.pl, s.lv, s.fi, s.la⟩ := List.getElem?_set_self hlk
    have hv3 : (vs.set kk (some ⟨g, 0, none⟩, cap))[kk]? = some (some ⟨g, 0, none⟩, cap) := List.getElem?_set_self (by rw [hmD.sq.len]; exact hlk)
    obtain ⟨G', cG', hva3, -, -, z0, z1, z2, z3, zf⟩ := hsp.cells hs3 hv3
    obtain rfl : G = G' := by injection hva3 with e; injection e with e; injection e
    have hlast := hsp.lasted (mb := mb) hB hs3 hv3 hva3 (M.sd s.lv r.be)
    rw [List.set_set] at hlast
    have hfin : ss.set kk ⟨s.pl ++ r.pl, s.lv, s.fi, M.sd s.lv r.be⟩ = ss.set kk (s.with_ l b r) := by unfold M.Sq.with_; rw [HBQ.out]
    dsimp only at hlast
    rw [hfin] at hlast
    have hkall := hkp.trans hlast.1
    have hmb : ∀ u, (D3.setCell ⟨G, kk * 4 + 3, none⟩ u).heap[mb]? = D.heap[mb]? := fun u => by
      have hmG : mb ≠ G := by have := HLIE.out.mn; omega
      rw [Below.heap_setCell _ _ _ mb hmG, ← hD3, Below.heap_setCell _ _ _ mb hmG]
      exact hgrowA.block mb hmD.map.lt (fun e => by have := (World.ownsRow.lt hown mb e.symm).1; have := HLIE.out.mn; omega)
    have HMAP := Lib.hid (hmD.map.keep (hmb (.int .i64 (M.sd s.lv r.be))))
    have z1' : D3.cell? ⟨G, kk * 4 + 1, none⟩ = some (.int .i64 s.lv) := z1
    have z3' : D3.cell? ⟨G, kk * 4 + 3, none⟩ = some (.int .i64 s.la) := z3
    have zf3 := zf (kk * 4 + 3)
    have HSD := Lib.hid (rside_any s.lv r.be D3 hlv0 (by omega) (by have := HBQ.out; omega) (by have := HBQ.out; omega))
    have HLAST := Lib.hid hlast
    have HKALL := Lib.hid hkall
    have HMD := Lib.hid hmD
    clear hmb z0 z1 z2 z3 zf hlast hkall hs3 hv3 hva3 hkp hsp e1 m0 hrunA j1 j2 f2 j3 hk1 hown hownA hgrowA hatA m1 m2 m3 mf hcs hne lG hva hfin hlk hD hD3 hmD hsz
    gi_wp2_with fail
    refine ⟨trivial, fun h => (by cases h), ?_⟩
    refine (CallsIn.inRound j (callsIn_wide.2 HSD.out)).mono ?_
    rintro rr w1 ⟨rfl, rfl⟩
    gi_wp2_with fail
    exact HEND.out _ _ _ _ (HMD.out.fix.kept HLIE.out HKALL.out) HLAST.out.2 (HMAP.out.more (fun e => by simp)) (HMD.out.kept.trans HKALL.out)
end Go.Proofs.YtjlfgojblimobaaGreat
end
