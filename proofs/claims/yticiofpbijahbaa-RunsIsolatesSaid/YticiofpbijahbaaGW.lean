/- The walk of what RunsOnce looks at of one place of one sequence. -/
import Derived.Test.YticiofpbijahbaaGU
import Derived.Test.YticiofpbijahbaaGV
section
namespace Go.Proofs.Yticiofpbijahbaa
open Go.RowKit
set_option maxRecDepth 100000

/-- A block, by its number. -/
noncomputable def blockAt (k : Nat) : Code → Option Code
  | .seq a b => (blockAt k a).or (blockAt k b)
  | .block i c => if i = k then some (.block i c) else blockAt k c
  | .cond _ a b => (blockAt k a).or (blockAt k b)
  | .loop c => blockAt k c
  | _ => none
noncomputable def onceBody : Code := (Try.f5.body).getD .skip
/-- How often each of the first n places stands in a list. -/
def M.cntL (n : Nat) (L : List Int) : List Int := (List.range n).map fun j : Nat => ((L.count (j : Int) : Nat) : Int)
theorem M.cntL_len (n : Nat) (L : List Int) : (M.cntL n L).length = n := by simp [M.cntL]
theorem M.cntL_at {n : Nat} (L : List Int) {j : Nat} (h : j < n) : (M.cntL n L)[j]? = some ((L.count (j : Int) : Nat) : Int) := by simp [M.cntL, h]
theorem M.cntL_nil (n : Nat) : M.cntL n [] = List.replicate n 0 := by
  unfold M.cntL
  simp [List.map_const']
theorem M.cntL_snoc {n : Nat} (L : List Int) {p : Nat} (h : p < n) : (M.cntL n L).set p (((L.count (p : Int) : Nat) : Int) + 1) = M.cntL n (L ++ [(p : Int)]) := by
  refine List.ext_getElem? fun j => ?_
  by_cases hj : p = j
  · subst hj
    rw [List.getElem?_set_self (by rw [M.cntL_len]; exact h), M.cntL_at _ h, List.count_append]
    simp
  · rw [List.getElem?_set_ne hj]
    rcases Nat.lt_or_ge j n with h1 | h1
    · rw [M.cntL_at _ h1, M.cntL_at _ h1, List.count_append]
      have : List.count (j : Int) [(p : Int)] = 0 := by rw [List.count_eq_zero]; simp; omega
      rw [this, Nat.add_zero]
    · rw [List.getElem?_eq_none (by rw [M.cntL_len]; exact h1), List.getElem?_eq_none (by rw [M.cntL_len]; exact h1)]

set_option maxHeartbeats 8000000 in
theorem once3_zero {c : Code} (hc : blockAt 3 onceBody = some c) {Q : Exit → Act → World → Prop} {ad adl ade adp : Addr} {n ca g K c3 c1 cE B0 i m cp p cv  : Nat} {lvl : Int} {L : List Int} {w3 wr : World} {t1 t2 t3 t4 t5 t7 t8 t10 t11 t17 t18 t19 t20 t21 t22 t23 t24 t25 t26 t27 t28 t29 t30 t31 t32 t33 t34 t35 t36 t37 t38 t39 t40 t41 t42 t43 t44 t45 t46 t47 t48 t49 t50 t51 t52 t53 t54 t55 t56 t57 t58 t59 t60 t61 t62 t63 t64 t65 t66 t67 t68 t69 t70 t71 t72 t73 t74 t75 t76 t77 t78 t79 t80 t81 t82 t83 t84 t85 t86 t87 t88 t89 t90 t91 t92 t93 t94 t95 t96 t97 t98 t99 t100 t101 t102 t103 t104 t105 t106 t107 t108 t109 t110 t111 t112 t113 t114 t115 t116 t117 t118 t119 t120 t121 t122 t123 t124 t125 t126 t127 t128 t129 t130 t131 t132 t133 t134 t135 t136 t137 t138 t139 t140 t141 t142 t143 t144 t145 t146 t147 t148 t149 t150 t151 t152 t153 t154 t155 t156 t157 t158 t159 t160 t161 t162 t163 t164 t165 t166 t167 t168 t169 t170 t171 t172 t173 t174 t175 t176 t177 t178 t179 t180 t181 t182 t183 t184 t185 t186 t187 t188 t189 t190 t191 t192 t193 t194 t195 t196 t197 t198 t199 t200 t201 t202 t203 t204 t205 t206 t207 t208 t209 t210 t211 t212 t213 t214 t215 t216 t217 : Value}
    (hn : n ≤ 150) (hk : 0 < m) (hi : i < K) (hp : p < n) (hcv : cv ≤ 1000) (hB0 : w3.heap.size = B0) (hb : Below B0 w3 wr)
    (ek : wr.cell? adp = some (.int .i64 p)) (el : wr.cell? (adl.add p) = some (.int .i64 lvl)) (es : wr.cell? ⟨g, i * 4 + 1, none⟩ = some (.int .i64 lvl))
    (ho : wr.ownsRow B0 3 1 (.slice (some ⟨B0, 0, none⟩) n n) n ((M.cntL n L).map (Value.int .i64))) (hcvv : L.count (p : Int) = cv)
    (hend : ∀ u17 u18 u84 u85 u86 u87 u88 u89 u90 u91 u92 u93 u94 u95 u96 u97 u98 u99 u100 u101 u102 u103 u104 u105 u106 u107 u108 u109 u110 u111 u112 u113 u114 u115 u116 u117 u118 u119 u120 u121 u122 u123 u124 u125 u126 u127 u128 u129 u130 u131 u132 u133 u134 u135 u136 u137 u138 u139 u140 u141 u142 u143 u144 u145 u146 u147 u148 u149 u150 u151 u152 u153 u154 u155 u156 u157 u158 u159 u160 u161 u162 u163 u164 u165 u166 u167 u168 u169 u170 u171 u172 u173 u174 u175 u176 u177 W', W'.ownsRow B0 3 1 (.slice (some ⟨B0, 0, none⟩) n n) n ((M.cntL n (L ++ [(p : Int)])).map (Value.int .i64)) → Below B0 w3 W' → Q .normal ⟨(List.toArray ((.slice (some ad) n ca) :: t1 :: t2 :: t3 :: t4 :: t5 :: (.slice (some ⟨g, 0, none⟩) K c3) :: t7 :: t8 :: (.slice (some adl) n c1) :: t10 :: t11 :: (.slice (some ade) n cE) :: (.slice (some ⟨B0, 0, none⟩) n n) :: (.int .i64 i) :: (.slice (some adp) m cp) :: (.int .i64 0) :: (u17) :: (u18) :: t19 :: t20 :: t21 :: t22 :: t23 :: t24 :: t25 :: t26 :: t27 :: t28 :: t29 :: t30 :: t31 :: t32 :: t33 :: t34 :: t35 :: t36 :: t37 :: t38 :: t39 :: t40 :: t41 :: t42 :: t43 :: t44 :: t45 :: t46 :: t47 :: t48 :: t49 :: t50 :: t51 :: t52 :: t53 :: t54 :: t55 :: t56 :: t57 :: t58 :: t59 :: t60 :: t61 :: t62 :: t63 :: t64 :: t65 :: t66 :: t67 :: t68 :: t69 :: t70 :: t71 :: t72 :: t73 :: t74 :: t75 :: t76 :: t77 :: t78 :: t79 :: t80 :: t81 :: t82 :: t83 :: (u84) :: (u85) :: (u86) :: (u87) :: (u88) :: (u89) :: (u90) :: (u91) :: (u92) :: (u93) :: (u94) :: (u95) :: (u96) :: (u97) :: (u98) :: (u99) :: (u100) :: (u101) :: (u102) :: (u103) :: (u104) :: (u105) :: (u106) :: (u107) :: (u108) :: (u109) :: (u110) :: (u111) :: (u112) :: (u113) :: (u114) :: (u115) :: (u116) :: (u117) :: (u118) :: (u119) :: (u120) :: (u121) :: (u122) :: (u123) :: (u124) :: (u125) :: (u126) :: (u127) :: (u128) :: (u129) :: (u130) :: (u131) :: (u132) :: (u133) :: (u134) :: (u135) :: (u136) :: (u137) :: (u138) :: (u139) :: (u140) :: (u141) :: (u142) :: (u143) :: (u144) :: (u145) :: (u146) :: (u147) :: (u148) :: (u149) :: (u150) :: (u151) :: (u152) :: (u153) :: (u154) :: (u155) :: (u156) :: (u157) :: (u158) :: (u159) :: (u160) :: (u161) :: (u162) :: (u163) :: (u164) :: (u165) :: (u166) :: (u167) :: (u168) :: (u169) :: (u170) :: (u171) :: (u172) :: (u173) :: (u174) :: (u175) :: (u176) :: (u177) :: t178 :: t179 :: t180 :: t181 :: t182 :: t183 :: t184 :: t185 :: t186 :: t187 :: t188 :: t189 :: t190 :: t191 :: t192 :: t193 :: t194 :: t195 :: t196 :: t197 :: t198 :: t199 :: t200 :: t201 :: t202 :: t203 :: t204 :: t205 :: t206 :: t207 :: t208 :: t209 :: t210 :: t211 :: t212 :: t213 :: t214 :: t215 :: t216 :: t217 :: [])), []⟩ W') :
    c.wp Try.prog Q ⟨(List.toArray ((.slice (some ad) n ca) :: t1 :: t2 :: t3 :: t4 :: t5 :: (.slice (some ⟨g, 0, none⟩) K c3) :: t7 :: t8 :: (.slice (some adl) n c1) :: t10 :: t11 :: (.slice (some ade) n cE) :: (.slice (some ⟨B0, 0, none⟩) n n) :: (.int .i64 i) :: (.slice (some adp) m cp) :: (.int .i64 0) :: t17 :: t18 :: t19 :: t20 :: t21 :: t22 :: t23 :: t24 :: t25 :: t26 :: t27 :: t28 :: t29 :: t30 :: t31 :: t32 :: t33 :: t34 :: t35 :: t36 :: t37 :: t38 :: t39 :: t40 :: t41 :: t42 :: t43 :: t44 :: t45 :: t46 :: t47 :: t48 :: t49 :: t50 :: t51 :: t52 :: t53 :: t54 :: t55 :: t56 :: t57 :: t58 :: t59 :: t60 :: t61 :: t62 :: t63 :: t64 :: t65 :: t66 :: t67 :: t68 :: t69 :: t70 :: t71 :: t72 :: t73 :: t74 :: t75 :: t76 :: t77 :: t78 :: t79 :: t80 :: t81 :: t82 :: t83 :: t84 :: t85 :: t86 :: t87 :: t88 :: t89 :: t90 :: t91 :: t92 :: t93 :: t94 :: t95 :: t96 :: t97 :: t98 :: t99 :: t100 :: t101 :: t102 :: t103 :: t104 :: t105 :: t106 :: t107 :: t108 :: t109 :: t110 :: t111 :: t112 :: t113 :: t114 :: t115 :: t116 :: t117 :: t118 :: t119 :: t120 :: t121 :: t122 :: t123 :: t124 :: t125 :: t126 :: t127 :: t128 :: t129 :: t130 :: t131 :: t132 :: t133 :: t134 :: t135 :: t136 :: t137 :: t138 :: t139 :: t140 :: t141 :: t142 :: t143 :: t144 :: t145 :: t146 :: t147 :: t148 :: t149 :: t150 :: t151 :: t152 :: t153 :: t154 :: t155 :: t156 :: t157 :: t158 :: t159 :: t160 :: t161 :: t162 :: t163 :: t164 :: t165 :: t166 :: t167 :: t168 :: t169 :: t170 :: t171 :: t172 :: t173 :: t174 :: t175 :: t176 :: t177 :: t178 :: t179 :: t180 :: t181 :: t182 :: t183 :: t184 :: t185 :: t186 :: t187 :: t188 :: t189 :: t190 :: t191 :: t192 :: t193 :: t194 :: t195 :: t196 :: t197 :: t198 :: t199 :: t200 :: t201 :: t202 :: t203 :: t204 :: t205 :: t206 :: t207 :: t208 :: t209 :: t210 :: t211 :: t212 :: t213 :: t214 :: t215 :: t216 :: t217 :: [])), []⟩ wr := by
  have hsn := M.cntL_snoc L hp
  have hat := M.cntL_at L hp
  rw [hcvv] at hsn hat
  have hn1 : (n : Int) ≤ 150 := by omega
  have i0 : (0 : Int) ≤ i := by omega
  have i1 : (i : Int) < K := by omega
  have p0 : (0 : Int) ≤ p := by omega
  have p1 : (p : Int) < n := by omega
  have pd0 : decide ((p : Int) < 0) = false := by rw [decide_eq_false_iff_not]; omega
  have pd1 : decide ((n : Int) ≤ p) = false := by rw [decide_eq_false_iff_not]; omega
  have pd2 : decide (n ≤ p) = false := by rw [decide_eq_false_iff_not]; omega
  have k1 : (0 : Int) < m := by omega
  have ek' := fun d os => cell_regrown ek d os
  have el' := fun d os => cell_regrown el d os
  have es' := fun d os => cell_regrown es d os
  have HO := Lib.hid ho
  have HE := Lib.hid hend
  have HSN := Lib.hid hsn
  have HAT := Lib.hid hat
  have HB := Lib.hid hb
  have HB0 := Lib.hid hB0
  simp [blockAt, onceBody, Try.f5] at hc
  subst hc
  clear ho hend hsn hat ek el es hb hB0
  go_wp2_with fail
  refine wp_region_quiet_below (by kernel_rfl) (by kernel_rfl) ?_
  repeat (go_big_quiet_step (fail))
  refine wpQuiet_nil ?_
  intro _ hw'
  obtain ⟨⟨dq, osq⟩, hw4⟩ := hw'
  subst hw4
  have hbg := below_regrown wr dq osq
  have ekX := ek' dq osq
  obtain ⟨X, hX⟩ : ∃ X, Sort.grow (redrawn wr dq) osq = X := ⟨_, rfl⟩
  rw [hX] at hbg ekX
  dsimp only
  rw [hX]
  have ho2 := own_below HO.out hbg
  have gc : X.cell? ⟨B0, p, none⟩ = some (.int .i64 cv) := (World.ownsRow.cellAt (size := 1) ho2 p (by omega)).trans (by rw [List.getElem?_map, HAT.out]; rfl)
  have gf : X.frozen? ⟨B0, p, none⟩ = false := World.ownsRow.frozenAt ho2 p
  have hst := (World.ownsRow.stored ho2 p (.int .i64 ((cv : Int) + 1))).1
  rw [← List.map_set, HSN.out] at hst
  have hbX : Below B0 w3 (X.setCell ⟨B0, p, none⟩ (.int .i64 ((cv : Int) + 1))) := (HB.out.trans (hbg.mono (by have h1 := HB.out.size; have h2 := HB0.out; omega))).setCell (p := ⟨B0, p, none⟩) (Nat.le_refl _) _
  have HST := Lib.hid hst
  have HBX := Lib.hid hbX
  clear ho2 hst hbX hbg hX ek' el' es'
  go_wp2_with fail
  exact HE.out _ _ _ _ _ _ _ _ _ _ _ _ _ _ _ _ _ _ _ _ _ _ _ _ _ _ _ _ _ _ _ _ _ _ _ _ _ _ _ _ _ _ _ _ _ _ _ _ _ _ _ _ _ _ _ _ _ _ _ _ _ _ _ _ _ _ _ _ _ _ _ _ _ _ _ _ _ _ _ _ _ _ _ _ _ _ _ _ _ _ _ _ _ _ _ _ _ HST.out HBX.out

set_option maxHeartbeats 8000000 in
theorem once3_succ {c : Code} (hc : blockAt 3 onceBody = some c) {Q : Exit → Act → World → Prop} {ad adl ade adp : Addr} {n ca g K c3 c1 cE B0 i m cp p cv k p' : Nat} {lvl en : Int} {lv L : List Int} {w3 wr : World} {t1 t2 t3 t4 t5 t7 t8 t10 t11 t17 t18 t19 t20 t21 t22 t23 t24 t25 t26 t27 t28 t29 t30 t31 t32 t33 t34 t35 t36 t37 t38 t39 t40 t41 t42 t43 t44 t45 t46 t47 t48 t49 t50 t51 t52 t53 t54 t55 t56 t57 t58 t59 t60 t61 t62 t63 t64 t65 t66 t67 t68 t69 t70 t71 t72 t73 t74 t75 t76 t77 t78 t79 t80 t81 t82 t83 t84 t85 t86 t87 t88 t89 t90 t91 t92 t93 t94 t95 t96 t97 t98 t99 t100 t101 t102 t103 t104 t105 t106 t107 t108 t109 t110 t111 t112 t113 t114 t115 t116 t117 t118 t119 t120 t121 t122 t123 t124 t125 t126 t127 t128 t129 t130 t131 t132 t133 t134 t135 t136 t137 t138 t139 t140 t141 t142 t143 t144 t145 t146 t147 t148 t149 t150 t151 t152 t153 t154 t155 t156 t157 t158 t159 t160 t161 t162 t163 t164 t165 t166 t167 t168 t169 t170 t171 t172 t173 t174 t175 t176 t177 t178 t179 t180 t181 t182 t183 t184 t185 t186 t187 t188 t189 t190 t191 t192 t193 t194 t195 t196 t197 t198 t199 t200 t201 t202 t203 t204 t205 t206 t207 t208 t209 t210 t211 t212 t213 t214 t215 t216 t217 : Value}
    (hn : n ≤ 150) (hk : k + 1 < m) (hm : m ≤ 150) (hi : i < K) (hp : p < n) (hpp : p' < p) (hcv : cv ≤ 1000) (hB0 : w3.heap.size = B0) (hb : Below B0 w3 wr)
    (ek3 : w3.cell? (adp.add (k + 1)) = some (.int .i64 p)) (ep3 : w3.cell? (adp.add k) = some (.int .i64 p')) (el3 : w3.cell? (adl.add p) = some (.int .i64 lvl)) (es3 : w3.cell? ⟨g, i * 4 + 1, none⟩ = some (.int .i64 lvl)) (em3 : w3.cell? (ade.add p') = some (.int .i64 en))
    (hrl : RdS .i64 w3 B0 (some adl) lv) (hlv : lv.length = n) (hnx : (∀ x : Nat, p' < x → x < p → lv[x]? = some (-1)) ∨ en = p)
    (ho : wr.ownsRow B0 3 1 (.slice (some ⟨B0, 0, none⟩) n n) n ((M.cntL n L).map (Value.int .i64))) (hcvv : L.count (p : Int) = cv)
    (hend : ∀ u17 u18 u84 u85 u86 u87 u88 u89 u90 u91 u92 u93 u94 u95 u96 u97 u98 u99 u100 u101 u102 u103 u104 u105 u106 u107 u108 u109 u110 u111 u112 u113 u114 u115 u116 u117 u118 u119 u120 u121 u122 u123 u124 u125 u126 u127 u128 u129 u130 u131 u132 u133 u134 u135 u136 u137 u138 u139 u140 u141 u142 u143 u144 u145 u146 u147 u148 u149 u150 u151 u152 u153 u154 u155 u156 u157 u158 u159 u160 u161 u162 u163 u164 u165 u166 u167 u168 u169 u170 u171 u172 u173 u174 u175 u176 u177 W', W'.ownsRow B0 3 1 (.slice (some ⟨B0, 0, none⟩) n n) n ((M.cntL n (L ++ [(p : Int)])).map (Value.int .i64)) → Below B0 w3 W' → Q .normal ⟨(List.toArray ((.slice (some ad) n ca) :: t1 :: t2 :: t3 :: t4 :: t5 :: (.slice (some ⟨g, 0, none⟩) K c3) :: t7 :: t8 :: (.slice (some adl) n c1) :: t10 :: t11 :: (.slice (some ade) n cE) :: (.slice (some ⟨B0, 0, none⟩) n n) :: (.int .i64 i) :: (.slice (some adp) m cp) :: (.int .i64 (k + 1 : Nat)) :: (u17) :: (u18) :: t19 :: t20 :: t21 :: t22 :: t23 :: t24 :: t25 :: t26 :: t27 :: t28 :: t29 :: t30 :: t31 :: t32 :: t33 :: t34 :: t35 :: t36 :: t37 :: t38 :: t39 :: t40 :: t41 :: t42 :: t43 :: t44 :: t45 :: t46 :: t47 :: t48 :: t49 :: t50 :: t51 :: t52 :: t53 :: t54 :: t55 :: t56 :: t57 :: t58 :: t59 :: t60 :: t61 :: t62 :: t63 :: t64 :: t65 :: t66 :: t67 :: t68 :: t69 :: t70 :: t71 :: t72 :: t73 :: t74 :: t75 :: t76 :: t77 :: t78 :: t79 :: t80 :: t81 :: t82 :: t83 :: (u84) :: (u85) :: (u86) :: (u87) :: (u88) :: (u89) :: (u90) :: (u91) :: (u92) :: (u93) :: (u94) :: (u95) :: (u96) :: (u97) :: (u98) :: (u99) :: (u100) :: (u101) :: (u102) :: (u103) :: (u104) :: (u105) :: (u106) :: (u107) :: (u108) :: (u109) :: (u110) :: (u111) :: (u112) :: (u113) :: (u114) :: (u115) :: (u116) :: (u117) :: (u118) :: (u119) :: (u120) :: (u121) :: (u122) :: (u123) :: (u124) :: (u125) :: (u126) :: (u127) :: (u128) :: (u129) :: (u130) :: (u131) :: (u132) :: (u133) :: (u134) :: (u135) :: (u136) :: (u137) :: (u138) :: (u139) :: (u140) :: (u141) :: (u142) :: (u143) :: (u144) :: (u145) :: (u146) :: (u147) :: (u148) :: (u149) :: (u150) :: (u151) :: (u152) :: (u153) :: (u154) :: (u155) :: (u156) :: (u157) :: (u158) :: (u159) :: (u160) :: (u161) :: (u162) :: (u163) :: (u164) :: (u165) :: (u166) :: (u167) :: (u168) :: (u169) :: (u170) :: (u171) :: (u172) :: (u173) :: (u174) :: (u175) :: (u176) :: (u177) :: t178 :: t179 :: t180 :: t181 :: t182 :: t183 :: t184 :: t185 :: t186 :: t187 :: t188 :: t189 :: t190 :: t191 :: t192 :: t193 :: t194 :: t195 :: t196 :: t197 :: t198 :: t199 :: t200 :: t201 :: t202 :: t203 :: t204 :: t205 :: t206 :: t207 :: t208 :: t209 :: t210 :: t211 :: t212 :: t213 :: t214 :: t215 :: t216 :: t217 :: [])), []⟩ W') :
    c.wp Try.prog Q ⟨(List.toArray ((.slice (some ad) n ca) :: t1 :: t2 :: t3 :: t4 :: t5 :: (.slice (some ⟨g, 0, none⟩) K c3) :: t7 :: t8 :: (.slice (some adl) n c1) :: t10 :: t11 :: (.slice (some ade) n cE) :: (.slice (some ⟨B0, 0, none⟩) n n) :: (.int .i64 i) :: (.slice (some adp) m cp) :: (.int .i64 (k + 1 : Nat)) :: t17 :: t18 :: t19 :: t20 :: t21 :: t22 :: t23 :: t24 :: t25 :: t26 :: t27 :: t28 :: t29 :: t30 :: t31 :: t32 :: t33 :: t34 :: t35 :: t36 :: t37 :: t38 :: t39 :: t40 :: t41 :: t42 :: t43 :: t44 :: t45 :: t46 :: t47 :: t48 :: t49 :: t50 :: t51 :: t52 :: t53 :: t54 :: t55 :: t56 :: t57 :: t58 :: t59 :: t60 :: t61 :: t62 :: t63 :: t64 :: t65 :: t66 :: t67 :: t68 :: t69 :: t70 :: t71 :: t72 :: t73 :: t74 :: t75 :: t76 :: t77 :: t78 :: t79 :: t80 :: t81 :: t82 :: t83 :: t84 :: t85 :: t86 :: t87 :: t88 :: t89 :: t90 :: t91 :: t92 :: t93 :: t94 :: t95 :: t96 :: t97 :: t98 :: t99 :: t100 :: t101 :: t102 :: t103 :: t104 :: t105 :: t106 :: t107 :: t108 :: t109 :: t110 :: t111 :: t112 :: t113 :: t114 :: t115 :: t116 :: t117 :: t118 :: t119 :: t120 :: t121 :: t122 :: t123 :: t124 :: t125 :: t126 :: t127 :: t128 :: t129 :: t130 :: t131 :: t132 :: t133 :: t134 :: t135 :: t136 :: t137 :: t138 :: t139 :: t140 :: t141 :: t142 :: t143 :: t144 :: t145 :: t146 :: t147 :: t148 :: t149 :: t150 :: t151 :: t152 :: t153 :: t154 :: t155 :: t156 :: t157 :: t158 :: t159 :: t160 :: t161 :: t162 :: t163 :: t164 :: t165 :: t166 :: t167 :: t168 :: t169 :: t170 :: t171 :: t172 :: t173 :: t174 :: t175 :: t176 :: t177 :: t178 :: t179 :: t180 :: t181 :: t182 :: t183 :: t184 :: t185 :: t186 :: t187 :: t188 :: t189 :: t190 :: t191 :: t192 :: t193 :: t194 :: t195 :: t196 :: t197 :: t198 :: t199 :: t200 :: t201 :: t202 :: t203 :: t204 :: t205 :: t206 :: t207 :: t208 :: t209 :: t210 :: t211 :: t212 :: t213 :: t214 :: t215 :: t216 :: t217 :: [])), []⟩ wr := by
  have at_ : ∀ (W' : World) (a : Addr) (v : Value), Below B0 w3 W' → w3.cell? a = some v → W'.cell? a = some v := fun W' a v hW hc => (hW.cell (by rw [← hB0]; exact World.block_lt_of_cell? _ _ hc)).trans hc
  rw [addr_add_pos _ _ (by omega)] at ek3
  have hsn := M.cntL_snoc L hp
  have hat := M.cntL_at L hp
  rw [hcvv] at hsn hat
  have hn1 : (n : Int) ≤ 150 := by omega
  have i0 : (0 : Int) ≤ i := by omega
  have i1 : (i : Int) < K := by omega
  have p0 : (0 : Int) ≤ p := by omega
  have p1 : (p : Int) < n := by omega
  have pp0 : (0 : Int) ≤ p' := by omega
  have pp1 : (p' : Int) < n := by omega
  have k0 : (0 : Int) ≤ k := by omega
  have k1 : ((k + 1 : Nat) : Int) < m := by omega
  have k2 : (k : Int) < m := by omega
  have k3 : (k : Int) ≤ 150 := by omega
  have pd0 : decide ((p : Int) < 0) = false := by rw [decide_eq_false_iff_not]; omega
  have pd1 : decide ((n : Int) ≤ p) = false := by rw [decide_eq_false_iff_not]; omega
  have pd2 : decide (n ≤ p) = false := by rw [decide_eq_false_iff_not]; omega
  have pd3 : decide (p ≤ p') = false := by rw [decide_eq_false_iff_not]; omega
  have pd4 : decide ((0 : Int) < ((k + 1 : Nat) : Int)) = true := by rw [decide_eq_true_iff]; omega
  have ek' := fun d os => cell_regrown (at_ _ _ _ hb ek3) d os
  have ep' := fun d os => cell_regrown (at_ _ _ _ hb ep3) d os
  have el' := fun d os => cell_regrown (at_ _ _ _ hb el3) d os
  have es' := fun d os => cell_regrown (at_ _ _ _ hb es3) d os
  have HO := Lib.hid ho
  have HE := Lib.hid hend
  have HSN := Lib.hid hsn
  have HAT := Lib.hid hat
  have HB := Lib.hid hb
  have HB0 := Lib.hid hB0
  have HAT_ := Lib.hid at_
  have HNX := Lib.hid hnx
  have HRL := Lib.hid hrl
  have HLV := Lib.hid hlv
  have HEK := Lib.hid ek3
  have HEP := Lib.hid ep3
  have HEM := Lib.hid em3
  simp [blockAt, onceBody, Try.f5] at hc
  subst hc
  clear ho hend hsn hat hb hB0 at_ hnx hrl hlv ek3 ep3 el3 es3 em3
  go_wp2_with fail
  refine wp_region_quiet_below (by kernel_rfl) (by kernel_rfl) ?_
  repeat (go_big_quiet_step (fail))
  refine wpQuiet_nil ?_
  intro _ hw'
  obtain ⟨⟨dq, osq⟩, hw4⟩ := hw'
  subst hw4
  have hbg := below_regrown wr dq osq
  have ekX := ek' dq osq
  obtain ⟨X, hX⟩ : ∃ X, Sort.grow (redrawn wr dq) osq = X := ⟨_, rfl⟩
  rw [hX] at hbg ekX
  dsimp only
  rw [hX]
  have ho2 := own_below HO.out hbg
  have gc : X.cell? ⟨B0, p, none⟩ = some (.int .i64 cv) := (World.ownsRow.cellAt (size := 1) ho2 p (by omega)).trans (by rw [List.getElem?_map, HAT.out]; rfl)
  have gf : X.frozen? ⟨B0, p, none⟩ = false := World.ownsRow.frozenAt ho2 p
  have hst := (World.ownsRow.stored ho2 p (.int .i64 ((cv : Int) + 1))).1
  rw [← List.map_set, HSN.out] at hst
  obtain ⟨Y, hY⟩ : ∃ Y, X.setCell ⟨B0, p, none⟩ (.int .i64 ((cv : Int) + 1)) = Y := ⟨_, rfl⟩
  have hbX : Below B0 w3 Y := by rw [← hY]; exact (HB.out.trans (hbg.mono (by have h1 := HB.out.size; have h2 := HB0.out; omega))).setCell (p := ⟨B0, p, none⟩) (Nat.le_refl _) _
  rw [hY] at hst
  have ekY := HAT_.out _ _ _ hbX HEK.out
  have epY := HAT_.out _ _ _ hbX HEP.out
  have HST := Lib.hid hst
  have HBX := Lib.hid hbX
  clear ho2 hst hbX hbg hX ek' el' es' ep'
  go_wp2_with fail
  clear hY gc gf
  have HRLY := Lib.hid (HRL.out.below HBX.out)
  go_loop [17, 18] (fun av v => ∃ (a : Bool) (x : Nat), av = .bool a ∧ v = .int .i64 x ∧ p' < x ∧ x ≤ p ∧ (a = true → ¬ ∀ y : Nat, p' < y → y < x → lv[y]? = some (-1))) (fun _ v => p - (intOf v).toNat)
  case atStart => exact ⟨false, p' + 1, rfl, by go_num, by omega, by omega, fun h => (by cases h)⟩
  case round =>
    obtain ⟨a, x, rfl, rfl, hx1, hx2, ha⟩ := hrel
    have x0 : (0 : Int) ≤ x := by omega
    by_cases hxp : x < p
    · have x1 : (x : Int) < p := by omega
      have x2 : (x : Int) < n := by omega
      obtain ⟨y, hy⟩ : ∃ y, lv[x]? = some y := ⟨_, List.getElem?_eq_getElem (by have := HLV.out; omega)⟩
      obtain ⟨_, hA, _, dy⟩ := HRLY.out x y hy
      obtain rfl := Option.some.inj hA
      have HY2 := Lib.hid hy
      have HA := Lib.hid ha
      clear ha hy hA
      cases a with
      | true =>
        have HA2 := Lib.hid (show ¬ ∀ z : Nat, p' < z → z < x + 1 → lv[z]? = some (-1) from fun h => HA.out rfl fun z h1 h2 => h z h1 (by omega))
        go_wp2_with fail
        go_round
        case rel => exact ⟨true, x + 1, rfl, by go_num, by omega, by omega, fun _ => HA2.out⟩
        case measure => simp [intOf]; omega
      | false =>
        by_cases hy1 : y = -1
        · subst hy1
          go_wp2_with fail
          go_round
          case rel => exact ⟨false, x + 1, rfl, by go_num, by omega, by omega, fun h => (by cases h)⟩
          case measure => simp [intOf]; omega
        · have hy2 : (y == -1) = false := by simp [hy1]
          have HA2 := Lib.hid (show ¬ ∀ z : Nat, p' < z → z < x + 1 → lv[z]? = some (-1) from fun h => by have := h x hx1 (by omega); rw [HY2.out] at this; exact hy1 (Option.some.inj this))
          clear hy1
          go_wp2_with fail
          go_round
          case rel => exact ⟨true, x + 1, by rw [bne, hy2]; rfl, by go_num, by omega, by omega, fun _ => HA2.out⟩
          case measure => simp [intOf]; omega
    · obtain rfl : x = p := by omega
      have x3 : ¬ (x : Int) < (x : Int) := by omega
      have dm := HAT_.out _ _ _ HBX.out HEM.out
      have ek' := fun d os => cell_regrown ekY d os
      have ep' := fun d os => cell_regrown epY d os
      have em' := fun d os => cell_regrown dm d os
      cases a with
      | true =>
        have hen : en = x := by
          rcases HNX.out with h | h
          · exact absurd h (ha rfl)
          · exact h
        subst hen
        clear ha
        go_wp2_with fail
        refine wp_region_quiet_below (by kernel_rfl) (by kernel_rfl) ?_
        repeat (go_big_quiet_step (fail))
        refine wpQuiet_nil ?_
        intro _ hw'
        obtain ⟨⟨dq2, osq2⟩, hw4⟩ := hw'
        subst hw4
        have hbg := below_regrown Y dq2 osq2
        have hst2 := own_below HST.out hbg
        have HST2 := Lib.hid hst2
        have HBX2 := Lib.hid (HBX.out.trans (hbg.mono (by have h1 := HBX.out.size; have h2 := HB0.out; omega)))
        obtain ⟨Z, hZ⟩ : ∃ Z, Sort.grow (redrawn Y dq2) osq2 = Z := ⟨_, rfl⟩
        rw [hZ] at HST2 HBX2
        dsimp only
        rw [hZ]
        clear hst2 hbg hZ
        go_wp2_with fail
        exact HE.out _ _ _ _ _ _ _ _ _ _ _ _ _ _ _ _ _ _ _ _ _ _ _ _ _ _ _ _ _ _ _ _ _ _ _ _ _ _ _ _ _ _ _ _ _ _ _ _ _ _ _ _ _ _ _ _ _ _ _ _ _ _ _ _ _ _ _ _ _ _ _ _ _ _ _ _ _ _ _ _ _ _ _ _ _ _ _ _ _ _ _ _ _ _ _ _ _ HST2.out HBX2.out
      | false =>
        clear ha
        go_wp2_with fail
        refine wp_region_quiet_below (by kernel_rfl) (by kernel_rfl) ?_
        repeat (go_big_quiet_step (fail))
        refine wpQuiet_nil ?_
        intro _ hw'
        obtain ⟨⟨dq2, osq2⟩, hw4⟩ := hw'
        subst hw4
        have hbg := below_regrown Y dq2 osq2
        have hst2 := own_below HST.out hbg
        have HST2 := Lib.hid hst2
        have HBX2 := Lib.hid (HBX.out.trans (hbg.mono (by have h1 := HBX.out.size; have h2 := HB0.out; omega)))
        obtain ⟨Z, hZ⟩ : ∃ Z, Sort.grow (redrawn Y dq2) osq2 = Z := ⟨_, rfl⟩
        rw [hZ] at HST2 HBX2
        dsimp only
        rw [hZ]
        clear hst2 hbg hZ
        go_wp2_with fail
        exact HE.out _ _ _ _ _ _ _ _ _ _ _ _ _ _ _ _ _ _ _ _ _ _ _ _ _ _ _ _ _ _ _ _ _ _ _ _ _ _ _ _ _ _ _ _ _ _ _ _ _ _ _ _ _ _ _ _ _ _ _ _ _ _ _ _ _ _ _ _ _ _ _ _ _ _ _ _ _ _ _ _ _ _ _ _ _ _ _ _ _ _ _ _ _ _ _ _ _ HST2.out HBX2.out
end Go.Proofs.Yticiofpbijahbaa
end
