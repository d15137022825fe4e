/- The walk of what RunsOnce looks at of one sequence. -/
import Derived.Test.YticiofpbijahbaaGW
section
namespace Go.Proofs.Yticiofpbijahbaa
open Go.RowKit
set_option maxRecDepth 100000

theorem wp_seq_hid {P : Program} {c c' : Code} {Q : Exit → Act → World → Prop} {a : Act} {w : World} (h : c.wp P (Exit.then (fun a w => Hid (c'.wp P Q a w)) Q) a w) : (c.seq c').wp P Q a w :=
  wp_seq (Code.wp_mono (fun e a' w' h => by cases e <;> first | exact h.out | exact h) h)
theorem count_part {ss : List M.Sq} {s : M.Sq} {i : Nat} (hs : ss[i]? = some s) (k : Nat) (x : Int) : ((ss.take i).flatMap (·.pl) ++ s.pl.take k).count x ≤ (ss.flatMap (·.pl)).count x := by
  obtain ⟨hi, rfl⟩ := List.getElem?_eq_some_iff.1 hs
  have e : ss = ss.take i ++ ss[i] :: ss.drop (i + 1) := by rw [← List.drop_eq_getElem_cons hi, List.take_append_drop]
  have h1 : (ss.flatMap (·.pl)) = (ss.take i).flatMap (·.pl) ++ (ss[i].pl ++ (ss.drop (i + 1)).flatMap (·.pl)) := by
    conv => lhs; rw [e]
    rw [List.flatMap_append, List.flatMap_cons]
  rw [h1, List.count_append, List.count_append, List.count_append]
  have := (List.take_sublist k ss[i].pl).count_le x
  omega

set_option maxHeartbeats 16000000 in
theorem once1_zero {c : Code} (hc : blockAt 1 onceBody = some c) {Q : Exit → Act → World → Prop} {ad adl ade adp : Addr} {n ca g K c3 c1 cE B0 i m cp f0 : Nat} {l lv : List Int} {ss : List M.Sq} {s : M.Sq} {w3 wr : World} {t1 t2 t3 t4 t5 t7 t8 t10 t11 t15 t16 t17 t18 t19 t20 t21 t22 t23 t24 t25 t26 t27 t28 t29 t30 t31 t32 t33 t34 t35 t36 t37 t38 t39 t40 t41 t42 t43 t44 t45 t46 t47 t48 t49 t50 t51 t52 t53 t54 t55 t56 t57 t58 t59 t60 t61 t62 t63 t64 t65 t66 t67 t68 t69 t70 t71 t72 t73 t74 t75 t76 t77 t78 t79 t80 t81 t82 t83 t84 t85 t86 t87 t88 t89 t90 t91 t92 t93 t94 t95 t96 t97 t98 t99 t100 t101 t102 t103 t104 t105 t106 t107 t108 t109 t110 t111 t112 t113 t114 t115 t116 t117 t118 t119 t120 t121 t122 t123 t124 t125 t126 t127 t128 t129 t130 t131 t132 t133 t134 t135 t136 t137 t138 t139 t140 t141 t142 t143 t144 t145 t146 t147 t148 t149 t150 t151 t152 t153 t154 t155 t156 t157 t158 t159 t160 t161 t162 t163 t164 t165 t166 t167 t168 t169 t170 t171 t172 t173 t174 t175 t176 t177 t178 t179 t180 t181 t182 t183 t184 t185 t186 t187 t188 t189 t190 t191 t192 t193 t194 t195 t196 t197 t198 t199 t200 t201 t202 t203 t204 t205 t206 t207 t208 t209 t210 t211 t212 t213 t214 t215 t216 t217 : Value}
    (hn : n ≤ 150) (hm0 : 0 < m) (hm : m ≤ 150) (hi : i < K) (hB0 : w3.heap.size = B0) (hb : Below B0 w3 wr)
    (z0 : w3.cell? ⟨g, i * 4, none⟩ = some (.slice (some adp) m cp)) (z1 : w3.cell? ⟨g, i * 4 + 1, none⟩ = some (.int .i64 s.lv)) (hrp : RdS .i64 w3 B0 (some adp) s.pl) (hpm : s.pl.length = m) (yf : w3.cell? adp = some (.int .i64 f0))
    (hip : ¬ (0 : Int) < i)
    (hrl : RdS .i64 w3 B0 (some adl) lv) (hlv : lv.length = n) (hre : RdS .i64 w3 B0 (some ade) (M.matchI l)) (hln : l.length = n)
    (hs : ss[i]? = some s) (sok : M.SqOk l lv s) (hct : ∀ x : Int, (ss.flatMap (·.pl)).count x ≤ 1)
    (ho : wr.ownsRow B0 3 1 (.slice (some ⟨B0, 0, none⟩) n n) n ((M.cntL n ((ss.take i).flatMap (·.pl))).map (Value.int .i64)))
    (hend : ∀ u4 u15 u16 u17 u18 u73 u74 u75 u76 u77 u78 u79 u80 u81 u82 u83 u84 u85 u86 u87 u88 u89 u90 u91 u92 u93 u94 u95 u96 u97 u98 u99 u100 u101 u102 u103 u104 u105 u106 u107 u108 u109 u110 u111 u112 u113 u114 u115 u116 u117 u118 u119 u120 u121 u122 u123 u124 u125 u126 u127 u128 u129 u130 u131 u132 u133 u134 u135 u136 u137 u138 u139 u140 u141 u142 u143 u144 u145 u146 u147 u148 u149 u150 u151 u152 u153 u154 u155 u156 u157 u158 u159 u160 u161 u162 u163 u164 u165 u166 u167 u168 u169 u170 u171 u172 u173 u174 u175 u176 u177 u178 u179 u180 u181 u182 u183 u184 u185 u186 u187 u188 u189 u190 u191 u192 u193 u194 u195 u196 u197 u198 W', W'.ownsRow B0 3 1 (.slice (some ⟨B0, 0, none⟩) n n) n ((M.cntL n ((ss.take (i + 1)).flatMap (·.pl))).map (Value.int .i64)) → Below B0 w3 W' → Q .normal ⟨(List.toArray ((.slice (some ad) n ca) :: t1 :: t2 :: t3 :: (u4) :: t5 :: (.slice (some ⟨g, 0, none⟩) K c3) :: t7 :: t8 :: (.slice (some adl) n c1) :: t10 :: t11 :: (.slice (some ade) n cE) :: (.slice (some ⟨B0, 0, none⟩) n n) :: (.int .i64 i) :: (u15) :: (u16) :: (u17) :: (u18) :: t19 :: t20 :: t21 :: t22 :: t23 :: t24 :: t25 :: t26 :: t27 :: t28 :: t29 :: t30 :: t31 :: t32 :: t33 :: t34 :: t35 :: t36 :: t37 :: t38 :: t39 :: t40 :: t41 :: t42 :: t43 :: t44 :: t45 :: t46 :: t47 :: t48 :: t49 :: t50 :: t51 :: t52 :: t53 :: t54 :: t55 :: t56 :: t57 :: t58 :: t59 :: t60 :: t61 :: t62 :: t63 :: t64 :: t65 :: t66 :: t67 :: t68 :: t69 :: t70 :: t71 :: t72 :: (u73) :: (u74) :: (u75) :: (u76) :: (u77) :: (u78) :: (u79) :: (u80) :: (u81) :: (u82) :: (u83) :: (u84) :: (u85) :: (u86) :: (u87) :: (u88) :: (u89) :: (u90) :: (u91) :: (u92) :: (u93) :: (u94) :: (u95) :: (u96) :: (u97) :: (u98) :: (u99) :: (u100) :: (u101) :: (u102) :: (u103) :: (u104) :: (u105) :: (u106) :: (u107) :: (u108) :: (u109) :: (u110) :: (u111) :: (u112) :: (u113) :: (u114) :: (u115) :: (u116) :: (u117) :: (u118) :: (u119) :: (u120) :: (u121) :: (u122) :: (u123) :: (u124) :: (u125) :: (u126) :: (u127) :: (u128) :: (u129) :: (u130) :: (u131) :: (u132) :: (u133) :: (u134) :: (u135) :: (u136) :: (u137) :: (u138) :: (u139) :: (u140) :: (u141) :: (u142) :: (u143) :: (u144) :: (u145) :: (u146) :: (u147) :: (u148) :: (u149) :: (u150) :: (u151) :: (u152) :: (u153) :: (u154) :: (u155) :: (u156) :: (u157) :: (u158) :: (u159) :: (u160) :: (u161) :: (u162) :: (u163) :: (u164) :: (u165) :: (u166) :: (u167) :: (u168) :: (u169) :: (u170) :: (u171) :: (u172) :: (u173) :: (u174) :: (u175) :: (u176) :: (u177) :: (u178) :: (u179) :: (u180) :: (u181) :: (u182) :: (u183) :: (u184) :: (u185) :: (u186) :: (u187) :: (u188) :: (u189) :: (u190) :: (u191) :: (u192) :: (u193) :: (u194) :: (u195) :: (u196) :: (u197) :: (u198) :: t199 :: t200 :: t201 :: t202 :: t203 :: t204 :: t205 :: t206 :: t207 :: t208 :: t209 :: t210 :: t211 :: t212 :: t213 :: t214 :: t215 :: t216 :: t217 :: [])), []⟩ W') :
    c.wp Try.prog Q ⟨(List.toArray ((.slice (some ad) n ca) :: t1 :: t2 :: t3 :: t4 :: t5 :: (.slice (some ⟨g, 0, none⟩) K c3) :: t7 :: t8 :: (.slice (some adl) n c1) :: t10 :: t11 :: (.slice (some ade) n cE) :: (.slice (some ⟨B0, 0, none⟩) n n) :: (.int .i64 i) :: t15 :: t16 :: t17 :: t18 :: t19 :: t20 :: t21 :: t22 :: t23 :: t24 :: t25 :: t26 :: t27 :: t28 :: t29 :: t30 :: t31 :: t32 :: t33 :: t34 :: t35 :: t36 :: t37 :: t38 :: t39 :: t40 :: t41 :: t42 :: t43 :: t44 :: t45 :: t46 :: t47 :: t48 :: t49 :: t50 :: t51 :: t52 :: t53 :: t54 :: t55 :: t56 :: t57 :: t58 :: t59 :: t60 :: t61 :: t62 :: t63 :: t64 :: t65 :: t66 :: t67 :: t68 :: t69 :: t70 :: t71 :: t72 :: t73 :: t74 :: t75 :: t76 :: t77 :: t78 :: t79 :: t80 :: t81 :: t82 :: t83 :: t84 :: t85 :: t86 :: t87 :: t88 :: t89 :: t90 :: t91 :: t92 :: t93 :: t94 :: t95 :: t96 :: t97 :: t98 :: t99 :: t100 :: t101 :: t102 :: t103 :: t104 :: t105 :: t106 :: t107 :: t108 :: t109 :: t110 :: t111 :: t112 :: t113 :: t114 :: t115 :: t116 :: t117 :: t118 :: t119 :: t120 :: t121 :: t122 :: t123 :: t124 :: t125 :: t126 :: t127 :: t128 :: t129 :: t130 :: t131 :: t132 :: t133 :: t134 :: t135 :: t136 :: t137 :: t138 :: t139 :: t140 :: t141 :: t142 :: t143 :: t144 :: t145 :: t146 :: t147 :: t148 :: t149 :: t150 :: t151 :: t152 :: t153 :: t154 :: t155 :: t156 :: t157 :: t158 :: t159 :: t160 :: t161 :: t162 :: t163 :: t164 :: t165 :: t166 :: t167 :: t168 :: t169 :: t170 :: t171 :: t172 :: t173 :: t174 :: t175 :: t176 :: t177 :: t178 :: t179 :: t180 :: t181 :: t182 :: t183 :: t184 :: t185 :: t186 :: t187 :: t188 :: t189 :: t190 :: t191 :: t192 :: t193 :: t194 :: t195 :: t196 :: t197 :: t198 :: t199 :: t200 :: t201 :: t202 :: t203 :: t204 :: t205 :: t206 :: t207 :: t208 :: t209 :: t210 :: t211 :: t212 :: t213 :: t214 :: t215 :: t216 :: t217 :: [])), []⟩ wr := by
  have at_ : ∀ (W' : World) (a : Addr) (v : Value), Below B0 w3 W' → w3.cell? a = some v → W'.cell? a = some v := fun W' a v hW hc => (hW.cell (by rw [← hB0]; exact World.block_lt_of_cell? _ _ hc)).trans hc
  have i0 : (0 : Int) ≤ i := by omega
  have i1 : (i : Int) < K := by omega
  have y0 := at_ _ _ _ hb z0
  obtain ⟨L0, hL0⟩ : ∃ L0, (ss.take i).flatMap (·.pl) = L0 := ⟨_, rfl⟩
  rw [hL0] at ho
  have hL1 : (ss.take (i + 1)).flatMap (·.pl) = L0 ++ s.pl := by
    rw [List.take_add_one, hs, List.flatMap_append, hL0]
    simp
  rw [hL1] at hend
  have hcp : ∀ k x, (L0 ++ s.pl.take k).count x ≤ (ss.flatMap (·.pl)).count x := fun k x => by rw [← hL0]; exact count_part hs k x
  have HCP := Lib.hid hcp
  have HO := Lib.hid ho
  have HE := Lib.hid hend
  have HB := Lib.hid hb
  have HB0 := Lib.hid hB0
  have HAT_ := Lib.hid at_
  have HRP := Lib.hid hrp
  have HPM := Lib.hid hpm
  have HRL := Lib.hid hrl
  have HLV := Lib.hid hlv
  have HRE := Lib.hid hre
  have HLN := Lib.hid hln
  have HS := Lib.hid hs
  have SOK := Lib.hid sok
  have HCT := Lib.hid hct
  have HZ1 := Lib.hid z1
  have HYF := Lib.hid yf
  have HZ0 := Lib.hid z0
  skip
  skip
  simp [blockAt, onceBody, Try.f5] at hc
  subst hc
  clear hL0 hL1 hcp ho hend hb hB0 at_ hrp hpm hrl hlv hre hln hs sok hct z1 yf z0
  go_wp2_with fail
  go_loopw [16] (fun v wr2 => ∃ k : Nat, v = .int .i64 k ∧ k ≤ m ∧ wr2.ownsRow B0 3 1 (.slice (some ⟨B0, 0, none⟩) n n) n ((M.cntL n (L0 ++ s.pl.take k)).map (Value.int .i64)) ∧ Below B0 w3 wr2) (fun v _ => m - (intOf v).toNat)
  case atStart => exact ⟨0, rfl, Nat.zero_le _, by rw [List.take_zero, List.append_nil]; exact HO.out, HB.out⟩
  case round =>
    obtain ⟨k, rfl, hk, hown2, hbw2⟩ := hrel
    have HO2 := Lib.hid hown2
    have HB2 := Lib.hid hbw2
    clear hown2 hbw2
    have k0 : (0 : Int) ≤ k := by omega
    by_cases hkm : k < m
    · have k1 : (k : Int) < (m : Int) := by omega
      obtain ⟨x, hx⟩ : ∃ x, s.pl[k]? = some x := ⟨_, List.getElem?_eq_getElem (by rw [HPM.out]; exact hkm)⟩
      obtain ⟨p, rfl, hpl⟩ := SOK.out.at_ x (List.mem_of_getElem? hx)
      have hpn : p < n := by have := (List.getElem?_eq_some_iff.1 hpl).1; rw [HLV.out] at this; exact this
      obtain ⟨_, hA, _, ek⟩ := HRP.out k _ hx
      obtain rfl := Option.some.inj hA
      obtain ⟨_, hA2, _, el⟩ := HRL.out p _ hpl
      obtain rfl := Option.some.inj hA2
      obtain ⟨cv, hcv⟩ : ∃ cv, (L0 ++ s.pl.take k).count (p : Int) = cv := ⟨_, rfl⟩
      have hcv1 : cv ≤ 1000 := by have h1 := HCP.out k (p : Int); have h2 := HCT.out (p : Int); omega
      have htk : L0 ++ s.pl.take k ++ [(p : Int)] = L0 ++ s.pl.take (k + 1) := by
        rw [List.append_assoc, List.take_add_one, hx]
        rfl
      have HTK := Lib.hid htk
      have HX := Lib.hid hx
      have HCV := Lib.hid hcv
      clear hA hA2 hx hpl hcv htk
      refine wp_seq_hid ?_
      go_wp2_with fail
      refine Lib.hid ?_
      refine wp_seq ?_
      by_cases hk0 : k = 0
      · subst hk0
        rw [show adp.add 0 = adp from rfl] at ek
        refine once3_zero rfl hn hm0 hi hpn hcv1 HB0.out HB2.out (HAT_.out _ _ _ HB2.out ek) (HAT_.out _ _ _ HB2.out el) (HAT_.out _ _ _ HB2.out HZ1.out) HO2.out HCV.out ?_
        intro v17 v18 v84 v85 v86 v87 v88 v89 v90 v91 v92 v93 v94 v95 v96 v97 v98 v99 v100 v101 v102 v103 v104 v105 v106 v107 v108 v109 v110 v111 v112 v113 v114 v115 v116 v117 v118 v119 v120 v121 v122 v123 v124 v125 v126 v127 v128 v129 v130 v131 v132 v133 v134 v135 v136 v137 v138 v139 v140 v141 v142 v143 v144 v145 v146 v147 v148 v149 v150 v151 v152 v153 v154 v155 v156 v157 v158 v159 v160 v161 v162 v163 v164 v165 v166 v167 v168 v169 v170 v171 v172 v173 v174 v175 v176 v177 W' hW1 hW2
        rw [HTK.out] at hW1
        have HW1 := Lib.hid hW1
        have HW2 := Lib.hid hW2
        clear hW1 hW2
        refine (show Code.wp _ _ _ _ _ from ?_)
        go_wp2_with fail
        go_roundw
        case rel => exact ⟨0 + 1, by go_num, by omega, HW1.out, HW2.out⟩
        case measure => simp [intOf]; omega
      · obtain ⟨k', rfl⟩ : ∃ k', k = k' + 1 := ⟨k - 1, by omega⟩
        obtain ⟨x', hx'⟩ : ∃ x, s.pl[k']? = some x := ⟨_, List.getElem?_eq_getElem (by rw [HPM.out]; omega)⟩
        obtain ⟨p', rfl, hpl'⟩ := SOK.out.at_ x' (List.mem_of_getElem? hx')
        obtain ⟨_, hA, _, ep⟩ := HRP.out k' _ hx'
        obtain rfl := Option.some.inj hA
        have hpn' : p' < l.length := by have := (List.getElem?_eq_some_iff.1 hpl').1; rw [HLV.out, ← HLN.out] at this; exact this
        obtain ⟨_, hA2, _, em⟩ := HRE.out p' _ (show (M.matchI l)[p']? = some (M.endI l p') by unfold M.matchI M.matchTo; simp [hpn'])
        obtain rfl := Option.some.inj hA2
        obtain ⟨hnx1, hnx2⟩ := SOK.out.nx k' _ _ hx' HX.out
        rw [Int.toNat_natCast] at hnx2
        refine once3_succ rfl hn hkm hm hi hpn (by omega) hcv1 HB0.out HB2.out ek ep el HZ1.out em HRL.out HLV.out (hnx2.imp_left fun h y h1 h2 => h y (by omega) (by omega)) HO2.out HCV.out ?_
        intro v17 v18 v84 v85 v86 v87 v88 v89 v90 v91 v92 v93 v94 v95 v96 v97 v98 v99 v100 v101 v102 v103 v104 v105 v106 v107 v108 v109 v110 v111 v112 v113 v114 v115 v116 v117 v118 v119 v120 v121 v122 v123 v124 v125 v126 v127 v128 v129 v130 v131 v132 v133 v134 v135 v136 v137 v138 v139 v140 v141 v142 v143 v144 v145 v146 v147 v148 v149 v150 v151 v152 v153 v154 v155 v156 v157 v158 v159 v160 v161 v162 v163 v164 v165 v166 v167 v168 v169 v170 v171 v172 v173 v174 v175 v176 v177 W' hW1 hW2
        rw [HTK.out] at hW1
        have HW1 := Lib.hid hW1
        have HW2 := Lib.hid hW2
        clear hW1 hW2 hx' hpl' hA hA2 ep em hnx1 hnx2 ek el
        refine (show Code.wp _ _ _ _ _ from ?_)
        go_wp2_with fail
        go_roundw
        case rel => exact ⟨k' + 1 + 1, by go_num, by omega, HW1.out, HW2.out⟩
        case measure => simp [intOf]; omega
    · obtain rfl : k = m := by omega
      have k3 : ¬ (k : Int) < (k : Int) := by omega
      have hown3 := HO2.out
      rw [List.take_of_length_le (by rw [HPM.out]; exact Nat.le_refl _)] at hown3
      have HO3 := Lib.hid hown3
      have m1 : (k : Int) ≠ 0 := by omega
      have m2 : ((k : Int) == 0) = false := by simp; omega
      have m3 : (0 : Int) < k := by omega
      skip
      skip
      skip
      skip
      skip
      skip
      have g7 : decide ((0 : Int) < i) = false := by rw [decide_eq_false_iff_not]; omega
      have g8 : decide (0 < i) = false := by rw [decide_eq_false_iff_not]; omega
      clear hown3
      go_wp2_with fail
      refine wp_region_quiet_below (by kernel_rfl) (by kernel_rfl) ?_
      repeat (go_big_quiet_step (fail))
      refine wpQuiet_nil ?_
      intro _ hw'
      obtain ⟨⟨dq2, osq2⟩, hw4⟩ := hw'
      subst hw4
      have hbg := below_regrown wr dq2 osq2
      have HST2 := Lib.hid (own_below HO3.out hbg)
      have HBX2 := Lib.hid (HB2.out.trans (hbg.mono (by have h1 := HB2.out.size; have h2 := HB0.out; omega)))
      obtain ⟨Z, hZ⟩ : ∃ Z, Sort.grow (redrawn wr dq2) osq2 = Z := ⟨_, rfl⟩
      rw [hZ] at HST2 HBX2
      dsimp only
      rw [hZ]
      clear hbg hZ
      go_wp2_with fail
      exact HE.out _ _ _ _ _ _ _ _ _ _ _ _ _ _ _ _ _ _ _ _ _ _ _ _ _ _ _ _ _ _ _ _ _ _ _ _ _ _ _ _ _ _ _ _ _ _ _ _ _ _ _ _ _ _ _ _ _ _ _ _ _ _ _ _ _ _ _ _ _ _ _ _ _ _ _ _ _ _ _ _ _ _ _ _ _ _ _ _ _ _ _ _ _ _ _ _ _ _ _ _ _ _ _ _ _ _ _ _ _ _ _ _ _ _ _ _ _ _ _ _ _ _ _ _ _ _ _ _ _ _ _ _ HST2.out HBX2.out

set_option maxHeartbeats 16000000 in
theorem once1_succ {c : Code} (hc : blockAt 1 onceBody = some c) {Q : Exit → Act → World → Prop} {ad adl ade adp adq : Addr} {n ca g K c3 c1 cE B0 i i' m cp mq cq f0 q0 : Nat} {l lv : List Int} {ss : List M.Sq} {s : M.Sq} {w3 wr : World} {t1 t2 t3 t4 t5 t7 t8 t10 t11 t15 t16 t17 t18 t19 t20 t21 t22 t23 t24 t25 t26 t27 t28 t29 t30 t31 t32 t33 t34 t35 t36 t37 t38 t39 t40 t41 t42 t43 t44 t45 t46 t47 t48 t49 t50 t51 t52 t53 t54 t55 t56 t57 t58 t59 t60 t61 t62 t63 t64 t65 t66 t67 t68 t69 t70 t71 t72 t73 t74 t75 t76 t77 t78 t79 t80 t81 t82 t83 t84 t85 t86 t87 t88 t89 t90 t91 t92 t93 t94 t95 t96 t97 t98 t99 t100 t101 t102 t103 t104 t105 t106 t107 t108 t109 t110 t111 t112 t113 t114 t115 t116 t117 t118 t119 t120 t121 t122 t123 t124 t125 t126 t127 t128 t129 t130 t131 t132 t133 t134 t135 t136 t137 t138 t139 t140 t141 t142 t143 t144 t145 t146 t147 t148 t149 t150 t151 t152 t153 t154 t155 t156 t157 t158 t159 t160 t161 t162 t163 t164 t165 t166 t167 t168 t169 t170 t171 t172 t173 t174 t175 t176 t177 t178 t179 t180 t181 t182 t183 t184 t185 t186 t187 t188 t189 t190 t191 t192 t193 t194 t195 t196 t197 t198 t199 t200 t201 t202 t203 t204 t205 t206 t207 t208 t209 t210 t211 t212 t213 t214 t215 t216 t217 : Value}
    (hn : n ≤ 150) (hm0 : 0 < m) (hm : m ≤ 150) (hi : i < K) (hK : K ≤ 150) (hB0 : w3.heap.size = B0) (hb : Below B0 w3 wr)
    (z0 : w3.cell? ⟨g, i * 4, none⟩ = some (.slice (some adp) m cp)) (z1 : w3.cell? ⟨g, i * 4 + 1, none⟩ = some (.int .i64 s.lv)) (hrp : RdS .i64 w3 B0 (some adp) s.pl) (hpm : s.pl.length = m) (yf : w3.cell? adp = some (.int .i64 f0))
    (hii : (i : Int) - 1 = i') (hip : (0 : Int) < i) (hi'K : (i' : Int) < K) (y3 : w3.cell? ⟨g, i' * 4, none⟩ = some (.slice (some adq) mq cq)) (yq : w3.cell? adq = some (.int .i64 q0)) (hmq : 0 < mq) (hq0 : q0 < f0)
    (hrl : RdS .i64 w3 B0 (some adl) lv) (hlv : lv.length = n) (hre : RdS .i64 w3 B0 (some ade) (M.matchI l)) (hln : l.length = n)
    (hs : ss[i]? = some s) (sok : M.SqOk l lv s) (hct : ∀ x : Int, (ss.flatMap (·.pl)).count x ≤ 1)
    (ho : wr.ownsRow B0 3 1 (.slice (some ⟨B0, 0, none⟩) n n) n ((M.cntL n ((ss.take i).flatMap (·.pl))).map (Value.int .i64)))
    (hend : ∀ u4 u15 u16 u17 u18 u73 u74 u75 u76 u77 u78 u79 u80 u81 u82 u83 u84 u85 u86 u87 u88 u89 u90 u91 u92 u93 u94 u95 u96 u97 u98 u99 u100 u101 u102 u103 u104 u105 u106 u107 u108 u109 u110 u111 u112 u113 u114 u115 u116 u117 u118 u119 u120 u121 u122 u123 u124 u125 u126 u127 u128 u129 u130 u131 u132 u133 u134 u135 u136 u137 u138 u139 u140 u141 u142 u143 u144 u145 u146 u147 u148 u149 u150 u151 u152 u153 u154 u155 u156 u157 u158 u159 u160 u161 u162 u163 u164 u165 u166 u167 u168 u169 u170 u171 u172 u173 u174 u175 u176 u177 u178 u179 u180 u181 u182 u183 u184 u185 u186 u187 u188 u189 u190 u191 u192 u193 u194 u195 u196 u197 u198 W', W'.ownsRow B0 3 1 (.slice (some ⟨B0, 0, none⟩) n n) n ((M.cntL n ((ss.take (i + 1)).flatMap (·.pl))).map (Value.int .i64)) → Below B0 w3 W' → Q .normal ⟨(List.toArray ((.slice (some ad) n ca) :: t1 :: t2 :: t3 :: (u4) :: t5 :: (.slice (some ⟨g, 0, none⟩) K c3) :: t7 :: t8 :: (.slice (some adl) n c1) :: t10 :: t11 :: (.slice (some ade) n cE) :: (.slice (some ⟨B0, 0, none⟩) n n) :: (.int .i64 i) :: (u15) :: (u16) :: (u17) :: (u18) :: t19 :: t20 :: t21 :: t22 :: t23 :: t24 :: t25 :: t26 :: t27 :: t28 :: t29 :: t30 :: t31 :: t32 :: t33 :: t34 :: t35 :: t36 :: t37 :: t38 :: t39 :: t40 :: t41 :: t42 :: t43 :: t44 :: t45 :: t46 :: t47 :: t48 :: t49 :: t50 :: t51 :: t52 :: t53 :: t54 :: t55 :: t56 :: t57 :: t58 :: t59 :: t60 :: t61 :: t62 :: t63 :: t64 :: t65 :: t66 :: t67 :: t68 :: t69 :: t70 :: t71 :: t72 :: (u73) :: (u74) :: (u75) :: (u76) :: (u77) :: (u78) :: (u79) :: (u80) :: (u81) :: (u82) :: (u83) :: (u84) :: (u85) :: (u86) :: (u87) :: (u88) :: (u89) :: (u90) :: (u91) :: (u92) :: (u93) :: (u94) :: (u95) :: (u96) :: (u97) :: (u98) :: (u99) :: (u100) :: (u101) :: (u102) :: (u103) :: (u104) :: (u105) :: (u106) :: (u107) :: (u108) :: (u109) :: (u110) :: (u111) :: (u112) :: (u113) :: (u114) :: (u115) :: (u116) :: (u117) :: (u118) :: (u119) :: (u120) :: (u121) :: (u122) :: (u123) :: (u124) :: (u125) :: (u126) :: (u127) :: (u128) :: (u129) :: (u130) :: (u131) :: (u132) :: (u133) :: (u134) :: (u135) :: (u136) :: (u137) :: (u138) :: (u139) :: (u140) :: (u141) :: (u142) :: (u143) :: (u144) :: (u145) :: (u146) :: (u147) :: (u148) :: (u149) :: (u150) :: (u151) :: (u152) :: (u153) :: (u154) :: (u155) :: (u156) :: (u157) :: (u158) :: (u159) :: (u160) :: (u161) :: (u162) :: (u163) :: (u164) :: (u165) :: (u166) :: (u167) :: (u168) :: (u169) :: (u170) :: (u171) :: (u172) :: (u173) :: (u174) :: (u175) :: (u176) :: (u177) :: (u178) :: (u179) :: (u180) :: (u181) :: (u182) :: (u183) :: (u184) :: (u185) :: (u186) :: (u187) :: (u188) :: (u189) :: (u190) :: (u191) :: (u192) :: (u193) :: (u194) :: (u195) :: (u196) :: (u197) :: (u198) :: t199 :: t200 :: t201 :: t202 :: t203 :: t204 :: t205 :: t206 :: t207 :: t208 :: t209 :: t210 :: t211 :: t212 :: t213 :: t214 :: t215 :: t216 :: t217 :: [])), []⟩ W') :
    c.wp Try.prog Q ⟨(List.toArray ((.slice (some ad) n ca) :: t1 :: t2 :: t3 :: t4 :: t5 :: (.slice (some ⟨g, 0, none⟩) K c3) :: t7 :: t8 :: (.slice (some adl) n c1) :: t10 :: t11 :: (.slice (some ade) n cE) :: (.slice (some ⟨B0, 0, none⟩) n n) :: (.int .i64 i) :: t15 :: t16 :: t17 :: t18 :: t19 :: t20 :: t21 :: t22 :: t23 :: t24 :: t25 :: t26 :: t27 :: t28 :: t29 :: t30 :: t31 :: t32 :: t33 :: t34 :: t35 :: t36 :: t37 :: t38 :: t39 :: t40 :: t41 :: t42 :: t43 :: t44 :: t45 :: t46 :: t47 :: t48 :: t49 :: t50 :: t51 :: t52 :: t53 :: t54 :: t55 :: t56 :: t57 :: t58 :: t59 :: t60 :: t61 :: t62 :: t63 :: t64 :: t65 :: t66 :: t67 :: t68 :: t69 :: t70 :: t71 :: t72 :: t73 :: t74 :: t75 :: t76 :: t77 :: t78 :: t79 :: t80 :: t81 :: t82 :: t83 :: t84 :: t85 :: t86 :: t87 :: t88 :: t89 :: t90 :: t91 :: t92 :: t93 :: t94 :: t95 :: t96 :: t97 :: t98 :: t99 :: t100 :: t101 :: t102 :: t103 :: t104 :: t105 :: t106 :: t107 :: t108 :: t109 :: t110 :: t111 :: t112 :: t113 :: t114 :: t115 :: t116 :: t117 :: t118 :: t119 :: t120 :: t121 :: t122 :: t123 :: t124 :: t125 :: t126 :: t127 :: t128 :: t129 :: t130 :: t131 :: t132 :: t133 :: t134 :: t135 :: t136 :: t137 :: t138 :: t139 :: t140 :: t141 :: t142 :: t143 :: t144 :: t145 :: t146 :: t147 :: t148 :: t149 :: t150 :: t151 :: t152 :: t153 :: t154 :: t155 :: t156 :: t157 :: t158 :: t159 :: t160 :: t161 :: t162 :: t163 :: t164 :: t165 :: t166 :: t167 :: t168 :: t169 :: t170 :: t171 :: t172 :: t173 :: t174 :: t175 :: t176 :: t177 :: t178 :: t179 :: t180 :: t181 :: t182 :: t183 :: t184 :: t185 :: t186 :: t187 :: t188 :: t189 :: t190 :: t191 :: t192 :: t193 :: t194 :: t195 :: t196 :: t197 :: t198 :: t199 :: t200 :: t201 :: t202 :: t203 :: t204 :: t205 :: t206 :: t207 :: t208 :: t209 :: t210 :: t211 :: t212 :: t213 :: t214 :: t215 :: t216 :: t217 :: [])), []⟩ wr := by
  have at_ : ∀ (W' : World) (a : Addr) (v : Value), Below B0 w3 W' → w3.cell? a = some v → W'.cell? a = some v := fun W' a v hW hc => (hW.cell (by rw [← hB0]; exact World.block_lt_of_cell? _ _ hc)).trans hc
  have i0 : (0 : Int) ≤ i := by omega
  have i1 : (i : Int) < K := by omega
  have y0 := at_ _ _ _ hb z0
  obtain ⟨L0, hL0⟩ : ∃ L0, (ss.take i).flatMap (·.pl) = L0 := ⟨_, rfl⟩
  rw [hL0] at ho
  have hL1 : (ss.take (i + 1)).flatMap (·.pl) = L0 ++ s.pl := by
    rw [List.take_add_one, hs, List.flatMap_append, hL0]
    simp
  rw [hL1] at hend
  have hcp : ∀ k x, (L0 ++ s.pl.take k).count x ≤ (ss.flatMap (·.pl)).count x := fun k x => by rw [← hL0]; exact count_part hs k x
  have HCP := Lib.hid hcp
  have HO := Lib.hid ho
  have HE := Lib.hid hend
  have HB := Lib.hid hb
  have HB0 := Lib.hid hB0
  have HAT_ := Lib.hid at_
  have HRP := Lib.hid hrp
  have HPM := Lib.hid hpm
  have HRL := Lib.hid hrl
  have HLV := Lib.hid hlv
  have HRE := Lib.hid hre
  have HLN := Lib.hid hln
  have HS := Lib.hid hs
  have SOK := Lib.hid sok
  have HCT := Lib.hid hct
  have HZ1 := Lib.hid z1
  have HYF := Lib.hid yf
  have HZ0 := Lib.hid z0
  have HY3 := Lib.hid y3
  have HYQ := Lib.hid yq
  simp [blockAt, onceBody, Try.f5] at hc
  subst hc
  clear hL0 hL1 hcp ho hend hb hB0 at_ hrp hpm hrl hlv hre hln hs sok hct z1 yf z0 y3 yq
  go_wp2_with fail
  go_loopw [16] (fun v wr2 => ∃ k : Nat, v = .int .i64 k ∧ k ≤ m ∧ wr2.ownsRow B0 3 1 (.slice (some ⟨B0, 0, none⟩) n n) n ((M.cntL n (L0 ++ s.pl.take k)).map (Value.int .i64)) ∧ Below B0 w3 wr2) (fun v _ => m - (intOf v).toNat)
  case atStart => exact ⟨0, rfl, Nat.zero_le _, by rw [List.take_zero, List.append_nil]; exact HO.out, HB.out⟩
  case round =>
    obtain ⟨k, rfl, hk, hown2, hbw2⟩ := hrel
    have HO2 := Lib.hid hown2
    have HB2 := Lib.hid hbw2
    clear hown2 hbw2
    have k0 : (0 : Int) ≤ k := by omega
    by_cases hkm : k < m
    · have k1 : (k : Int) < (m : Int) := by omega
      obtain ⟨x, hx⟩ : ∃ x, s.pl[k]? = some x := ⟨_, List.getElem?_eq_getElem (by rw [HPM.out]; exact hkm)⟩
      obtain ⟨p, rfl, hpl⟩ := SOK.out.at_ x (List.mem_of_getElem? hx)
      have hpn : p < n := by have := (List.getElem?_eq_some_iff.1 hpl).1; rw [HLV.out] at this; exact this
      obtain ⟨_, hA, _, ek⟩ := HRP.out k _ hx
      obtain rfl := Option.some.inj hA
      obtain ⟨_, hA2, _, el⟩ := HRL.out p _ hpl
      obtain rfl := Option.some.inj hA2
      obtain ⟨cv, hcv⟩ : ∃ cv, (L0 ++ s.pl.take k).count (p : Int) = cv := ⟨_, rfl⟩
      have hcv1 : cv ≤ 1000 := by have h1 := HCP.out k (p : Int); have h2 := HCT.out (p : Int); omega
      have htk : L0 ++ s.pl.take k ++ [(p : Int)] = L0 ++ s.pl.take (k + 1) := by
        rw [List.append_assoc, List.take_add_one, hx]
        rfl
      have HTK := Lib.hid htk
      have HX := Lib.hid hx
      have HCV := Lib.hid hcv
      clear hA hA2 hx hpl hcv htk
      refine wp_seq_hid ?_
      go_wp2_with fail
      refine Lib.hid ?_
      refine wp_seq ?_
      by_cases hk0 : k = 0
      · subst hk0
        rw [show adp.add 0 = adp from rfl] at ek
        refine once3_zero rfl hn hm0 hi hpn hcv1 HB0.out HB2.out (HAT_.out _ _ _ HB2.out ek) (HAT_.out _ _ _ HB2.out el) (HAT_.out _ _ _ HB2.out HZ1.out) HO2.out HCV.out ?_
        intro v17 v18 v84 v85 v86 v87 v88 v89 v90 v91 v92 v93 v94 v95 v96 v97 v98 v99 v100 v101 v102 v103 v104 v105 v106 v107 v108 v109 v110 v111 v112 v113 v114 v115 v116 v117 v118 v119 v120 v121 v122 v123 v124 v125 v126 v127 v128 v129 v130 v131 v132 v133 v134 v135 v136 v137 v138 v139 v140 v141 v142 v143 v144 v145 v146 v147 v148 v149 v150 v151 v152 v153 v154 v155 v156 v157 v158 v159 v160 v161 v162 v163 v164 v165 v166 v167 v168 v169 v170 v171 v172 v173 v174 v175 v176 v177 W' hW1 hW2
        rw [HTK.out] at hW1
        have HW1 := Lib.hid hW1
        have HW2 := Lib.hid hW2
        clear hW1 hW2
        refine (show Code.wp _ _ _ _ _ from ?_)
        go_wp2_with fail
        go_roundw
        case rel => exact ⟨0 + 1, by go_num, by omega, HW1.out, HW2.out⟩
        case measure => simp [intOf]; omega
      · obtain ⟨k', rfl⟩ : ∃ k', k = k' + 1 := ⟨k - 1, by omega⟩
        obtain ⟨x', hx'⟩ : ∃ x, s.pl[k']? = some x := ⟨_, List.getElem?_eq_getElem (by rw [HPM.out]; omega)⟩
        obtain ⟨p', rfl, hpl'⟩ := SOK.out.at_ x' (List.mem_of_getElem? hx')
        obtain ⟨_, hA, _, ep⟩ := HRP.out k' _ hx'
        obtain rfl := Option.some.inj hA
        have hpn' : p' < l.length := by have := (List.getElem?_eq_some_iff.1 hpl').1; rw [HLV.out, ← HLN.out] at this; exact this
        obtain ⟨_, hA2, _, em⟩ := HRE.out p' _ (show (M.matchI l)[p']? = some (M.endI l p') by unfold M.matchI M.matchTo; simp [hpn'])
        obtain rfl := Option.some.inj hA2
        obtain ⟨hnx1, hnx2⟩ := SOK.out.nx k' _ _ hx' HX.out
        rw [Int.toNat_natCast] at hnx2
        refine once3_succ rfl hn hkm hm hi hpn (by omega) hcv1 HB0.out HB2.out ek ep el HZ1.out em HRL.out HLV.out (hnx2.imp_left fun h y h1 h2 => h y (by omega) (by omega)) HO2.out HCV.out ?_
        intro v17 v18 v84 v85 v86 v87 v88 v89 v90 v91 v92 v93 v94 v95 v96 v97 v98 v99 v100 v101 v102 v103 v104 v105 v106 v107 v108 v109 v110 v111 v112 v113 v114 v115 v116 v117 v118 v119 v120 v121 v122 v123 v124 v125 v126 v127 v128 v129 v130 v131 v132 v133 v134 v135 v136 v137 v138 v139 v140 v141 v142 v143 v144 v145 v146 v147 v148 v149 v150 v151 v152 v153 v154 v155 v156 v157 v158 v159 v160 v161 v162 v163 v164 v165 v166 v167 v168 v169 v170 v171 v172 v173 v174 v175 v176 v177 W' hW1 hW2
        rw [HTK.out] at hW1
        have HW1 := Lib.hid hW1
        have HW2 := Lib.hid hW2
        clear hW1 hW2 hx' hpl' hA hA2 ep em hnx1 hnx2 ek el
        refine (show Code.wp _ _ _ _ _ from ?_)
        go_wp2_with fail
        go_roundw
        case rel => exact ⟨k' + 1 + 1, by go_num, by omega, HW1.out, HW2.out⟩
        case measure => simp [intOf]; omega
    · obtain rfl : k = m := by omega
      have k3 : ¬ (k : Int) < (k : Int) := by omega
      have hown3 := HO2.out
      rw [List.take_of_length_le (by rw [HPM.out]; exact Nat.le_refl _)] at hown3
      have HO3 := Lib.hid hown3
      have m1 : (k : Int) ≠ 0 := by omega
      have m2 : ((k : Int) == 0) = false := by simp; omega
      have m3 : (0 : Int) < k := by omega
      have g1 := fun d os => cell_regrown (HAT_.out _ _ _ HB2.out HY3.out) d os
      have g2 := fun d os => cell_regrown (HAT_.out _ _ _ HB2.out HYQ.out) d os
      have g3 := fun d os => cell_regrown (HAT_.out _ _ _ HB2.out HYF.out) d os
      have g4 : decide (f0 ≤ q0) = false := by rw [decide_eq_false_iff_not]; omega
      have g5 : (0 : Int) < mq := by omega
      have g6 : (0 : Int) ≤ i' := by omega
      have g7 : decide ((0 : Int) < i) = true := by rw [decide_eq_true_iff]; omega
      have g8 : decide (0 < i) = true := by rw [decide_eq_true_iff]; omega
      clear hown3
      go_wp2_with fail
      refine wp_region_quiet_below (by kernel_rfl) (by kernel_rfl) ?_
      repeat (go_big_quiet_step (fail))
      refine wpQuiet_nil ?_
      intro _ hw'
      obtain ⟨⟨dq2, osq2⟩, hw4⟩ := hw'
      subst hw4
      have hbg := below_regrown wr dq2 osq2
      have HST2 := Lib.hid (own_below HO3.out hbg)
      have HBX2 := Lib.hid (HB2.out.trans (hbg.mono (by have h1 := HB2.out.size; have h2 := HB0.out; omega)))
      obtain ⟨Z, hZ⟩ : ∃ Z, Sort.grow (redrawn wr dq2) osq2 = Z := ⟨_, rfl⟩
      rw [hZ] at HST2 HBX2
      dsimp only
      rw [hZ]
      clear hbg hZ
      go_wp2_with fail
      exact HE.out _ _ _ _ _ _ _ _ _ _ _ _ _ _ _ _ _ _ _ _ _ _ _ _ _ _ _ _ _ _ _ _ _ _ _ _ _ _ _ _ _ _ _ _ _ _ _ _ _ _ _ _ _ _ _ _ _ _ _ _ _ _ _ _ _ _ _ _ _ _ _ _ _ _ _ _ _ _ _ _ _ _ _ _ _ _ _ _ _ _ _ _ _ _ _ _ _ _ _ _ _ _ _ _ _ _ _ _ _ _ _ _ _ _ _ _ _ _ _ _ _ _ _ _ _ _ _ _ _ _ _ _ HST2.out HBX2.out
end Go.Proofs.Yticiofpbijahbaa
end
