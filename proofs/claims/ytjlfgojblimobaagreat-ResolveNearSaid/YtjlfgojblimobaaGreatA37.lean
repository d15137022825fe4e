/- Line's last loop: what is removed and has no level yet has that of the one ahead of it. Conditions: the slice reads as a list; the row is there. -/
/- What Line does behind the making of its row. Conditions: the slices read as lists; the row is there. -/
/- The contract of package resolve's Line. Conditions: the slices read as lists, within their capacities, at most a thousand long. -/
/- Classes that Levels makes are none below 0. No program is read here. -/
/- A sequence's classes and marks as the code gathers them: two rows of one's own in memory. No condition. -/
import Derived.Test.YtjlfgojblimobaaGreatA36
import Derived.StillTailTactics
import Derived.BigRegion
import Derived.Deep.RegionHeld3
import Derived.Test.YtjlfgojblimobaaGreatA35
import Derived.Test.YtjlfgojblimobaaGreatA29
import Derived.Test.YtjlfgojblimobaaGreatA21
import Derived.Test.YtjlfgojblimobaaGreatA33
import Derived.Test.YtjlfgojblimobaaGreatA34
section
namespace Go.Proofs.YtjlfgojblimobaaGreat
open Go.RowKit
set_option maxRecDepth 100000

set_option maxHeartbeats 8000000 in
theorem ln_loop3 {c : Code} (hc : blockAt 4 lineBody = some c) {Q : Exit → Act → World → Prop} {A' B : Option Addr} {c' cb n m f G Lb Bx : Nat} {b : Int} {Lc Lv : List Int} {w wc : World} {ds : List Deferred} {t0 t2 t3 t4 t5 t6 t7 t9 t11 t13 t14 t15 t16 t17 t18 t19 t20 t21 t22 t23 t24 t25 t26 t27 t28 t29 t30 t31 t32 t33 t34 t35 t36 t37 t38 t39 t40 t41 t42 t43 t44 t45 t46 t47 t48 t49 t50 t51 t52 t53 t54 t55 t56 t57 t58 t59 t60 t61 t62 t63 t64 t65 t66 t67 t68 t69 t70 t71 t72 t73 t74 t75 t76 t77 t78 t79 t80 t81 t82 t83 t84 t85 t86 t87 t88 t92 t93 t94 t95 t96 t97 t98 t99 t100 t101 t102 t103 t104 t105 t106 t107 t108 t109 t110 t111 t112 t113 t114 : Value}
    (hRA : RdS .i64 w w.heap.size A' Lc) (hcl : Lc.length = m) (hvl : Lv.length = m) (hb : 0 ≤ b) (hLN : LnAt w G Lb Bx m b wc (M.go2 b Lc Lv)) (hm : m ≤ 1000)
    (hQ : ∀ (v16 v17 v91 v92 v93 v94 v95 v96 v97 v98 v99 v100 v101 v102 v103 v104 v105 v106 v107 v108 v109 v110 v111 v112 v113 : Value) (V : World), LnAt w G Lb Bx m b V (M.ln b b Lc Lv) → KpL G wc V → Q .normal ⟨(List.toArray (t0 :: (.slice B n cb) :: t2 :: t3 :: t4 :: t5 :: t6 :: t7 :: (.int .i64 f) :: t9 :: (.pointer (some ⟨Bx, 0, none⟩)) :: t11 :: (.pointer (some ⟨Lb, 0, none⟩)) :: t13 :: t14 :: t15 :: v16 :: v17 :: t18 :: t19 :: t20 :: t21 :: t22 :: t23 :: t24 :: t25 :: t26 :: t27 :: t28 :: t29 :: t30 :: t31 :: t32 :: t33 :: t34 :: t35 :: t36 :: t37 :: t38 :: t39 :: t40 :: t41 :: t42 :: t43 :: t44 :: t45 :: t46 :: t47 :: t48 :: t49 :: t50 :: t51 :: t52 :: t53 :: t54 :: t55 :: t56 :: t57 :: t58 :: t59 :: t60 :: t61 :: t62 :: t63 :: t64 :: t65 :: t66 :: t67 :: t68 :: t69 :: t70 :: t71 :: t72 :: t73 :: t74 :: t75 :: t76 :: t77 :: t78 :: t79 :: t80 :: t81 :: t82 :: t83 :: t84 :: t85 :: t86 :: t87 :: t88 :: (.slice A' m c') :: (.int .i64 m) :: v91 :: v92 :: v93 :: v94 :: v95 :: v96 :: v97 :: v98 :: v99 :: v100 :: v101 :: v102 :: v103 :: v104 :: v105 :: v106 :: v107 :: v108 :: v109 :: v110 :: v111 :: v112 :: v113 :: t114 :: [])), ds⟩ V) :
    c.wp Tryz.prog Q ⟨(List.toArray (t0 :: (.slice B n cb) :: t2 :: t3 :: t4 :: t5 :: t6 :: t7 :: (.int .i64 f) :: t9 :: (.pointer (some ⟨Bx, 0, none⟩)) :: t11 :: (.pointer (some ⟨Lb, 0, none⟩)) :: t13 :: t14 :: t15 :: t16 :: t17 :: t18 :: t19 :: t20 :: t21 :: t22 :: t23 :: t24 :: t25 :: t26 :: t27 :: t28 :: t29 :: t30 :: t31 :: t32 :: t33 :: t34 :: t35 :: t36 :: t37 :: t38 :: t39 :: t40 :: t41 :: t42 :: t43 :: t44 :: t45 :: t46 :: t47 :: t48 :: t49 :: t50 :: t51 :: t52 :: t53 :: t54 :: t55 :: t56 :: t57 :: t58 :: t59 :: t60 :: t61 :: t62 :: t63 :: t64 :: t65 :: t66 :: t67 :: t68 :: t69 :: t70 :: t71 :: t72 :: t73 :: t74 :: t75 :: t76 :: t77 :: t78 :: t79 :: t80 :: t81 :: t82 :: t83 :: t84 :: t85 :: t86 :: t87 :: t88 :: (.slice A' m c') :: (.int .i64 m) :: (.int .i64 0) :: t92 :: t93 :: t94 :: t95 :: t96 :: t97 :: t98 :: t99 :: t100 :: t101 :: t102 :: t103 :: t104 :: t105 :: t106 :: t107 :: t108 :: t109 :: t110 :: t111 :: t112 :: t113 :: t114 :: [])), ds⟩ wc := by
  simp [blockAt, lineBody, Tryz.f15] at hc
  subst hc
  have hlen : Lc.length = Lv.length := by omega
  have hgl : (M.go2 b Lc Lv).length = m := by rw [M.go2_len hlen, hcl]
  have hrl : (M.ln b b Lc Lv).length = m := by rw [M.ln_len hlen, hcl]
  have hGL : G ≠ Lb := hLN.ne.1
  have hLG : Lb ≠ G := fun e => hGL e.symm
  have hGB : G ≠ Bx := hLN.ne.2.1
  have hBG : Bx ≠ G := fun e => hGB e.symm
  have m1 : (m : Int) ≤ 1000 := by omega
  obtain ⟨Z, hZ⟩ : ∃ Z, M.go2 b Lc Lv = Z := ⟨_, rfl⟩
  obtain ⟨R, hR⟩ : ∃ R, M.ln b b Lc Lv = R := ⟨_, rfl⟩
  have HGO := Lib.hid (show ∀ (i : Nat) (c x z : Int), Lc[i]? = some c → Lv[i]? = some x → Z[i]? = some z → ∃ last', (i = 0 → last' = b) ∧ (0 < i → R[i - 1]? = some last') ∧ R[i]? = some (if M.removed c = true ∧ z = -1 then last' else z) from fun i c x z h1 h2 h3 => by
    rw [← hZ] at h3
    rw [← hR]
    exact M.go3_at hb hlen h1 h2 h3)
  rw [hZ] at hLN hgl
  rw [hR] at hrl hQ
  have HRA := Lib.hid hRA
  have HCL := Lib.hid (And.intro hcl (And.intro hvl (And.intro hgl hrl)))
  have HQ := Lib.hid hQ
  have HLN := Lib.hid hLN
  clear hRA hcl hvl hLN hQ hlen hgl hrl hZ hR
  go_wp2_with fail
  go_loopw [91] (fun v wr => ∃ k : Nat, v = .int .i64 k ∧ k ≤ m ∧ LnAt w G Lb Bx m b wr (R.take k ++ Z.drop k) ∧ KpL G wc wr) (fun v _ => m - (intOf v).toNat)
  case atStart => exact ⟨0, rfl, Nat.zero_le _, HLN.out, .refl _ _⟩
  case round =>
    obtain ⟨k, rfl, hk, hln, hkp⟩ := hrel
    rename World => wr
    have k0 : (0 : Int) ≤ k := by omega
    have HKP := Lib.hid hkp
    have HL := Lib.hid hln
    by_cases hlt : k < m
    · have k1 : (k : Int) < m := by omega
      obtain ⟨ad, c, rfl, hcc, hc, -⟩ := rd_at HRA.out hln.below (by rw [HCL.out.1]; exact hlt : k < Lc.length)
      obtain ⟨x, hx⟩ : ∃ x, Lv[k]? = some x := ⟨_, List.getElem?_eq_getElem (by rw [HCL.out.2.1]; exact hlt)⟩
      obtain ⟨z, hz⟩ : ∃ z, Z[k]? = some z := ⟨_, List.getElem?_eq_getElem (by rw [HCL.out.2.2.1]; exact hlt)⟩
      obtain ⟨la, g1, g2, g3⟩ := HGO.out k c x z hc hx hz
      have hlz : (R.take k).length = k := by rw [List.length_take, HCL.out.2.2.2]; omega
      have hzat : (R.take k ++ Z.drop k)[k]? = some z := by
        rw [List.getElem?_append_right (by rw [hlz]; exact Nat.le_refl _), hlz, Nat.sub_self, List.getElem?_drop, Nat.add_zero, hz]
      have hzd : Z.drop k = z :: Z.drop (k + 1) := by
        obtain ⟨hl', e⟩ := List.getElem?_eq_some_iff.1 hz
        rw [List.drop_eq_getElem_cons hl', e]
      have hnext : ∀ y, R[k]? = some y → R.take k ++ y :: Z.drop (k + 1) = R.take (k + 1) ++ Z.drop (k + 1) := fun y hy => by
        obtain ⟨hl', e⟩ := List.getElem?_eq_some_iff.1 hy
        rw [List.take_succ_eq_append_getElem hl', e, List.append_assoc]
        rfl
      have hc1 := hln.line
      have hc3 := hln.base
      have hc2 := hln.row.cell hzat
      have hf2 := hln.row.frozen (j := k)
      obtain ⟨q, hq⟩ : ∃ q, M.removed c = q := ⟨_, rfl⟩
      have HRM := Lib.hid (fun W => rvRemoved_any c W)
      rw [hq] at HRM g3
      by_cases hgone : q = true ∧ z = -1
      · obtain ⟨rfl, rfl⟩ := hgone
        rw [if_pos ⟨rfl, rfl⟩] at g3
        obtain ⟨j, hj⟩ : ∃ j : Int, (k : Int) - 1 = j := ⟨_, rfl⟩
        have hw1 : IntKind.i64.wrap ((k : Int) - 1) = j := by rw [IntKind.wrap_i64]; omega
        have hw2 : IntKind.i64.wrap j = j := by rw [IntKind.wrap_i64]; omega
        have hat : M.atI (R.take k ++ Z.drop k) j b = la := by
          unfold M.atI
          by_cases h0 : 0 < k
          · have e1 : j.toNat = k - 1 := by omega
            rw [if_pos ⟨by omega, by rw [hln.len]; omega⟩, List.getD_eq_getElem?_getD, e1, List.getElem?_append_left (by omega), List.getElem?_take, if_pos (by omega), g2 h0]
            rfl
          · rw [if_neg (by omega), g1 (by omega)]
        have HAT := rvAtI_any (some ⟨G, 0, none⟩) m m j b (R.take k ++ Z.drop k) wr.drew hln.drew.row.reads hln.len hm
        rw [hat] at HAT
        have HAT := Lib.hid (HAT.mono fun r w' (h : _ ∧ wr.drew = w') => And.intro h.1 h.2.symm)
        have hst := hln.drew.set k la
        rw [List.set_append_right _ _ (by rw [hlz]; exact Nat.le_refl _), hlz, Nat.sub_self, hzd, List.set_cons_zero, hnext _ g3] at hst
        have HST := Lib.hid hst
        have HK2 := Lib.hid (hkp.trans (show KpL G wr (wr.drew.setCell ⟨G, k, none⟩ (.int .i64 la)) from ⟨(KpL.set wr.drew G k (.int .i64 la)).size, (KpL.set wr.drew G k (.int .i64 la)).block⟩))
        clear hln hkp hc hx hz g1 g2 g3 hlz hzat hzd hnext hq hat hst
        go_wp2_with fail
        refine (HRM.out _).mono ?_
        rintro r w5 ⟨rfl, rfl⟩
        go_wp2_with fail
        go_still_tail 8, (by kernel_rfl)
        still_call HAT.out
        repeat still_step
        refine wpStill_nil ?_
        go_wp2_with fail
        go_roundw
        case rel => exact ⟨k + 1, by go_num, by omega, HST.out, HK2.out⟩
        case measure => simp [intOf]; omega
      · rw [if_neg hgone] at g3
        have hst := hln
        rw [hzd, hnext _ g3] at hst
        have HST := Lib.hid hst
        cases q with
        | false =>
          clear hln hkp hc hx hz g1 g2 g3 hlz hzat hzd hnext hq hst hgone
          go_wp2_with fail
          refine (HRM.out _).mono ?_
          rintro r w5 ⟨rfl, rfl⟩
          go_wp2_with fail
          go_roundw
          case rel => exact ⟨k + 1, by go_num, by omega, HST.out, HKP.out⟩
          case measure => simp [intOf]; omega
        | true =>
          have hzz : (z == -1) = false := by
            rw [beq_eq_false_iff_ne]
            exact fun e => hgone ⟨rfl, e⟩
          clear hln hkp hc hx hz g1 g2 g3 hlz hzat hzd hnext hq hst hgone
          go_wp2_with fail
          refine (HRM.out _).mono ?_
          rintro r w5 ⟨rfl, rfl⟩
          go_wp2_with fail
          go_roundw
          case rel => exact ⟨k + 1, by go_num, by omega, HST.out, HKP.out⟩
          case measure => simp [intOf]; omega
    · obtain rfl : m = k := by omega
      have k1 : ¬ (m : Int) < m := by omega
      have h := hln
      rw [List.take_of_length_le (by rw [HCL.out.2.2.2]; exact Nat.le_refl _), List.drop_of_length_le (by rw [HCL.out.2.2.1]; exact Nat.le_refl _), List.append_nil] at h
      have HE := Lib.hid h
      clear hln hkp h
      go_wp2_with fail
      exact HQ.out _ _ _ _ _ _ _ _ _ _ _ _ _ _ _ _ _ _ _ _ _ _ _ _ _ _ HE.out HKP.out
end Go.Proofs.YtjlfgojblimobaaGreat
end

section
namespace Go.Proofs.YtjlfgojblimobaaGreat
open Go.RowKit
set_option maxRecDepth 100000

set_option maxHeartbeats 8000000 in
theorem ln_rest {c : Code} (hc : afterAt 4 lineBody = some c) {ok : Prop} {A' B : Option Addr} {c' cb n m f G Lb Bx : Nat} {b : Int} {Lc Lv lv : List Int} {w wc : World} {t0 t2 t3 t4 t5 t6 t7 t9 t13 t14 t15 t16 t17 t18 t19 t20 t21 t22 t23 t24 t25 t26 t27 t28 t29 t30 t31 t32 t33 t34 t35 t36 t37 t38 t39 t40 t41 t42 t43 t44 t45 t46 t47 t48 t49 t50 t51 t52 t53 t54 t55 t56 t57 t58 t59 t60 t61 t62 t63 t64 t65 t66 t67 t68 t69 t70 t71 t72 t73 t74 t75 t76 t77 t78 t79 t80 t81 t82 t83 t84 t85 t86 t87 t88 t89 t90 t91 t92 t93 t94 t95 t96 t97 t98 t99 t100 t101 t102 t103 t104 t105 t106 t107 t108 t109 t110 t111 t112 t113 t114 : Value}
    (hRA : RdS .i64 w w.heap.size A' Lc) (hr2 : RdS .i64 w w.heap.size B lv) (hn : lv.length = n) (hcl : Lc.length = m) (hvl : Lv.length = m) (hb : 0 ≤ b) (hLN : LnAt w G Lb Bx m b wc (List.replicate m 0)) (hm : m ≤ 1000) (hn1 : n ≤ 1000) (fm : f + m ≤ n)
    (hV : ∀ (k : Nat) (x : Int), Lv[k]? = some x → lv[f + k]? = some x) (hok : ok) :
    c.wp Tryz.prog (bodyPostM Fence.wide 7 Tryz.prog Tryz.f15 (LevsOut ok (M.ln b b Lc Lv) w)) ⟨(List.toArray (t0 :: (.slice B n cb) :: t2 :: t3 :: t4 :: t5 :: t6 :: t7 :: (.int .i64 f) :: t9 :: (.pointer (some ⟨Bx, 0, none⟩)) :: (.slice A' m c') :: (.pointer (some ⟨Lb, 0, none⟩)) :: t13 :: t14 :: t15 :: t16 :: t17 :: t18 :: t19 :: t20 :: t21 :: t22 :: t23 :: t24 :: t25 :: t26 :: t27 :: t28 :: t29 :: t30 :: t31 :: t32 :: t33 :: t34 :: t35 :: t36 :: t37 :: t38 :: t39 :: t40 :: t41 :: t42 :: t43 :: t44 :: t45 :: t46 :: t47 :: t48 :: t49 :: t50 :: t51 :: t52 :: t53 :: t54 :: t55 :: t56 :: t57 :: t58 :: t59 :: t60 :: t61 :: t62 :: t63 :: t64 :: t65 :: t66 :: t67 :: t68 :: t69 :: t70 :: t71 :: t72 :: t73 :: t74 :: t75 :: t76 :: t77 :: t78 :: t79 :: t80 :: t81 :: t82 :: t83 :: t84 :: t85 :: t86 :: t87 :: t88 :: t89 :: t90 :: t91 :: t92 :: t93 :: t94 :: t95 :: t96 :: t97 :: t98 :: t99 :: t100 :: t101 :: t102 :: t103 :: t104 :: t105 :: t106 :: t107 :: t108 :: t109 :: t110 :: t111 :: t112 :: t113 :: t114 :: [])), []⟩ wc := by
  simp [afterAt, lineBody, Tryz.f15] at hc
  subst hc
  have HRA := Lib.hid hRA
  have HR2 := Lib.hid hr2
  have HLN := Lib.hid hLN
  have HV := Lib.hid hV
  have HL := Lib.hid (And.intro hn (And.intro hcl hvl))
  have HOK := Lib.hid hok
  have HRL := Lib.hid (show (M.ln b b Lc Lv).length = m by rw [M.ln_len (by omega), hcl])
  clear hRA hr2 hLN hV hn hcl hvl hok
  go_upto_block 0 with fail
  refine ln_loop1 (by simp [blockAt, lineBody, Tryz.f15]) HRA.out HR2.out HL.out.1 HL.out.2.1 HL.out.2.2 HLN.out hm hn1 fm HV.out ?_
  intro v13 v14 v62 v63 v64 v65 v66 v67 v68 v69 v70 v71 v72 v73 v74 v75 v76 v77 v78 v79 v80 v81 V hV
  obtain ⟨V1, hV1, hb1, s1, z1⟩ := S12.new_slice V (.slice A' m c') 22
  have HL1 := Lib.hid (hV.keep hb1 hV.below.size hV.row.lt hV.ne.2.2.1 hV.ne.2.2.2)
  have HC := Lib.hid (cbased_any A' c' m V)
  rw [hV1] at HC
  have hs1 : V.heap.size < V1.heap.size := by omega
  clear hV hb1 hV1 z1
  go_upto_block 2 with (refine HC.out.mono ?_; rintro r w1 ⟨rfl, rfl⟩)
  refine ln_range (c' := c') (by simp [blockAt, lineBody, Tryz.f15]) HRA.out HL.out.2.1 HL.out.2.2 HL1.out s1 hs1 hm ?_
  intro D V2 hV2 hGD hD
  have HL2 := Lib.hid hV2
  have HD := Lib.hid (And.intro hGD hD)
  clear hV2 hGD hD s1 hs1
  go_upto_block 4 with fail
  refine ln_loop3 (B := B) (n := n) (f := f) (cb := cb) (c' := c') (by simp [blockAt, lineBody, Tryz.f15]) HRA.out HL.out.2.1 HL.out.2.2 hb HL2.out hm ?_
  intro u16 u17 u91 u92 u93 u94 u95 u96 u97 u98 u99 u100 u101 u102 u103 u104 u105 u106 u107 u108 u109 u110 u111 u112 u113 V3 hV3 hkp
  have hD3 := (hkp.block D (by have := HD.out.1; omega) (Array.getElem?_eq_some_iff.1 HD.out.2).1).trans HD.out.2
  have hln := hV3.line
  have HL3 := Lib.hid hV3
  have HK := Lib.hid hD3
  have HGD := Lib.hid HD.out.1
  clear hV3 hkp hD3 HD
  go_wp2_with fail
  refine ⟨by simp, .inl ⟨_, _, rfl, run_takeDeferred HK.out, ?_⟩⟩
  have hG := HL3.out.lo.1
  have hbel := HL3.out.below.trans (below_put V3 (.deferred none) (by have := HGD.out; omega : w.heap.size ≤ D))
  have hrow : S12.BlockAt (V3.putObj D (.deferred none)) G 3 (M.ln b b Lc Lv) := (World.putObj_heap_other (by have := HGD.out; omega)).trans HL3.out.row
  exact ⟨_, results_tmp2 rfl _ _ _, hbel, fun _ => ⟨some ⟨G, 0, none⟩, m, by rw [HRL.out]; rfl, hrow.reads, by rw [HRL.out]; exact Nat.le_refl _⟩, fun h => absurd HOK.out h⟩
end Go.Proofs.YtjlfgojblimobaaGreat
end

section
namespace Go.Proofs.YtjlfgojblimobaaGreat
open Go.RowKit
set_option maxRecDepth 100000

set_option maxHeartbeats 8000000 in
theorem cline_ok (A B : Option Addr) (ca cb n f t : Nat) (b : Int) (l lv : List Int) (w : World) (hr : RdS .i64 w w.heap.size A l) (hr2 : RdS .i64 w w.heap.size B lv) (hn : l.length = n) (hm : lv.length = n) (hl : n ≤ 1000) (hft : f ≤ t) (htn : t ≤ n) (hb : b = 0 ∨ b = 1) (hca : n ≤ ca) :
    Calls Tryz.prog 15 #[.slice A n ca, .slice B n cb, .agg #[.int .i64 f, .int .i64 t, .int .i64 b]] w (LevsOut (M.lineOk l lv f t b) (M.line l lv f t b) w) := by
  obtain ⟨W1, hW1, hb1, e0, e1, e2, hgt⟩ := S12.new_three w f t b 36
  obtain ⟨W2, hW2, hb2, s2, z2⟩ := S12.new_slice W1 (.int .i64 b) 3
  obtain ⟨i0, hi, hz0, hz1, hz2⟩ := info_parts Tryz.infoInt13
  have hmk0 := fun (k : Nat) (hk : k ≤ 1000) w' => run_make (P := Tryz.prog) w' 25 3 i0 (.int .i64 0) Tryz.underlying25 hi hz0 .i64 .i64 k k (by omega) (Int.le_refl _) (by rw [hz2]; omega) (by omega)
  simp only [Int.toNat_natCast, hz1, Nat.mul_one] at hmk0
  have n1 : (n : Int) ≤ 1000 := by omega
  have t1 : (t : Int) ≤ n := by omega
  have f1 : (f : Int) ≤ t := by omega
  have f0 : (0 : Int) ≤ f := by omega
  have d1 : decide ((f : Int) < 0) = false := by simp
  have d2 : decide (t < f) = false := by simp; omega
  have d3 : decide (n < t) = false := by simp; omega
  have d6 : decide ((t : Int) < f) = false := by simp; omega
  have d7 : decide ((n : Int) < t) = false := by simp; omega
  have bn : ((n : Int) != (n : Int)) = false := by simp
  have hs01 := S12.M.side_is hb
  have hR13 : ∀ c, n ≤ c → RdS .i64 w w.heap.size (if c = f then A else A.map (·.add f)) ((l.take t).drop f) := fun c hc => (hr.take t).cut (by rw [List.length_take]; omega)
  have hLA : ∀ (G Lb : Nat) (V : World), Below W2.heap.size W2 V → S12.BlockAt V G 3 (List.replicate (t - f) 0) → V.cell? ⟨Lb, 0, none⟩ = some (.slice (some ⟨G, 0, none⟩) (t - f) (t - f)) → W2.heap.size ≤ G → W2.heap.size ≤ Lb → G ≠ Lb → Lb < V.heap.size → LnAt w G Lb W1.heap.size (t - f) b V.drew.drew (List.replicate (t - f) 0) := fun G Lb V hb hG hL g1 g2 g3 g4 => by
    have hbw := hb1.size
    have hz2 := z2
    have hgt' := hgt
    have hlt : W1.heap.size < V.heap.size := by have h2 : W2.heap.size ≤ V.heap.size := hb.size; rw [z2] at h2; omega
    refine LnAt.drew (LnAt.drew ⟨(hb1.trans (hb2.mono hb1.size)).trans (hb.mono (show w.heap.size ≤ W2.heap.size by omega)), hG, List.length_replicate, hL, ?_, ⟨by omega, by omega, by omega⟩, g3, by omega, g4, hlt⟩)
    exact (hb.cell (p := ⟨W1.heap.size, 0, none⟩) (by show W1.heap.size < W2.heap.size; omega)).trans s2
  obtain ⟨V1, hV1, p1, p2, p3, p4⟩ := two_makes1 (t - f) W2
  have hL1 := hLA W2.heap.size (W2.heap.size + 1) V1 p1 p2 p3 (by omega) (by omega) (by omega) (by omega)
  obtain ⟨V2, hV2, q1, q2, q3, q4⟩ := two_makes2 (t - f) W2
  have hL2 := hLA (W2.heap.size + 1) W2.heap.size V2 q1 q2 q3 (by omega) (by omega) (by omega) (by omega)
  rw [← hV1] at hL1
  rw [← hV2] at hL2
  have hcl : ((l.take t).drop f).length = t - f := by rw [List.length_drop, List.length_take]; omega
  have hvl : ((lv.take t).drop f).length = t - f := by rw [List.length_drop, List.length_take]; omega
  have hV : ∀ (k : Nat) (x : Int), ((lv.take t).drop f)[k]? = some x → lv[f + k]? = some x := fun k x hx => by
    rw [List.getElem?_drop, List.getElem?_take] at hx
    split at hx
    · exact hx
    · cases hx
  have hfin : M.line l lv f t b = M.ln b b ((l.take t).drop f) ((lv.take t).drop f) := by unfold M.line; rw [Int.toNat_natCast, Int.toNat_natCast]
  rw [hfin]
  have HL1 := Lib.hid hL1
  have HL2 := Lib.hid hL2
  have HV := Lib.hid hV
  have HCL := Lib.hid (And.intro hcl hvl)
  have HR2 := Lib.hid hr2
  have HM := Lib.hid hm
  have HOK := Lib.hid (show M.lineOk l lv f t b from ⟨by omega, by omega, by omega, by omega, by omega, by omega⟩)
  have hb0 : 0 ≤ b := by omega
  clear hLA hV1 hV2 p1 p2 p3 p4 q1 q2 q3 q4 hL1 hL2 hcl hvl hV hfin hr2 hm hb
  cases A with
  | none =>
    have hn0 : n = 0 := by
      apply Classical.byContradiction
      intro hne
      obtain ⟨ad, c, h, -⟩ := rd_at hr (Below.refl _ _) (by omega : 0 < l.length)
      cases h
    obtain rfl : t = 0 := by omega
    obtain rfl : f = 0 := by omega
    subst hn0
    have hw0 : IntKind.i64.wrap 0 = 0 := by rw [IntKind.wrap_i64]; omega
    have hmk := hmk0 0 (by omega)
    rw [show ((0 : Nat) : Int) = 0 from rfl] at hmk hW1 e0 e1
    have HRA := Lib.hid (show RdS .i64 w w.heap.size none ((l.take 0).drop 0) from fun j x hx => by simp at hx)
    clear hmk0 hr hR13 hb1 hb2 z2 hn
    rcases hs01 with hx | ⟨hx, hy⟩
    all_goals
      refine (callsIn_wide (n := 7)).1 ?_
      refine callsIn_of_wp_marks Tryz.func15 rfl trivial ?_ rfl
      simp only [Tryz.ntmps15, List.size_toArray, List.length_cons, List.length_nil, Nat.reduceAdd, Nat.reduceSub, Array.replicate_succ, Array.replicate_zero, List.push_toArray, List.append_toArray, List.nil_append, List.cons_append]
      refine wpIn_wide.2 ?_
      go_wp2_with fail
      go_region
      go_wp2_with fail
      go_region_held3 (fun w' => w'.cell? ⟨W1.heap.size, 0, none⟩ = some (.int .i64 b)) (first | go_keep) (first | fail)
      · refine (by assumption : ∀ (a : Act) (x : World), Code.wp Tryz.prog _ _ a x → _) _ _ ?_
        exact ln_rest (by simp [afterAt, lineBody, Tryz.f15]) HRA.out HR2.out HM.out HCL.out.1 HCL.out.2 hb0 HL1.out (by omega) hl (by omega) HV.out HOK.out
      · refine (by assumption : ∀ (a : Act) (x : World), Code.wp Tryz.prog _ _ a x → _) _ _ ?_
        exact ln_rest (by simp [afterAt, lineBody, Tryz.f15]) HRA.out HR2.out HM.out HCL.out.1 HCL.out.2 hb0 HL2.out (by omega) hl (by omega) HV.out HOK.out
  | some ad =>
    have hw0 : IntKind.i64.wrap ((t : Int) - f) = (t : Int) - f := by rw [IntKind.wrap_i64]; omega
    have hmk := hmk0 (t - f) (by omega)
    rw [show ((t - f : Nat) : Int) = (t : Int) - f by omega] at hmk
    have hct : t ≤ ca := by omega
    have hct2 : (t : Int) ≤ ca := by omega
    obtain ⟨A', hA'⟩ : ∃ A', (if ca = f then some ad else some (ad.add f)) = A' := ⟨_, rfl⟩
    have HRA := Lib.hid (show RdS .i64 w w.heap.size A' ((l.take t).drop f) by rw [← hA']; exact hR13 ca hca)
    clear hmk0 hr hR13 hb1 hb2 z2 hn
    rcases hs01 with hx | ⟨hx, hy⟩
    all_goals
      refine (callsIn_wide (n := 7)).1 ?_
      refine callsIn_of_wp_marks Tryz.func15 rfl trivial ?_ rfl
      simp only [Tryz.ntmps15, List.size_toArray, List.length_cons, List.length_nil, Nat.reduceAdd, Nat.reduceSub, Array.replicate_succ, Array.replicate_zero, List.push_toArray, List.append_toArray, List.nil_append, List.cons_append]
      refine wpIn_wide.2 ?_
      go_wp2_with fail
      go_region
      go_wp2_with fail
      go_region_held3 (fun w' => w'.cell? ⟨W1.heap.size, 0, none⟩ = some (.int .i64 b)) (first | go_keep) (first | fail)
      · refine (by assumption : ∀ (a : Act) (x : World), Code.wp Tryz.prog _ _ a x → _) _ _ ?_
        exact ln_rest (by simp [afterAt, lineBody, Tryz.f15]) HRA.out HR2.out HM.out HCL.out.1 HCL.out.2 hb0 HL1.out (by omega) hl (by omega) HV.out HOK.out
      · refine (by assumption : ∀ (a : Act) (x : World), Code.wp Tryz.prog _ _ a x → _) _ _ ?_
        exact ln_rest (by simp [afterAt, lineBody, Tryz.f15]) HRA.out HR2.out HM.out HCL.out.1 HCL.out.2 hb0 HL2.out (by omega) hl (by omega) HV.out HOK.out
theorem cline_no (A B : Option Addr) (ca cb n m : Nat) (l lv : List Int) (f t b : Int) (w : World) (hn : l.length = n) (hm : lv.length = m) (hl : n ≤ 1000) (hl2 : m ≤ 1000) (h : ¬ M.lineOk l lv f t b) :
    Calls Tryz.prog 15 #[.slice A n ca, .slice B m cb, .agg #[.int .i64 f, .int .i64 t, .int .i64 b]] w (LevsOut (M.lineOk l lv f t b) (M.line l lv f t b) w) := by
  obtain ⟨W1, hW1, hb1, e0, e1, e2, hgt⟩ := S12.new_three w f t b 36
  obtain ⟨W2, hW2, hb2, s2, z2⟩ := S12.new_slice W1 (.int .i64 b) 3
  have HNO := Lib.hid h
  have HB := Lib.hid ((hb1.trans (hb2.mono hb1.size)).drew)
  have h1 : (n : Int) ≤ 1000 := by omega
  have h2 : (m : Int) ≤ 1000 := by omega
  have hx : n ≠ m ∨ f < 0 ∨ t < f ∨ (n : Int) < t ∨ b < 0 ∨ 1 < b := by
    unfold M.lineOk at h
    omega
  clear h hn hm hb1 hb2 z2
  by_cases hnm : n = m
  · subst hnm
    have bn : ((n : Int) != (n : Int)) = false := by simp
    have hx2 : f < 0 ∨ t < f ∨ (n : Int) < t ∨ ((b != 0) = true ∧ (b != 1) = true) := by
      rw [bne_iff_ne, bne_iff_ne]
      omega
    have HX := Lib.hid hx2
    clear hx hx2
    go_enter Tryz.func15, Tryz.ntmps15
    go_wp2_with fail
    go_region
    go_wp2_with fail
    all_goals first
      | (go_returns; exact ⟨HB.out, fun h => absurd h HNO.out, fun _ => rfl⟩)
      | (exfalso; have := HX.out; simp_all; done)
      | (exfalso; have := HX.out; simp_all; omega)
  · have bn : ((n : Int) != (m : Int)) = true := by simp; omega
    clear hx hnm
    go_enter Tryz.func15, Tryz.ntmps15
    go_wp2_with fail
    go_region
    go_wp2_with fail
    go_returns
    exact ⟨HB.out, fun h => absurd h HNO.out, fun _ => rfl⟩
theorem cline_any (A B : Option Addr) (ca cb n m : Nat) (f t b : Int) (l lv : List Int) (w : World) (hr : RdS .i64 w w.heap.size A l) (hr2 : RdS .i64 w w.heap.size B lv) (hn : l.length = n) (hm : lv.length = m) (hl : n ≤ 1000) (hl2 : m ≤ 1000) (hca : n ≤ ca) (_ : m ≤ cb) :
    Calls Tryz.prog 15 #[.slice A n ca, .slice B m cb, .agg #[.int .i64 f, .int .i64 t, .int .i64 b]] w (LevsOut (M.lineOk l lv f t b) (M.line l lv f t b) w) := by
  by_cases h : M.lineOk l lv f t b
  · obtain ⟨h1, h2, h3, h4, h5, h6⟩ := h
    obtain ⟨f', rfl⟩ : ∃ k : Nat, f = k := ⟨f.toNat, by omega⟩
    obtain ⟨t', rfl⟩ : ∃ k : Nat, t = k := ⟨t.toNat, by omega⟩
    obtain rfl : m = n := by omega
    exact cline_ok A B ca cb m f' t' b l lv w hr hr2 hn hm hl (by omega) (by omega) (by omega) hca
  · exact cline_no A B ca cb n m l lv f t b w hn hm hl hl2 h
end Go.Proofs.YtjlfgojblimobaaGreat
end

section
namespace Go.Proofs.YtjlfgojblimobaaGreat.M

def Ovs (m : Mc) : Prop := ∀ x ∈ m.s, 0 ≤ x.ov
section
variable {m : Mc} {b odd c : Int} {l : List Int}
theorem Ovs.push (h : Ovs m) {e : Ent} (he : 0 ≤ e.ov) : ∀ x ∈ e :: m.s, 0 ≤ x.ov := fun x hx => by
  rcases List.mem_cons.1 hx with rfl | hx
  · exact he
  · exact h x hx
theorem Ovs.embed (h : Ovs m) (odd : Int) {ov : Int} (ho : 0 ≤ ov) : Ovs (m.embed odd ov) := by
  unfold Mc.embed
  split
  · exact h.push ho
  · split <;> exact h
theorem Ovs.isolate (h : Ovs m) (odd : Int) : Ovs (m.isolate odd) := by
  unfold Mc.isolate
  split
  · exact h.push (by show (0 : Int) ≤ 13; omega)
  · exact h
theorem Ovs.closed (h : Ovs m) : Ovs m.closed := by
  unfold Mc.closed
  split
  · exact h
  · split
    · exact h
    · exact fun x hx => h x ((List.dropWhile_sublist _).subset (List.mem_of_mem_tail hx))
theorem Ovs.pop (h : Ovs m) : Ovs m.pop := by
  unfold Mc.pop
  split
  · exact h
  · split
    · exact h
    · split
      · exact fun x hx => h x (List.mem_of_mem_tail hx)
      · exact h
theorem Ovs.fresh : Ovs (fresh b) := fun x hx => by
  obtain rfl := List.mem_singleton.1 hx
  show (0 : Int) ≤ 13
  omega
theorem Ovs.does (h : Ovs m) : Ovs (m.does c) := by
  unfold Mc.does
  split
  · exact h.embed _ (by decide)
  · split
    · exact h.embed _ (by decide)
    · split
      · exact h.embed _ (by decide)
      · split
        · exact h.embed _ (by decide)
        · split
          · exact h.pop
          · exact h
theorem Ovs.turn (h : Ovs m) : Ovs (m.turn b odd c) := by
  unfold Mc.turn
  split
  · exact h.does
  · split
    · exact Ovs.fresh
    · split
      · exact h.closed
      · split
        · exact h.isolate _
        · exact h
theorem known_pos : 0 ≤ known c := by unfold known; split <;> omega
theorem Ovs.top (h : Ovs m) : 0 ≤ m.top.ov := by
  unfold Mc.top
  cases hs : m.s with
  | nil => decide
  | cons e r => exact h e (by rw [hs]; simp)
theorem cls_pos (h : Ovs m) (hc : 0 ≤ c) : 0 ≤ m.cls c := by
  unfold Mc.cls
  split
  · exact hc
  · split
    · exact hc
    · split
      · unfold Mc.at_
        split
        · exact h.closed.top
        · exact h.top
      · exact hc
theorem clsOf_pos : ∀ x ∈ clsOf l b, 0 ≤ x := by
  have key : ∀ (l : List Int) (m : Mc), Ovs m → ∀ x ∈ (run b m l).map Prod.snd, 0 ≤ x := fun l => by
    induction l with
    | nil => intro m _ x hx; simp [run] at hx
    | cons c r ih =>
      intro m hm x hx
      have hx2 : x ∈ m.cls (known c) :: (run b (m.turn b (dir (known c) r) (known c)) r).map Prod.snd := hx
      rcases List.mem_cons.1 hx2 with rfl | hx2
      · exact cls_pos hm known_pos
      · exact ih _ hm.turn x hx2
  exact key l _ Ovs.fresh
theorem sd_or (a b : Int) : sd a b = 0 ∨ sd a b = 1 := by unfold sd; split <;> simp
theorem seqs_fit {s : Sq} (hb : b = 0 ∨ b = 1) (hs : s ∈ seqs l (levs l b) b) : (s.fi = 0 ∨ s.fi = 1) ∧ (s.la = 0 ∨ s.la = 1) ∧ (0 ≤ s.lv ∧ s.lv ≤ 125) ∧ s.pl.length ≤ l.length ∧ ∀ p ∈ s.pl, ∃ j : Nat, p = j ∧ j < l.length := by
  have hok := seqs_ok hb hs
  have hpl : ∀ p ∈ s.pl, ∃ j : Nat, p = j ∧ j < l.length := fun p hp => by
    obtain ⟨j, e, hj⟩ := hok.at_ p hp
    exact ⟨j, e, by have := (List.getElem?_eq_some_iff.1 hj).1; rwa [levs_len] at this⟩
  refine ⟨?_, ?_, ?_, ?_, hpl⟩
  · unfold seqs sqs at hs
    obtain ⟨i, -, rfl⟩ := List.mem_map.1 hs
    exact sd_or _ _
  · unfold seqs sqs at hs
    obtain ⟨i, -, rfl⟩ := List.mem_map.1 hs
    exact sd_or _ _
  · cases hp : s.pl with
    | nil => exact absurd hp hok.ne
    | cons p r =>
      obtain ⟨j, hpj, hj⟩ := hok.at_ p (by rw [hp]; simp)
      have hjl : j < l.length := by have := (List.getElem?_eq_some_iff.1 hj).1; rwa [levs_len] at this
      rcases levs_deep (show b ≤ 125 by omega) (List.getElem?_eq_getElem hjl) hj with ⟨h1, h2⟩ | ⟨-, h2, h3⟩
      · obtain ⟨k, hk⟩ := List.mem_iff_getElem?.1 hs
        have hcnt := seqs_count l hb (List.getElem?_eq_getElem hjl)
        rw [if_pos h1] at hcnt
        have hm : (j : Int) ∈ (seqs l (levs l b) b).flatMap (·.pl) := List.mem_flatMap.2 ⟨s, hs, by rw [hp, ← hpj]; simp⟩
        have := List.count_pos_iff.2 hm
        omega
      · omega
  · obtain ⟨k, hk⟩ := List.mem_iff_getElem?.1 hs
    have := sq_len (Nat.le_refl _) hk
    rwa [levs_len] at this
theorem paraTo_next {cs out : List Int} {ms : List (Int × Int)} {ss : List Sq} {s : Sq} {i : Nat} (h : ss[i]? = some s) : paraTo cs ms (ss.take (i + 1)) out = put (paraTo cs ms (ss.take i) out) s.pl (seqN cs ms s) := by
  obtain ⟨hi, rfl⟩ := List.getElem?_eq_some_iff.1 h
  unfold paraTo
  rw [List.take_succ_eq_append_getElem hi, List.foldl_append]
  rfl
theorem put_next {out pl n : List Int} {p x : Int} {k : Nat} (hp : pl[k]? = some p) (hx : n[k]? = some x) : put out (pl.take (k + 1)) (n.take (k + 1)) = (put out (pl.take k) (n.take k)).set p.toNat x := by
  induction k generalizing out pl n with
  | zero =>
    cases pl with
    | nil => simp at hp
    | cons q pl =>
      cases n with
      | nil => simp at hx
      | cons y n =>
        simp at hp hx
        subst hp hx
        cases pl <;> cases n <;> rfl
  | succ k ih =>
    cases pl with
    | nil => simp at hp
    | cons q pl =>
      cases n with
      | nil => simp at hx
      | cons y n =>
        show put (out.set q.toNat y) (pl.take (k + 1)) (n.take (k + 1)) = (put (out.set q.toNat y) (pl.take k) (n.take k)).set p.toNat x
        exact ih (by simpa using hp) (by simpa using hx)
end
end Go.Proofs.YtjlfgojblimobaaGreat.M
end

section
namespace Go.Proofs.YtjlfgojblimobaaGreat
open Go.RowKit
set_option maxRecDepth 100000

noncomputable def seqBody : Code := (Tryz.f22.body).getD .skip
structure SqAt2 (n0 g1 g2 P : Nat) (wc W : World) (C : List Int) (Mk : List (Int × Int)) : Prop where
  kp : KpX (fun k => k = g1 ∨ k = g2) wc W
  own1 : W.ownsRow n0 39 1 (.slice (some ⟨g1, 0, none⟩) P P) P (C.map (Value.int .i64))
  own2 : W.ownsRow n0 53 2 (.slice (some ⟨g2, 0, none⟩) P P) P (S11.cells2 Mk)
  ne : g1 ≠ g2
  lo : n0 ≤ g1 ∧ n0 ≤ g2 ∧ g1 < W.heap.size ∧ g2 < W.heap.size
theorem cells2_set {l : List (Int × Int)} {k : Nat} {a b : Int} (hk : k < l.length) : ((S11.cells2 l).set (k * 2) (.int .i64 a)).set (k * 2 + 1) (.int .i64 b) = S11.cells2 (l.set k (a, b)) := by
  induction l generalizing k with
  | nil => simp at hk
  | cons e r ih =>
    cases k with
    | zero => rfl
    | succ k =>
      have h1 : (k + 1) * 2 = k * 2 + 1 + 1 := by omega
      rw [h1]
      show Value.int .i64 e.1 :: Value.int .i64 e.2 :: _ = Value.int .i64 e.1 :: Value.int .i64 e.2 :: _
      congr 2
      exact ih (by simpa using hk)
theorem SqAt2.set {n0 g1 g2 P k : Nat} {wc W : World} {C : List Int} {Mk : List (Int × Int)} (h : SqAt2 n0 g1 g2 P wc W C Mk) (hM : Mk.length = P) (hk : k < P) (c a b : Int) :
    SqAt2 n0 g1 g2 P wc (((W.setCell ⟨g1, k, none⟩ (.int .i64 c)).setCell ⟨g2, k * 2, none⟩ (.int .i64 a)).setCell ⟨g2, k * 2 + 1, none⟩ (.int .i64 b)) (C.set k c) (Mk.set k (a, b)) := by
  have t1 := (S12.Turned.refl W g1).setCell k (.int .i64 c)
  have t2 := (S12.Turned.refl (W.setCell ⟨g1, k, none⟩ (.int .i64 c)) g2).setCell (k * 2) (.int .i64 a)
  have t3 := t2.setCell (k * 2 + 1) (.int .i64 b)
  have o1 := (World.ownsRow.stored h.own1 k (.int .i64 c)).1
  rw [← List.map_set] at o1
  have o2 := World.ownsRow.kept h.own2 (row := some g1) ⟨t1.os, t1.tape, t1.output, Nat.le_of_eq t1.size.symm, fun b hb hne => t1.block b (fun e => hne (by rw [e]))⟩ (.inr (by intro e; injection e with e; exact h.ne e.symm))
  have o3 := (World.ownsRow.stored (World.ownsRow.stored o2 (k * 2) (.int .i64 a)).1 (k * 2 + 1) (.int .i64 b)).1
  rw [cells2_set (by omega)] at o3
  have o4 := World.ownsRow.kept o1 (row := some g2) ⟨t3.os, t3.tape, t3.output, Nat.le_of_eq t3.size.symm, fun b hb hne => t3.block b (fun e => hne (by rw [e]))⟩ (.inr (by intro e; injection e with e; exact h.ne e))
  exact ⟨(h.kp.trans (.of_turned t1 (.inl rfl))).trans (.of_turned t3 (.inr rfl)), o4, o3, h.ne, h.lo.1, h.lo.2.1, by rw [t3.size, t1.size]; exact h.lo.2.2.1, by rw [t3.size, t1.size]; exact h.lo.2.2.2⟩
theorem own_below' {w w1 : World} {base n s : Nat} {t : TypeId} {v : Value} {xs : List Value} (h : w.ownsRow base t s v n xs) (hb : Below w.heap.size w w1) : w1.ownsRow base t s v n xs :=
  World.ownsRow.kept h (row := none) ⟨hb.os, hb.tape, hb.output, hb.size, fun k hk _ => hb.block k hk⟩ (by cases v.ownBlock <;> simp)
theorem SqAt2.below {n0 g1 g2 P : Nat} {wc W V : World} {C : List Int} {Mk : List (Int × Int)} (h : SqAt2 n0 g1 g2 P wc W C Mk) (hb : Below W.heap.size W V) : SqAt2 n0 g1 g2 P wc V C Mk :=
  ⟨h.kp.trans (.of_below hb), own_below h.own1 hb, own_below' h.own2 hb, h.ne, h.lo.1, h.lo.2.1, Nat.lt_of_lt_of_le h.lo.2.2.1 hb.size, Nat.lt_of_lt_of_le h.lo.2.2.2 hb.size⟩
end Go.Proofs.YtjlfgojblimobaaGreat
end
