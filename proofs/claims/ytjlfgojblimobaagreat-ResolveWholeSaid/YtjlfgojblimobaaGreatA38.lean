/- The loop that gathers a sequence's classes and marks. Conditions: the slices read as lists; the rows are there. -/
/- What sequenceLevels does behind the making of its rows. Conditions: the slices read as lists; the rows and the sequence's box are there. -/
/- The contract of package resolve's sequenceLevels. Conditions: the slices read as lists, at most a thousand long; the sequence is one that Prepare makes. -/
import Derived.Test.YtjlfgojblimobaaGreatA37
import Derived.Deep.RegionHeld3
section
namespace Go.Proofs.YtjlfgojblimobaaGreat
open Go.RowKit
set_option maxRecDepth 100000

theorem atM_is {ms : List (Int × Int)} {q : Nat} : M.atM ms q = ms.getD q (0, 0) := by
  unfold M.atM
  rw [Int.toNat_natCast]
  by_cases h : q < ms.length
  · rw [if_pos ⟨by omega, by omega⟩]
  · rw [if_neg (by omega), List.getD_eq_getElem?_getD, List.getElem?_eq_none (by omega)]
    rfl
theorem take_set {α : Type} {l : List α} {x y : α} {k P : Nat} (h : l[k]? = some x) (hP : k < P) : (l.take k ++ List.replicate (P - k) y).set k x = l.take (k + 1) ++ List.replicate (P - (k + 1)) y := by
  obtain ⟨hl, e⟩ := List.getElem?_eq_some_iff.1 h
  have hlz : (l.take k).length = k := by rw [List.length_take]; omega
  rw [List.set_append_right _ _ (by rw [hlz]; exact Nat.le_refl _), hlz, Nat.sub_self, show P - k = (P - (k + 1)) + 1 by omega, List.replicate_succ, List.set_cons_zero, List.take_succ_eq_append_getElem hl, e, List.append_assoc]
  rfl
set_option maxHeartbeats 8000000 in
theorem sq_loop {c : Code} (hc : blockAt 0 seqBody = some c) {Q : Exit → Act → World → Prop} {Ap Ac Am : Option Addr} {cp cc cm n m P g1 g2 n0 : Nat} {s : M.Sq} {cs : List Int} {ms : List (Int × Int)} {wc : World} {t0 t3 t4 t5 t6 t7 t10 t11 t12 t13 t14 t15 t16 t17 t18 t19 t20 t21 t22 t26 t27 t28 t29 t30 t31 t32 t33 t34 t35 t36 t37 t38 t39 t40 t41 t42 t43 t44 t45 t46 t47 t48 t49 t50 t51 t52 t53 t54 t55 t56 t57 t58 t59 t60 t61 t62 t63 t64 t65 t66 t67 t68 t69 t70 t71 t72 t73 t74 t75 t76 t77 t78 t79 t80 t81 t82 t83 t84 t85 t86 t87 t88 t89 : Value}
    (hrp : RdS .i64 wc n0 Ap s.pl) (hrc : RdS .i64 wc n0 Ac cs) (hrm : S11.RdT wc n0 Am ms) (hP : s.pl.length = P) (hcn : cs.length = n) (hmm : ms.length = m) (hP1 : P ≤ 1000) (hn1 : n ≤ 1000) (hm1 : m ≤ 1000) (hn0 : n0 ≤ wc.heap.size)
    (hpl : ∀ p ∈ s.pl, ∃ j : Nat, p = j ∧ j < n) (hSQ : SqAt2 n0 g1 g2 P wc wc (List.replicate P 0) (List.replicate P (0, 0)))
    (hQ : ∀ (v10 v11 v25 v26 v27 v28 v29 v30 v31 v32 v33 v34 v35 v36 v37 v38 v39 v40 v41 v42 v43 v44 : Value) (V : World), SqAt2 n0 g1 g2 P wc V (M.cameOf cs s) (M.marksOf ms s) → Q .normal ⟨(List.toArray (t0 :: (.slice Ac n cc) :: (.slice Am m cm) :: t3 :: t4 :: t5 :: t6 :: t7 :: (.slice (some ⟨g1, 0, none⟩) P P) :: (.slice (some ⟨g2, 0, none⟩) P P) :: v10 :: v11 :: t12 :: t13 :: t14 :: t15 :: t16 :: t17 :: t18 :: t19 :: t20 :: t21 :: t22 :: (.slice Ap P cp) :: (.int .i64 P) :: v25 :: v26 :: v27 :: v28 :: v29 :: v30 :: v31 :: v32 :: v33 :: v34 :: v35 :: v36 :: v37 :: v38 :: v39 :: v40 :: v41 :: v42 :: v43 :: v44 :: t45 :: t46 :: t47 :: t48 :: t49 :: t50 :: t51 :: t52 :: t53 :: t54 :: t55 :: t56 :: t57 :: t58 :: t59 :: t60 :: t61 :: t62 :: t63 :: t64 :: t65 :: t66 :: t67 :: t68 :: t69 :: t70 :: t71 :: t72 :: t73 :: t74 :: t75 :: t76 :: t77 :: t78 :: t79 :: t80 :: t81 :: t82 :: t83 :: t84 :: t85 :: t86 :: t87 :: t88 :: t89 :: [])), []⟩ V) :
    c.wp Tryz.prog Q ⟨(List.toArray (t0 :: (.slice Ac n cc) :: (.slice Am m cm) :: t3 :: t4 :: t5 :: t6 :: t7 :: (.slice (some ⟨g1, 0, none⟩) P P) :: (.slice (some ⟨g2, 0, none⟩) P P) :: t10 :: t11 :: t12 :: t13 :: t14 :: t15 :: t16 :: t17 :: t18 :: t19 :: t20 :: t21 :: t22 :: (.slice Ap P cp) :: (.int .i64 P) :: (.int .i64 0) :: t26 :: t27 :: t28 :: t29 :: t30 :: t31 :: t32 :: t33 :: t34 :: t35 :: t36 :: t37 :: t38 :: t39 :: t40 :: t41 :: t42 :: t43 :: t44 :: t45 :: t46 :: t47 :: t48 :: t49 :: t50 :: t51 :: t52 :: t53 :: t54 :: t55 :: t56 :: t57 :: t58 :: t59 :: t60 :: t61 :: t62 :: t63 :: t64 :: t65 :: t66 :: t67 :: t68 :: t69 :: t70 :: t71 :: t72 :: t73 :: t74 :: t75 :: t76 :: t77 :: t78 :: t79 :: t80 :: t81 :: t82 :: t83 :: t84 :: t85 :: t86 :: t87 :: t88 :: t89 :: [])), []⟩ wc := by
  simp [blockAt, seqBody, Tryz.f22] at hc
  subst hc
  have hcl : (M.cameOf cs s).length = P := by rw [M.cameOf_len, hP]
  have hml : (M.marksOf ms s).length = P := by rw [M.marksOf_len, hP]
  have hp1 : (P : Int) ≤ 1000 := by omega
  have hn2 : (n : Int) ≤ 1000 := by omega
  have HRP := Lib.hid hrp
  have HRC := Lib.hid hrc
  have HRM := Lib.hid hrm
  have HL := Lib.hid (And.intro hP (And.intro hcn (And.intro hmm (And.intro hcl hml))))
  have HPL := Lib.hid hpl
  have HSQ := Lib.hid hSQ
  have HQ := Lib.hid hQ
  have hex : ∀ k, k = g1 ∨ k = g2 → n0 ≤ k := by rintro k (h | h) <;> (subst h; first | exact hSQ.lo.1 | exact hSQ.lo.2.1)
  have HEX := Lib.hid hex
  clear hrp hrc hrm hP hcn hmm hcl hml hpl hSQ hQ hex
  go_wp2_with fail
  go_loopw [25] (fun v wr => ∃ k : Nat, v = .int .i64 k ∧ k ≤ P ∧ SqAt2 n0 g1 g2 P wc wr ((M.cameOf cs s).take k ++ List.replicate (P - k) 0) ((M.marksOf ms s).take k ++ List.replicate (P - k) (0, 0))) (fun v _ => P - (intOf v).toNat)
  case atStart => exact ⟨0, rfl, Nat.zero_le _, HSQ.out⟩
  case round =>
    obtain ⟨k, rfl, hk, hsq⟩ := hrel
    rename World => wr
    have k0 : (0 : Int) ≤ k := by omega
    by_cases hlt : k < P
    · have k1 : (k : Int) < P := by omega
      have hbw : Below n0 wc wr := hsq.kp.below hn0 HEX.out
      obtain ⟨x, hx⟩ : ∃ x, s.pl[k]? = some x := ⟨_, List.getElem?_eq_getElem (by rw [HL.out.1]; exact hlt)⟩
      obtain ⟨q, rfl, hq⟩ := HPL.out x (List.mem_of_getElem? hx)
      obtain ⟨adp, x', hAp, y1, hx', -⟩ := rd_at HRP.out hbw (by rw [HL.out.1]; exact hlt : k < s.pl.length)
      obtain rfl : x' = q := by rw [hx] at hx'; injection hx' with e; exact e.symm
      obtain ⟨adc, c, hAc, y2, hc, hcb⟩ := rd_at HRC.out hbw (by rw [HL.out.2.1]; exact hq : q < cs.length)
      subst hAp hAc
      have q00 : (0 : Int) ≤ q := by omega
      have q01 : (q : Int) < n := by omega
      have hwr : n0 ≤ wr.heap.size := Nat.le_trans hn0 hsq.kp.size
      obtain ⟨ma, mb, hmab⟩ : ∃ a b, M.atM ms q = (a, b) := ⟨_, _, rfl⟩
      have HAT := Lib.hid (fun (W : World) (hb : Below wr.heap.size wr W) => rvAtM_any Am cm m q ms W ((HRM.out.keep fun p hp => (hbw.trans (hb.mono hwr)).cell hp).more (Nat.le_trans hwr hb.size)) HL.out.2.2.1 hm1)
      rw [hmab] at HAT
      dsimp only at HAT
      have hlc : ((M.cameOf cs s).take k).length = k := by rw [List.length_take, HL.out.2.2.2.1]; omega
      have hlm : ((M.marksOf ms s).take k).length = k := by rw [List.length_take, HL.out.2.2.2.2]; omega
      have hz1 : ((M.cameOf cs s).take k ++ List.replicate (P - k) (0 : Int))[k]? = some 0 := by
        rw [List.getElem?_append_right (by rw [hlc]; exact Nat.le_refl _), hlc, Nat.sub_self, List.getElem?_replicate, if_pos (by omega)]
      have hz2 : ((M.marksOf ms s).take k ++ List.replicate (P - k) ((0 : Int), (0 : Int)))[k]? = some (0, 0) := by
        rw [List.getElem?_append_right (by rw [hlm]; exact Nat.le_refl _), hlm, Nat.sub_self, List.getElem?_replicate, if_pos (by omega)]
      have hc1 : (M.cameOf cs s)[k]? = some c := by
        unfold M.cameOf
        rw [List.getElem?_map, hx]
        show some (cs.getD (q : Int).toNat 0) = some c
        rw [Int.toNat_natCast, List.getD_eq_getElem?_getD, hc]
        rfl
      have hm1' : (M.marksOf ms s)[k]? = some (ma, mb) := by
        unfold M.marksOf
        rw [List.getElem?_map, hx]
        show some (ms.getD (q : Int).toNat (0, 0)) = some (ma, mb)
        rw [Int.toNat_natCast, ← atM_is, hmab]
      have hmz : ((M.marksOf ms s).take k ++ List.replicate (P - k) ((0 : Int), (0 : Int))).length = P := by rw [List.length_append, hlm, List.length_replicate]; omega
      have HSTEP := Lib.hid (fun (w5 : World) (hb5 : Below wr.heap.size wr w5) => show
          (w5.cell? ⟨g1, k, none⟩ = some (.int .i64 0) ∧ w5.frozen? ⟨g1, k, none⟩ = false ∧ w5.cell? ⟨g2, k * 2, none⟩ = some (.int .i64 0) ∧ w5.cell? ⟨g2, k * 2 + 1, none⟩ = some (.int .i64 0) ∧ w5.frozen? ⟨g2, k * 2, none⟩ = false ∧ w5.frozen? ⟨g2, k * 2 + 1, none⟩ = false ∧ w5.cell? (adc.add q) = some (.int .i64 c)) ∧
          SqAt2 n0 g1 g2 P wc (((w5.setCell ⟨g1, k, none⟩ (.int .i64 c)).setCell ⟨g2, k * 2, none⟩ (.int .i64 ma)).setCell ⟨g2, k * 2 + 1, none⟩ (.int .i64 mb)) ((M.cameOf cs s).take (k + 1) ++ List.replicate (P - (k + 1)) 0) ((M.marksOf ms s).take (k + 1) ++ List.replicate (P - (k + 1)) (0, 0)) from by
        have h5 := hsq.below hb5
        obtain ⟨z2a, z2b⟩ := S11.cells2_at hz2
        refine ⟨⟨?_, World.ownsRow.frozenAt h5.own1 k, ?_, ?_, World.ownsRow.frozenAt h5.own2 _, World.ownsRow.frozenAt h5.own2 _, (hb5.cell (by rw [addr_block]; omega)).trans y2⟩, ?_⟩
        · rw [World.ownsRow.cellAt h5.own1 k (by omega), List.getElem?_map, hz1]; rfl
        · rw [World.ownsRow.cellAt h5.own2 (k * 2) (by omega), z2a]
        · rw [World.ownsRow.cellAt h5.own2 (k * 2 + 1) (by omega), z2b]
        · have h6 := h5.set hmz hlt c ma mb
          rwa [take_set hc1 hlt, take_set hm1' hlt] at h6)
      have hA1 : adc.block ≠ g1 := by have := hsq.lo.1; omega
      have hA2 : adc.block ≠ g2 := by have := hsq.lo.2.1; omega
      have hA3 : (adc.add q).block ≠ g1 := by rw [addr_block]; exact hA1
      have hA4 : (adc.add q).block ≠ g2 := by rw [addr_block]; exact hA2
      have hG12 : g1 ≠ g2 := hsq.ne
      have hG21 : g2 ≠ g1 := fun e => hG12 e.symm
      have HWR := Lib.hid hwr
      clear hx hx' hc hmab hsq hbw hwr hlc hlm hz1 hz2 hc1 hm1' hmz HWR
      go_wp2_with fail
      go_region_held3 (fun w' => w'.cell? (adc.add q) = some (.int .i64 c))
        (first | go_keep | exact y2 | exact y3 | exact y4 | exact y5 | exact y6)
        (first
          | (go_at_call 40; (refine (HAT.out _ (by exact (Below.refl _ _).drew)).mono ?_); rintro r w5 ⟨rfl, hb5⟩; obtain ⟨⟨d1, d2, d3, d4, d5, d6, y3⟩, hnext⟩ := HSTEP.out w5 ⟨hb5.os, hb5.tape, hb5.output, hb5.size, hb5.block⟩; have y4 := ((S12.Turned.refl w5 g1).setCell k (.int .i64 c)).cell hA3 |>.trans y3; have y5 := ((S12.Turned.refl (w5.setCell ⟨g1, k, none⟩ (.int .i64 c)) g2).setCell (k * 2) (.int .i64 ma)).cell hA4 |>.trans y4; have y6 := ((S12.Turned.refl ((w5.setCell ⟨g1, k, none⟩ (.int .i64 c)).setCell ⟨g2, k * 2, none⟩ (.int .i64 ma)) g2).setCell (k * 2 + 1) (.int .i64 mb)).cell hA4 |>.trans y5; have HNEXT := Lib.hid hnext; clear hb5 hnext))
      go_wp2_with fail
      go_roundw
      case rel => exact ⟨k + 1, by go_num, by omega, HNEXT.out⟩
      case measure => simp [intOf]; omega
    · obtain rfl : P = k := by omega
      have k1 : ¬ (P : Int) < P := by omega
      have h := hsq
      rw [List.take_of_length_le (by rw [HL.out.2.2.2.1]; exact Nat.le_refl _), List.take_of_length_le (by rw [HL.out.2.2.2.2]; exact Nat.le_refl _), Nat.sub_self, List.replicate_zero, List.replicate_zero, List.append_nil, List.append_nil] at h
      have HE := Lib.hid h
      clear hsq h
      go_wp2_with fail
      exact HQ.out _ _ _ _ _ _ _ _ _ _ _ _ _ _ _ _ _ _ _ _ _ _ _ HE.out
end Go.Proofs.YtjlfgojblimobaaGreat
end

section
namespace Go.Proofs.YtjlfgojblimobaaGreat
open Go.RowKit
set_option maxRecDepth 100000

theorem cres13 (A B C : Option Addr) (ca cb cc n k : Nat) (came l : List Int) (ms : List (Int × Int)) (lv f : Int) (w : World) (hr : RdS .i64 w w.heap.size A came) (hr2 : RdS .i64 w w.heap.size B l) (hr3 : S11.RdT w w.heap.size C ms) (hn : came.length = n) (hm : l.length = n) (hk : ms.length = k) (hl : n ≤ 1000) (hl3 : k ≤ 1000) (h : S11.M.resOk came l lv f) :
    Calls Tryz.prog 42 #[.slice A n ca, .slice B n cb, .slice C k cc, .int .i64 lv, .int .i64 f] w (S11.ResOut (S11.M.resOk came l lv f) (S11.M.res came l ms lv f) w) := by
  rcases Int.emod_two_eq lv with hs | hs
  · exact S11.cres_ok0 A B C ca cb cc n k came l ms lv f w hr hr2 hr3 hn hm hk (by omega) (by omega) h hs
  · exact S11.cres_ok1 A B C ca cb cc n k came l ms lv f w hr hr2 hr3 hn hm hk (by omega) (by omega) h hs
theorem SqAt2.reads {n0 g1 g2 P : Nat} {wc W : World} {C : List Int} {Mk : List (Int × Int)} (h : SqAt2 n0 g1 g2 P wc W C Mk) (hC : C.length = P) (hM : Mk.length = P) : RdS .i64 W W.heap.size (some ⟨g1, 0, none⟩) C ∧ S11.RdT W W.heap.size (some ⟨g2, 0, none⟩) Mk := by
  have o1 := h.own1
  have o2 := h.own2
  rw [← hC] at o1
  rw [← hM] at o2
  obtain ⟨A, c, e, r1, -, -, -⟩ := reads_own o1
  obtain ⟨A2, c2, e2, r2, -, -, -⟩ := S11.OwnT.shape (l := Mk) o2
  injection e with e
  injection e2 with e2
  subst e e2
  exact ⟨r1, r2⟩
set_option maxHeartbeats 8000000 in
theorem sq_rest {c : Code} (hc : afterAt 1 seqBody = some c) {Ap Ac Am : Option Addr} {cp cc cm n m P g1 g2 n0 Sb : Nat} {s : M.Sq} {cs : List Int} {ms : List (Int × Int)} {w wc : World} {t0 t4 t5 t6 t7 t10 t11 t12 t13 t14 t15 t16 t17 t18 t19 t20 t21 t22 t23 t24 t25 t26 t27 t28 t29 t30 t31 t32 t33 t34 t35 t36 t37 t38 t39 t40 t41 t42 t43 t44 t45 t46 t47 t48 t49 t50 t51 t52 t53 t54 t55 t56 t57 t58 t59 t60 t61 t62 t63 t64 t65 t66 t67 t68 t69 t70 t71 t72 t73 t74 t75 t76 t77 t78 t79 t80 t81 t82 t83 t84 t85 t86 t87 t88 t89 : Value}
    (hrp : RdS .i64 wc n0 Ap s.pl) (hrc : RdS .i64 wc n0 Ac cs) (hrm : S11.RdT wc n0 Am ms) (hP : s.pl.length = P) (hcn : cs.length = n) (hmm : ms.length = m) (hP1 : P ≤ 1000) (hn1 : n ≤ 1000) (hm1 : m ≤ 1000) (hn0 : n0 ≤ wc.heap.size) (hw : w.heap.size = n0) (hww : Below w.heap.size w wc)
    (hpl : ∀ p ∈ s.pl, ∃ j : Nat, p = j ∧ j < n) (hSQ : SqAt2 n0 g1 g2 P wc wc (List.replicate P 0) (List.replicate P (0, 0)))
    (hS : wc.cell? ⟨Sb, 0, none⟩ = some (.slice Ap P cp) ∧ wc.cell? ⟨Sb, 1, none⟩ = some (.int .i64 s.lv) ∧ wc.cell? ⟨Sb, 2, none⟩ = some (.int .i64 s.fi) ∧ wc.cell? ⟨Sb, 3, none⟩ = some (.int .i64 s.la)) (hSb : Sb < wc.heap.size ∧ Sb ≠ g1 ∧ Sb ≠ g2)
    (hfi : s.fi = 0 ∨ s.fi = 1) (hla : s.la = 0 ∨ s.la = 1) (hlv : 0 ≤ s.lv ∧ s.lv ≤ 125) :
    c.wp Tryz.prog (bodyPost Tryz.prog Tryz.f22 fun r w' => Below w.heap.size w w' ∧ ∃ v, r = .returned (.tuple #[v, .int .i64 0]) ∧ w'.ownsRow w.heap.size 3 1 v P ((M.seqN cs ms s).map (Value.int .i64))) ⟨(List.toArray (t0 :: (.slice Ac n cc) :: (.slice Am m cm) :: (.pointer (some ⟨Sb, 0, none⟩)) :: t4 :: t5 :: t6 :: t7 :: (.slice (some ⟨g1, 0, none⟩) P P) :: (.slice (some ⟨g2, 0, none⟩) P P) :: t10 :: t11 :: t12 :: t13 :: t14 :: t15 :: t16 :: t17 :: t18 :: t19 :: t20 :: t21 :: t22 :: t23 :: t24 :: t25 :: t26 :: t27 :: t28 :: t29 :: t30 :: t31 :: t32 :: t33 :: t34 :: t35 :: t36 :: t37 :: t38 :: t39 :: t40 :: t41 :: t42 :: t43 :: t44 :: t45 :: t46 :: t47 :: t48 :: t49 :: t50 :: t51 :: t52 :: t53 :: t54 :: t55 :: t56 :: t57 :: t58 :: t59 :: t60 :: t61 :: t62 :: t63 :: t64 :: t65 :: t66 :: t67 :: t68 :: t69 :: t70 :: t71 :: t72 :: t73 :: t74 :: t75 :: t76 :: t77 :: t78 :: t79 :: t80 :: t81 :: t82 :: t83 :: t84 :: t85 :: t86 :: t87 :: t88 :: t89 :: [])), []⟩ wc := by
  simp [afterAt, seqBody, Tryz.f22] at hc
  subst hc
  have s0 := hS.1
  have HS := Lib.hid hS
  have HSB := Lib.hid hSb
  have HF := Lib.hid (And.intro hfi (And.intro hla hlv))
  have HL := Lib.hid hP
  have HWW := Lib.hid (And.intro hw hww)
  have HA := Lib.hid hrp
  have HB := Lib.hid hrc
  have HC := Lib.hid hrm
  have HD := Lib.hid (And.intro hcn (And.intro hmm hpl))
  have HSQ := Lib.hid hSQ
  clear hS hSb hfi hla hlv hP hww hrp hrc hrm hcn hmm hpl hSQ
  go_upto_block 0 with fail
  refine sq_loop (by simp [blockAt, seqBody, Tryz.f22]) HA.out HB.out HC.out HL.out HD.out.1 HD.out.2.1 hP1 hn1 hm1 hn0 HD.out.2.2 HSQ.out ?_
  intro v10 v11 v25 v26 v27 v28 v29 v30 v31 v32 v33 v34 v35 v36 v37 v38 v39 v40 v41 v42 v43 v44 V hV
  have hcl : (M.cameOf cs s).length = P := by rw [M.cameOf_len, HL.out]
  have hml : (M.marksOf ms s).length = P := by rw [M.marksOf_len, HL.out]
  obtain ⟨hrC, hrM⟩ := hV.reads hcl hml
  have hkc : ∀ j, V.cell? ⟨Sb, j, none⟩ = wc.cell? ⟨Sb, j, none⟩ := fun j => hV.kp.cell (p := ⟨Sb, j, none⟩) HSB.out.1 (by rintro (h | h); exact HSB.out.2.1 h; exact HSB.out.2.2 h)
  have hSbV : Sb < V.heap.size := Nat.lt_of_lt_of_le HSB.out.1 hV.kp.size
  have z1 := (hkc 1).trans HS.out.2.1
  have z2 := (hkc 2).trans HS.out.2.2.1
  have z3 := (hkc 3).trans HS.out.2.2.2
  have hbV : Below w.heap.size w V := HWW.out.2.trans (hV.kp.below (by rw [HWW.out.1]; exact hn0) (by rw [HWW.out.1]; rintro k (h | h) <;> (subst h; first | exact hV.lo.1 | exact hV.lo.2.1)))
  have HBV := Lib.hid hbV
  have HRC := Lib.hid hrC
  have HRM := Lib.hid hrM
  have HCL := Lib.hid (And.intro hcl hml)
  have HC1 := Lib.hid (S10.call_any (some ⟨g1, 0, none⟩) P P s.fi (M.cameOf cs s) V hrC hcl hP1 (Nat.le_refl _))
  clear hV hcl hml hrC hrM hkc hbV s0
  go_wp2_with fail
  refine HC1.out.mono ?_
  rintro r w4 ⟨hb4, hok, -⟩
  obtain ⟨vx, rfl, hox⟩ := hok HF.out.1
  obtain ⟨AX, cX, rfl, hrX, hcX, -, -⟩ := reads_own hox
  have hxl : (S10.M.wall s.fi (M.cameOf cs s)).length = P := by rw [S10.M.wall_len, HCL.out.1]
  rw [hxl]
  have u1 := (hb4.cell (p := ⟨Sb, 1, none⟩) hSbV).trans z1
  have u2 := (hb4.cell (p := ⟨Sb, 2, none⟩) hSbV).trans z2
  have u3 := (hb4.cell (p := ⟨Sb, 3, none⟩) hSbV).trans z3
  have hS4 : Sb < w4.heap.size := Nat.lt_of_lt_of_le hSbV hb4.size
  have HC2 := Lib.hid (cres13 (some ⟨g1, 0, none⟩) AX (some ⟨g2, 0, none⟩) P cX P P P (M.cameOf cs s) (S10.M.wall s.fi (M.cameOf cs s)) (M.marksOf ms s) s.lv s.fi w4 ((HRC.out.below hb4).more hb4.size) hrX ((HRM.out.below hb4).more hb4.size) HCL.out.1 hxl HCL.out.2 hP1 hP1 ⟨by rw [HCL.out.1, hxl], HF.out.2.2.1, HF.out.1⟩)
  have HOK2 := Lib.hid (show S11.M.resOk (M.cameOf cs s) (S10.M.wall s.fi (M.cameOf cs s)) s.lv s.fi from ⟨by rw [HCL.out.1, hxl], HF.out.2.2.1, HF.out.1⟩)
  have HB4 := Lib.hid (HBV.out.trans (hb4.mono HBV.out.size))
  clear hb4 hok hox hrX hcX z1 z2 z3 hSbV HC1
  go_wp2_with fail
  refine HC2.out.mono ?_
  rintro r w5 ⟨hb5, hok, -⟩
  obtain ⟨vy, rfl, hoy⟩ := hok HOK2.out
  obtain ⟨AY, cY, rfl, hrY, hcY, -, -⟩ := reads_own hoy
  have hyl : (S11.M.res (M.cameOf cs s) (S10.M.wall s.fi (M.cameOf cs s)) (M.marksOf ms s) s.lv s.fi).length = P := by rw [S11.M.res_len, hxl]
  rw [hyl] at hcY ⊢
  have x1 := (hb5.cell (p := ⟨Sb, 1, none⟩) hS4).trans u1
  have x2 := (hb5.cell (p := ⟨Sb, 2, none⟩) hS4).trans u2
  have x3 := (hb5.cell (p := ⟨Sb, 3, none⟩) hS4).trans u3
  have hS5 : Sb < w5.heap.size := Nat.lt_of_lt_of_le hS4 hb5.size
  have HOK3 := Lib.hid (show S12.M.setOk s.lv s.fi s.la from ⟨HF.out.2.2, HF.out.1, HF.out.2.1⟩)
  have HC3 := Lib.hid (S12.csettle_any AY cY P (S11.M.res (M.cameOf cs s) (S10.M.wall s.fi (M.cameOf cs s)) (M.marksOf ms s) s.lv s.fi) s.lv s.fi s.la w5 hrY hyl (by omega) hcY)
  have HB5 := Lib.hid (HB4.out.trans (hb5.mono HB4.out.size))
  clear hb5 hok hoy hrY hcY u1 u2 u3 hS4 hxl HC2
  go_wp2_with fail
  refine HC3.out.mono ?_
  rintro r w6 ⟨hb6, hok, -⟩
  obtain ⟨vz, rfl, hoz⟩ := hok HOK3.out
  obtain ⟨Z, hZ⟩ : ∃ Z, S12.M.settle s.lv s.fi s.la (S11.M.res (M.cameOf cs s) (S10.M.wall s.fi (M.cameOf cs s)) (M.marksOf ms s) s.lv s.fi) = Z := ⟨_, rfl⟩
  have hzl : Z.length = P := by rw [← hZ, S12.M.settle_len, hyl]
  rw [hZ] at hoz
  obtain ⟨AZ, cZ, rfl, hrZ, hcZ, -, -⟩ := reads_own hoz
  rw [hzl] at hcZ ⊢
  have q1 := (hb6.cell (p := ⟨Sb, 1, none⟩) hS5).trans x1
  have HC4 := Lib.hid (S12.craise_any AZ cZ P Z s.lv w6 hrZ hzl hP1 hcZ)
  have HB6 := Lib.hid (HB5.out.trans (hb6.mono HB5.out.size))
  have HZ := Lib.hid (And.intro hZ hzl)
  clear hb6 hok hoz hrZ hcZ x1 x2 x3 hS5 hyl HC3 hZ hzl
  go_wp2_with fail
  refine HC4.out.mono ?_
  rintro r w7 ⟨hb7, hok, -⟩
  obtain ⟨vn, rfl, hon⟩ := hok HF.out.2.2
  have hN : S12.M.raise s.lv Z = M.seqN cs ms s := by rw [← HZ.out.1]; rfl
  have hNl : (S12.M.raise s.lv Z).length = P := by rw [S12.M.raise_len, HZ.out.2]
  rw [hNl, hN] at hon
  have HB7 := Lib.hid (HB6.out.trans (hb7.mono HB6.out.size))
  have HON := Lib.hid (own_base hon HB6.out.size)
  clear hb7 hok hon hN hNl q1 HC4
  go_wp2_with fail
  go_returns
  exact ⟨HB7.out, _, rfl, HON.out⟩
end Go.Proofs.YtjlfgojblimobaaGreat
end

section
namespace Go.Proofs.YtjlfgojblimobaaGreat
open Go.RowKit
set_option maxRecDepth 100000

theorem Tryz.infoMk13 : (Tryz.prog.info? 53).map (fun i => (i.zero, i.size, i.bytes)) = some (some (.agg #[.int .i64 0, .int .i64 0]), 2, 16) := by kernel_rfl
theorem made2 (n : Nat) : (madeCells #[Value.int .i64 0, Value.int .i64 0] n).toList = List.replicate n (.int .i64 0) := by
  apply List.ext_getElem?
  intro j
  by_cases hj : j < n
  · have h2 : j % 2 = 0 ∨ j % 2 = 1 := by omega
    rcases h2 with h | h <;> simp [madeCells, hj, h]
  · simp [madeCells, hj]
theorem cells2_rep (P : Nat) : S11.cells2 (List.replicate P (0, 0)) = List.replicate (P * 2) (Value.int .i64 0) := by
  induction P with
  | zero => rfl
  | succ P ih =>
    rw [List.replicate_succ, show (P + 1) * 2 = P * 2 + 1 + 1 by omega, List.replicate_succ, List.replicate_succ, ← ih]
    rfl
theorem own_cls (P : Nat) (W : World) (hP : P ≤ 1000) : (W.alloc (.cells (madeCells #[Value.int .i64 0] P) 39)).ownsRow W.heap.size 39 1 (.slice (some ⟨W.heap.size, 0, none⟩) P P) P ((List.replicate P (0 : Int)).map (Value.int .i64)) := by
  rw [List.map_replicate, ← toList_madeCells_one]
  exact World.ownsRow_lit W _ P (Nat.le_refl _) (by unfold maxLen; omega) (by simp [madeCells])
theorem own_mks (P : Nat) (W : World) (hP : P ≤ 1000) : (W.alloc (.cells (madeCells #[Value.int .i64 0, Value.int .i64 0] (P * 2)) 53)).ownsRow W.heap.size 53 2 (.slice (some ⟨W.heap.size, 0, none⟩) P P) P (S11.cells2 (List.replicate P (0, 0))) := by
  rw [cells2_rep, ← made2]
  exact World.ownsRow_lit W _ P (Nat.le_refl _) (by unfold maxLen; omega) (by simp [madeCells])
theorem SqAt2.fresh {n0 g1 g2 P : Nat} {W V : World} (hb : Below W.heap.size W V) (hn : n0 ≤ W.heap.size) (h1 : V.ownsRow W.heap.size 39 1 (.slice (some ⟨g1, 0, none⟩) P P) P ((List.replicate P (0 : Int)).map (Value.int .i64))) (h2 : V.ownsRow W.heap.size 53 2 (.slice (some ⟨g2, 0, none⟩) P P) P (S11.cells2 (List.replicate P (0, 0)))) (hne : g1 ≠ g2) :
    Below W.heap.size W V.drew ∧ SqAt2 n0 g1 g2 P V.drew V.drew (List.replicate P 0) (List.replicate P (0, 0)) :=
  ⟨hb.drew, .refl _ _, own_base h1 hn, own_base h2 hn, hne, Nat.le_trans hn (World.ownsRow.lt h1 g1 rfl).1, Nat.le_trans hn (World.ownsRow.lt h2 g2 rfl).1, (World.ownsRow.lt h1 g1 rfl).2, (World.ownsRow.lt h2 g2 rfl).2⟩
theorem sq_makes1 (n0 P : Nat) (W : World) (hP : P ≤ 1000) (hn : n0 ≤ W.heap.size) : Below W.heap.size W ((W.alloc (.cells (madeCells #[Value.int .i64 0] P) 39)).alloc (.cells (madeCells #[Value.int .i64 0, Value.int .i64 0] (P * 2)) 53)).drew ∧
    SqAt2 n0 W.heap.size (W.heap.size + 1) P ((W.alloc (.cells (madeCells #[Value.int .i64 0] P) 39)).alloc (.cells (madeCells #[Value.int .i64 0, Value.int .i64 0] (P * 2)) 53)).drew ((W.alloc (.cells (madeCells #[Value.int .i64 0] P) 39)).alloc (.cells (madeCells #[Value.int .i64 0, Value.int .i64 0] (P * 2)) 53)).drew (List.replicate P 0) (List.replicate P (0, 0)) := by
  have h1 := own_cls P W hP
  obtain ⟨W1, hW1⟩ : ∃ W1, W.alloc (.cells (madeCells #[Value.int .i64 0] P) 39) = W1 := ⟨_, rfl⟩
  have hb1 : Below W.heap.size W W1 := by rw [← hW1]; exact (Below.refl _ _).alloc (Nat.le_refl _) _
  have hz1 : W1.heap.size = W.heap.size + 1 := by rw [← hW1]; simp
  rw [hW1] at h1 ⊢
  have h2 := own_mks P W1 hP
  rw [hz1] at h2
  exact SqAt2.fresh (hb1.alloc hb1.size _) hn (h1.alloc _) (own_base h2 (by omega)) (by omega)
theorem sq_makes2 (n0 P : Nat) (W : World) (hP : P ≤ 1000) (hn : n0 ≤ W.heap.size) : Below W.heap.size W ((W.alloc (.cells (madeCells #[Value.int .i64 0, Value.int .i64 0] (P * 2)) 53)).alloc (.cells (madeCells #[Value.int .i64 0] P) 39)).drew ∧
    SqAt2 n0 (W.heap.size + 1) W.heap.size P ((W.alloc (.cells (madeCells #[Value.int .i64 0, Value.int .i64 0] (P * 2)) 53)).alloc (.cells (madeCells #[Value.int .i64 0] P) 39)).drew ((W.alloc (.cells (madeCells #[Value.int .i64 0, Value.int .i64 0] (P * 2)) 53)).alloc (.cells (madeCells #[Value.int .i64 0] P) 39)).drew (List.replicate P 0) (List.replicate P (0, 0)) := by
  have h1 := own_mks P W hP
  obtain ⟨W1, hW1⟩ : ∃ W1, W.alloc (.cells (madeCells #[Value.int .i64 0, Value.int .i64 0] (P * 2)) 53) = W1 := ⟨_, rfl⟩
  have hb1 : Below W.heap.size W W1 := by rw [← hW1]; exact (Below.refl _ _).alloc (Nat.le_refl _) _
  have hz1 : W1.heap.size = W.heap.size + 1 := by rw [← hW1]; simp
  rw [hW1] at h1 ⊢
  have h2 := own_cls P W1 hP
  rw [hz1] at h2
  exact SqAt2.fresh (hb1.alloc hb1.size _) hn (own_base h2 (by omega)) (h1.alloc _) (by omega)
theorem new_four (w : World) (a b c d : Value) (t : TypeId) : ∃ W : World, w.alloc (.cells #[a, b, c, d] t) = W ∧ Below w.heap.size w W ∧ W.cell? ⟨w.heap.size, 0, none⟩ = some a ∧ W.cell? ⟨w.heap.size, 1, none⟩ = some b ∧ W.cell? ⟨w.heap.size, 2, none⟩ = some c ∧ W.cell? ⟨w.heap.size, 3, none⟩ = some d ∧ W.heap.size = w.heap.size + 1 := by
  refine ⟨_, rfl, (Below.refl _ _).alloc (Nat.le_refl _) _, ?_, ?_, ?_, ?_, by simp⟩
  all_goals
    unfold World.cell?
    rw [World.alloc_heap_new]
    rfl
set_option maxHeartbeats 8000000 in
theorem cseq_any (Ap Ac Am : Option Addr) (cp cc cm n m P : Nat) (s : M.Sq) (cs : List Int) (ms : List (Int × Int)) (w : World)
    (hrp : RdS .i64 w w.heap.size Ap s.pl) (hrc : RdS .i64 w w.heap.size Ac cs) (hrm : S11.RdT w w.heap.size Am ms) (hP : s.pl.length = P) (hcn : cs.length = n) (hmm : ms.length = m) (hP1 : P ≤ 1000) (hn1 : n ≤ 1000) (hm1 : m ≤ 1000)
    (hpl : ∀ p ∈ s.pl, ∃ j : Nat, p = j ∧ j < n) (hfi : s.fi = 0 ∨ s.fi = 1) (hla : s.la = 0 ∨ s.la = 1) (hlv : 0 ≤ s.lv ∧ s.lv ≤ 125) :
    Calls Tryz.prog 22 #[.agg #[.slice Ap P cp, .int .i64 s.lv, .int .i64 s.fi, .int .i64 s.la], .slice Ac n cc, .slice Am m cm] w
      fun r w' => Below w.heap.size w w' ∧ ∃ v, r = .returned (.tuple #[v, .int .i64 0]) ∧ w'.ownsRow w.heap.size 3 1 v P ((M.seqN cs ms s).map (Value.int .i64)) := by
  obtain ⟨W1, hW1, hb1, c0, c1, c2, c3, z1⟩ := new_four w (.slice Ap P cp) (.int .i64 s.lv) (.int .i64 s.fi) (.int .i64 s.la) 49
  obtain ⟨i0, hi, hz0, hz1, hz2⟩ := info_parts Tryz.infoCls13
  obtain ⟨i1, hj, hy0, hy1, hy2⟩ := info_parts Tryz.infoMk13
  have hmk1 := fun w' => run_make (P := Tryz.prog) w' 22 39 i0 (.int .i64 0) (by kernel_rfl) hi hz0 .i64 .i64 P P (by omega) (Int.le_refl _) (by rw [hz2]; omega) (by omega)
  have hmk2 := fun w' => run_make (P := Tryz.prog) w' 29 53 i1 (.agg #[.int .i64 0, .int .i64 0]) (by kernel_rfl) hj hy0 .i64 .i64 P P (by omega) (Int.le_refl _) (by rw [hy2]; omega) (by omega)
  simp only [Int.toNat_natCast, hz1, Nat.mul_one] at hmk1
  simp only [Int.toNat_natCast, hy1] at hmk2
  have p1 : (P : Int) ≤ 1000 := by omega
  obtain ⟨hA1, hA2⟩ := sq_makes1 w.heap.size P W1 hP1 hb1.size
  obtain ⟨hB1, hB2⟩ := sq_makes2 w.heap.size P W1 hP1 hb1.size
  have HA := Lib.hid (And.intro hA1 hA2)
  have HB := Lib.hid (And.intro hB1 hB2)
  have HC := Lib.hid (And.intro c0 (And.intro c1 (And.intro c2 c3)))
  have HR := Lib.hid (And.intro hrp (And.intro hrc hrm))
  have HBW := Lib.hid hb1
  have HZ := Lib.hid z1
  have HF := Lib.hid (And.intro hcn (And.intro hmm hpl))
  clear hA1 hA2 hB1 hB2 hb1 hrp hrc hrm c1 c2 c3 hcn hmm hpl hz0 hz1 hz2 hi hj hy0 hy1 hy2 z1
  go_enter Tryz.func22, Tryz.ntmps22
  go_wp2_with fail
  go_region_held3 (fun w' => w'.cell? ⟨w.heap.size, 0, none⟩ = some (.slice Ap P cp)) (first | go_keep) (first | fail)
  · have hww := HBW.out.trans (HA.out.1.mono HBW.out.size)
    have hk : ∀ j, World.cell? _ ⟨w.heap.size, j, none⟩ = W1.cell? ⟨w.heap.size, j, none⟩ := fun j => HA.out.1.cell (p := ⟨w.heap.size, j, none⟩) (by show w.heap.size < W1.heap.size; have := HZ.out; omega)
    refine (by assumption : ∀ (a : Act) (x : World), Code.wp Tryz.prog _ _ a x → _) _ _ ?_
    exact sq_rest (by simp [afterAt, seqBody, Tryz.f22]) (HR.out.1.keep fun p hp => hww.cell hp) (HR.out.2.1.keep fun p hp => hww.cell hp) (HR.out.2.2.keep fun p hp => hww.cell hp) hP HF.out.1 HF.out.2.1 hP1 hn1 hm1 hww.size rfl hww HF.out.2.2 HA.out.2 ⟨(hk 0).trans HC.out.1, (hk 1).trans HC.out.2.1, (hk 2).trans HC.out.2.2.1, (hk 3).trans HC.out.2.2.2⟩ ⟨Nat.lt_of_lt_of_le (by have := HZ.out; omega : w.heap.size < W1.heap.size) HA.out.1.size, by have := HZ.out; omega, by have := HZ.out; omega⟩ hfi hla hlv
  · have hww := HBW.out.trans (HB.out.1.mono HBW.out.size)
    have hk : ∀ j, World.cell? _ ⟨w.heap.size, j, none⟩ = W1.cell? ⟨w.heap.size, j, none⟩ := fun j => HB.out.1.cell (p := ⟨w.heap.size, j, none⟩) (by show w.heap.size < W1.heap.size; have := HZ.out; omega)
    refine (by assumption : ∀ (a : Act) (x : World), Code.wp Tryz.prog _ _ a x → _) _ _ ?_
    exact sq_rest (by simp [afterAt, seqBody, Tryz.f22]) (HR.out.1.keep fun p hp => hww.cell hp) (HR.out.2.1.keep fun p hp => hww.cell hp) (HR.out.2.2.keep fun p hp => hww.cell hp) hP HF.out.1 HF.out.2.1 hP1 hn1 hm1 hww.size rfl hww HF.out.2.2 HB.out.2 ⟨(hk 0).trans HC.out.1, (hk 1).trans HC.out.2.1, (hk 2).trans HC.out.2.2.1, (hk 3).trans HC.out.2.2.2⟩ ⟨Nat.lt_of_lt_of_le (by have := HZ.out; omega : w.heap.size < W1.heap.size) HB.out.1.size, by have := HZ.out; omega, by have := HZ.out; omega⟩ hfi hla hlv
end Go.Proofs.YtjlfgojblimobaaGreat
end
