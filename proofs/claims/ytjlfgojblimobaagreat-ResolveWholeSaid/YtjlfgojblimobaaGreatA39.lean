/- The contract of package resolve's Paragraph. Conditions: the slices read as lists, at most a thousand long. -/
/- The contracts of package resolve's Base, Paragraph and Line. Conditions: the slices read as lists, within their capacities, at most a thousand long. -/
/- The live question of stage 13, over the translation; and what Paragraph's and Line's answers look like, whichever they are. No condition. -/
/- The contract of the statements' marks: a copy. Condition: the slice reads as a list of marks that takes at most 2^47 bytes. -/
import Derived.Test.YtjlfgojblimobaaGreatA38
import Derived.Test.YtjlfgojblimobaaGreatA18
import Derived.Test.YtjlfgojblimobaaGreatA35
import Derived.Test.YtjlfgojblimobaaGreatA37
import Derived.Test.YtjlfgojblimobaaGreatA11
import Derived.Test.YtjlfgojblimobaaGreatA22
import Derived.Deep.RegionHeld3
import Derived.Deep.AppendLies
section
namespace Go.Proofs.YtjlfgojblimobaaGreat
open Go.RowKit
set_option maxRecDepth 100000

noncomputable def blockIn (k : Nat) : Code → Option Code
  | .seq a b => (blockIn k a).or (blockIn k b)
  | .block i c => if i = k then some (.block i c) else blockIn k c
  | .cond _ a b => (blockIn k a).or (blockIn k b)
  | .loop c => blockIn k c
  | _ => none
noncomputable def paraBody : Code := (Tryz.f9.body).getD .skip
set_option maxHeartbeats 8000000 in
theorem pg_inner {c : Code} (hc : blockIn 4 paraBody = some c) {Q : Exit → Act → World → Prop} {Ap AN : Option Addr} {cp cN n P G Sb n0 : Nat} {s : M.Sq} {X Nn : List Int} {wc : World} {t0 t1 t2 t3 t4 t5 t6 t7 t8 t9 t10 t12 t13 t15 t16 t17 t18 t19 t20 t21 t22 t23 t24 t25 t26 t27 t28 t29 t30 t31 t32 t33 t34 t35 t36 t37 t38 t39 t40 t41 t42 t43 t44 t45 t46 t47 t48 t49 t50 t51 t52 t53 t54 t55 t56 t57 t58 t59 t60 t61 t62 t63 t64 t65 t69 t70 t71 t72 t73 t74 t75 t76 t77 t78 t79 t80 t81 t82 t83 : Value}
    (hS : wc.cell? ⟨Sb, 0, none⟩ = some (.slice Ap P cp)) (hSb : Sb ≠ G) (hrp : RdS .i64 wc wc.heap.size Ap s.pl) (hpG : ∀ ad, Ap = some ad → s.pl ≠ [] → ad.block ≠ G) (hrn : RdS .i64 wc wc.heap.size AN Nn) (hnG : ∀ ad, AN = some ad → ad.block ≠ G)
    (hP : s.pl.length = P) (hN : Nn.length = P) (hP1 : P ≤ 1000) (hn1 : n ≤ 1000) (hXl : X.length = n) (hpl : ∀ p ∈ s.pl, ∃ j : Nat, p = j ∧ j < n) (ho : wc.ownsRow n0 3 1 (.slice (some ⟨G, 0, none⟩) n n) n (X.map (Value.int .i64)))
    (hQ : ∀ (v17 v18 v68 v69 v70 v71 v72 v73 v74 v75 v76 v77 v78 v79 v80 v81 : Value) (V : World), V.ownsRow n0 3 1 (.slice (some ⟨G, 0, none⟩) n n) n ((M.put X s.pl Nn).map (Value.int .i64)) → S12.Turned wc V G → Q .normal ⟨(List.toArray (t0 :: t1 :: t2 :: t3 :: t4 :: t5 :: t6 :: t7 :: t8 :: t9 :: t10 :: (.slice (some ⟨G, 0, none⟩) n n) :: t12 :: t13 :: (.pointer (some ⟨Sb, 0, none⟩)) :: t15 :: t16 :: v17 :: v18 :: t19 :: t20 :: t21 :: t22 :: t23 :: t24 :: t25 :: t26 :: t27 :: t28 :: t29 :: t30 :: t31 :: t32 :: t33 :: t34 :: t35 :: t36 :: t37 :: t38 :: t39 :: t40 :: t41 :: t42 :: t43 :: t44 :: t45 :: t46 :: t47 :: t48 :: t49 :: t50 :: t51 :: t52 :: t53 :: t54 :: t55 :: t56 :: t57 :: t58 :: t59 :: t60 :: t61 :: t62 :: t63 :: t64 :: t65 :: (.slice AN P cN) :: (.int .i64 P) :: v68 :: v69 :: v70 :: v71 :: v72 :: v73 :: v74 :: v75 :: v76 :: v77 :: v78 :: v79 :: v80 :: v81 :: t82 :: t83 :: [])), []⟩ V) :
    c.wp Tryz.prog Q ⟨(List.toArray (t0 :: t1 :: t2 :: t3 :: t4 :: t5 :: t6 :: t7 :: t8 :: t9 :: t10 :: (.slice (some ⟨G, 0, none⟩) n n) :: t12 :: t13 :: (.pointer (some ⟨Sb, 0, none⟩)) :: t15 :: t16 :: t17 :: t18 :: t19 :: t20 :: t21 :: t22 :: t23 :: t24 :: t25 :: t26 :: t27 :: t28 :: t29 :: t30 :: t31 :: t32 :: t33 :: t34 :: t35 :: t36 :: t37 :: t38 :: t39 :: t40 :: t41 :: t42 :: t43 :: t44 :: t45 :: t46 :: t47 :: t48 :: t49 :: t50 :: t51 :: t52 :: t53 :: t54 :: t55 :: t56 :: t57 :: t58 :: t59 :: t60 :: t61 :: t62 :: t63 :: t64 :: t65 :: (.slice AN P cN) :: (.int .i64 P) :: (.int .i64 0) :: t69 :: t70 :: t71 :: t72 :: t73 :: t74 :: t75 :: t76 :: t77 :: t78 :: t79 :: t80 :: t81 :: t82 :: t83 :: [])), []⟩ wc := by
  simp [blockIn, paraBody, Tryz.f9] at hc
  subst hc
  have p1 : (P : Int) ≤ 1000 := by omega
  have n1 : (n : Int) ≤ 1000 := by omega
  have HR := Lib.hid (And.intro hrp (And.intro hpG (And.intro hrn hnG)))
  have HL := Lib.hid (And.intro hP (And.intro hN (And.intro hXl hpl)))
  have HS := Lib.hid hS
  have HO := Lib.hid ho
  have HQ := Lib.hid hQ
  clear hS hrp hpG hrn hnG hP hN hXl hpl ho hQ
  go_wp2_with fail
  go_loopw [68] (fun v wr => ∃ k : Nat, v = .int .i64 k ∧ k ≤ P ∧ wr.ownsRow n0 3 1 (.slice (some ⟨G, 0, none⟩) n n) n ((M.put X (s.pl.take k) (Nn.take k)).map (Value.int .i64)) ∧ S12.Turned wc wr G) (fun v _ => P - (intOf v).toNat)
  case atStart => exact ⟨0, rfl, Nat.zero_le _, HO.out, .refl _ _⟩
  case round =>
    obtain ⟨k, rfl, hk, ho, hT⟩ := hrel
    rename World => wr
    have k0 : (0 : Int) ≤ k := by omega
    have HT := Lib.hid hT
    by_cases hlt : k < P
    · have k1 : (k : Int) < P := by omega
      obtain ⟨hrp, hpG, hrn, hnG⟩ := HR.out
      obtain ⟨x, hx⟩ : ∃ x, s.pl[k]? = some x := ⟨_, List.getElem?_eq_getElem (by rw [HL.out.1]; exact hlt)⟩
      obtain ⟨q, rfl, hq⟩ := HL.out.2.2.2 x (List.mem_of_getElem? hx)
      obtain ⟨y, hy⟩ : ∃ y, Nn[k]? = some y := ⟨_, List.getElem?_eq_getElem (by rw [HL.out.2.1]; exact hlt)⟩
      obtain ⟨adp, hAp, -, t1⟩ := hrp k _ hx
      obtain ⟨adn, hAN, -, t2⟩ := hrn k _ hy
      have y0 := (hT.cell (p := ⟨Sb, 0, none⟩) hSb).trans HS.out
      have y1 := (hT.cell (p := adp.add k) (by rw [addr_block]; exact hpG adp hAp (fun e => by rw [e] at hx; simp at hx))).trans t1
      have y2 := (hT.cell (p := adn.add k) (by rw [addr_block]; exact hnG adn hAN)).trans t2
      have q00 : (0 : Int) ≤ q := by omega
      have q01 : (q : Int) < n := by omega
      obtain ⟨Y, hY⟩ : ∃ Y, M.put X (s.pl.take k) (Nn.take k) = Y := ⟨_, rfl⟩
      have hYl : Y.length = n := by rw [← hY, M.put_len, HL.out.2.2.1]
      have hnext := M.put_next (out := X) hx hy
      rw [hY, Int.toNat_natCast] at hnext
      rw [hY] at ho
      obtain ⟨z, hz⟩ : ∃ z, Y[q]? = some z := ⟨_, List.getElem?_eq_getElem (by omega)⟩
      have e1 : wr.cell? ⟨G, q, none⟩ = some (.int .i64 z) := by
        rw [World.ownsRow.cellAt ho q (by omega), List.getElem?_map, hz]
        rfl
      have e2 := World.ownsRow.frozenAt ho q
      have ho9 := (World.ownsRow.stored ho q (.int .i64 y)).1
      rw [← List.map_set, ← hnext] at ho9
      have HO9 := Lib.hid ho9
      have HT9 := Lib.hid (hT.setCell q (.int .i64 y))
      subst hAp hAN
      clear hrp hpG hrn hnG hx hy t1 t2 hY hYl hnext hz ho ho9 hT
      go_wp2_with fail
      go_roundw
      case rel => exact ⟨k + 1, by go_num, by omega, HO9.out, HT9.out⟩
      case measure => simp [intOf]; omega
    · obtain rfl : P = k := by omega
      have k1 : ¬ (P : Int) < P := by omega
      have h := ho
      rw [List.take_of_length_le (l := s.pl) (by rw [HL.out.1]; exact Nat.le_refl _), List.take_of_length_le (l := Nn) (by rw [HL.out.2.1]; exact Nat.le_refl _)] at h
      have HE := Lib.hid h
      clear ho h hT
      go_wp2_with fail
      exact HQ.out _ _ _ _ _ _ _ _ _ _ _ _ _ _ _ _ _ HE.out HT.out
set_option maxHeartbeats 8000000 in
theorem cpara_ok (A B : Option Addr) (ca cb n m : Nat) (l : List Int) (ms : List (Int × Int)) (b : Int) (w : World) (hr : RdS .i64 w w.heap.size A l) (hr2 : S11.RdT w w.heap.size B ms) (hn : l.length = n) (hm : ms.length = m) (hl : n ≤ 1000) (hl2 : m ≤ 1000) (hb : -1 ≤ b ∧ b ≤ 1) :
    Calls Tryz.prog 9 #[.slice A n ca, .slice B m cb, .int .i64 b] w (LevsOut (-1 ≤ b ∧ b ≤ 1) (M.para l ms (M.baseI l b)) w) := by
  obtain ⟨b0, hb0⟩ : ∃ b0, M.baseI l b = b0 := ⟨_, rfl⟩
  have h01 : b0 = 0 ∨ b0 = 1 := by
    rw [← hb0]
    unfold M.baseI
    split
    · exact M.strong_01 _ _
    · omega
  have HBC := Lib.hid (rvBase_any A ca n l b w hr hn hl)
  rw [hb0]
  rw [if_pos hb, if_pos hb, hb0] at HBC
  have HP := Lib.hid (cprep_any A ca n l b0 w hr hn hl)
  have HR2 := Lib.hid hr2
  have HN := Lib.hid hn
  have HM := Lib.hid hm
  have HBB := Lib.hid hb
  have H01 := Lib.hid h01
  have l1 : (n : Int) ≤ 1000 := by omega
  have l2 : (m : Int) ≤ 1000 := by omega
  obtain ⟨i0, hi, hz0, hz1, hz2⟩ := info_parts Tryz.infoInt13
  have hmk := fun w' => run_make (P := Tryz.prog) w' 25 3 i0 (.int .i64 0) Tryz.underlying25 hi hz0 .i64 .i64 n n (by omega) (Int.le_refl _) (by rw [hz2]; omega) (by omega)
  simp only [Int.toNat_natCast, hz1, Nat.mul_one] at hmk
  clear hz0 hz1 hz2 hi hr hr2 hn hm hb h01 hb0
  go_enter Tryz.func9, Tryz.ntmps9
  go_wp2_with fail
  refine HBC.out.mono ?_
  rintro r w1 ⟨rfl, rfl⟩
  go_wp2_with fail
  refine HP.out.mono ?_
  rintro r w2 ⟨hb2, hok, -⟩
  obtain ⟨A1, c1, A2, c2, rfl, hq, hrc⟩ := hok H01.out
  obtain ⟨ss, hss⟩ : ∃ ss, M.seqs l (M.levs l b0) b0 = ss := ⟨_, rfl⟩
  obtain ⟨K, hK⟩ : ∃ K, ss.length = K := ⟨_, rfl⟩
  obtain ⟨cs, hcs⟩ : ∃ cs, M.clsOf l b0 = cs := ⟨_, rfl⟩
  have hrc' : RdS .i64 w2 w2.heap.size A2 cs := by rw [← hcs]; exact hrc
  rw [hss] at hq
  rw [hss, hK, HN.out]
  have hfit : ∀ s ∈ ss, (s.fi = 0 ∨ s.fi = 1) ∧ (s.la = 0 ∨ s.la = 1) ∧ (0 ≤ s.lv ∧ s.lv ≤ 125) ∧ s.pl.length ≤ n ∧ ∀ p ∈ s.pl, ∃ j : Nat, p = j ∧ j < n := fun s hs => by
    rw [← hss] at hs
    have h := M.seqs_fit H01.out hs
    rwa [HN.out] at h
  have hcl : cs.length = n := by rw [← hcs]; unfold M.clsOf; rw [List.length_map, M.run_len, HN.out]
  have hKn : K ≤ 1000 := by
    have h1 := M.sqs_len l b0 (M.runs (M.levs l b0) b0) (M.runs (M.levs l b0) b0).length
    have h2 := M.runs_len (M.levs l b0) b0
    have h3 : (M.levs l b0).length = n := by rw [M.levs_len, HN.out]
    have h4 : (M.sqs l b0 (M.runs (M.levs l b0) b0) (M.runs (M.levs l b0) b0).length).length = K := by rw [← hK, ← hss]; rfl
    omega
  obtain ⟨W3, hW3⟩ : ∃ W3, w2.alloc (.cells (madeCells (Value.int .i64 0).cells n) 3) = W3 := ⟨_, rfl⟩
  have hb3 : Below w2.heap.size w2 W3 := by rw [← hW3]; exact (Below.refl _ _).alloc (Nat.le_refl _) _
  have hmk3 := hmk w2
  rw [hW3] at hmk3
  obtain ⟨G, hG⟩ : ∃ G, w2.heap.size = G := ⟨_, rfl⟩
  have ho3 : W3.ownsRow G 3 1 (.slice (some ⟨G, 0, none⟩) n n) n ((List.replicate 0 (-1) ++ List.replicate (n - 0) (0 : Int)).map (Value.int .i64)) := by
    rw [← hW3, ← hG, List.replicate_zero, List.nil_append, Nat.sub_zero, List.map_replicate, ← toList_madeCells_one]
    exact World.ownsRow_lit w2 _ n (Nat.le_refl _) (by unfold maxLen; omega) (by simp [madeCells])
  have HO3 := Lib.hid ho3
  have HB3 := Lib.hid hb3
  have HB2 := Lib.hid hb2
  have HQ := Lib.hid hq
  have HRC := Lib.hid hrc'
  have HFIT := Lib.hid hfit
  have HCL := Lib.hid hcl
  have HK := Lib.hid hK
  have HEQ := Lib.hid (And.intro hss hcs)
  have HG := Lib.hid hG
  rw [hG] at hmk3
  clear hb2 hok hq hrc hrc' hfit hcl hW3 hb3 hmk ho3 hss hK hcs HP HBC hG
  go_wp2_with fail
  go_loopw [43] (fun v wr => ∃ i : Nat, v = .int .i64 i ∧ i ≤ n ∧ wr.ownsRow G 3 1 (.slice (some ⟨G, 0, none⟩) n n) n ((List.replicate i (-1) ++ List.replicate (n - i) (0 : Int)).map (Value.int .i64)) ∧ Below G w2 wr) (fun v _ => n - (intOf v).toNat)
  case atStart => exact ⟨0, rfl, Nat.zero_le _, HO3.out, by rw [← HG.out]; exact HB3.out⟩
  case round =>
    obtain ⟨i, rfl, hi, ho, hbw⟩ := hrel
    rename World => wr
    have HB := Lib.hid hbw
    have i00 : (0 : Int) ≤ i := by omega
    by_cases hlt : i < n
    · have i01 : (i : Int) < n := by omega
      have hOl : (List.replicate i (-1) ++ List.replicate (n - i) (0 : Int)).length = n := by rw [List.length_append, List.length_replicate, List.length_replicate]; omega
      obtain ⟨y, hy⟩ : ∃ y, (List.replicate i (-1) ++ List.replicate (n - i) (0 : Int))[i]? = some y := ⟨_, List.getElem?_eq_getElem (by omega)⟩
      have c1 : wr.cell? ⟨G, i, none⟩ = some (.int .i64 y) := by
        rw [World.ownsRow.cellAt ho i (by omega), List.getElem?_map, hy]
        rfl
      have f1 := World.ownsRow.frozenAt ho i
      have ho2 := (World.ownsRow.stored ho i (.int .i64 (-1))).1
      rw [← List.map_set, rep_next _ _ hlt] at ho2
      have HO2 := Lib.hid ho2
      clear ho2 hy hOl ho hbw
      go_wp2_with fail
      go_roundw
      case rel => exact ⟨i + 1, by go_num, by omega, HO2.out, HB.out.setCell (p := ⟨G, i, none⟩) (Nat.le_refl _) _⟩
      case measure => simp [intOf]; omega
    · obtain rfl : n = i := by omega
      rw [Nat.sub_self, List.replicate_zero, List.append_nil] at ho
      have hnn : ¬ (n : Int) < n := by omega
      have HON := Lib.hid ho
      clear ho hbw hlt
      go_wp2_with fail
      go_loopw [52] (fun v wr => ∃ i : Nat, v = .int .i64 i ∧ i ≤ K ∧ wr.ownsRow G 3 1 (.slice (some ⟨G, 0, none⟩) n n) n ((M.paraTo cs ms (ss.take i) (List.replicate n (-1))).map (Value.int .i64)) ∧ Below G w2 wr) (fun v _ => K - (intOf v).toNat)
      case atStart => exact ⟨0, rfl, Nat.zero_le _, HON.out, HB.out⟩
      case round =>
        obtain ⟨i, rfl, hi, ho, hbw⟩ := hrel
        rename World => wr
        have HBW := Lib.hid hbw
        have HO := Lib.hid ho
        have i00 : (0 : Int) ≤ i := by omega
        by_cases hlt : i < K
        · have i01 : (i : Int) < K := by omega
          obtain ⟨s, hs⟩ : ∃ s, ss[i]? = some s := ⟨_, List.getElem?_eq_getElem (by rw [HK.out]; exact hlt)⟩
          obtain ⟨g, Ap, cp, hA1, hg, z0, z1, z2, z3, hrp, hpc, -, -⟩ := HQ.out i s hs
          subst hA1
          obtain ⟨P, hP⟩ : ∃ P, s.pl.length = P := ⟨_, rfl⟩
          rw [hP] at z0
          obtain ⟨f1, f2, f3, f4, f5⟩ := HFIT.out s (List.mem_of_getElem? hs)
          rw [hP] at f4
          rw [HG.out] at hg
          have y0 := (hbw.cell (p := ⟨g, i * 4, none⟩) hg).trans z0
          have y1 := (hbw.cell (p := ⟨g, i * 4 + 1, none⟩) hg).trans z1
          have y2 := (hbw.cell (p := ⟨g, i * 4 + 2, none⟩) hg).trans z2
          have y3 := (hbw.cell (p := ⟨g, i * 4 + 3, none⟩) hg).trans z3
          obtain ⟨W4, hW4, hb4, s0, s1, s2, s3, hz4⟩ := new_four wr (.slice Ap P cp) (.int .i64 s.lv) (.int .i64 s.fi) (.int .i64 s.la) 49
          have hw4 : Below G w2 W4 := hbw.trans (hb4.mono (Nat.le_of_lt (World.ownsRow.lt ho G rfl).2))
          have hGw : G < wr.heap.size := (World.ownsRow.lt ho G rfl).2
          have hG4 : G ≤ W4.heap.size := by omega
          have hrp4 : RdS .i64 W4 W4.heap.size Ap s.pl := ((hrp.keep fun p hp => hw4.cell (by rw [← HG.out]; exact hp)).more (by rw [HG.out]; exact hG4))
          have hpG : ∀ ad, Ap = some ad → s.pl ≠ [] → ad.block ≠ G := fun ad e hne => by
            cases hpl : s.pl with
            | nil => exact absurd hpl hne
            | cons p0 r0 =>
              obtain ⟨ad', hA', hb', -⟩ := hrp 0 p0 (by rw [hpl]; rfl)
              rw [e] at hA'
              injection hA' with hA'
              subst hA'
              rw [HG.out] at hb'
              omega
          have HC := Lib.hid (cseq_any Ap A2 B cp c2 cb n m P s cs ms W4 hrp4 ((HRC.out.keep fun p hp => hw4.cell (by rw [← HG.out]; exact hp)).more (by rw [HG.out]; exact hG4)) ((HR2.out.keep fun p hp => (HB2.out.trans (hw4.mono (by rw [← HG.out]; exact HB2.out.size))).cell hp).more (by have := HB2.out.size; have := HG.out; omega)) hP HCL.out HM.out (by omega) hl hl2 f5 f1 f2 f3)
          have HS := Lib.hid hs
          have HPL := Lib.hid (And.intro hP f5)
          have HRP := Lib.hid hrp4
          have HPG := Lib.hid hpG
          have HW4 := Lib.hid hw4
          have HS0 := Lib.hid s0
          have HB4 := Lib.hid hb4
          have hsz4 : wr.heap.size < W4.heap.size := by omega
          have hneG : wr.heap.size ≠ G := by omega
          clear hbw ho hs hrp hpc z0 z1 z2 z3 f1 f2 f3 f5 hP hw4 hG4 hrp4 hpG hb4 hz4
          go_wp2_with fail
          refine HC.out.mono ?_
          rintro r w7 ⟨hb7, vn, rfl, hon⟩
          clear s0 s1 s2 s3
          have hNl : (M.seqN cs ms s).length = P := by rw [M.seqN_len, HPL.out.1]
          obtain ⟨Nn, hNN⟩ : ∃ Nn, M.seqN cs ms s = Nn := ⟨_, rfl⟩
          rw [hNN] at hon hNl
          rw [← hNl] at hon
          obtain ⟨AN, cN, rfl, hrN, -, -, -⟩ := reads_own hon
          have hneN : ∀ ad, AN = some ad → ad.block ≠ G := fun ad e => by
            have h1 := (World.ownsRow.lt hon ad.block (by rw [e]; rfl)).1
            omega
          rw [hNl]
          have hbw7 : Below G w2 w7 := HW4.out.trans (hb7.mono (by omega))
          have ho7 := own_below HO.out (HB4.out.trans (hb7.mono HB4.out.size))
          have hS7 := (hb7.cell (p := ⟨wr.heap.size, 0, none⟩) hsz4).trans HS0.out
          have hrp7 := (HRP.out.below hb7).more hb7.size
          have HX := Lib.hid (And.intro hbw7 (And.intro ho7 (And.intro hS7 (And.intro hrp7 (And.intro hrN (And.intro hneN (And.intro hNl hNN)))))))
          clear hb7 hon hNl hNN hrN hneN hbw7 ho7 hS7 hrp7 HC
          go_upto_block 4 with fail
          refine pg_inner (s := s) (Ap := Ap) (cp := cp) (by simp [blockIn, paraBody, Tryz.f9]) HX.out.2.2.1 hneG HX.out.2.2.2.1 HPG.out HX.out.2.2.2.2.1 HX.out.2.2.2.2.2.1 HPL.out.1 HX.out.2.2.2.2.2.2.1 (by omega) hl ?_ HPL.out.2 HX.out.2.1 ?_
          · rw [M.paraTo_len, List.length_replicate]
          · intro v17 v18 v68 v69 v70 v71 v72 v73 v74 v75 v76 v77 v78 v79 v80 v81 V hV hT
            have HV := Lib.hid (show V.ownsRow G 3 1 (.slice (some ⟨G, 0, none⟩) n n) n ((M.paraTo cs ms (ss.take (i + 1)) (List.replicate n (-1))).map (Value.int .i64)) from by
              rw [M.paraTo_next HS.out, HX.out.2.2.2.2.2.2.2]
              exact hV)
            have HBV := Lib.hid (HX.out.1.trans (hT.below (Nat.le_refl _)))
            clear hV hT
            go_wp2_with fail
            go_roundw
            case rel => exact ⟨i + 1, by go_num, by omega, HV.out, HBV.out⟩
            case measure => simp [intOf]; omega
        · obtain rfl : K = i := by omega
          have kKK : ¬ (K : Int) < K := by omega
          have HNX := Lib.hid (show wr.ownsRow G 3 1 (.slice (some ⟨G, 0, none⟩) n n) n ((M.para l ms b0).map (Value.int .i64)) from by
            have h := ho
            rw [List.take_of_length_le (l := ss) (by rw [HK.out]; exact Nat.le_refl _), ← HEQ.out.1, ← HEQ.out.2] at h
            unfold M.para
            rw [HN.out]
            exact h)
          have HBR := Lib.hid (HB2.out.trans (hbw.mono (by rw [← HG.out]; exact HB2.out.size)))
          clear ho hbw
          go_wp2_with fail
          go_returns
          have h := HNX.out
          have hpl : (M.para l ms b0).length = n := by rw [M.para_len, HN.out]
          rw [← hpl] at h
          obtain ⟨AO, cO, e, hrO, hcO, -, -⟩ := reads_own h
          rw [hpl] at e hcO
          exact ⟨HBR.out, fun _ => ⟨AO, cO, by rw [hpl]; exact congrArg (fun v => Ending.returned (.tuple #[v, .int .i64 0])) e, hrO, by rw [hpl]; exact hcO⟩, fun hh => absurd HBB.out hh⟩
theorem cpara_no (A B : Option Addr) (ca cb n m : Nat) (l : List Int) (ms : List (Int × Int)) (b : Int) (w : World) (hr : RdS .i64 w w.heap.size A l) (hn : l.length = n) (hl : n ≤ 1000) (h : ¬ (-1 ≤ b ∧ b ≤ 1)) :
    Calls Tryz.prog 9 #[.slice A n ca, .slice B m cb, .int .i64 b] w (LevsOut (-1 ≤ b ∧ b ≤ 1) (M.para l ms (M.baseI l b)) w) := by
  have HBC := Lib.hid (rvBase_any A ca n l b w hr hn hl)
  rw [if_neg h, if_neg h] at HBC
  have HB := Lib.hid h
  clear h hr
  go_enter Tryz.func9, Tryz.ntmps9
  go_wp2_with fail
  refine HBC.out.mono ?_
  rintro r w1 ⟨rfl, rfl⟩
  go_wp2_with fail
  go_returns
  exact ⟨Below.refl _ _, fun h => absurd h HB.out, fun _ => rfl⟩
end Go.Proofs.YtjlfgojblimobaaGreat
end

section
namespace Go.Proofs.YtjlfgojblimobaaGreat
open Go.RowKit

theorem cbase_any (A : Option Addr) (ca n : Nat) (l : List Int) (b : Int) (w : World) (hr : RdS .i64 w w.heap.size A l) (hn : l.length = n) (hl : n ≤ 1000) (_ : n ≤ ca) :
    Calls Tryz.prog 12 #[.slice A n ca, .int .i64 b] w fun r w' => r = .returned (.tuple #[.int .i64 (if -1 ≤ b ∧ b ≤ 1 then M.baseI l b else 0), .int .i64 (if -1 ≤ b ∧ b ≤ 1 then 0 else 81)]) ∧ Below w.heap.size w w' :=
  (rvBase_any A ca n l b w hr hn hl).mono fun _ w' (h : _ ∧ w = w') => ⟨h.1, h.2 ▸ Below.refl _ _⟩
theorem cpara_any (A B : Option Addr) (ca cb n m : Nat) (l : List Int) (ms : List (Int × Int)) (b : Int) (w : World) (hr : RdS .i64 w w.heap.size A l) (hr2 : S11.RdT w w.heap.size B ms) (hn : l.length = n) (hm : ms.length = m) (hl : n ≤ 1000) (hl2 : m ≤ 1000) (_ : n ≤ ca) (_ : m ≤ cb) :
    Calls Tryz.prog 9 #[.slice A n ca, .slice B m cb, .int .i64 b] w (LevsOut (-1 ≤ b ∧ b ≤ 1) (M.para l ms (M.baseI l b)) w) := by
  by_cases h : -1 ≤ b ∧ b ≤ 1
  · exact cpara_ok A B ca cb n m l ms b w hr hr2 hn hm hl hl2 h
  · exact cpara_no A B ca cb n m l ms b w hr hn hl h
end Go.Proofs.YtjlfgojblimobaaGreat
end

section
namespace Go.Proofs.YtjlfgojblimobaaGreat
open Go.RowKit
set_option maxRecDepth 100000

def M.levOr (ok : Prop) [Decidable ok] (t : List Int) : List Int := if ok then t else []
def M.levErr (ok : Prop) [Decidable ok] : Int := if ok then 0 else 81
theorem lev_out {ok : Prop} [Decidable ok] {t : List Int} {w : World} {r : Ending} {w' : World} (h : LevsOut ok t w r w') :
    ∃ A c, r = .returned (.tuple #[.slice A (M.levOr ok t).length c, .int .i64 (M.levErr ok)]) ∧ RdS .i64 w' w'.heap.size A (M.levOr ok t) ∧ Below w.heap.size w w' ∧ (M.levOr ok t).length ≤ c := by
  obtain ⟨hb, hy, hn⟩ := h
  unfold M.levOr M.levErr
  by_cases hk : ok
  · obtain ⟨A, c, h1, h2, h3⟩ := hy hk
    rw [if_pos hk, if_pos hk]
    exact ⟨A, c, h1, h2, hb, h3⟩
  · rw [if_neg hk, if_neg hk]
    exact ⟨none, 0, hn hk, RdS.nil, hb, Nat.zero_le _⟩
theorem M.levOr_len {ok : Prop} [Decidable ok] {t : List Int} : (M.levOr ok t).length ≤ t.length := by
  unfold M.levOr
  split
  · exact Nat.le_refl _
  · exact Nat.zero_le _
theorem M.line_len {l lv : List Int} {f t b : Int} : (M.line l lv f t b).length ≤ l.length := by
  unfold M.line
  generalize h1 : (l.take t.toNat).drop f.toNat = p
  generalize (lv.take t.toNat).drop f.toNat = q
  have h2 : p.length ≤ l.length := by
    rw [← h1, List.length_drop, List.length_take]
    omega
  have h3 : ∀ (last : Int) (p q : List Int), (M.ln b last p q).length ≤ p.length := fun last p => by
    induction p generalizing last with
    | nil => intro q; cases q <;> exact Nat.le_refl _
    | cons c r ih =>
      intro q
      cases q with
      | nil => exact Nat.zero_le _
      | cons x s => exact Nat.succ_le_succ (ih _ s)
  exact Nat.le_trans (h3 _ _ _) h2
theorem live_para : M.para [0, 12, 1, 12, 3, 12, 0, 12] [] (M.baseI [0, 12, 1, 12, 3, 12, 0, 12] (-1)) = [0, 0, 1, 1, 2, 0, 0, 0] := by
  have hb : M.baseI [0, 12, 1, 12, 3, 12, 0, 12] (-1) = 0 := by decide +kernel
  rw [hb, M.para_flat (n := 7) (.inl rfl) (fun c hc => ?_) rfl]
  · decide +kernel
  · simp at hc
    rcases hc with rfl | rfl | rfl | rfl | rfl | rfl | rfl | rfl <;> exact ⟨by omega, rfl, rfl, by omega, by omega⟩
theorem live_line : M.lineOk [0, 12, 1, 12, 3, 12, 0, 12] [0, 0, 1, 1, 2, 0, 0, 0] 2 6 0 ∧ M.line [0, 12, 1, 12, 3, 12, 0, 12] [0, 0, 1, 1, 2, 0, 0, 0] 2 6 0 = [1, 1, 2, 0] := by decide +kernel
set_option maxHeartbeats 8000000 in
theorem alive_any (w : World) : Calls Tryz.prog 8 #[] w fun r w' => r = .returned (.bool true) ∧ Below w.heap.size w w' := by
  obtain ⟨W1, hW1⟩ : ∃ W1, w.alloc (.cells #[.int .i64 0, .int .i64 12, .int .i64 1, .int .i64 12, .int .i64 3, .int .i64 12, .int .i64 0, .int .i64 12] 39) = W1 := ⟨_, rfl⟩
  have hb1 : Below w.heap.size w W1 := by rw [← hW1]; exact (Below.refl _ _).alloc (Nat.le_refl _) _
  have hrd1 : RdS .i64 W1 W1.heap.size (some ⟨w.heap.size, 0, none⟩) [0, 12, 1, 12, 3, 12, 0, 12] := by rw [← hW1]; exact rd_new w [0, 12, 1, 12, 3, 12, 0, 12] 39
  have HL := Lib.hid hrd1
  have HB1 := Lib.hid hb1
  clear hb1 hrd1
  have HP := Lib.hid (cpara_any (some ⟨w.heap.size, 0, none⟩) none 8 0 8 0 [0, 12, 1, 12, 3, 12, 0, 12] [] (-1) W1 HL.out S11.RdT.nil rfl rfl (by omega) (by omega) (Nat.le_refl _) (Nat.le_refl _))
  rw [live_para] at HP
  go_enter Tryz.func8, Tryz.ntmps8
  go_wp2_with fail
  refine HP.out.mono ?_
  rintro r w2 ⟨hb2, hok, -⟩
  obtain ⟨A3, c3, rfl, hr3, hc3⟩ := hok ⟨by omega, by omega⟩
  have hc3' : 8 ≤ c3 := hc3
  have HX := Lib.hid hr3
  have HB2 := Lib.hid (HB1.out.trans (hb2.mono HB1.out.size))
  have HL2 := Lib.hid ((HL.out.below hb2).more hb2.size)
  have HQ := Lib.hid (cline_any (some ⟨w.heap.size, 0, none⟩) A3 8 c3 8 8 2 6 0 [0, 12, 1, 12, 3, 12, 0, 12] [0, 0, 1, 1, 2, 0, 0, 0] w2 HL2.out hr3 rfl rfl (by omega) (by omega) (Nat.le_refl _) hc3')
  rw [live_line.2] at HQ
  clear hb2 hok hr3 hc3 hc3'
  go_wp2_with fail
  refine HQ.out.mono ?_
  rintro r w3 ⟨hb3, hok, -⟩
  obtain ⟨A4, c4, rfl, hr4, hc4⟩ := hok live_line.1
  have HY := Lib.hid hr4
  have HX3 := Lib.hid ((HX.out.below hb3).more hb3.size)
  have HB3 := Lib.hid (HB2.out.trans (hb3.mono HB2.out.size))
  have HL3 := Lib.hid ((HL2.out.below hb3).more hb3.size)
  have HZ := Lib.hid (cbase_any (some ⟨w.heap.size, 0, none⟩) 8 8 [0, 12, 1, 12, 3, 12, 0, 12] 2 w3 HL3.out rfl (by omega) (Nat.le_refl _))
  rw [if_neg (by omega), if_neg (by omega)] at HZ
  clear hb3 hok hr4 hc4
  go_wp2_with fail
  refine HZ.out.mono ?_
  rintro r w4 ⟨rfl, hb4⟩
  have HX4 := Lib.hid ((HX3.out.below hb4).more hb4.size)
  have HY4 := Lib.hid ((HY.out.below hb4).more hb4.size)
  have HB4 := Lib.hid (HB3.out.trans (hb4.mono HB3.out.size))
  clear hb4
  go_wp2_with fail
  obtain ⟨W5, hW5⟩ : ∃ X, w4.alloc (.cells #[.int .i64 0, .int .i64 0, .int .i64 1, .int .i64 1, .int .i64 2, .int .i64 0, .int .i64 0, .int .i64 0] 3) = X := ⟨_, rfl⟩
  have hb5 : Below w4.heap.size w4 W5 := by rw [← hW5]; exact (Below.refl _ _).alloc (Nat.le_refl _) _
  have hrd5 : RdS .i64 W5 W5.heap.size (some ⟨w4.heap.size, 0, none⟩) [0, 0, 1, 1, 2, 0, 0, 0] := by rw [← hW5]; exact rd_new w4 [0, 0, 1, 1, 2, 0, 0, 0] 3
  rw [hW5]
  refine (ints_same A3 (some ⟨w4.heap.size, 0, none⟩) c3 8 8 [0, 0, 1, 1, 2, 0, 0, 0] W5 ((HX4.out.below hb5).more hb5.size) hrd5 rfl (by omega)).mono ?_
  rintro r w6 ⟨rfl, hb6⟩
  have HY6 := Lib.hid ((HY4.out.below (hb5.trans (hb6.mono hb5.size))).more (Nat.le_trans hb5.size hb6.size))
  have HB6 := Lib.hid (HB4.out.trans ((hb5.trans (hb6.mono hb5.size)).mono HB4.out.size))
  clear hb5 hrd5 hb6 hW5
  go_wp2_with fail
  obtain ⟨W7, hW7⟩ : ∃ X, w6.alloc (.cells #[.int .i64 1, .int .i64 1, .int .i64 2, .int .i64 0] 3) = X := ⟨_, rfl⟩
  have hb7 : Below w6.heap.size w6 W7 := by rw [← hW7]; exact (Below.refl _ _).alloc (Nat.le_refl _) _
  have hrd7 : RdS .i64 W7 W7.heap.size (some ⟨w6.heap.size, 0, none⟩) [1, 1, 2, 0] := by rw [← hW7]; exact rd_new w6 [1, 1, 2, 0] 3
  rw [hW7]
  refine (ints_same A4 (some ⟨w6.heap.size, 0, none⟩) c4 4 4 [1, 1, 2, 0] W7 ((HY6.out.below hb7).more hb7.size) hrd7 rfl (by omega)).mono ?_
  rintro r w8 ⟨rfl, hb8⟩
  have HB8 := Lib.hid (HB6.out.trans ((hb7.trans (hb8.mono hb7.size)).mono HB6.out.size))
  clear hb7 hrd7 hb8 hW7
  go_wp2_with fail
  go_ret
  exact ⟨rfl, HB8.out⟩
end Go.Proofs.YtjlfgojblimobaaGreat
end

section
namespace Go.Proofs.YtjlfgojblimobaaGreat.S11
open Go.RowKit
set_option maxRecDepth 100000

set_option maxHeartbeats 8000000 in
theorem marks_any (B : Option Addr) (cb m : Nat) (ms : List (Int × Int)) (w : World) (hr : RdT w w.heap.size B ms) (hm : ms.length = m) (hl : m ≤ 8796093022208) :
    Calls Tryz.prog 10 #[.slice B m cb] w (OutT 53 ms w) := by
  obtain ⟨i0, hi, hz0, hz1, hz2⟩ := info_parts Tryz.infoMark
  have HR := Lib.hid hr
  have HM := Lib.hid hm
  have hl1 : (m : Int) ≤ 8796093022208 := by omega
  clear hr hm
  go_enter Tryz.func10, Tryz.ntmps10
  go_wp2_with fail
  go_loopw [3, 4] (fun o v wr => ∃ (k : Nat) (acc : List (Int × Int)), v = .int .i64 k ∧ k ≤ m ∧ acc = ms.take k ∧ OwnT wr w.heap.size 53 o acc ∧ Below w.heap.size w wr) (fun _ v _ => m - (intOf v).toNat)
  case atStart => exact ⟨0, [], rfl, Nat.zero_le _, rfl, OwnT.nil _ _ _, Below.refl _ _⟩
  case round =>
    obtain ⟨k, acc, rfl, hk, hacc, ho, hb⟩ := hrel
    rename World => wr
    have HB := Lib.hid hb
    have k0 : (0 : Int) ≤ k := by omega
    by_cases hlt : k < m
    · have k1 : (k : Int) < m := by omega
      obtain ⟨ad, a, b, rfl, c0, c1, hab, hbl⟩ := two_at HR.out hb (by rw [HM.out]; exact hlt)
      have hal : acc.length = k := by rw [hacc, List.length_take, HM.out]; omega
      have ho' := ho
      unfold OwnT at ho'
      rw [hal] at ho'
      have HO := Lib.hid ho'
      have HAL := Lib.hid hal
      have HNX := Lib.hid (show acc ++ [(a, b)] = ms.take (k + 1) by
        obtain ⟨hj, e⟩ := List.getElem?_eq_some_iff.1 hab
        rw [hacc, List.take_succ_eq_append_getElem hj, e])
      have hbs := hb.size
      have hsV : ad.block < wr.heap.size := Nat.lt_of_lt_of_le hbl hbs
      have hne := fun (hh : some ad.block = Value.ownBlock _) => (show False by have := (World.ownsRow.lt HO.out _ hh.symm).1; omega)
      clear hb ho ho' hal hacc hab
      go_wp2_with fail
      go_region_held3 (fun w' => w'.cell? (ad.add (k * 2)) = some (.int .i64 a) ∧ w'.cell? ⟨(ad.add (k * 2)).block, (ad.add (k * 2)).off + 1, none⟩ = some (.int .i64 b))
        (first | go_keep | (refine ⟨?_, ?_⟩ <;> (rw [hgrow3.cell_far _ (by simp [addr_block] <;> omega) (by simpa only [addr_block] using hne)]; first | assumption | simp [*])))
        ((refine step_append_lies _ (by rfl) _ _ _ (by rfl) w.heap.size 53 i0 _ 2 16 Tryz.underlying29 hi hz0 hz1 hz2 rfl (by omega) _ _ _ (by rfl) ((World.ownsRow.alloc HO.out _).drew) ⟨wr.heap.size, 0, none⟩ 1 1 [.int .i64 a, .int .i64 b] (by rfl) (by rfl) (two_new wr a b _) (two_one) (by omega) (by unfold maxLen; omega) (by omega) (by simp; omega) (wr.heap.size + 1) (by simp) ?_; intro gg cap w3 hown3 hgrow3 hat hlt))
      have HO3 := Lib.hid (show OwnT w3 w.heap.size 53 (.slice (some ⟨gg, 0, none⟩) (k + 1) cap) (acc ++ [(a, b)]) from OwnT.snoc (by rw [HAL.out]; exact hown3))
      have HB3 := Lib.hid (((HB.out.alloc hbs _).drew).grown hgrow3 (by simp; omega) (fun j hj => (World.ownsRow.lt HO.out j hj).1))
      clear hown3 hgrow3 hat hlt
      go_wp2_with fail
      go_roundw
      case rel => exact ⟨k + 1, acc ++ [(a, b)], by go_num, by omega, HNX.out, HO3.out, HB3.out⟩
      case measure => simp [intOf]; omega
    · obtain rfl : k = m := by omega
      have hnk : ¬ (k : Int) < (k : Int) := by omega
      have he : acc = ms := by rw [hacc, List.take_of_length_le (by rw [HM.out]; exact Nat.le_refl _)]
      rw [he] at ho
      have HO := Lib.hid ho
      clear hb ho hacc he
      go_wp2_with fail
      go_ret
      exact ⟨_, rfl, HO.out, HB.out⟩
end Go.Proofs.YtjlfgojblimobaaGreat.S11
end
