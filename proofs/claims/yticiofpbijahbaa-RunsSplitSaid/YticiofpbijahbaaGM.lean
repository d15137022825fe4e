/- The walk of the body of package runs' Split's range over level runs: a run goes on a sequence, or begins one. -/
import Derived.Test.YticiofpbijahbaaGL
section
namespace Go.Proofs.Yticiofpbijahbaa
open Go.RowKit Go.Shelf
attribute [local go_sem] Oper.semAt_some
set_option maxRecDepth 100000

/-- The temporaries, where the rest of a round's body begins. -/
def TailAct (BL BB BA BE BM Br kk : Nat) (a : Act) : Prop := ∃ t0 t1 t2 t4 t6 t7 t13 t14 t15 t16 t17 t18 t19 t20 t21 t22 t23 t24 t25 t26 t27 t28 t29 t30 t31 t32 t33 t34 t35 t36 t37 t38 t39 t40 t41 t42 t43 t44 t45 t46 t47 t48 t49 t50 t51 t52 t53 t54 t55 t56 t57 t58 t59 t60 t61 t62 t63 t64 t65 t66 t67 t68 t69 t70 t71 t72 t73 t74 t75 t76 t77 t78 t79 t80 t81 t82 t83 t84 t85 t86 t87 t88 t89 t90 t91 t92 t93 t94 t95 t96 t97 t98 t99 t100 t101 t102 t103 t104 t105 t106 : Value, a = ⟨(List.toArray (t0 :: t1 :: t2 :: (.pointer (some ⟨BL, 0, none⟩)) :: t4 :: (.pointer (some ⟨BB, 0, none⟩)) :: t6 :: t7 :: (.pointer (some ⟨BA, 0, none⟩)) :: (.pointer (some ⟨BE, 0, none⟩)) :: (.pointer (some ⟨BM, 0, none⟩)) :: (.pointer (some ⟨Br, 0, none⟩)) :: (.int .i64 kk) :: t13 :: t14 :: t15 :: t16 :: t17 :: t18 :: t19 :: t20 :: t21 :: t22 :: t23 :: t24 :: t25 :: t26 :: t27 :: t28 :: t29 :: t30 :: t31 :: t32 :: t33 :: t34 :: t35 :: t36 :: t37 :: t38 :: t39 :: t40 :: t41 :: t42 :: t43 :: t44 :: t45 :: t46 :: t47 :: t48 :: t49 :: t50 :: t51 :: t52 :: t53 :: t54 :: t55 :: t56 :: t57 :: t58 :: t59 :: t60 :: t61 :: t62 :: t63 :: t64 :: t65 :: t66 :: t67 :: t68 :: t69 :: t70 :: t71 :: t72 :: t73 :: t74 :: t75 :: t76 :: t77 :: t78 :: t79 :: t80 :: t81 :: t82 :: t83 :: t84 :: t85 :: t86 :: t87 :: t88 :: t89 :: t90 :: t91 :: t92 :: t93 :: t94 :: t95 :: t96 :: t97 :: t98 :: t99 :: t100 :: t101 :: t102 :: t103 :: t104 :: t105 :: t106 :: [])), []⟩
/-- What holds where the rest of a round's body begins. -/
def TailIn (z y n0 : Nat) (ad : Addr) (ca n : Nat) (AE : Option Addr) (cE : Nat) (l : List Int) (b : Int) (lv : List Int) (w W : World) (Br g2 p' c2 : Nat) (r : M.Rn) (t : Nat) (a' : Act) (Y : World) : Prop :=
  ∃ (ss : List M.Sq) (vs : List Sv) (va : Value) (s : M.Sq) (v : Sv) (kk : Nat), TailAct z (z + 1) (z + 2) y (y + 1 + 1) Br kk a' ∧ SpMid z (z + 1) (z + 2) y (y + 1 + 1) (y + 1) n0 (some ad) ca n AE cE l b w W Br g2 (p' + 1) c2 r ss vs va (M.mp l (M.runs lv b) t) t Y ∧ ss[kk]? = some s ∧ vs[kk]? = some v ∧ ss.length ≤ 1001 ∧ s.pl.length ≤ 1000 ∧ (0 ≤ s.lv ∧ s.lv ≤ 125) ∧ ss.set kk (s.with_ l b r) = M.sqs l b (M.runs lv b) (t + 1) ∧ M.sqOf l (M.runs lv b) t = kk
theorem then_normal {R : Act → World → Prop} {Q : Exit → Act → World → Prop} {a : Act} {w : World} (h : R a w) : Exit.then R Q .normal a w := h
theorem seq_to {F : Fence} {n : Nat} {P : Program} {c c' : Code} {Q : Exit → Act → World → Prop} {a : Act} {w : World} (R : Act → World → Prop) (h1 : c.wpIn F n P (Exit.then R Q) a w) (h2 : ∀ a' w', R a' w' → c'.wpIn F n P Q a' w') : (c.seq c').wpIn F n P Q a w :=
  wpIn_seq (wpIn_mono h1 fun e a' w' h => by cases e <;> first | exact h2 _ _ h | exact h)
/-- The temporaries where a round's body begins. -/
def splitTm (A B : Option Addr) (ca cb n m : Nat) (b : Int) (AE : Option Addr) (cE z y u : Nat) (x : Yi) (Br : Nat) : Array Value :=
  #[.slice A n ca, .slice B m cb, .int .i64 b,
    .pointer (some ⟨z, 0, none⟩), undef, .pointer (some ⟨z + 1, 0, none⟩), .slice none 0 0, .int .i64 0,
    .pointer (some ⟨z + 2, 0, none⟩), .pointer (some ⟨y, 0, none⟩), .pointer (some ⟨y + 1 + 1, 0, none⟩), .pointer (some ⟨Br, 0, none⟩), undef, undef, undef, undef, undef,
    .int .i64 b, .bool true, .bool false, .bool false, .slice A n ca, .slice B m cb, .bool true, .bool false, .bool false, .slice A n ca,
    .slice AE n cE, .map (some (y + 1)), .slice B m cb, .int .i64 b,
    .func (.func 39) #[] #[.pointer (some ⟨u + 1, 0, none⟩), .pointer (some ⟨u, 0, none⟩)],
    .agg #[x.slice, .int .i64 x.1.lv, .int .i64 x.1.ah, .int .i64 x.1.be], undef, undef, undef, undef, undef, undef, undef, undef, undef, undef, undef, undef, undef, undef, undef, undef, undef, undef, undef, undef, undef, undef, undef, undef, undef, undef, undef, undef, undef, undef, undef, undef, undef, undef, undef, undef, undef, undef, undef, undef, undef, undef, undef, undef, undef, undef, undef, undef, undef, undef, undef, undef, undef, undef, undef, undef, undef, undef, undef, undef, undef, undef, undef, undef, undef, undef, undef, undef, undef, undef, undef, undef, undef, undef]

set_option maxHeartbeats 8000000 in
theorem body_any {body : Code} (hbody : rangeBody ((Try.f8.body).getD .skip) = some body) (j nn : Nat) (pre : List Yi) (x : Yi) (a₁ : Act) (W w : World) (A B : Option Addr) (ca cb n m : Nat) (l lv : List Int) (b : Int) (AE : Option Addr) (cE z y u n0 : Nat)
    (hz : w.heap.size = z) (hu : u = y + 3) (hy : n0 = y + 5) (hzy : z + 3 ≤ y)
    (hr : RdS .i64 w w.heap.size A l) (hn : l.length = n) (hl : n ≤ 1000) (hm : lv.length = m) (hf : M.Fits l lv b)
    (hround : SpRound z (z + 1) (z + 2) y (y + 1 + 1) (y + 1) n0 A ca n AE cE l b lv w (splitTm A B ca cb n m b AE cE z y u) pre x a₁ W) (hlen : pre.length < (M.runs lv b).length) :
    body.wpIn (Fence.wide.inRound j) nn Try.prog (ownPostG n0 (KeepsR z u (u + 1)) (SpInv z (z + 1) (z + 2) y (y + 1 + 1) (y + 1) n0 A ca n AE cE l b lv w) (fun _ _ _ => False) (pre ++ [x]) W) a₁ W := by
  have hlie : SpLie z (z + 1) (z + 2) y (y + 1 + 1) (y + 1) n0 w := by
    refine ⟨?_, ?_, ?_, ?_, ?_, ?_, ?_⟩ <;> first | (refine ⟨?_, ?_, ?_⟩ <;> omega) | omega
  obtain ⟨⟨pl, x0, a0, e0⟩, A2, c2⟩ := x
  obtain ⟨⟨vs, va, hfx, hsq, hmp⟩, ⟨hnx, hrw⟩, Br, hBr, hrun, rfl⟩ := hround
  obtain ⟨t, ht⟩ : ∃ t, pre.length = t := ⟨_, rfl⟩
  rw [ht] at hsq hmp hnx hlen
  obtain ⟨p, hp⟩ : ∃ p, pl.length = p := ⟨_, rfl⟩
  have hrn : M.rn (M.runs lv b) t = ⟨pl, x0, a0, e0⟩ := M.rn_at hnx
  have hrm : (⟨pl, x0, a0, e0⟩ : M.Rn) ∈ M.runs lv b := List.mem_of_getElem? hnx
  obtain ⟨⟨hx0, hx1⟩, ⟨ha0, ha1⟩, ⟨he0, he1⟩, hbh0, hbh1⟩ := hf.run hrm
  obtain ⟨f0, q0, hfs, hls, hf0, hq0, hpf, hpq, hp0, -, -⟩ := M.run_ends hrm
  have hpm := M.rpl_len hrm
  dsimp only at hx0 hx1 ha0 ha1 he0 he1 hpf hpq hp0 hpm
  simp only [Yi.slice, hp] at hrun hrw
  rw [hp] at hpq hp0 hpm
  rw [hm] at hf0 hq0 hpm
  obtain ⟨g2, rfl, -⟩ : ∃ g2, A2 = some ⟨g2, 0, none⟩ ∧ True := by
    rcases hrw.2 with ⟨_, h0⟩ | ⟨g, _, _, hv, _⟩
    · omega
    · injection hv with e; exact ⟨g, e, trivial⟩
  obtain ⟨p', rfl⟩ : ∃ p', p = p' + 1 := ⟨p - 1, by omega⟩
  rw [Nat.add_sub_cancel] at hpq
  have hnm : n = m := by have := hf.len; omega
  obtain ⟨ad, cq, rfl, -, hcq, -⟩ := rd_at hr (Below.refl _ _) (show q0 < l.length by omega)
  have hmid : SpMid z (z + 1) (z + 2) y (y + 1 + 1) (y + 1) n0 (some ad) ca n AE cE l b w W Br g2 (p' + 1) c2 ⟨pl, x0, a0, e0⟩ (M.sqs l b (M.runs lv b) t) vs va (M.mp l (M.runs lv b) t) t W :=
    ⟨hfx, hsq, hmp, hrun, hrw, Kept.refl hfx.size⟩
  have hch := M.runs_chains l lv b
  have hmpt := M.mp_at hch hlen
  have htm : t + 1 ≤ 1000 := by have := M.runs_len lv b; omega
  have hfr : M.from_ (M.runs lv b) t = f0 := by unfold M.from_; rw [hrn]; exact hfs
  rw [hfr] at hmpt
  obtain ⟨sg, hsg⟩ : ∃ sg, sg = (Yi.slice (⟨pl, x0, a0, e0⟩, some ⟨g2, 0, none⟩, c2)) := ⟨_, rfl⟩
  have HMID := Lib.hid hmid
  have HLIE := Lib.hid hlie
  have HM := Lib.hid hm
  have HR := Lib.hid hr
  have HF := Lib.hid hf
  have HT := Lib.hid ht
  have HP := Lib.hid hp
  have HRN := Lib.hid hrn
  have HRM := Lib.hid hrm
  have HLS := Lib.hid hls
  have HBH := Lib.hid (show 0 ≤ M.bh l b ⟨pl, x0, a0, e0⟩ ∧ M.bh l b ⟨pl, x0, a0, e0⟩ ≤ 125 from ⟨hbh0, hbh1⟩)
  have HLEN := Lib.hid hlen
  have HCH := Lib.hid hch
  have HCQ := Lib.hid hcq
  have HPQ := Lib.hid hpq
  have HN := Lib.hid hn
  have HFIN := Lib.hid (show ∀ W', Kept n0 (z + 2) (y + 1) W W' → KeepsFrom n0 W W' ∧ KeepsR z u (u + 1) W W' from fun W' k => ⟨k.from_, k.keepsR (by omega) (by omega) (by omega) (by omega) (by omega) (by omega) (by omega) hsq.box hmp.obj⟩)
  have hf01 : (0 : Int) ≤ f0 := by omega
  have hf02 : (f0 : Int) ≤ 1000 := by omega
  have hq1 : (0 : Int) ≤ q0 := by omega
  have hq2 : (q0 : Int) < n := by omega
  have hp1 : (0 : Int) < ((p' + 1 : Nat) : Int) := by omega
  -- the run's cells
  have d0 : ∀ d os, (Sort.grow (redrawn W d) os).cell? ⟨Br, 0, none⟩ = some (.slice (some ⟨g2, 0, none⟩) (p' + 1) c2) := fun d os => cell_regrown (hrun.cell (i := 0) rfl) d os
  have q1 : ∀ d os, (Sort.grow (redrawn W d) os).cell? ⟨g2, 0, none⟩ = some (.int .i64 f0) := fun d os => cell_regrown (World.ownsRow.cells hrw (g := g2) rfl 0 _ (by rw [List.getElem?_map, hpf]; rfl)) d os
  have m0 : ∀ d os, (Sort.grow (redrawn W d) os).cell? ⟨y + 1 + 1, 0, none⟩ = some (.map (some (y + 1))) := fun d os => cell_regrown hfx.boxM.cell d os
  have hlk := fun d os => (hmp.keep ((below_regrown W d os).block _ hmp.lt)).look (e := (f0 : Int)) (by omega) hf02
  rw [hmpt] at hlk
  have HZ := Lib.hid (show z + 3 ≤ y ∧ n0 = y + 5 from ⟨hzy, hy⟩)
  simp only [splitTm, ← hsg]
  clear hmpt hch hrn hrw hrun hfs hls hbh0 hbh1 hfx hsq hmp hmid hnx hrm ht hp hlie hm hr hf hz hu hy hzy hlen hcq hpq hn hfr hsg hpf hq0 hf0 hpm hp0 hnm
  simp [rangeBody, Try.f8] at hbody
  subst hbody
  cases hpv : M.pv (M.goes l (M.runs lv b)) (M.from_ (M.runs lv b)) t with
  | none =>
    rw [hpv] at hlk
    have HPV := Lib.hid hpv
    clear hpv
    have hlk2 : ∀ d os, (Instr.lookup 50 (.map (some (y + 1))) (.int .i64 f0) true).run Try.prog (Sort.grow (redrawn W d) os) = .ok (.tuple #[.int .i64 0, .bool false]) (Sort.grow (redrawn W d) os) := hlk
    clear hlk
    gi_wp2_with fail
    refine region_quiet (by kernel_rfl) (by kernel_rfl) (by kernel_rfl) ?_
    repeat (go_big_quiet_step (fail))
    refine wpQuiet_nil ?_
    intro _ hw'
    obtain ⟨⟨dq, osq⟩, hw4⟩ := hw'
    subst hw4
    have hm2 := HMID.out.later HLIE.out (below_regrown W dq osq)
    obtain ⟨X, hX⟩ : ∃ X, Sort.grow (redrawn W dq) osq = X := ⟨_, rfl⟩
    rw [hX] at hm2
    dsimp only
    rw [hX]
    clear d0 q1 m0 hlk2 hX
    rename_i Kf hKf
    refine hKf _ _ ?_
    refine seq_to (TailIn z y n0 ad ca n AE cE l b lv w W Br g2 p' c2 ⟨pl, x0, a0, e0⟩ t) ?_ ?_
    · obtain ⟨A4, c4, rfl, hn4⟩ := own_form hm2.sq.row
      obtain ⟨K, hK⟩ : ∃ K, (M.sqs l b (M.runs lv b) t).length = K := ⟨_, rfl⟩
      have hK1 : K + 1 ≤ 1000 := by have := M.sqs_len l b (M.runs lv b) t; omega
      have cA := hm2.sq.box.cell
      rw [hK] at cA
      have hBA : Br ≠ z + 2 := by have h1 := HLIE.out.am; have h2 := HLIE.out.mn; omega
      obtain ⟨D, hD⟩ : ∃ D, X.drew = D := ⟨_, rfl⟩
      have hmD := hm2.later HLIE.out (show Below X.heap.size X D by rw [← hD]; exact (Below.refl _ _).drew)
      obtain ⟨sv, hsv⟩ : ∃ y, M.sd x0 a0 = y := ⟨_, rfl⟩
      obtain ⟨D1, hD1⟩ : ∃ Y, D.alloc (.cells #[.slice none 0 0, .int .i64 x0, .int .i64 sv, .int .i64 0] 46) = Y := ⟨_, rfl⟩
      have hD1s : D1.heap.size = D.heap.size + 1 := by rw [← hD1]; simp
      have hrow1 := hmD.sq.row.alloc (.cells #[.slice none 0 0, .int .i64 x0, .int .i64 sv, .int .i64 0] 46)
      rw [hD1, hK] at hrow1
      obtain ⟨i1, hi1, hi2, hi3, hi4⟩ := info_parts Try.infoSeq
      have hsz := hmD.fix.size
      obtain ⟨g, cap, D2, hrunA, hownA, hgrowA, hatA, -⟩ := run_append_lies (P := Try.prog) D1 25 25 n0 46 i1 _ 4 48 Try.underlying25 hi1 hi2 hi3 hi4 rfl (by decide) _ K _ hrow1 ⟨D.heap.size, 0, none⟩ 1 1 [.slice none 0 0, .int .i64 x0, .int .i64 sv, .int .i64 0] rfl (World.news_of_block (by rw [← hD1]; exact World.alloc_heap_new _ _)) (by intro u hu; simp at hu; rcases hu with rfl | rfl | rfl | rfl <;> rfl) (by decide) (by unfold maxLen; omega) (by omega) (by omega) _ rfl
      rw [← hD1] at hgrowA
      have hpush := hmD.push HLIE.out hBr (by rw [hK]; exact hgrowA) (by rw [hK]; exact hownA)
      have e1 : D.cell? ⟨Br, 1, none⟩ = some (.int .i64 x0) := hmD.run.cell (i := 1) rfl
      have e2 : D.cell? ⟨Br, 2, none⟩ = some (.int .i64 a0) := hmD.run.cell (i := 2) rfl
      have l1 : Br < D.heap.size := hmD.run.lt
      have j1 : D1.cell? ⟨Br, 1, none⟩ = some (.int .i64 x0) ∧ D1.cell? ⟨Br, 2, none⟩ = some (.int .i64 a0) := by rw [← hD1]; exact ⟨(World.cell?_alloc_lt _ _ _ l1).trans e1, (World.cell?_alloc_lt _ _ _ l1).trans e2⟩
      have hnb : some Br ≠ (Value.slice A4 K c4).ownBlock := fun e => by
        rcases hrow1.2 with ⟨h0, _⟩ | ⟨g', _, _, h0, _, hg', _⟩
        · rw [h0] at e; cases e
        · rw [h0] at e
          obtain rfl : Br = g' := by simpa [Value.ownBlock] using e
          have hrr : D1.heap[Br]? = some (.cells #[.slice (some ⟨g2, 0, none⟩) (p' + 1) c2, .int .i64 x0, .int .i64 a0, .int .i64 e0] 55 (0, 0)) := by rw [← hD1]; exact (Below.heap_alloc _ _ _ l1).trans hmD.run
          rw [hg'] at hrr
          injection hrr with hrr
          injection hrr with _ hrr _
          revert hrr
          decide
      rw [hD1] at hgrowA
      have l1' : Br < D1.heap.size := by omega
      have j2 : D2.cell? ⟨Br, 1, none⟩ = some (.int .i64 x0) ∧ D2.cell? ⟨Br, 2, none⟩ = some (.int .i64 a0) := ⟨(hgrowA.cell_far _ l1' hnb).trans j1.1, (hgrowA.cell_far _ l1' hnb).trans j1.2⟩
      have cA0 := hmD.sq.box.cell
      rw [hK] at cA0
      have lA : z + 2 < D.heap.size := hmD.sq.box.lt
      have cA1 : D1.cell? ⟨z + 2, 0, none⟩ = some (.slice A4 K c4) := by rw [← hD1]; exact (World.cell?_alloc_lt _ _ _ lA).trans cA0
      have hnA : some (z + 2) ≠ (Value.slice A4 K c4).ownBlock := fun e => by have := (World.ownsRow.lt hrow1 _ e.symm).1; have h1 := HLIE.out.am; have h2 := HLIE.out.mn; omega
      have cA2 : D2.cell? ⟨z + 2, 0, none⟩ = some (.slice A4 K c4) := (hgrowA.cell_far _ (by show z + 2 < _; omega) hnA).trans cA1
      have bA2 : D2.frozen? ⟨z + 2, 0, none⟩ = false := (hgrowA.frozen_far _ (by show z + 2 < _; omega) hnA).trans (by rw [← hD1]; exact ((hmD.sq.box.alloc _).frozen))
      have j3 : (D2.setCell ⟨z + 2, 0, none⟩ (.slice (some ⟨g, 0, none⟩) (K + 1) cap)).cell? ⟨Br, 1, none⟩ = some (.int .i64 x0) ∧ (D2.setCell ⟨z + 2, 0, none⟩ (.slice (some ⟨g, 0, none⟩) (K + 1) cap)).cell? ⟨Br, 2, none⟩ = some (.int .i64 a0) := ⟨(World.cell?_setCell_far _ _ _ _ (show z + 2 ≠ Br by omega)).trans j2.1, (World.cell?_setCell_far _ _ _ _ (show z + 2 ≠ Br by omega)).trans j2.2⟩
      have HSD := Lib.hid (fun Z => rside_any x0 a0 Z hx0 (by omega) ha0 (by omega))
      rw [hsv] at HSD
      have hss := (M.sqs_no (b := b) HPV.out)
      rw [hK] at hss
      have hp2 : (M.sqs l b (M.runs lv b) t ++ [(⟨[], x0, M.sd x0 a0, 0⟩ : M.Sq)])[K]? = some ⟨[], x0, M.sd x0 a0, 0⟩ := by rw [← hK, List.getElem?_append_right (Nat.le_refl _)]; simp
      have hv2 : (vs ++ [((none : Option Addr), 0)])[K]? = some (none, 0) := by
        have hl2 := hm2.sq.len
        rw [hK] at hl2
        rw [← hl2, List.getElem?_append_right (Nat.le_refl _)]
        simp
      have hfin : (M.sqs l b (M.runs lv b) t ++ [(⟨[], x0, M.sd x0 a0, 0⟩ : M.Sq)]).set K (M.Sq.with_ l b ⟨[], x0, M.sd x0 a0, 0⟩ ⟨pl, x0, a0, e0⟩) = M.sqs l b (M.runs lv b) (t + 1) := by
        rw [hss.2, HRN.out, List.set_append_right _ _ (by rw [hK]; exact Nat.le_refl _), hK, Nat.sub_self]
        rfl
      rw [← hsv] at hpush
      have HEND := Lib.hid (And.intro hpush (And.intro hp2 (And.intro hv2 (And.intro hfin hss.1))))
      have hlen2 : (M.sqs l b (M.runs lv b) t ++ [(⟨[], x0, M.sd x0 a0, 0⟩ : M.Sq)]).length ≤ 1001 := by rw [List.length_append, hK]; simp; omega
      have HL2 := Lib.hid hlen2
      have HDD := Lib.hid hD
      have HD1 := Lib.hid hD1
      clear hm2 hK hmD hrow1 hownA hgrowA hpush hi1 hi2 hi3 hi4 hsz hnb hnA lA l1 l1' hatA hD1s hss hp2 hv2 hfin hlen2 hD hD1
      gi_wp2_with fail
      refine reg11 rfl HDD.out e1 e2 cA0 HSD.out HD1.out j1 cA1 hrunA j2 cA2 bA2 j3 ?_
      refine then_normal ?_
      obtain ⟨q1, q2, q3, q4, q5⟩ := HEND.out
      unfold TailIn
      exact ⟨_, _, _, _, _, K, (by unfold TailAct; exact ⟨_, _, _, _, _, _, _, _, _, _, _, _, _, _, _, _, _, _, _, _, _, _, _, _, _, _, _, _, _, _, _, _, _, _, _, _, _, _, _, _, _, _, _, _, _, _, _, _, _, _, _, _, _, _, _, _, _, _, _, _, _, _, _, _, _, _, _, _, _, _, _, _, _, _, _, _, _, _, _, _, _, _, _, _, _, _, _, _, _, _, _, _, _, _, _, _, _, _, _, _, rfl⟩), q1, q2, q3, HL2.out, by simp, ⟨hx0, hx1⟩, q4, q5⟩
    · rintro a' Y ⟨ss, vs, va, s, v, kk, hta, hmid, hs, hv, hk1, hsl, hlv, hfin, hof⟩
      unfold TailAct at hta
      obtain ⟨t0, t1, t2, t4, t6, t7, t13, t14, t15, t16, t17, t18, t19, t20, t21, t22, t23, t24, t25, t26, t27, t28, t29, t30, t31, t32, t33, t34, t35, t36, t37, t38, t39, t40, t41, t42, t43, t44, t45, t46, t47, t48, t49, t50, t51, t52, t53, t54, t55, t56, t57, t58, t59, t60, t61, t62, t63, t64, t65, t66, t67, t68, t69, t70, t71, t72, t73, t74, t75, t76, t77, t78, t79, t80, t81, t82, t83, t84, t85, t86, t87, t88, t89, t90, t91, t92, t93, t94, t95, t96, t97, t98, t99, t100, t101, t102, t103, t104, t105, t106, rfl⟩ := hta
      refine tail12 rfl HLIE.out hmid hBr hs hv hk1 htm HR.out HCQ.out (by omega) HN.out hl HPQ.out HP.out HLS.out (by have := M.rpl_len HRM.out; have := HP.out; have := HN.out; have := HF.out.len; dsimp only at *; omega) hsl hlv HBH.out ?_
      intro ts Y' vs' va' h1 h2 h3 h4
      rw [hfin] at h2
      obtain ⟨k1, k2⟩ := HFIN.out Y' h4
      refine ⟨k1, k2, vs', va', h1, ?_, ?_⟩
      · rw [List.length_append, HT.out]
        exact h2
      · rw [List.length_append, HT.out]
        refine h3.same fun e => ?_
        show (if M.endI l (M.rn (M.runs lv b) t).ls.toNat ≠ -1 ∧ e = M.endI l (M.rn (M.runs lv b) t).ls.toNat then some (M.sqOf l (M.runs lv b) t) else M.mp l (M.runs lv b) t e) = _
        rw [HRN.out, HLS.out, Int.toNat_natCast, hof]
  | some pp =>
    rw [hpv] at hlk
    have HPV := Lib.hid hpv
    obtain ⟨kk, hkk⟩ : ∃ k, M.sqOf l (M.runs lv b) pp = k := ⟨_, rfl⟩
    have hlk2 : ∀ d os, (Instr.lookup 50 (.map (some (y + 1))) (.int .i64 f0) true).run Try.prog (Sort.grow (redrawn W d) os) = .ok (.tuple #[.int .i64 kk, .bool true]) (Sort.grow (redrawn W d) os) := by
      rw [← hkk]
      exact hlk
    obtain ⟨hof, s, hs, hset⟩ := M.sqs_go (b := b) hpv
    rw [hkk] at hof hs hset
    have hpt := (M.pv_some hpv).1
    obtain ⟨v, hv⟩ : ∃ v, vs[kk]? = some v := ⟨_, List.getElem?_eq_getElem (by rw [HMID.out.sq.len]; exact (List.getElem?_eq_some_iff.1 hs).1)⟩
    have hsl := M.sq_len (Nat.le_of_lt HLEN.out) hs
    obtain ⟨r', hr', hlv'⟩ := M.sq_lv (Nat.le_of_lt HLEN.out) hs
    have hlv := (HF.out.run hr').1
    rw [← hlv'] at hlv
    have hls2 := M.sqs_len l b (M.runs lv b) t
    rw [HRN.out] at hset
    have HEND := Lib.hid (And.intro hs (And.intro hv (And.intro hlv (And.intro hset.symm hof))))
    have HSL := Lib.hid hsl
    have HL2 := Lib.hid hls2
    clear hpv hkk hof hs hset hv hsl hr' hlv' hlv hls2 hlk
    gi_wp2_with fail
    refine region_quiet (by kernel_rfl) (by kernel_rfl) (by kernel_rfl) ?_
    repeat (go_big_quiet_step (fail))
    refine wpQuiet_nil ?_
    intro _ hw'
    obtain ⟨⟨dq, osq⟩, hw4⟩ := hw'
    subst hw4
    have hm2 := HMID.out.later HLIE.out (below_regrown W dq osq)
    obtain ⟨X, hX⟩ : ∃ X, Sort.grow (redrawn W dq) osq = X := ⟨_, rfl⟩
    rw [hX] at hm2
    dsimp only
    rw [hX]
    have HM2 := Lib.hid hm2
    clear d0 q1 m0 hlk2 hX hm2
    rename_i Kf hKf
    refine hKf _ _ ?_
    refine seq_to (TailIn z y n0 ad ca n AE cE l b lv w W Br g2 p' c2 ⟨pl, x0, a0, e0⟩ t) ?_ ?_
    · gi_wp2_with fail
      obtain ⟨q2, q3, q4, q5, q6⟩ := HEND.out
      unfold TailIn
      exact ⟨_, _, _, _, _, kk, (by unfold TailAct; exact ⟨_, _, _, _, _, _, _, _, _, _, _, _, _, _, _, _, _, _, _, _, _, _, _, _, _, _, _, _, _, _, _, _, _, _, _, _, _, _, _, _, _, _, _, _, _, _, _, _, _, _, _, _, _, _, _, _, _, _, _, _, _, _, _, _, _, _, _, _, _, _, _, _, _, _, _, _, _, _, _, _, _, _, _, _, _, _, _, _, _, _, _, _, _, _, _, _, _, _, _, _, rfl⟩), HM2.out, q2, q3, by have := HL2.out; omega, by have := HSL.out; have := M.rpl_len HRM.out; have := HN.out; have := HF.out.len; omega, q4, q5, q6⟩
    · rintro a' Y ⟨ss, vs, va, s, v, kk, hta, hmid, hs, hv, hk1, hsl, hlv, hfin, hof⟩
      unfold TailAct at hta
      obtain ⟨t0, t1, t2, t4, t6, t7, t13, t14, t15, t16, t17, t18, t19, t20, t21, t22, t23, t24, t25, t26, t27, t28, t29, t30, t31, t32, t33, t34, t35, t36, t37, t38, t39, t40, t41, t42, t43, t44, t45, t46, t47, t48, t49, t50, t51, t52, t53, t54, t55, t56, t57, t58, t59, t60, t61, t62, t63, t64, t65, t66, t67, t68, t69, t70, t71, t72, t73, t74, t75, t76, t77, t78, t79, t80, t81, t82, t83, t84, t85, t86, t87, t88, t89, t90, t91, t92, t93, t94, t95, t96, t97, t98, t99, t100, t101, t102, t103, t104, t105, t106, rfl⟩ := hta
      refine tail12 rfl HLIE.out hmid hBr hs hv hk1 htm HR.out HCQ.out (by omega) HN.out hl HPQ.out HP.out HLS.out (by have := M.rpl_len HRM.out; have := HP.out; have := HN.out; have := HF.out.len; dsimp only at *; omega) hsl hlv HBH.out ?_
      intro ts Y' vs' va' h1 h2 h3 h4
      rw [hfin] at h2
      obtain ⟨k1, k2⟩ := HFIN.out Y' h4
      refine ⟨k1, k2, vs', va', h1, ?_, ?_⟩
      · rw [List.length_append, HT.out]
        exact h2
      · rw [List.length_append, HT.out]
        refine h3.same fun e => ?_
        show (if M.endI l (M.rn (M.runs lv b) t).ls.toNat ≠ -1 ∧ e = M.endI l (M.rn (M.runs lv b) t).ls.toNat then some (M.sqOf l (M.runs lv b) t) else M.mp l (M.runs lv b) t e) = _
        rw [HRN.out, HLS.out, Int.toNat_natCast, hof]
end Go.Proofs.Yticiofpbijahbaa
end
