/- The walk of the body of package runs' Split's range over level runs: a run goes on a sequence, or begins one. -/
/- The walk of package runs' Split, where the levels may be. Conditions: both slices read as lists, at most a thousand long, within their capacity. -/
import Derived.Test.YtjlfgojblimobaaGreatA16
section
namespace Go.Proofs.YtjlfgojblimobaaGreat
open Go.RowKit Go.Shelf
attribute [local go_sem] Oper.semAt_some
set_option maxRecDepth 100000

def TailAct (BL BB BA BE BM Br kk : Nat) (a : Act) : Prop := ∃ t0 t1 t2 t4 t6 t7 t13 t14 t15 t16 t17 t18 t19 t20 t21 t22 t23 t24 t25 t26 t27 t28 t29 t30 t31 t32 t33 t34 t35 t36 t37 t38 t39 t40 t41 t42 t43 t44 t45 t46 t47 t48 t49 t50 t51 t52 t53 t54 t55 t56 t57 t58 t59 t60 t61 t62 t63 t64 t65 t66 t67 t68 t69 t70 t71 t72 t73 t74 t75 t76 t77 t78 t79 t80 t81 t82 t83 t84 t85 t86 t87 t88 t89 t90 t91 t92 t93 t94 t95 t96 t97 t98 t99 t100 t101 t102 t103 t104 t105 t106 : Value, a = ⟨(List.toArray (t0 :: t1 :: t2 :: (.pointer (some ⟨BL, 0, none⟩)) :: t4 :: (.pointer (some ⟨BB, 0, none⟩)) :: t6 :: t7 :: (.pointer (some ⟨BA, 0, none⟩)) :: (.pointer (some ⟨BE, 0, none⟩)) :: (.pointer (some ⟨BM, 0, none⟩)) :: (.pointer (some ⟨Br, 0, none⟩)) :: (.int .i64 kk) :: t13 :: t14 :: t15 :: t16 :: t17 :: t18 :: t19 :: t20 :: t21 :: t22 :: t23 :: t24 :: t25 :: t26 :: t27 :: t28 :: t29 :: t30 :: t31 :: t32 :: t33 :: t34 :: t35 :: t36 :: t37 :: t38 :: t39 :: t40 :: t41 :: t42 :: t43 :: t44 :: t45 :: t46 :: t47 :: t48 :: t49 :: t50 :: t51 :: t52 :: t53 :: t54 :: t55 :: t56 :: t57 :: t58 :: t59 :: t60 :: t61 :: t62 :: t63 :: t64 :: t65 :: t66 :: t67 :: t68 :: t69 :: t70 :: t71 :: t72 :: t73 :: t74 :: t75 :: t76 :: t77 :: t78 :: t79 :: t80 :: t81 :: t82 :: t83 :: t84 :: t85 :: t86 :: t87 :: t88 :: t89 :: t90 :: t91 :: t92 :: t93 :: t94 :: t95 :: t96 :: t97 :: t98 :: t99 :: t100 :: t101 :: t102 :: t103 :: t104 :: t105 :: t106 :: [])), []⟩
def TailIn (z y n0 : Nat) (ad : Addr) (ca n : Nat) (AE : Option Addr) (cE : Nat) (l : List Int) (b : Int) (lv : List Int) (w W : World) (Br g2 p' c2 : Nat) (r : M.Rn) (t : Nat) (a' : Act) (Y : World) : Prop :=
  ∃ (ss : List M.Sq) (vs : List Sv) (va : Value) (s : M.Sq) (v : Sv) (kk : Nat), TailAct z (z + 1) (z + 2) y (y + 1 + 1) Br kk a' ∧ SpMid z (z + 1) (z + 2) y (y + 1 + 1) (y + 1) n0 (some ad) ca n AE cE l b w W Br g2 (p' + 1) c2 r ss vs va (M.mp l (M.runs lv b) t) t Y ∧ ss[kk]? = some s ∧ vs[kk]? = some v ∧ ss.length ≤ 1001 ∧ s.pl.length ≤ 1000 ∧ (0 ≤ s.lv ∧ s.lv ≤ 125) ∧ ss.set kk (s.with_ l b r) = M.sqs l b (M.runs lv b) (t + 1) ∧ M.sqOf l (M.runs lv b) t = kk
theorem then_normal {R : Act → World → Prop} {Q : Exit → Act → World → Prop} {a : Act} {w : World} (h : R a w) : Exit.then R Q .normal a w := h
theorem seq_to {F : Fence} {n : Nat} {P : Program} {c c' : Code} {Q : Exit → Act → World → Prop} {a : Act} {w : World} (R : Act → World → Prop) (h1 : c.wpIn F n P (Exit.then R Q) a w) (h2 : ∀ a' w', R a' w' → c'.wpIn F n P Q a' w') : (c.seq c').wpIn F n P Q a w :=
  wpIn_seq (wpIn_mono h1 fun e a' w' h => by cases e <;> first | exact h2 _ _ h | exact h)
def splitTm (A B : Option Addr) (ca cb n m : Nat) (b : Int) (AE : Option Addr) (cE z y u : Nat) (x : Yi) (Br : Nat) : Array Value :=
  #[.slice A n ca, .slice B m cb, .int .i64 b,
    .pointer (some ⟨z, 0, none⟩), undef, .pointer (some ⟨z + 1, 0, none⟩), .slice none 0 0, .int .i64 0,
    .pointer (some ⟨z + 2, 0, none⟩), .pointer (some ⟨y, 0, none⟩), .pointer (some ⟨y + 1 + 1, 0, none⟩), .pointer (some ⟨Br, 0, none⟩), undef, undef, undef, undef, undef,
    .int .i64 b, .bool true, .bool false, .bool false, .slice A n ca, .slice B m cb, .bool true, .bool false, .bool false, .slice A n ca,
    .slice AE n cE, .map (some (y + 1)), .slice B m cb, .int .i64 b,
    .func (.func 108) #[] #[.pointer (some ⟨u + 1, 0, none⟩), .pointer (some ⟨u, 0, none⟩)],
    .agg #[x.slice, .int .i64 x.1.lv, .int .i64 x.1.ah, .int .i64 x.1.be], undef, undef, undef, undef, undef, undef, undef, undef, undef, undef, undef, undef, undef, undef, undef, undef, undef, undef, undef, undef, undef, undef, undef, undef, undef, undef, undef, undef, undef, undef, undef, undef, undef, undef, undef, undef, undef, undef, undef, undef, undef, undef, undef, undef, undef, undef, undef, undef, undef, undef, undef, undef, undef, undef, undef, undef, undef, undef, undef, undef, undef, undef, undef, undef, undef, undef, undef, undef, undef, undef, undef, undef, undef, undef]

set_option maxHeartbeats 8000000 in
theorem body_any {body : Code} (hbody : rangeBody ((Tryz.f39.body).getD .skip) = some body) (j nn : Nat) (pre : List Yi) (x : Yi) (a₁ : Act) (W w : World) (A B : Option Addr) (ca cb n m : Nat) (l lv : List Int) (b : Int) (AE : Option Addr) (cE z y u n0 : Nat)
    (hz : w.heap.size = z) (hu : u = y + 3) (hy : n0 = y + 5) (hzy : z + 3 ≤ y)
    (hr : RdS .i64 w w.heap.size A l) (hn : l.length = n) (hl : n ≤ 1000) (hm : lv.length = m) (hf : M.Fits l lv b)
    (hround : SpRound z (z + 1) (z + 2) y (y + 1 + 1) (y + 1) n0 A ca n AE cE l b lv w (splitTm A B ca cb n m b AE cE z y u) pre x a₁ W) (hlen : pre.length < (M.runs lv b).length) :
    body.wpIn (Fence.wide.inRound j) nn Tryz.prog (ownPostG n0 (KeepsR z u (u + 1)) (SpInv z (z + 1) (z + 2) y (y + 1 + 1) (y + 1) n0 A ca n AE cE l b lv w) (fun _ _ _ => False) (pre ++ [x]) W) a₁ W := by
  have hlie : SpLie z (z + 1) (z + 2) y (y + 1 + 1) (y + 1) n0 w := by
    refine ⟨?_, ?_, ?_, ?_, ?_, ?_, ?_⟩ <;> first | (refine ⟨?_, ?_, ?_⟩ <;> omega) | omega
  obtain ⟨⟨pl, x0, a0, e0⟩, A2, c2⟩ := x
  obtain ⟨⟨vs, va, hfx, hsq, hmp⟩, ⟨hnx, hrw⟩, Br, hBr, hrun, rfl⟩ := hround
  obtain ⟨t, ht⟩ : ∃ t, pre.length = t := ⟨_, rfl⟩
  rw [ht] at hsq hmp hnx hlen
  obtain ⟨p, hp⟩ : ∃ p, pl.length = p := ⟨_, rfl⟩
  have hrn : M.rn (M.runs lv b) t = ⟨pl, x0, a0, e0⟩ := M.rn_at hnx
  have hrm : (⟨pl, x0, a0, e0⟩ : M.Rn) ∈ M.runs lv b := List.mem_of_getElem? hnx
  obtain ⟨⟨hx0, hx1⟩, ⟨ha0, ha1⟩, ⟨he0, he1⟩, hbh0, hbh1⟩ := hf.run hrm
  obtain ⟨f0, q0, hfs, hls, hf0, hq0, hpf, hpq, hp0, -, -⟩ := M.run_ends hrm
  have hpm := M.rpl_len hrm
  dsimp only at hx0 hx1 ha0 ha1 he0 he1 hpf hpq hp0 hpm
  simp only [Yi.slice, hp] at hrun hrw
  rw [hp] at hpq hp0 hpm
  rw [hm] at hf0 hq0 hpm
  obtain ⟨g2, rfl, -⟩ : ∃ g2, A2 = some ⟨g2, 0, none⟩ ∧ True := by
    rcases hrw.2 with ⟨_, h0⟩ | ⟨g, _, _, hv, _⟩
    · omega
    · injection hv with e; exact ⟨g, e, trivial⟩
  obtain ⟨p', rfl⟩ : ∃ p', p = p' + 1 := ⟨p - 1, by omega⟩
  rw [Nat.add_sub_cancel] at hpq
  have hnm : n = m := by have := hf.len; omega
  obtain ⟨ad, cq, rfl, -, hcq, -⟩ := rd_at hr (Below.refl _ _) (show q0 < l.length by omega)
  have hmid : SpMid z (z + 1) (z + 2) y (y + 1 + 1) (y + 1) n0 (some ad) ca n AE cE l b w W Br g2 (p' + 1) c2 ⟨pl, x0, a0, e0⟩ (M.sqs l b (M.runs lv b) t) vs va (M.mp l (M.runs lv b) t) t W :=
    ⟨hfx, hsq, hmp, hrun, hrw, Kept.refl hfx.size⟩
  have hch := M.runs_chains l lv b
  have hmpt := M.mp_at hch hlen
  have htm : t + 1 ≤ 1000 := by have := M.runs_len lv b; omega
  have hfr : M.from_ (M.runs lv b) t = f0 := by unfold M.from_; rw [hrn]; exact hfs
  rw [hfr] at hmpt
  obtain ⟨sg, hsg⟩ : ∃ sg, sg = (Yi.slice (⟨pl, x0, a0, e0⟩, some ⟨g2, 0, none⟩, c2)) := ⟨_, rfl⟩
  have HMID := Lib.hid hmid
  have HLIE := Lib.hid hlie
  have HM := Lib.hid hm
  have HR := Lib.hid hr
  have HF := Lib.hid hf
  have HT := Lib.hid ht
  have HP := Lib.hid hp
  have HRN := Lib.hid hrn
  have HRM := Lib.hid hrm
  have HLS := Lib.hid hls
  have HBH := Lib.hid (show 0 ≤ M.bh l b ⟨pl, x0, a0, e0⟩ ∧ M.bh l b ⟨pl, x0, a0, e0⟩ ≤ 125 from ⟨hbh0, hbh1⟩)
  have HLEN := Lib.hid hlen
  have HCH := Lib.hid hch
  have HCQ := Lib.hid hcq
  have HPQ := Lib.hid hpq
  have HN := Lib.hid hn
  have HFIN := Lib.hid (show ∀ W', Kept n0 (z + 2) (y + 1) W W' → KeepsFrom n0 W W' ∧ KeepsR z u (u + 1) W W' from fun W' k => ⟨k.from_, k.keepsR (by omega) (by omega) (by omega) (by omega) (by omega) (by omega) (by omega) hsq.box hmp.obj⟩)
  have hf01 : (0 : Int) ≤ f0 := by omega
  have hf02 : (f0 : Int) ≤ 1000 := by omega
  have hq1 : (0 : Int) ≤ q0 := by omega
  have hq2 : (q0 : Int) < n := by omega
  have hp1 : (0 : Int) < ((p' + 1 : Nat) : Int) := by omega
  -- the run's cells
  have d0 : ∀ d os, (Sort.grow (redrawn W d) os).cell? ⟨Br, 0, none⟩ = some (.slice (some ⟨g2, 0, none⟩) (p' + 1) c2) := fun d os => cell_regrown (hrun.cell (i := 0) rfl) d os
  have q1 : ∀ d os, (Sort.grow (redrawn W d) os).cell? ⟨g2, 0, none⟩ = some (.int .i64 f0) := fun d os => cell_regrown (World.ownsRow.cells hrw (g := g2) rfl 0 _ (by rw [List.getElem?_map, hpf]; rfl)) d os
  have m0 : ∀ d os, (Sort.grow (redrawn W d) os).cell? ⟨y + 1 + 1, 0, none⟩ = some (.map (some (y + 1))) := fun d os => cell_regrown hfx.boxM.cell d os
  have hlk := fun d os => (hmp.keep ((below_regrown W d os).block _ hmp.lt)).look (e := (f0 : Int)) (by omega) hf02
  rw [hmpt] at hlk
  have HZ := Lib.hid (show z + 3 ≤ y ∧ n0 = y + 5 from ⟨hzy, hy⟩)
  simp only [splitTm, ← hsg]
  clear hmpt hch hrn hrw hrun hfs hls hbh0 hbh1 hfx hsq hmp hmid hnx hrm ht hp hlie hm hr hf hz hu hy hzy hlen hcq hpq hn hfr hsg hpf hq0 hf0 hpm hp0 hnm
  simp [rangeBody, Tryz.f39] at hbody
  subst hbody
  cases hpv : M.pv (M.goes l (M.runs lv b)) (M.from_ (M.runs lv b)) t with
  | none =>
    rw [hpv] at hlk
    have HPV := Lib.hid hpv
    clear hpv
    have hlk2 : ∀ d os, (Instr.lookup 116 (.map (some (y + 1))) (.int .i64 f0) true).run Tryz.prog (Sort.grow (redrawn W d) os) = .ok (.tuple #[.int .i64 0, .bool false]) (Sort.grow (redrawn W d) os) := hlk
    clear hlk
    gi_wp2_with fail
    refine region_quiet (by kernel_rfl) (by kernel_rfl) (by kernel_rfl) ?_
    repeat (go_big_quiet_step (fail))
    refine wpQuiet_nil ?_
    intro _ hw'
    obtain ⟨⟨dq, osq⟩, hw4⟩ := hw'
    subst hw4
    have hm2 := HMID.out.later HLIE.out (below_regrown W dq osq)
    obtain ⟨X, hX⟩ : ∃ X, Sort.grow (redrawn W dq) osq = X := ⟨_, rfl⟩
    rw [hX] at hm2
    dsimp only
    rw [hX]
    clear d0 q1 m0 hlk2 hX
    rename_i Kf hKf
    refine hKf _ _ ?_
    refine seq_to (TailIn z y n0 ad ca n AE cE l b lv w W Br g2 p' c2 ⟨pl, x0, a0, e0⟩ t) ?_ ?_
    · obtain ⟨A4, c4, rfl, hn4⟩ := own_form hm2.sq.row
      obtain ⟨K, hK⟩ : ∃ K, (M.sqs l b (M.runs lv b) t).length = K := ⟨_, rfl⟩
      have hK1 : K + 1 ≤ 1000 := by have := M.sqs_len l b (M.runs lv b) t; omega
      have cA := hm2.sq.box.cell
      rw [hK] at cA
      have hBA : Br ≠ z + 2 := by have h1 := HLIE.out.am; have h2 := HLIE.out.mn; omega
      obtain ⟨D, hD⟩ : ∃ D, X.drew = D := ⟨_, rfl⟩
      have hmD := hm2.later HLIE.out (show Below X.heap.size X D by rw [← hD]; exact (Below.refl _ _).drew)
      obtain ⟨sv, hsv⟩ : ∃ y, M.sd x0 a0 = y := ⟨_, rfl⟩
      obtain ⟨D1, hD1⟩ : ∃ Y, D.alloc (.cells #[.slice none 0 0, .int .i64 x0, .int .i64 sv, .int .i64 0] 49) = Y := ⟨_, rfl⟩
      have hD1s : D1.heap.size = D.heap.size + 1 := by rw [← hD1]; simp
      have hrow1 := hmD.sq.row.alloc (.cells #[.slice none 0 0, .int .i64 x0, .int .i64 sv, .int .i64 0] 49)
      rw [hD1, hK] at hrow1
      obtain ⟨i1, hi1, hi2, hi3, hi4⟩ := info_parts Tryz.infoSeq
      have hsz := hmD.fix.size
      obtain ⟨g, cap, D2, hrunA, hownA, hgrowA, hatA, -⟩ := run_append_lies (P := Tryz.prog) D1 45 45 n0 49 i1 _ 4 48 Tryz.underlying45 hi1 hi2 hi3 hi4 rfl (by decide) _ K _ hrow1 ⟨D.heap.size, 0, none⟩ 1 1 [.slice none 0 0, .int .i64 x0, .int .i64 sv, .int .i64 0] rfl (World.news_of_block (by rw [← hD1]; exact World.alloc_heap_new _ _)) (by intro u hu; simp at hu; rcases hu with rfl | rfl | rfl | rfl <;> rfl) (by decide) (by unfold maxLen; omega) (by omega) (by omega) _ rfl
      rw [← hD1] at hgrowA
      have hpush := hmD.push HLIE.out hBr (by rw [hK]; exact hgrowA) (by rw [hK]; exact hownA)
      have e1 : D.cell? ⟨Br, 1, none⟩ = some (.int .i64 x0) := hmD.run.cell (i := 1) rfl
      have e2 : D.cell? ⟨Br, 2, none⟩ = some (.int .i64 a0) := hmD.run.cell (i := 2) rfl
      have l1 : Br < D.heap.size := hmD.run.lt
      have j1 : D1.cell? ⟨Br, 1, none⟩ = some (.int .i64 x0) ∧ D1.cell? ⟨Br, 2, none⟩ = some (.int .i64 a0) := by rw [← hD1]; exact ⟨(World.cell?_alloc_lt _ _ _ l1).trans e1, (World.cell?_alloc_lt _ _ _ l1).trans e2⟩
      have hnb : some Br ≠ (Value.slice A4 K c4).ownBlock := fun e => by
        rcases hrow1.2 with ⟨h0, _⟩ | ⟨g', _, _, h0, _, hg', _⟩
        · rw [h0] at e; cases e
        · rw [h0] at e
          obtain rfl : Br = g' := by simpa [Value.ownBlock] using e
          have hrr : D1.heap[Br]? = some (.cells #[.slice (some ⟨g2, 0, none⟩) (p' + 1) c2, .int .i64 x0, .int .i64 a0, .int .i64 e0] 121 (0, 0)) := by rw [← hD1]; exact (Below.heap_alloc _ _ _ l1).trans hmD.run
          rw [hg'] at hrr
          injection hrr with hrr
          injection hrr with _ hrr _
          revert hrr
          decide
      rw [hD1] at hgrowA
      have l1' : Br < D1.heap.size := by omega
      have j2 : D2.cell? ⟨Br, 1, none⟩ = some (.int .i64 x0) ∧ D2.cell? ⟨Br, 2, none⟩ = some (.int .i64 a0) := ⟨(hgrowA.cell_far _ l1' hnb).trans j1.1, (hgrowA.cell_far _ l1' hnb).trans j1.2⟩
      have cA0 := hmD.sq.box.cell
      rw [hK] at cA0
      have lA : z + 2 < D.heap.size := hmD.sq.box.lt
      have cA1 : D1.cell? ⟨z + 2, 0, none⟩ = some (.slice A4 K c4) := by rw [← hD1]; exact (World.cell?_alloc_lt _ _ _ lA).trans cA0
      have hnA : some (z + 2) ≠ (Value.slice A4 K c4).ownBlock := fun e => by have := (World.ownsRow.lt hrow1 _ e.symm).1; have h1 := HLIE.out.am; have h2 := HLIE.out.mn; omega
      have cA2 : D2.cell? ⟨z + 2, 0, none⟩ = some (.slice A4 K c4) := (hgrowA.cell_far _ (by show z + 2 < _; omega) hnA).trans cA1
      have bA2 : D2.frozen? ⟨z + 2, 0, none⟩ = false := (hgrowA.frozen_far _ (by show z + 2 < _; omega) hnA).trans (by rw [← hD1]; exact ((hmD.sq.box.alloc _).frozen))
      have j3 : (D2.setCell ⟨z + 2, 0, none⟩ (.slice (some ⟨g, 0, none⟩) (K + 1) cap)).cell? ⟨Br, 1, none⟩ = some (.int .i64 x0) ∧ (D2.setCell ⟨z + 2, 0, none⟩ (.slice (some ⟨g, 0, none⟩) (K + 1) cap)).cell? ⟨Br, 2, none⟩ = some (.int .i64 a0) := ⟨(World.cell?_setCell_far _ _ _ _ (show z + 2 ≠ Br by omega)).trans j2.1, (World.cell?_setCell_far _ _ _ _ (show z + 2 ≠ Br by omega)).trans j2.2⟩
      have HSD := Lib.hid (fun Z => rside_any x0 a0 Z hx0 (by omega) ha0 (by omega))
      rw [hsv] at HSD
      have hss := (M.sqs_no (b := b) HPV.out)
      rw [hK] at hss
      have hp2 : (M.sqs l b (M.runs lv b) t ++ [(⟨[], x0, M.sd x0 a0, 0⟩ : M.Sq)])[K]? = some ⟨[], x0, M.sd x0 a0, 0⟩ := by rw [← hK, List.getElem?_append_right (Nat.le_refl _)]; simp
      have hv2 : (vs ++ [((none : Option Addr), 0)])[K]? = some (none, 0) := by
        have hl2 := hm2.sq.len
        rw [hK] at hl2
        rw [← hl2, List.getElem?_append_right (Nat.le_refl _)]
        simp
      have hfin : (M.sqs l b (M.runs lv b) t ++ [(⟨[], x0, M.sd x0 a0, 0⟩ : M.Sq)]).set K (M.Sq.with_ l b ⟨[], x0, M.sd x0 a0, 0⟩ ⟨pl, x0, a0, e0⟩) = M.sqs l b (M.runs lv b) (t + 1) := by
        rw [hss.2, HRN.out, List.set_append_right _ _ (by rw [hK]; exact Nat.le_refl _), hK, Nat.sub_self]
        rfl
      rw [← hsv] at hpush
      have HEND := Lib.hid (And.intro hpush (And.intro hp2 (And.intro hv2 (And.intro hfin hss.1))))
      have hlen2 : (M.sqs l b (M.runs lv b) t ++ [(⟨[], x0, M.sd x0 a0, 0⟩ : M.Sq)]).length ≤ 1001 := by rw [List.length_append, hK]; simp; omega
      have HL2 := Lib.hid hlen2
      have HDD := Lib.hid hD
      have HD1 := Lib.hid hD1
      clear hm2 hK hmD hrow1 hownA hgrowA hpush hi1 hi2 hi3 hi4 hsz hnb hnA lA l1 l1' hatA hD1s hss hp2 hv2 hfin hlen2 hD hD1
      gi_wp2_with fail
      refine reg11 rfl HDD.out e1 e2 cA0 HSD.out HD1.out j1 cA1 hrunA j2 cA2 bA2 j3 ?_
      refine then_normal ?_
      obtain ⟨q1, q2, q3, q4, q5⟩ := HEND.out
      unfold TailIn
      exact ⟨_, _, _, _, _, K, (by unfold TailAct; exact ⟨_, _, _, _, _, _, _, _, _, _, _, _, _, _, _, _, _, _, _, _, _, _, _, _, _, _, _, _, _, _, _, _, _, _, _, _, _, _, _, _, _, _, _, _, _, _, _, _, _, _, _, _, _, _, _, _, _, _, _, _, _, _, _, _, _, _, _, _, _, _, _, _, _, _, _, _, _, _, _, _, _, _, _, _, _, _, _, _, _, _, _, _, _, _, _, _, _, _, _, _, rfl⟩), q1, q2, q3, HL2.out, by simp, ⟨hx0, hx1⟩, q4, q5⟩
    · rintro a' Y ⟨ss, vs, va, s, v, kk, hta, hmid, hs, hv, hk1, hsl, hlv, hfin, hof⟩
      unfold TailAct at hta
      obtain ⟨t0, t1, t2, t4, t6, t7, t13, t14, t15, t16, t17, t18, t19, t20, t21, t22, t23, t24, t25, t26, t27, t28, t29, t30, t31, t32, t33, t34, t35, t36, t37, t38, t39, t40, t41, t42, t43, t44, t45, t46, t47, t48, t49, t50, t51, t52, t53, t54, t55, t56, t57, t58, t59, t60, t61, t62, t63, t64, t65, t66, t67, t68, t69, t70, t71, t72, t73, t74, t75, t76, t77, t78, t79, t80, t81, t82, t83, t84, t85, t86, t87, t88, t89, t90, t91, t92, t93, t94, t95, t96, t97, t98, t99, t100, t101, t102, t103, t104, t105, t106, rfl⟩ := hta
      refine tail12 rfl HLIE.out hmid hBr hs hv hk1 htm HR.out HCQ.out (by omega) HN.out hl HPQ.out HP.out HLS.out (by have := M.rpl_len HRM.out; have := HP.out; have := HN.out; have := HF.out.len; dsimp only at *; omega) hsl hlv HBH.out ?_
      intro ts Y' vs' va' h1 h2 h3 h4
      rw [hfin] at h2
      obtain ⟨k1, k2⟩ := HFIN.out Y' h4
      refine ⟨k1, k2, vs', va', h1, ?_, ?_⟩
      · rw [List.length_append, HT.out]
        exact h2
      · rw [List.length_append, HT.out]
        refine h3.same fun e => ?_
        show (if M.endI l (M.rn (M.runs lv b) t).ls.toNat ≠ -1 ∧ e = M.endI l (M.rn (M.runs lv b) t).ls.toNat then some (M.sqOf l (M.runs lv b) t) else M.mp l (M.runs lv b) t e) = _
        rw [HRN.out, HLS.out, Int.toNat_natCast, hof]
  | some pp =>
    rw [hpv] at hlk
    have HPV := Lib.hid hpv
    obtain ⟨kk, hkk⟩ : ∃ k, M.sqOf l (M.runs lv b) pp = k := ⟨_, rfl⟩
    have hlk2 : ∀ d os, (Instr.lookup 116 (.map (some (y + 1))) (.int .i64 f0) true).run Tryz.prog (Sort.grow (redrawn W d) os) = .ok (.tuple #[.int .i64 kk, .bool true]) (Sort.grow (redrawn W d) os) := by
      rw [← hkk]
      exact hlk
    obtain ⟨hof, s, hs, hset⟩ := M.sqs_go (b := b) hpv
    rw [hkk] at hof hs hset
    have hpt := (M.pv_some hpv).1
    obtain ⟨v, hv⟩ : ∃ v, vs[kk]? = some v := ⟨_, List.getElem?_eq_getElem (by rw [HMID.out.sq.len]; exact (List.getElem?_eq_some_iff.1 hs).1)⟩
    have hsl := M.sq_len (Nat.le_of_lt HLEN.out) hs
    obtain ⟨r', hr', hlv'⟩ := M.sq_lv (Nat.le_of_lt HLEN.out) hs
    have hlv := (HF.out.run hr').1
    rw [← hlv'] at hlv
    have hls2 := M.sqs_len l b (M.runs lv b) t
    rw [HRN.out] at hset
    have HEND := Lib.hid (And.intro hs (And.intro hv (And.intro hlv (And.intro hset.symm hof))))
    have HSL := Lib.hid hsl
    have HL2 := Lib.hid hls2
    clear hpv hkk hof hs hset hv hsl hr' hlv' hlv hls2 hlk
    gi_wp2_with fail
    refine region_quiet (by kernel_rfl) (by kernel_rfl) (by kernel_rfl) ?_
    repeat (go_big_quiet_step (fail))
    refine wpQuiet_nil ?_
    intro _ hw'
    obtain ⟨⟨dq, osq⟩, hw4⟩ := hw'
    subst hw4
    have hm2 := HMID.out.later HLIE.out (below_regrown W dq osq)
    obtain ⟨X, hX⟩ : ∃ X, Sort.grow (redrawn W dq) osq = X := ⟨_, rfl⟩
    rw [hX] at hm2
    dsimp only
    rw [hX]
    have HM2 := Lib.hid hm2
    clear d0 q1 m0 hlk2 hX hm2
    rename_i Kf hKf
    refine hKf _ _ ?_
    refine seq_to (TailIn z y n0 ad ca n AE cE l b lv w W Br g2 p' c2 ⟨pl, x0, a0, e0⟩ t) ?_ ?_
    · gi_wp2_with fail
      obtain ⟨q2, q3, q4, q5, q6⟩ := HEND.out
      unfold TailIn
      exact ⟨_, _, _, _, _, kk, (by unfold TailAct; exact ⟨_, _, _, _, _, _, _, _, _, _, _, _, _, _, _, _, _, _, _, _, _, _, _, _, _, _, _, _, _, _, _, _, _, _, _, _, _, _, _, _, _, _, _, _, _, _, _, _, _, _, _, _, _, _, _, _, _, _, _, _, _, _, _, _, _, _, _, _, _, _, _, _, _, _, _, _, _, _, _, _, _, _, _, _, _, _, _, _, _, _, _, _, _, _, _, _, _, _, _, _, rfl⟩), HM2.out, q2, q3, by have := HL2.out; omega, by have := HSL.out; have := M.rpl_len HRM.out; have := HN.out; have := HF.out.len; omega, q4, q5, q6⟩
    · rintro a' Y ⟨ss, vs, va, s, v, kk, hta, hmid, hs, hv, hk1, hsl, hlv, hfin, hof⟩
      unfold TailAct at hta
      obtain ⟨t0, t1, t2, t4, t6, t7, t13, t14, t15, t16, t17, t18, t19, t20, t21, t22, t23, t24, t25, t26, t27, t28, t29, t30, t31, t32, t33, t34, t35, t36, t37, t38, t39, t40, t41, t42, t43, t44, t45, t46, t47, t48, t49, t50, t51, t52, t53, t54, t55, t56, t57, t58, t59, t60, t61, t62, t63, t64, t65, t66, t67, t68, t69, t70, t71, t72, t73, t74, t75, t76, t77, t78, t79, t80, t81, t82, t83, t84, t85, t86, t87, t88, t89, t90, t91, t92, t93, t94, t95, t96, t97, t98, t99, t100, t101, t102, t103, t104, t105, t106, rfl⟩ := hta
      refine tail12 rfl HLIE.out hmid hBr hs hv hk1 htm HR.out HCQ.out (by omega) HN.out hl HPQ.out HP.out HLS.out (by have := M.rpl_len HRM.out; have := HP.out; have := HN.out; have := HF.out.len; dsimp only at *; omega) hsl hlv HBH.out ?_
      intro ts Y' vs' va' h1 h2 h3 h4
      rw [hfin] at h2
      obtain ⟨k1, k2⟩ := HFIN.out Y' h4
      refine ⟨k1, k2, vs', va', h1, ?_, ?_⟩
      · rw [List.length_append, HT.out]
        exact h2
      · rw [List.length_append, HT.out]
        refine h3.same fun e => ?_
        show (if M.endI l (M.rn (M.runs lv b) t).ls.toNat ≠ -1 ∧ e = M.endI l (M.rn (M.runs lv b) t).ls.toNat then some (M.sqOf l (M.runs lv b) t) else M.mp l (M.runs lv b) t e) = _
        rw [HRN.out, HLS.out, Int.toNat_natCast, hof]
end Go.Proofs.YtjlfgojblimobaaGreat
end

section
namespace Go.Proofs.YtjlfgojblimobaaGreat
open Go.RowKit Go.Shelf
attribute [local go_sem] Oper.semAt_some
set_option maxRecDepth 100000

theorem put_cell {W : World} {D : Nat} {o o' : Obj} (hD : W.heap[D]? = some o) (ho : o.isCells = false) {p : Addr} {v : Value} (h : W.cell? p = some v) : (W.putObj D o').cell? p = some v := by
  have hne : p.block ≠ D := fun e => by
    unfold World.cell? at h
    rw [e, hD] at h
    cases o <;> simp [Obj.isCells] at ho h
  rw [← h]
  exact World.cell?_of_block (World.putObj_heap_other hne)
theorem RdQ.keep {w w' : World} {B B' : Nat} {A : Option Addr} {ss : List M.Sq} (h : RdQ w B A ss) (hk : ∀ p v, w.cell? p = some v → w'.cell? p = some v) (hB : B ≤ B') : RdQ w' B' A ss := fun k s hs => by
  obtain ⟨g, Ap, cp, hA, hg, c0, c1, c2, c3, hr, h1, h2, h3⟩ := h k s hs
  exact ⟨g, Ap, cp, hA, Nat.lt_of_lt_of_le hg hB, hk _ _ c0, hk _ _ c1, hk _ _ c2, hk _ _ c3, fun j x hx => (by obtain ⟨ad, e1, e2, e3⟩ := hr j x hx; exact ⟨ad, e1, Nat.lt_of_lt_of_le e2 hB, hk _ _ e3⟩), h1, h2, h3⟩
theorem M.matchI_len (l : List Int) : (M.matchI l).length = l.length := M.matchTo_len _ _
set_option maxHeartbeats 8000000 in
theorem csplit_ok (A B : Option Addr) (ca cb n m : Nat) (l lv : List Int) (b : Int) (w : World) (hr : RdS .i64 w w.heap.size A l) (hn : l.length = n) (hl : n ≤ 1000) (hr2 : RdS .i64 w w.heap.size B lv) (hm : lv.length = m) (hl2 : m ≤ 1000) (hcb : m ≤ cb) (hf : M.Fits l lv b) :
    Calls Tryz.prog 39 #[.slice A n ca, .slice B m cb, .int .i64 b] w (SplitOut l lv b w) := by
  refine (callsIn_wide (n := 5)).1 ?_
  obtain ⟨W1, hW1⟩ : ∃ X, (w.alloc (.cells #[.slice A n ca] 22)).alloc (.cells #[.int .i64 b] 3) = X := ⟨_, rfl⟩
  have hb1 : Below w.heap.size w W1 := by rw [← hW1]; exact ((Below.refl _ _).alloc (Nat.le_refl _) _).alloc (by simp) _
  have hs1 : W1.heap.size = w.heap.size + 2 := by rw [← hW1]; simp
  have bL : Boxed W1 w.heap.size 22 (.slice A n ca) := by rw [← hW1]; exact (Boxed.new w 22 (.slice A n ca)).alloc _
  have bB : Boxed W1 (w.heap.size + 1) 3 (.int .i64 b) := by
    have := Boxed.new (w.alloc (.cells #[.slice A n ca] 22)) 3 (.int .i64 b)
    rw [hW1] at this
    simpa using this
  obtain ⟨W2, hW2⟩ : ∃ X, W1.alloc (.cells #[.slice none 0 0] 45) = X := ⟨_, rfl⟩
  have hb2 : Below W1.heap.size W1 W2 := by rw [← hW2]; exact (Below.refl _ _).alloc (Nat.le_refl _) _
  have hs2 : W2.heap.size = w.heap.size + 3 := by rw [← hW2]; simp; omega
  have bA : Boxed W2 (w.heap.size + 2) 45 (.slice none 0 0) := by rw [← hW2, ← hs1]; exact Boxed.new _ _ _
  have hb12 : Below w.heap.size w W2 := hb1.trans (hb2.mono (by omega))
  have HIB := Lib.hid (isBase_any b W1)
  rw [show (decide (b = 0) || decide (b = 1)) = true by simp; exact hf.base] at HIB
  have HFT := Lib.hid (fit_any A B ca cb n m l lv W1 ((hr.below hb1).more hb1.size) hn hl ((hr2.below hb1).more hb1.size) hm hl2)
  have HMA := Lib.hid (cmatch_any A ca n l W2 ((hr.below hb12).more hb12.size) hn hl)
  have HF := Lib.hid hf
  have HR := Lib.hid hr
  have HR2 := Lib.hid hr2
  have HN := Lib.hid hn
  have HM := Lib.hid hm
  have HBL := Lib.hid bL
  have HBB := Lib.hid bB
  have HBA := Lib.hid bA
  have HW1 := Lib.hid hW1
  have HW2 := Lib.hid hW2
  have HB1 := Lib.hid hb1
  have HB2 := Lib.hid hb2
  have HB12 := Lib.hid hb12
  have HS := Lib.hid (show W1.heap.size = w.heap.size + 2 ∧ W2.heap.size = w.heap.size + 3 from ⟨hs1, hs2⟩)
  have cL := bL.cell
  have cB := bB.cell
  clear hr hr2 hn hm hf hW1 hW2 hb1 hb2 hb12 bL bB bA hs2
  refine callsIn_of_wp_marks Tryz.func39 rfl trivial ?_ rfl
  simp only [Tryz.ntmps39, List.size_toArray, List.length_cons, List.length_nil, Nat.reduceAdd, Nat.reduceSub, Array.replicate_succ, Array.replicate_zero, List.push_toArray, List.append_toArray, List.nil_append, List.cons_append]
  gi_wp2_with fail
  rw [HW1.out]
  refine ⟨trivial, ?_⟩
  refine (callsIn_wide.2 HIB.out).mono ?_
  rintro r w1 ⟨rfl, rfl⟩
  gi_wp2_with fail
  refine ⟨trivial, ?_⟩
  refine (callsIn_wide.2 HFT.out).mono ?_
  rintro r w1 ⟨t, rfl, ht, rfl⟩
  obtain rfl : t = true := ht.2 (M.fits_iff.1 HF.out).2
  clear ht
  gi_wp2_with fail
  rw [HW2.out]
  refine ⟨trivial, ?_⟩
  refine (callsIn_wide.2 HMA.out).mono ?_
  rintro r w3 ⟨v, rfl, hoE, hb3⟩
  obtain ⟨AE, cE, rfl, hrE, hcE, -, -⟩ := reads_own hoE
  rw [M.matchI_len, HN.out] at hcE hoE
  rw [M.matchI_len, HN.out]
  have hs3 := hb3.size
  obtain ⟨W4, hW4⟩ : ∃ X, w3.alloc (.cells #[.slice AE n cE] 25) = X := ⟨_, rfl⟩
  obtain ⟨W5, hW5⟩ : ∃ X, W4.alloc (.map #[] 0) = X := ⟨_, rfl⟩
  obtain ⟨W6, hW6⟩ : ∃ X, W5.alloc (.cells #[.map (some (w3.heap.size + 1))] 116) = X := ⟨_, rfl⟩
  have hs4 : W4.heap.size = w3.heap.size + 1 := by rw [← hW4]; simp
  have hs5 : W5.heap.size = w3.heap.size + 2 := by rw [← hW5]; simp; omega
  have hs6 : W6.heap.size = w3.heap.size + 3 := by rw [← hW6]; simp; omega
  have hb4 : Below w3.heap.size w3 W4 := by rw [← hW4]; exact (Below.refl _ _).alloc (Nat.le_refl _) _
  have hb5 : Below W4.heap.size W4 W5 := by rw [← hW5]; exact (Below.refl _ _).alloc (Nat.le_refl _) _
  have hb6 : Below W5.heap.size W5 W6 := by rw [← hW6]; exact (Below.refl _ _).alloc (Nat.le_refl _) _
  have bE : Boxed W4 w3.heap.size 25 (.slice AE n cE) := by rw [← hW4]; exact Boxed.new _ _ _
  have bM : Boxed W6 (w3.heap.size + 2) 116 (.map (some (w3.heap.size + 1))) := by rw [← hW6, ← hs5]; exact Boxed.new _ _ _
  have hm5 : MapI W5 (w3.heap.size + 1) 0 (fun _ => none) := by
    refine ⟨0, .map [], ?_, Nat.le_refl _, MapIs.nil⟩
    rw [← hW5, ← hs4]
    exact World.ownsMap_made _ _ _ _
  have hmm := @run_makeMap Tryz.prog
  have HS3 := Lib.hid hs3
  have HB3 := Lib.hid hb3
  have HRE := Lib.hid hrE
  have HOE := Lib.hid hoE
  have HCE := Lib.hid hcE
  have HW4 := Lib.hid hW4
  have HW5 := Lib.hid hW5
  have HW6 := Lib.hid hW6
  have HB4 := Lib.hid hb4
  have HB5 := Lib.hid hb5
  have HB6 := Lib.hid hb6
  have HBE := Lib.hid bE
  have HBM := Lib.hid bM
  have HM5 := Lib.hid hm5
  have HSS := Lib.hid (show W4.heap.size = w3.heap.size + 1 ∧ W5.heap.size = w3.heap.size + 2 ∧ W6.heap.size = w3.heap.size + 3 from ⟨hs4, hs5, hs6⟩)
  have cB3 : w3.cell? ⟨w.heap.size + 1, 0, none⟩ = some (.int .i64 b) := (hb3.cell (p := ⟨w.heap.size + 1, 0, none⟩) (by have := HS.out; show w.heap.size + 1 < _; omega)).trans ((HB2.out.cell (p := ⟨w.heap.size + 1, 0, none⟩) (by have := HS.out; show w.heap.size + 1 < _; omega)).trans HBB.out.cell)
  have lB3 : w.heap.size + 1 < w3.heap.size := by have := HS.out; omega
  have lB4 : w.heap.size < w3.heap.size := by omega
  have lB5 : w.heap.size < w3.heap.size + 1 := by omega
  clear hs3 hb3 hrE hcE hoE hW4 hW5 hW6 hs4 hs5 hs6 hb4 hb5 hb6 bE bM hm5 cL cB hs1
  gi_wp2_with fail
  rw [HW4.out, HW5.out, HW6.out]
  refine ⟨trivial, ?_⟩
  refine (callsIn_wide.2 (levelRuns_any B cb m b W6)).mono ?_
  rintro r w8 ⟨rfl, rfl⟩
  obtain ⟨W8, hW8⟩ : ∃ X, (W6.alloc (.cells #[.slice B m cb] 25)).alloc (.cells #[.int .i64 b] 3) = X := ⟨_, rfl⟩
  rw [hW8]
  clear hmm cB3 lB3 lB4 lB5
  gi_wp2_with fail
  have hs8 : W8.heap.size = w3.heap.size + 5 := by rw [← hW8]; simp; have := HSS.out; omega
  have hb68 : Below W6.heap.size W6 W8 := by rw [← hW8]; exact ((Below.refl _ _).alloc (Nat.le_refl _) _).alloc (by simp) _
  have bS : Boxed W8 W6.heap.size 25 (.slice B m cb) := by rw [← hW8]; exact (Boxed.new W6 25 (.slice B m cb)).alloc _
  have bB8 : Boxed W8 (W6.heap.size + 1) 3 (.int .i64 b) := by
    have := Boxed.new (W6.alloc (.cells #[.slice B m cb] 25)) 3 (.int .i64 b)
    rw [hW8] at this
    simpa using this
  obtain ⟨hz1, hz2⟩ := HS.out
  obtain ⟨hz4, hz5, hz6⟩ := HSS.out
  have hz3 := HS3.out
  have hlie : SpLie w.heap.size (w.heap.size + 1) (w.heap.size + 2) w3.heap.size (w3.heap.size + 1 + 1) (w3.heap.size + 1) W8.heap.size w := by
    refine ⟨?_, ?_, ?_, ?_, ?_, ?_, ?_⟩ <;> first | (refine ⟨?_, ?_, ?_⟩ <;> omega) | omega
  have h38 : Below w3.heap.size w3 W8 := HB4.out.trans ((HB5.out.mono (by omega)).trans ((HB6.out.mono (by omega)).trans (hb68.mono (by omega))))
  have h28 : Below W2.heap.size W2 W8 := HB3.out.trans (h38.mono hz3)
  have h18 : Below W1.heap.size W1 W8 := HB2.out.trans (h28.mono (by omega))
  have h08 : Below w.heap.size w W8 := HB1.out.trans (h18.mono (by omega))
  have hfix : SpFix w.heap.size (w.heap.size + 1) (w.heap.size + 2) w3.heap.size (w3.heap.size + 1 + 1) (w3.heap.size + 1) W8.heap.size A ca n AE cE l b w W8 := by
    refine ⟨(h18.block _ (by omega)).trans HBL.out, (h18.block _ (by omega)).trans HBB.out, ?_, ?_, ?_, ?_, h08, Nat.le_refl _⟩
    · exact (hb68.block w3.heap.size (by omega)).trans ((HB6.out.block w3.heap.size (by omega)).trans ((HB5.out.block w3.heap.size (by omega)).trans HBE.out))
    · exact (hb68.block _ (by omega)).trans HBM.out
    · have h1 := own_below HOE.out h38
      rw [hz2] at h1
      exact h1
    · intro g hg
      have := (World.ownsRow.lt HOE.out g hg).2
      omega
  have hsq0 : SpSq W8.heap.size (w.heap.size + 2) W8 (M.sqs l b (M.runs lv b) 0) [] (.slice none 0 0) :=
    ⟨(h28.block _ (by omega)).trans HBA.out, World.ownsRow_nil _ _ _ _, Rws.nil _ _⟩
  have hmap0 : MapI W8 (w3.heap.size + 1) 0 (M.mp l (M.runs lv b) 0) := by
    refine HM5.out.keep ?_
    rw [hb68.block _ (by omega), HB6.out.block _ (by omega)]
  have HLIE := Lib.hid hlie
  have HS8 := Lib.hid hs8
  have HZ := Lib.hid (show W1.heap.size = w.heap.size + 2 ∧ W2.heap.size = w.heap.size + 3 ∧ W2.heap.size ≤ w3.heap.size ∧ W6.heap.size = w3.heap.size + 3 ∧ W8.heap.size = w3.heap.size + 5 from ⟨hz1, hz2, hz3, hz6, hs8⟩)
  refine range_mine (by omega) (gf := 108) (lb := #[.pointer (some ⟨W6.heap.size + 1, 0, none⟩), .pointer (some ⟨W6.heap.size, 0, none⟩)]) rfl (enters_of Tryz.func108 (by kernel_rfl) rfl) mineR_not
    (runs_gives 4 W6.heap.size (W6.heap.size + 1) w.heap.size B cb m b lv W8 (by omega) bS bB8 (HR2.out.below h08) HM.out hl2 hcb (by omega)) KeepsR.trans (keepsR_put (by omega) (by omega) (by omega)) (fun _ => rfl)
    (SpInv w.heap.size (w.heap.size + 1) (w.heap.size + 2) w3.heap.size (w3.heap.size + 1 + 1) (w3.heap.size + 1) W8.heap.size A ca n AE cE l b lv w) (fun _ _ _ => False)
    (fun _ _ _ h hs => h.still hlie hs) (fun _ _ _ _ h _ => h)
    ⟨_, _, hfix, hsq0, hmap0⟩
    (SpRound w.heap.size (w.heap.size + 1) (w.heap.size + 2) w3.heap.size (w3.heap.size + 1 + 1) (w3.heap.size + 1) W8.heap.size A ca n AE cE l b lv w (splitTm A B ca cb n m b AE cE w.heap.size w3.heap.size W6.heap.size))
    (fun pre x a₁ X k o o' h hk hX hc => h.put hlie hk hX hc)
    (fun X Y hX hXY => ⟨hXY.mono (by omega), fun o ho => (hXY.block _ (Array.getElem?_eq_some_iff.1 ho).1).trans ho, fun o ho => (hXY.block _ (Array.getElem?_eq_some_iff.1 ho).1).trans ho, fun k cs t hk => (hXY.block _ (Array.getElem?_eq_some_iff.1 hk).1).trans hk⟩)
    ?assign ?body ?done ?stop
  case assign =>
    rintro k pre ⟨⟨pl, x0, a0, e0⟩, A2, c2⟩ W K hi hel hK
    have hsz : W8.heap.size ≤ W.heap.size := by obtain ⟨_, _, hfx, _⟩ := hi; exact hfx.size
    obtain ⟨V, hV⟩ : ∃ X, W.alloc (.cells #[.slice A2 pl.length c2, .int .i64 x0, .int .i64 a0, .int .i64 e0] 121) = X := ⟨_, rfl⟩
    have hbV : Below W.heap.size W V := by rw [← hV]; exact (Below.refl _ _).alloc (Nat.le_refl _) _
    have hrun : RunAt V W.heap.size #[.slice A2 pl.length c2, .int .i64 x0, .int .i64 a0, .int .i64 e0] := by rw [← hV]; exact World.alloc_heap_new _ _
    have HK := Lib.hid (hK _ V hbV ⟨hi.still hlie (Still.of_below hbV hsz), ⟨hel.1, own_below hel.2 hbV⟩, W.heap.size, hsz, hrun, rfl⟩)
    have HV := Lib.hid hV
    clear hi hel hK hbV hrun hV hz1 hz2 hz3 hz4 hz5 hz6 hs8
    simp only [Yi.enc, Yi.slice, splitTm] at HK ⊢
    gi_wp2
    rw [HV.out]
    exact HK.out
  case body =>
    intro k pre x a₁ W hround hlen
    exact body_any rfl k _ pre x a₁ W w A B ca cb n m l lv b AE cE _ _ _ _ rfl hz6 hs8 (by omega) HR.out HN.out hl HM.out HF.out hround hlen
  case done =>
    rintro D ys W hD hys ⟨vs, va, hfx, hsq, hmp⟩ hK
    have hlen : ys.length = (M.runs lv b).length := by rw [← hys, List.length_map]
    rw [hlen] at hsq
    have ca0 := hsq.box.cell
    obtain ⟨A5, c5, hva, hrd, hc5, hm5, hn5⟩ := rdQ_own hsq.row hsq.rws
    subst hva
    obtain ⟨KK, hKK⟩ : ∃ k, (M.sqs l b (M.runs lv b) (M.runs lv b).length).length = k := ⟨_, rfl⟩
    rw [hKK] at ca0 hc5
    have HRD := Lib.hid hrd
    have HKK := Lib.hid hKK
    have HFX := Lib.hid hfx
    have HC5 := Lib.hid (And.intro hc5 (And.intro hm5 hn5))
    clear hz1 hz2 hz3 hz4 hz5 hz6 hs8 hfx hsq hmp hrd hKK hc5 hm5 hn5 hys
    gi_wp2
    refine ⟨by simp, .inl ⟨_, _, rfl, run_takeDeferred hK, ?_⟩⟩
    have hb2 : Below w.heap.size w (W.putObj D (.deferred none)) := HFX.out.below.trans (belowK_b (w := W8) (by have := h08.size; omega) W D _ _ hD hK rfl rfl)
    have hrd2 := HRD.out.keep (w' := W.putObj D (.deferred none)) (B' := (W.putObj D (.deferred none)).heap.size) (fun p v h => put_cell hK rfl h) (by simp)
    refine ⟨_, results_tmp2 rfl _ _ _, hb2, fun _ => ⟨A5, c5, ?_, hrd2, ?_, HC5.out.2⟩, fun h => absurd HF.out h⟩
    · unfold M.seqs
      rw [HKK.out]
      rfl
    · unfold M.seqs
      rw [HKK.out]
      exact HC5.out.1
  case stop =>
    rintro D c pre W _ _ h _
    exact h.elim

theorem csplit_any (A B : Option Addr) (ca cb n m : Nat) (l lv : List Int) (b : Int) (w : World) (hr : RdS .i64 w w.heap.size A l) (hn : l.length = n) (hl : n ≤ 1000) (hr2 : RdS .i64 w w.heap.size B lv) (hm : lv.length = m) (hl2 : m ≤ 1000) (hcb : m ≤ cb) :
    Calls Tryz.prog 39 #[.slice A n ca, .slice B m cb, .int .i64 b] w (SplitOut l lv b w) := by
  by_cases hb : b = 0 ∨ b = 1
  · by_cases hf : M.FitL l lv
    · exact csplit_ok A B ca cb n m l lv b w hr hn hl hr2 hm hl2 hcb (M.fits_iff.2 ⟨hb, hf⟩)
    · exact csplit_fit A B ca cb n m l lv b w hr hn hl hr2 hm hl2 hb hf
  · exact csplit_base A B ca cb n m l lv b w hb
end Go.Proofs.YtjlfgojblimobaaGreat
end
