/- What package runs' Split holds in memory between two runs, and the steps that turn it. No function of the program is walked here. -/
/- The regions of the body of package runs' Split's range that draw their order. -/
import Derived.Test.YtjlfgojblimobaaGreatA14
section
namespace Go.Proofs.YtjlfgojblimobaaGreat
open Go.RowKit
set_option maxRecDepth 100000

structure Kept (n0 BA mb : Nat) (W W' : World) : Prop where
  os : W'.os = W.os
  tape : W'.tape = W.tape
  output : W'.output = W.output
  size : W.heap.size ≤ W'.heap.size
  lo : ∀ k, k < n0 → k ≠ BA → k ≠ mb → W'.heap[k]? = W.heap[k]?
  hi : ∀ (k : Nat) (o : Obj), n0 ≤ k → W.heap[k]? = some o → (∀ cs m, o ≠ .cells cs 3 m) → (∀ cs m, o ≠ .cells cs 49 m) → W'.heap[k]? = some o
section
variable {n0 BA mb : Nat} {W W' X Y Z W1 : World}
theorem Kept.trans (h : Kept n0 BA mb X Y) (k : Kept n0 BA mb Y Z) : Kept n0 BA mb X Z :=
  ⟨k.os.trans h.os, k.tape.trans h.tape, k.output.trans h.output, Nat.le_trans h.size k.size, fun i a b c => (k.lo i a b c).trans (h.lo i a b c), fun i o a hi p q => k.hi i o a (h.hi i o a hi p q) p q⟩
theorem Kept.of_below (h : Below W.heap.size W W') (hn : n0 ≤ W.heap.size) : Kept n0 BA mb W W' :=
  ⟨h.os, h.tape, h.output, h.size, fun k hk _ _ => h.block k (by omega), fun k o _ hk _ _ => (h.block k (Array.getElem?_eq_some_iff.1 hk).1).trans hk⟩
theorem Kept.refl (hn : n0 ≤ W.heap.size) : Kept n0 BA mb W W := .of_below (Below.refl _ _) hn
theorem Kept.below (h : Kept n0 BA mb W W') {B : Nat} (h1 : B ≤ n0) (h2 : B ≤ BA) (h3 : B ≤ mb) : Below B W W' :=
  ⟨h.os, h.tape, h.output, h.size, fun k hk => h.lo k (by omega) (by omega) (by omega)⟩
theorem Kept.row {base n s : Nat} {t : TypeId} {v : Value} {xs : List Value} (hn : n0 ≤ W.heap.size) (ho : W.ownsRow base t s v n xs) (hb : n0 ≤ base) (ht : t = 3 ∨ t = 49) (hg : W.grownBy W1 v.ownBlock) : Kept n0 BA mb W W1 := by
  refine ⟨hg.os, hg.tape, hg.output, hg.size, fun k hk _ _ => hg.block k (by omega) fun e => (by have := (World.ownsRow.lt ho k e.symm).1; omega), fun k o hk ho' h1 h2 => ?_⟩
  refine (hg.block k (Array.getElem?_eq_some_iff.1 ho').1 fun e => ?_).trans ho'
  rcases ho.2 with ⟨rfl, _⟩ | ⟨g, cap, cur, rfl, hbg, hgg, _⟩
  · simp [Value.ownBlock] at e
  · have e2 : k = g := by simpa [Value.ownBlock] using e
    rw [e2, hgg] at ho'
    injection ho' with ho'
    rcases ht with rfl | rfl
    · exact h1 _ _ ho'.symm
    · exact h2 _ _ ho'.symm
theorem Kept.box (hB : BA < n0) (v : Value) : Kept n0 BA mb W (W.setCell ⟨BA, 0, none⟩ v) :=
  ⟨rfl, rfl, rfl, by simp [World.setCell], fun k _ h1 _ => Below.heap_setCell _ _ _ k h1, fun k o hk ho _ _ => (Below.heap_setCell _ _ _ k (show k ≠ BA by omega)).trans ho⟩
theorem Kept.cell {G i : Nat} {cs : Array Value} {m : Nat × Nat} (hG : W.heap[G]? = some (.cells cs 49 m)) (hn : n0 ≤ G) (v : Value) : Kept n0 BA mb W (W.setCell ⟨G, i, none⟩ v) :=
  ⟨rfl, rfl, rfl, by simp [World.setCell], fun k hk _ _ => Below.heap_setCell _ _ _ k (show k ≠ G by omega), fun k o _ ho _ h2 => by
    have hne : k ≠ G := fun e => by
      rw [e, hG] at ho
      injection ho with ho
      exact h2 _ _ ho.symm
    rw [Below.heap_setCell _ _ _ k hne]
    exact ho⟩
theorem Kept.map (hn : n0 ≤ W.heap.size) (hm : mb < n0) (hg : W.grownBy W1 (some mb)) : Kept n0 BA mb W W1 :=
  ⟨hg.os, hg.tape, hg.output, hg.size, fun k hk _ h2 => hg.block k (by omega) (fun e => h2 (by injection e)), fun k o hk ho _ _ => (hg.block k (Array.getElem?_eq_some_iff.1 ho).1 (fun e => by injection e with e; omega)).trans ho⟩
theorem Kept.keepsR (h : Kept n0 BA mb W W') {n₀ Bs Bb : Nat} (h1 : n₀ ≤ BA) (h2 : BA < mb) (h3 : mb < n0) (hs : mb < Bs) (hs2 : Bs < n0) (hb : mb < Bb) (hb2 : Bb < n0) {va : Value} (hA : Boxed W BA 45 va) (hM : ∃ es c, W.heap[mb]? = some (.map es c)) : KeepsR n₀ Bs Bb W W' := by
  refine ⟨h.below (by omega) h1 (by omega), fun o ho => (h.lo Bs hs2 (by omega) (by omega)).trans ho, fun o ho => (h.lo Bb hb2 (by omega) (by omega)).trans ho, fun k cs m hk => ?_⟩
  rcases Nat.lt_or_ge k n0 with hlt | hge
  · refine (h.lo k hlt (fun e => ?_) (fun e => ?_)).trans hk
    · rw [e, show W.heap[BA]? = _ from hA] at hk
      injection hk with hk
      injection hk with _ hk _
      revert hk
      decide
    · obtain ⟨es, c, hM⟩ := hM
      rw [e, hM] at hk
      injection hk with hk
      cases hk
  · exact h.hi k _ hge hk (fun cs' m' e => by injection e with _ e _; revert e; decide) (fun cs' m' e => by injection e with _ e _; revert e; decide)
theorem Kept.from_ (h : Kept n0 BA mb W W') : KeepsFrom n0 W W' := ⟨h.size, fun k o hk ho hc => h.hi k o hk ho (fun cs m e => by rw [e] at hc; cases hc) (fun cs m e => by rw [e] at hc; cases hc)⟩
theorem Kept.run (h : Kept n0 BA mb W W') {B : Nat} {cs : Array Value} (hr : RunAt W B cs) (hB : n0 ≤ B) : RunAt W' B cs :=
  h.hi B _ hB hr (fun cs' m' e => by injection e with _ e _; revert e; decide) (fun cs' m' e => by injection e with _ e _; revert e; decide)
end
def IntKept (n0 : Nat) (W W' : World) : Prop := ∀ (g : Nat) cs, n0 ≤ g → W.heap[g]? = some (.cells cs 3 (0, 0)) → W'.heap[g]? = some (.cells cs 3 (0, 0))
theorem IntKept.own {n0 base n : Nat} {W W' : World} {v : Value} {xs : List Value} (h : IntKept n0 W W') (ho : W.ownsRow base 3 1 v n xs) (hb : n0 ≤ base) : W'.ownsRow base 3 1 v n xs := by
  refine ⟨ho.1, ?_⟩
  rcases ho.2 with h0 | ⟨g, cap, cur, hv, hbg, hg, rest⟩
  · exact .inl h0
  · exact .inr ⟨g, cap, cur, hv, hbg, h g _ (by omega) hg, rest⟩
theorem MapI.obj {w : World} {mb t : Nat} {f : Int → Option Nat} (h : MapI w mb t f) : ∃ es c, w.heap[mb]? = some (.map es c) := by
  obtain ⟨n, D, ⟨es, clock, h1, _⟩, _⟩ := h
  exact ⟨es, clock, h1⟩

structure SpFix (BL BB BA BE BM mb n0 : Nat) (A : Option Addr) (ca n : Nat) (AE : Option Addr) (cE : Nat) (l : List Int) (b : Int) (w W : World) : Prop where
  boxL : Boxed W BL 22 (.slice A n ca)
  boxB : Boxed W BB 3 (.int .i64 b)
  boxE : Boxed W BE 25 (.slice AE n cE)
  boxM : Boxed W BM 116 (.map (some mb))
  ends : W.ownsRow (BA + 1) 3 1 (.slice AE n cE) n ((M.matchI l).map (Value.int .i64))
  endsB : ∀ g, (Value.slice AE n cE).ownBlock = some g → g < mb
  below : Below w.heap.size w W
  size : n0 ≤ W.heap.size
structure SpLie (BL BB BA BE BM mb n0 : Nat) (w : World) : Prop where
  l : BL < n0 ∧ BL ≠ BA ∧ BL ≠ mb
  b : BB < n0 ∧ BB ≠ BA ∧ BB ≠ mb
  e : BE < n0 ∧ BE ≠ BA ∧ BE ≠ mb
  m : BM < n0 ∧ BM ≠ BA ∧ BM ≠ mb
  am : BA < mb
  mn : mb < n0
  wa : w.heap.size ≤ BA
section
variable {BL BB BA BE BM mb n0 : Nat} {A : Option Addr} {ca n : Nat} {AE : Option Addr} {cE : Nat} {l : List Int} {b : Int} {w W W' W1 : World}
theorem SpFix.kept (hl : SpLie BL BB BA BE BM mb n0 w) (h : SpFix BL BB BA BE BM mb n0 A ca n AE cE l b w W) (k : Kept n0 BA mb W W') : SpFix BL BB BA BE BM mb n0 A ca n AE cE l b w W' := by
  have h1 := hl.wa
  have h2 := hl.am
  have h3 := hl.mn
  refine ⟨(k.lo _ hl.l.1 hl.l.2.1 hl.l.2.2).trans h.boxL, (k.lo _ hl.b.1 hl.b.2.1 hl.b.2.2).trans h.boxB, (k.lo _ hl.e.1 hl.e.2.1 hl.e.2.2).trans h.boxE, (k.lo _ hl.m.1 hl.m.2.1 hl.m.2.2).trans h.boxM, ⟨h.ends.1, ?_⟩, h.endsB, h.below.trans (k.below (by omega) h1 (by omega)), Nat.le_trans h.size k.size⟩
  rcases h.ends.2 with h0 | ⟨g, cap, cur, hv, hb, hg, rest⟩
  · exact .inl h0
  · have hgm := h.endsB g (by rw [hv]; rfl)
    exact .inr ⟨g, cap, cur, hv, hb, by rw [k.lo g (by omega) (by omega) (by omega)]; exact hg, rest⟩
theorem SpFix.end_ (h : SpFix BL BB BA BE BM mb n0 A ca n AE cE l b w W) {k : Nat} (hk : k < l.length) : ∃ ad, AE = some ad ∧ W.cell? (ad.add k) = some (.int .i64 (M.endI l k)) := by
  have hm : (M.matchI l)[k]? = some (M.endI l k) := by unfold M.matchI M.matchTo; simp [hk]
  rcases h.ends.2 with ⟨hv, h0⟩ | ⟨g, cap, cur, hv, hb, hg, rest⟩
  · have := h.ends.1
    rw [List.length_map, h0] at this
    have h3 := (List.getElem?_eq_some_iff.1 hm).1
    omega
  · injection hv with e1 _ e2
    exact ⟨⟨g, 0, none⟩, e1, World.ownsRow.cells h.ends (by rw [e1]; rfl) k _ (by rw [List.getElem?_map, hm]; rfl)⟩

structure SpSq (n0 BA : Nat) (W : World) (ss : List M.Sq) (vs : List Sv) (va : Value) : Prop where
  box : Boxed W BA 45 va
  row : W.ownsRow n0 49 4 va ss.length (sqCells vs ss)
  rws : Rws W n0 vs (ss.map (·.pl))
variable {ss : List M.Sq} {vs : List Sv} {va : Value}
theorem SpSq.len (h : SpSq n0 BA W ss vs va) : vs.length = ss.length := by have := h.rws.len; simpa using this
theorem SpSq.later (h : SpSq n0 BA W ss vs va) (hb : Below W.heap.size W W') : SpSq n0 BA W' ss vs va := by
  refine ⟨(hb.block BA h.box.lt).trans h.box, ⟨h.row.1, ?_⟩, h.rws.below hb⟩
  rcases h.row.2 with h0 | ⟨g, cap, cur, hv, hbg, hg, rest⟩
  · exact .inl h0
  · exact .inr ⟨g, cap, cur, hv, hbg, by rw [hb.block g (lt_of_block hg)]; exact hg, rest⟩
theorem SpSq.still (h : SpSq n0 BA W ss vs va) (hs : Still (ours mineR) n0 W W') (hB : BA < n0) : SpSq n0 BA W' ss vs va :=
  ⟨(hs.below.block BA hB).trans h.box, own_still h.row hs (fun _ _ => by simp [ours, mineR, Obj.isCells]), h.rws.still hs (fun _ _ => by simp [ours, mineR, Obj.isCells])⟩
theorem SpSq.row_box (h : SpSq n0 BA W ss vs va) (hB : BA < n0) : va.ownBlock ≠ some BA := fun e => by have := (World.ownsRow.lt h.row BA e).1; omega
theorem SpSq.pushed {va' : Value} {tmp : Obj} {lvl fi : Int} (h : SpSq n0 BA W ss vs va) (hB : BA < n0) (hn : n0 ≤ W.heap.size) (hg : (W.alloc tmp).grownBy W1 va.ownBlock)
    (ho : W1.ownsRow n0 49 4 va' (ss.length + 1) (sqCells vs ss ++ [.slice none 0 0, .int .i64 lvl, .int .i64 fi, .int .i64 0])) :
    Kept n0 BA mb W (W1.setCell ⟨BA, 0, none⟩ va') ∧ SpSq n0 BA (W1.setCell ⟨BA, 0, none⟩ va') (ss ++ [⟨[], lvl, fi, 0⟩]) (vs ++ [(none, 0)]) va' ∧ IntKept n0 W (W1.setCell ⟨BA, 0, none⟩ va') := by
  have hal : Below W.heap.size W (W.alloc tmp) := (Below.refl _ _).alloc (Nat.le_refl _) _
  have ha := h.later hal
  have hk1 : Kept n0 BA mb W W1 := (Kept.of_below hal hn).trans (Kept.row (by simp; omega) ha.row (Nat.le_refl _) (.inr rfl) hg)
  have hbox1 : Boxed W1 BA 45 va := ha.box.kept hg (fun e => ha.row_box hB e.symm)
  have hrw1 : Rws W1 n0 vs (ss.map (·.pl)) := ha.rws.growOther ha.row (by decide) hg
  refine ⟨hk1.trans (Kept.box hB va'), ⟨hbox1.set va', ?_, ?_⟩, fun g cs hn0 hgi => ?_⟩
  · have hne : va'.ownBlock ≠ some BA := fun e => by have := (World.ownsRow.lt ho BA e).1; omega
    have := ownsRow_setCell_other (a := ⟨BA, 0, none⟩) ho hne va'
    rw [List.length_append]
    rw [← sqCells_snoc (none, 0) ⟨[], lvl, fi, 0⟩ h.len]
    exact this
  · rw [List.map_append]
    exact (hrw1.setOther (show W1.heap[BA]? = _ from hbox1) (by decide) va').snoc
  · have h1 : (W.alloc tmp).heap[g]? = some (.cells cs 3 (0, 0)) := (hal.block g (Array.getElem?_eq_some_iff.1 hgi).1).trans hgi
    have hne : some g ≠ va.ownBlock := fun e => by
      rcases ha.row.2 with ⟨e0, _⟩ | ⟨g', _, _, e0, _, hg', _⟩
      · rw [e0] at e; cases e
      · rw [e0] at e
        obtain rfl : g = g' := by simpa [Value.ownBlock] using e
        rw [hg'] at h1
        injection h1 with h1
        injection h1 with _ h1 _
        revert h1
        decide
    rw [Below.heap_setCell _ _ _ g (show g ≠ BA by omega), hg.block g (Array.getElem?_eq_some_iff.1 h1).1 hne]
    exact h1
theorem SpSq.cells {k : Nat} {s : M.Sq} {v : Sv} (h : SpSq n0 BA W ss vs va) (hs : ss[k]? = some s) (hv : vs[k]? = some v) : ∃ G c, va = .slice (some ⟨G, 0, none⟩) ss.length c ∧ n0 ≤ G ∧ (∃ cs, W.heap[G]? = some (.cells cs 49 (0, 0))) ∧
    W.cell? ⟨G, k * 4, none⟩ = some (.slice v.1 s.pl.length v.2) ∧ W.cell? ⟨G, k * 4 + 1, none⟩ = some (.int .i64 s.lv) ∧ W.cell? ⟨G, k * 4 + 2, none⟩ = some (.int .i64 s.fi) ∧ W.cell? ⟨G, k * 4 + 3, none⟩ = some (.int .i64 s.la) ∧
    (∀ j, W.frozen? ⟨G, j, none⟩ = false) := by
  have hk := (List.getElem?_eq_some_iff.1 hs).1
  rcases h.row.2 with ⟨_, h0⟩ | ⟨g, cap, cur, hv', hbg, hg, hn, hm, _, _⟩
  · omega
  · obtain ⟨q0, q1, q2, q3⟩ := sqCells_at hv hs
    have hr := h.row
    rw [hv'] at hr
    exact ⟨g, cap, hv', hbg, ⟨cur, hg⟩, (World.ownsRow.cellAt (size := 4) hr _ (by omega)).trans q0, (World.ownsRow.cellAt (size := 4) hr _ (by omega)).trans q1, (World.ownsRow.cellAt (size := 4) hr _ (by omega)).trans q2, (World.ownsRow.cellAt (size := 4) hr _ (by omega)).trans q3, fun j => hr.frozenAt j⟩
theorem SpSq.placed {k G c g cap : Nat} {s : M.Sq} {v : Sv} {new : List Int} (h : SpSq n0 BA W ss vs va) (hB : BA < n0) (hn : n0 ≤ W.heap.size) (hs : ss[k]? = some s) (hv : vs[k]? = some v) (hva : va = .slice (some ⟨G, 0, none⟩) ss.length c)
    (hg : W.grownBy W1 (Value.slice v.1 s.pl.length v.2).ownBlock) (ho : W1.ownsRow n0 3 1 (.slice (some ⟨g, 0, none⟩) (s.pl.length + new.length) cap) (s.pl.length + new.length) (s.pl.map (Value.int .i64) ++ new.map (Value.int .i64)))
    (hat : (Value.slice v.1 s.pl.length v.2).ownBlock = some g ∨ g = W.heap.size) :
    Kept n0 BA mb W (W1.setCell ⟨G, k * 4, none⟩ (.slice (some ⟨g, 0, none⟩) (s.pl.length + new.length) cap)) ∧
      SpSq n0 BA (W1.setCell ⟨G, k * 4, none⟩ (.slice (some ⟨g, 0, none⟩) (s.pl.length + new.length) cap)) (ss.set k ⟨s.pl ++ new, s.lv, s.fi, s.la⟩) (vs.set k (some ⟨g, 0, none⟩, cap)) va := by
  have hpl : (ss.map (·.pl))[k]? = some s.pl := by rw [List.getElem?_map, hs]; rfl
  have hown := h.rws.own k v s.pl hv hpl
  have hk1 : Kept n0 BA mb W W1 := Kept.row hn hown (Nat.le_refl _) (.inl rfl) hg
  rw [own_blk] at hg hat
  have hrw1 := h.rws.grow hv hpl rfl hg (by rw [List.map_append]; exact ho) (by simp) (hat.imp_right (fun e => by omega))
  -- the row of sequences is another block than one of places
  obtain ⟨G', c', hva', hG', ⟨cs, hcs⟩, _⟩ := h.cells hs hv
  obtain rfl : G = G' := by rw [hva] at hva'; injection hva' with e; injection e with e; injection e
  have hGne : v.1.map (·.block) ≠ some G := fun e => by
    rcases hown.2 with ⟨hv0, _⟩ | ⟨g2, _, _, hv2, _, hg2, _⟩
    · injection hv0 with e1
      rw [e1] at e
      cases e
    · injection hv2 with e1
      rw [e1] at e
      have e3 : g2 = G := by simpa using e
      rw [e3, hcs] at hg2
      injection hg2 with hg2
      injection hg2 with _ hg2 _
      revert hg2
      decide
  have hG1 : W1.heap[G]? = some (.cells cs 49 (0, 0)) := (hg.block G (Array.getElem?_eq_some_iff.1 hcs).1 (fun e => hGne e.symm)).trans hcs
  have hbox1 : Boxed W1 BA 45 va := h.box.kept hg (fun e => by
    have := (World.ownsRow.lt hown BA (by rw [own_blk]; exact e.symm)).1
    omega)
  have hrow1 : W1.ownsRow n0 49 4 va ss.length (sqCells vs ss) := h.row.kept hg (.inr (by rw [hva]; exact fun e => hGne e.symm))
  refine ⟨hk1.trans (Kept.cell hG1 hG' _), ?_, ?_, ?_⟩
  · exact (Below.heap_setCell _ _ _ BA (show BA ≠ G by omega)).trans hbox1
  · rw [List.length_set]
    subst hva
    have := (World.ownsRow.stored hrow1 (k * 4) (.slice (some ⟨g, 0, none⟩) (s.pl.length + new.length) cap)).1
    rw [← sqCells_set0 hv hs (s' := ⟨s.pl ++ new, s.lv, s.fi, s.la⟩) (v' := (some ⟨g, 0, none⟩, cap)) rfl rfl rfl]
    simpa using this
  · rw [List.map_set]
    exact hrw1.setOther hG1 (by decide) _
theorem SpSq.lasted {k G c : Nat} {s : M.Sq} {v : Sv} (h : SpSq n0 BA W ss vs va) (hB : BA < n0) (hs : ss[k]? = some s) (hv : vs[k]? = some v) (hva : va = .slice (some ⟨G, 0, none⟩) ss.length c) (la : Int) :
    Kept n0 BA mb W (W.setCell ⟨G, k * 4 + 3, none⟩ (.int .i64 la)) ∧ SpSq n0 BA (W.setCell ⟨G, k * 4 + 3, none⟩ (.int .i64 la)) (ss.set k ⟨s.pl, s.lv, s.fi, la⟩) vs va := by
  obtain ⟨G', c', hva', hG', ⟨cs, hcs⟩, _⟩ := h.cells hs hv
  obtain rfl : G = G' := by rw [hva] at hva'; injection hva' with e; injection e with e; injection e
  refine ⟨Kept.cell hcs hG' _, (Below.heap_setCell _ _ _ BA (show BA ≠ G by omega)).trans h.box, ?_, ?_⟩
  · rw [List.length_set]
    have hr := h.row
    subst hva
    have := (World.ownsRow.stored hr (k * 4 + 3) (.int .i64 la)).1
    rw [← sqCells_set3 hv hs (s' := ⟨s.pl, s.lv, s.fi, la⟩) rfl rfl rfl]
    exact this
  · have : ((ss.set k ⟨s.pl, s.lv, s.fi, la⟩).map (·.pl)) = ss.map (·.pl) := by
      rw [List.map_set]
      refine List.ext_getElem? fun j => ?_
      by_cases hj : k = j
      · subst hj
        rw [List.getElem?_set_self (by simp; exact (List.getElem?_eq_some_iff.1 hs).1), List.getElem?_map, hs]
        rfl
      · rw [List.getElem?_set_ne hj]
    rw [this]
    exact h.rws.setOther hcs (by decide) _

structure SpMid (BL BB BA BE BM mb n0 : Nat) (A : Option Addr) (ca n : Nat) (AE : Option Addr) (cE : Nat) (l : List Int) (b : Int) (w W0 : World) (Br g2 p c2 : Nat) (r : M.Rn) (ss : List M.Sq) (vs : List Sv) (va : Value) (f : Int → Option Nat) (t : Nat) (W : World) : Prop where
  fix : SpFix BL BB BA BE BM mb n0 A ca n AE cE l b w W
  sq : SpSq n0 BA W ss vs va
  map : MapI W mb t f
  run : RunAt W Br #[.slice (some ⟨g2, 0, none⟩) p c2, .int .i64 r.lv, .int .i64 r.ah, .int .i64 r.be]
  row : W.ownsRow n0 3 1 (.slice (some ⟨g2, 0, none⟩) p c2) p (r.pl.map (Value.int .i64))
  kept : Kept n0 BA mb W0 W
variable {W0 : World} {Br g2 p c2 t : Nat} {r : M.Rn} {f : Int → Option Nat}
theorem SpMid.later (hl : SpLie BL BB BA BE BM mb n0 w) (h : SpMid BL BB BA BE BM mb n0 A ca n AE cE l b w W0 Br g2 p c2 r ss vs va f t W) (hb : Below W.heap.size W W') : SpMid BL BB BA BE BM mb n0 A ca n AE cE l b w W0 Br g2 p c2 r ss vs va f t W' :=
  have k := Kept.of_below hb h.fix.size
  ⟨h.fix.kept hl k, h.sq.later hb, h.map.keep (hb.block mb h.map.lt), (hb.block Br h.run.lt).trans h.run, own_below h.row hb, h.kept.trans k⟩
theorem SpMid.push {va' : Value} {tmp : Obj} {lvl fi : Int} (hl : SpLie BL BB BA BE BM mb n0 w) (h : SpMid BL BB BA BE BM mb n0 A ca n AE cE l b w W0 Br g2 p c2 r ss vs va f t W) (hBr : n0 ≤ Br) (hg : (W.alloc tmp).grownBy W1 va.ownBlock)
    (ho : W1.ownsRow n0 49 4 va' (ss.length + 1) (sqCells vs ss ++ [.slice none 0 0, .int .i64 lvl, .int .i64 fi, .int .i64 0])) :
    SpMid BL BB BA BE BM mb n0 A ca n AE cE l b w W0 Br g2 p c2 r (ss ++ [⟨[], lvl, fi, 0⟩]) (vs ++ [(none, 0)]) va' f t (W1.setCell ⟨BA, 0, none⟩ va') := by
  have hB : BA < n0 := by have := hl.am; have := hl.mn; omega
  obtain ⟨k, s, i⟩ := h.sq.pushed (mb := mb) hB h.fix.size hg ho
  refine ⟨h.fix.kept hl k, s, h.map.keep ?_, k.run h.run hBr, i.own h.row (Nat.le_refl _), h.kept.trans k⟩
  have hlt := h.map.lt
  have hne : some mb ≠ va.ownBlock := fun e => by have := (World.ownsRow.lt h.sq.row mb e.symm).1; have := hl.mn; omega
  rw [Below.heap_setCell _ _ _ mb (show mb ≠ BA by have := hl.am; omega), hg.block mb (by simp; omega) hne, Below.heap_alloc _ _ _ hlt]
theorem SpMid.mapd {f' : Int → Option Nat} {t' : Nat} (hl : SpLie BL BB BA BE BM mb n0 w) (h : SpMid BL BB BA BE BM mb n0 A ca n AE cE l b w W0 Br g2 p c2 r ss vs va f t W) (hBr : n0 ≤ Br) (hg : W.grownBy W1 (some mb)) (hm : MapI W1 mb t' f') :
    SpMid BL BB BA BE BM mb n0 A ca n AE cE l b w W0 Br g2 p c2 r ss vs va f' t' W1 := by
  have hmn := hl.mn
  have k := Kept.map (BA := BA) h.fix.size hmn hg
  have i : ∀ (g : Nat) (o : Obj), n0 ≤ g → W.heap[g]? = some o → W1.heap[g]? = some o := fun g o hn hgg => (hg.block g (Array.getElem?_eq_some_iff.1 hgg).1 (fun e => by injection e with e; omega)).trans hgg
  refine ⟨h.fix.kept hl k, ⟨(hg.block BA h.sq.box.lt (fun e => by injection e with e; have := hl.am; omega)).trans h.sq.box, ?_, h.sq.rws.keep fun g cs hn hgg => i g _ hn hgg⟩, hm, k.run h.run hBr, IntKept.own (n0 := n0) (fun g cs hn hgg => i g _ hn hgg) h.row (Nat.le_refl _), h.kept.trans k⟩
  refine ⟨h.sq.row.1, ?_⟩
  rcases h.sq.row.2 with h0 | ⟨g, cap, cur, hv, hbg, hgg, rest⟩
  · exact .inl h0
  · exact .inr ⟨g, cap, cur, hv, hbg, i g _ hbg hgg, rest⟩
end

theorem Tryz.infoSeq : (Tryz.prog.info? 49).map (fun i => (i.zero, i.size, i.bytes)) = some (some (.agg #[.slice none 0 0, .int .i64 0, .int .i64 0, .int .i64 0]), 4, 48) := by kernel_rfl
theorem own_form {w : World} {base s n : Nat} {t : TypeId} {v : Value} {xs : List Value} (h : w.ownsRow base t s v n xs) : ∃ A c, v = .slice A n c ∧ (A = none → n = 0 ∧ c = 0) := by
  rcases h.2 with ⟨rfl, h0⟩ | ⟨g, cap, cur, rfl, _⟩
  · exact ⟨none, 0, by rw [h0], fun _ => ⟨h0, rfl⟩⟩
  · exact ⟨_, cap, rfl, fun h => by cases h⟩
def SpInv (BL BB BA BE BM mb n0 : Nat) (A : Option Addr) (ca n : Nat) (AE : Option Addr) (cE : Nat) (l : List Int) (b : Int) (lv : List Int) (w : World) (pre : List Yi) (W : World) : Prop :=
  ∃ vs va, SpFix BL BB BA BE BM mb n0 A ca n AE cE l b w W ∧ SpSq n0 BA W (M.sqs l b (M.runs lv b) pre.length) vs va ∧ MapI W mb pre.length (M.mp l (M.runs lv b) pre.length)
section
variable {BL BB BA BE BM mb n0 : Nat} {A : Option Addr} {ca n : Nat} {AE : Option Addr} {cE : Nat} {l : List Int} {b : Int} {lv : List Int} {w W W' : World} {pre : List Yi}
theorem SpFix.still (hl : SpLie BL BB BA BE BM mb n0 w) (h : SpFix BL BB BA BE BM mb n0 A ca n AE cE l b w W) (hs : Still (ours mineR) n0 W W') : SpFix BL BB BA BE BM mb n0 A ca n AE cE l b w W' := by
  have hb := hs.below.block
  have h1 := hl.wa
  have h2 := hl.am
  have h3 := hl.mn
  refine ⟨(hb _ hl.l.1).trans h.boxL, (hb _ hl.b.1).trans h.boxB, (hb _ hl.e.1).trans h.boxE, (hb _ hl.m.1).trans h.boxM, ⟨h.ends.1, ?_⟩, h.endsB, h.below.trans (hs.below.mono (by omega)), Nat.le_trans h.size hs.below.size⟩
  rcases h.ends.2 with h0 | ⟨g, cap, cur, hv, hbg, hg, rest⟩
  · exact .inl h0
  · have hgm := h.endsB g (by rw [hv]; rfl)
    exact .inr ⟨g, cap, cur, hv, hbg, by rw [hb g (by omega)]; exact hg, rest⟩
theorem SpInv.still (hl : SpLie BL BB BA BE BM mb n0 w) (h : SpInv BL BB BA BE BM mb n0 A ca n AE cE l b lv w pre W) (hs : Still (ours mineR) n0 W W') : SpInv BL BB BA BE BM mb n0 A ca n AE cE l b lv w pre W' := by
  obtain ⟨vs, va, h1, h2, h3⟩ := h
  exact ⟨vs, va, h1.still hl hs, h2.still hs (by have := hl.am; have := hl.mn; omega), h3.keep (hs.below.block mb hl.mn)⟩
end
def SpRound (BL BB BA BE BM mb n0 : Nat) (A : Option Addr) (ca n : Nat) (AE : Option Addr) (cE : Nat) (l : List Int) (b : Int) (lv : List Int) (w : World) (tm : Yi → Nat → Array Value) (pre : List Yi) (x : Yi) (a₁ : Act) (W : World) : Prop :=
  SpInv BL BB BA BE BM mb n0 A ca n AE cE l b lv w pre W ∧ NextRun lv b n0 pre x W ∧ ∃ Br, n0 ≤ Br ∧ RunAt W Br #[x.slice, .int .i64 x.1.lv, .int .i64 x.1.ah, .int .i64 x.1.be] ∧ a₁ = { tmps := tm x Br, defers := [] }
theorem SpRound.put {BL BB BA BE BM mb n0 : Nat} {A : Option Addr} {ca n : Nat} {AE : Option Addr} {cE : Nat} {l : List Int} {b : Int} {lv : List Int} {w W : World} {tm : Yi → Nat → Array Value} {pre : List Yi} {x : Yi} {a₁ : Act} {k : Nat} {o o' : Obj} (hl : SpLie BL BB BA BE BM mb n0 w)
    (h : SpRound BL BB BA BE BM mb n0 A ca n AE cE l b lv w tm pre x a₁ W) (hk : n0 ≤ k) (ho : W.heap[k]? = some o) (hc : o.isCells = false) : SpRound BL BB BA BE BM mb n0 A ca n AE cE l b lv w tm pre x a₁ (W.putObj k o') := by
  obtain ⟨h1, h2, Br, hBr, hrun, ha⟩ := h
  have st := still_put (mine := mineR) o' ho hc hk
  refine ⟨h1.still hl st, ⟨h2.1, own_still h2.2 st (fun _ _ => by simp [ours, mineR, Obj.isCells])⟩, Br, hBr, ?_, ha⟩
  have hne : Br ≠ k := fun e => by
    rw [e] at hrun
    rw [show W.heap[k]? = _ from hrun] at ho
    injection ho with ho
    rw [← ho] at hc
    cases hc
  exact (World.putObj_heap_other hne).trans hrun
end Go.Proofs.YtjlfgojblimobaaGreat
end

section
namespace Go.Proofs.YtjlfgojblimobaaGreat
open Go.RowKit Go.Shelf
attribute [local go_sem] Oper.semAt_some
set_option maxRecDepth 100000

noncomputable def rangeBody : Code → Option Code
  | .seq a b => (rangeBody a).or (rangeBody b)
  | .block _ c => rangeBody c
  | .rangeFunc _ _ _ c => some c
  | _ => none
noncomputable def regionAt (k : Nat) : Code → Option Code
  | .seq a b => (regionAt k a).or (regionAt k b)
  | .block _ c => regionAt k c
  | .cond _ a b => (regionAt k a).or (regionAt k b)
  | .region i o d => if i = k then some (.region i o d) else none
  | _ => none
noncomputable def tailAt (k : Nat) : Code → Option Code
  | .seq (.region i o d) b => if i = k then some (.seq (.region i o d) b) else tailAt k b
  | .seq a b => (tailAt k a).or (tailAt k b)
  | .block _ c => tailAt k c
  | _ => none
noncomputable def splitBody : Code := ((rangeBody ((Tryz.f39.body).getD .skip))).getD .skip

set_option maxHeartbeats 8000000 in
theorem reg11 {c : Code} (hc : regionAt 11 splitBody = some c) {j nn : Nat} {Q : Exit → Act → World → Prop} {BA Br K c4 g cap : Nat} {A4 : Option Addr} {x0 a0 sv : Int} {X D D1 D2 : World} {t0 t1 t2 t3 t4 t5 t6 t7 t9 t10 t12 t13 t14 t15 t16 t17 t18 t19 t20 t21 t22 t23 t24 t25 t26 t27 t28 t29 t30 t31 t32 t33 t34 t35 t36 t37 t38 t39 t40 t41 t42 t43 t44 t45 t57 t58 t59 t60 t61 t62 t63 t64 t65 t66 t67 t68 t69 t70 t71 t72 t73 t74 t75 t76 t77 t78 t79 t80 t81 t82 t83 t84 t85 t86 t87 t88 t89 t90 t91 t92 t93 t94 t95 t96 t97 t98 t99 t100 t101 t102 t103 t104 t105 t106 : Value} {t46 t47 t48 t49 t50 t51 t52 t53 t54 t55 t56 : Value}
    (hD : X.drew = D) (e1 : D.cell? ⟨Br, 1, none⟩ = some (.int .i64 x0)) (e2 : D.cell? ⟨Br, 2, none⟩ = some (.int .i64 a0)) (cA0 : D.cell? ⟨BA, 0, none⟩ = some (.slice A4 K c4)) (hsd : ∀ Z, Calls Tryz.prog 72 #[.int .i64 x0, .int .i64 a0] Z fun r w' => r = .returned (.int .i64 sv) ∧ Z = w')
    (hD1 : D.alloc (.cells #[.slice none 0 0, .int .i64 x0, .int .i64 sv, .int .i64 0] 49) = D1) (j1 : D1.cell? ⟨Br, 1, none⟩ = some (.int .i64 x0) ∧ D1.cell? ⟨Br, 2, none⟩ = some (.int .i64 a0)) (cA1 : D1.cell? ⟨BA, 0, none⟩ = some (.slice A4 K c4))
    (hrun : (Builtin.append_ #[45, 45] 45 #[.slice A4 K c4, .slice (some ⟨D.heap.size, 0, none⟩) 1 1]).run Tryz.prog D1 = .ok (.slice (some ⟨g, 0, none⟩) (K + 1) cap) D2) (j2 : D2.cell? ⟨Br, 1, none⟩ = some (.int .i64 x0) ∧ D2.cell? ⟨Br, 2, none⟩ = some (.int .i64 a0))
    (cA2 : D2.cell? ⟨BA, 0, none⟩ = some (.slice A4 K c4)) (bA2 : D2.frozen? ⟨BA, 0, none⟩ = false)
    (j3 : (D2.setCell ⟨BA, 0, none⟩ (.slice (some ⟨g, 0, none⟩) (K + 1) cap)).cell? ⟨Br, 1, none⟩ = some (.int .i64 x0) ∧ (D2.setCell ⟨BA, 0, none⟩ (.slice (some ⟨g, 0, none⟩) (K + 1) cap)).cell? ⟨Br, 2, none⟩ = some (.int .i64 a0))
    (hend : Q .normal ⟨(List.toArray (t0 :: t1 :: t2 :: t3 :: t4 :: t5 :: t6 :: t7 :: (.pointer (some ⟨BA, 0, none⟩)) :: t9 :: t10 :: (.pointer (some ⟨Br, 0, none⟩)) :: t12 :: t13 :: t14 :: t15 :: t16 :: t17 :: t18 :: t19 :: t20 :: t21 :: t22 :: t23 :: t24 :: t25 :: t26 :: t27 :: t28 :: t29 :: t30 :: t31 :: t32 :: t33 :: t34 :: t35 :: t36 :: t37 :: t38 :: t39 :: t40 :: t41 :: t42 :: t43 :: t44 :: t45 :: (.slice A4 K c4) :: (.pointer (some ⟨Br, 1, none⟩)) :: (.int .i64 x0) :: (.pointer (some ⟨Br, 1, none⟩)) :: (.int .i64 x0) :: (.pointer (some ⟨Br, 2, none⟩)) :: (.int .i64 a0) :: (.int .i64 sv) :: (.agg #[.slice none 0 0, .int .i64 x0, .int .i64 sv, .int .i64 0]) :: (.slice (some ⟨D.heap.size, 0, none⟩) 1 1) :: (.slice (some ⟨g, 0, none⟩) (K + 1) cap) :: t57 :: t58 :: t59 :: t60 :: t61 :: t62 :: t63 :: t64 :: t65 :: t66 :: t67 :: t68 :: t69 :: t70 :: t71 :: t72 :: t73 :: t74 :: t75 :: t76 :: t77 :: t78 :: t79 :: t80 :: t81 :: t82 :: t83 :: t84 :: t85 :: t86 :: t87 :: t88 :: t89 :: t90 :: t91 :: t92 :: t93 :: t94 :: t95 :: t96 :: t97 :: t98 :: t99 :: t100 :: t101 :: t102 :: t103 :: t104 :: t105 :: t106 :: [])), []⟩ (D2.setCell ⟨BA, 0, none⟩ (.slice (some ⟨g, 0, none⟩) (K + 1) cap))) :
    c.wpIn (Fence.wide.inRound j) nn Tryz.prog Q ⟨(List.toArray (t0 :: t1 :: t2 :: t3 :: t4 :: t5 :: t6 :: t7 :: (.pointer (some ⟨BA, 0, none⟩)) :: t9 :: t10 :: (.pointer (some ⟨Br, 0, none⟩)) :: t12 :: t13 :: t14 :: t15 :: t16 :: t17 :: t18 :: t19 :: t20 :: t21 :: t22 :: t23 :: t24 :: t25 :: t26 :: t27 :: t28 :: t29 :: t30 :: t31 :: t32 :: t33 :: t34 :: t35 :: t36 :: t37 :: t38 :: t39 :: t40 :: t41 :: t42 :: t43 :: t44 :: t45 :: t46 :: t47 :: t48 :: t49 :: t50 :: t51 :: t52 :: t53 :: t54 :: t55 :: t56 :: t57 :: t58 :: t59 :: t60 :: t61 :: t62 :: t63 :: t64 :: t65 :: t66 :: t67 :: t68 :: t69 :: t70 :: t71 :: t72 :: t73 :: t74 :: t75 :: t76 :: t77 :: t78 :: t79 :: t80 :: t81 :: t82 :: t83 :: t84 :: t85 :: t86 :: t87 :: t88 :: t89 :: t90 :: t91 :: t92 :: t93 :: t94 :: t95 :: t96 :: t97 :: t98 :: t99 :: t100 :: t101 :: t102 :: t103 :: t104 :: t105 :: t106 :: [])), []⟩ X := by
  simp [regionAt, splitBody, rangeBody, Tryz.f39] at hc
  subst hc
  have HSD := Lib.hid hsd
  have HD1 := Lib.hid hD1
  have HE := Lib.hid hend
  clear hsd hD1 hend
  have hHeld : D.cell? ⟨Br, 1, none⟩ = some (.int .i64 x0) ∧ D.cell? ⟨Br, 2, none⟩ = some (.int .i64 a0) := ⟨e1, e2⟩
  refine region_by (S := fun w' => w'.cell? ⟨Br, 1, none⟩ = some (.int .i64 x0) ∧ w'.cell? ⟨Br, 2, none⟩ = some (.int .i64 a0)) (k := 12) (by kernel_rfl) (by kernel_rfl) rfl (listed := #[false, false, false, false, false, false, false, false, false, false, false, false]) rfl ?_
  rw [hD]
  refine takeH (i := 1) (d := 47) (v := .pointer (some ⟨Br, 1, none⟩)) (listed' := #[false, true, false, false, false, false, false, false, false, false, false, false]) rfl (by kernel_rfl) (by kernel_rfl) (by kernel_rfl) rfl rfl hHeld (by intro w hSw; (try dsimp only at hSw); go_simp) rfl (by simp only [List.setIfInBounds_toArray, List.set_cons_zero, List.set_cons_succ]; try rfl) ?_
  refine takeH (i := 3) (d := 49) (v := .pointer (some ⟨Br, 1, none⟩)) (listed' := #[false, true, false, true, false, false, false, false, false, false, false, false]) rfl (by kernel_rfl) (by kernel_rfl) (by kernel_rfl) rfl rfl hHeld (by intro w hSw; (try dsimp only at hSw); go_simp) rfl (by simp only [List.setIfInBounds_toArray, List.set_cons_zero, List.set_cons_succ]; try rfl) ?_
  refine takeH (i := 5) (d := 51) (v := .pointer (some ⟨Br, 2, none⟩)) (listed' := #[false, true, false, true, false, true, false, false, false, false, false, false]) rfl (by kernel_rfl) (by kernel_rfl) (by kernel_rfl) rfl rfl hHeld (by intro w hSw; (try dsimp only at hSw); go_simp) rfl (by simp only [List.setIfInBounds_toArray, List.set_cons_zero, List.set_cons_succ]; try rfl) ?_
  refine takeH (i := 2) (d := 48) (v := .int .i64 x0) (listed' := #[false, true, true, true, false, true, false, false, false, false, false, false]) rfl (by kernel_rfl) (by kernel_rfl) (by kernel_rfl) rfl rfl hHeld (by intro w hSw; (try dsimp only at hSw); go_simp) rfl (by simp only [List.setIfInBounds_toArray, List.set_cons_zero, List.set_cons_succ]; try rfl) ?_
  refine takeH (i := 4) (d := 50) (v := .int .i64 x0) (listed' := #[false, true, true, true, true, true, false, false, false, false, false, false]) rfl (by kernel_rfl) (by kernel_rfl) (by kernel_rfl) rfl rfl hHeld (by intro w hSw; (try dsimp only at hSw); go_simp) rfl (by simp only [List.setIfInBounds_toArray, List.set_cons_zero, List.set_cons_succ]; try rfl) ?_
  refine takeH (i := 6) (d := 52) (v := .int .i64 a0) (listed' := #[false, true, true, true, true, true, true, false, false, false, false, false]) rfl (by kernel_rfl) (by kernel_rfl) (by kernel_rfl) rfl rfl hHeld (by intro w hSw; (try dsimp only at hSw); go_simp) rfl (by simp only [List.setIfInBounds_toArray, List.set_cons_zero, List.set_cons_succ]; try rfl) ?_
  refine twoH (i := 0) (k := 7) (by kernel_rfl) ?_ ?_
  · refine runH (i := 0) (d := 46) (v := .slice A4 K c4) (w' := D) (listed' := #[true, true, true, true, true, true, true, false, false, false, false, false]) rfl rfl rfl (by go_simp) ⟨e1, e2⟩ rfl (by simp only [List.setIfInBounds_toArray, List.set_cons_zero, List.set_cons_succ]; try rfl) ?_
    refine oneH (i := 7) (by kernel_rfl) ?_
    refine callH (i := 7) (d := 53) (f := 72) (args := #[.int .i64 x0, .int .i64 a0]) (v := .int .i64 sv) (listed' := #[true, true, true, true, true, true, true, true, false, false, false, false]) rfl rfl rfl (by go_simp) (HSD.out D) ⟨e1, e2⟩ rfl (by simp only [List.setIfInBounds_toArray, List.set_cons_zero, List.set_cons_succ]; try rfl) ?_
    refine takeH (i := 8) (d := 54) (v := .agg #[.slice none 0 0, .int .i64 x0, .int .i64 sv, .int .i64 0]) (listed' := #[true, true, true, true, true, true, true, true, true, false, false, false]) rfl (by kernel_rfl) (by kernel_rfl) (by kernel_rfl) rfl rfl hHeld (by intro w hSw; (try dsimp only at hSw); go_simp) rfl (by simp only [List.setIfInBounds_toArray, List.set_cons_zero, List.set_cons_succ]; try rfl) ?_
    refine oneH (i := 9) (by kernel_rfl) ?_
    refine runH (i := 9) (d := 55) (v := .slice (some ⟨D.heap.size, 0, none⟩) 1 1) (w' := D1) (listed' := #[true, true, true, true, true, true, true, true, true, true, false, false]) rfl rfl rfl (by rw [← HD1.out]; go_simp) j1 rfl (by simp only [List.setIfInBounds_toArray, List.set_cons_zero, List.set_cons_succ]; try rfl) ?_
    refine oneH (i := 10) (by kernel_rfl) ?_
    refine runH (i := 10) (d := 56) (v := .slice (some ⟨g, 0, none⟩) (K + 1) cap) (w' := D2) (listed' := #[true, true, true, true, true, true, true, true, true, true, true, false]) rfl rfl rfl (by exact exec_append rfl rfl rfl hrun) j2 rfl (by simp only [List.setIfInBounds_toArray, List.set_cons_zero, List.set_cons_succ]; try rfl) ?_
    refine oneH (i := 11) (by kernel_rfl) ?_
    refine skipH (i := 11) (v := .skip) (w' := (D2.setCell ⟨BA, 0, none⟩ (.slice (some ⟨g, 0, none⟩) (K + 1) cap))) (listed' := #[true, true, true, true, true, true, true, true, true, true, true, true]) rfl rfl rfl (by go_simp) (.inl rfl) j3 rfl ?_
    exact wpAnyH_done (Q := AtEnd Q) (by kernel_rfl) HE.out _
  · refine callH (i := 7) (d := 53) (f := 72) (args := #[.int .i64 x0, .int .i64 a0]) (v := .int .i64 sv) (listed' := #[false, true, true, true, true, true, true, true, false, false, false, false]) rfl rfl rfl (by go_simp) (HSD.out D) ⟨e1, e2⟩ rfl (by simp only [List.setIfInBounds_toArray, List.set_cons_zero, List.set_cons_succ]; try rfl) ?_
    refine takeH (i := 8) (d := 54) (v := .agg #[.slice none 0 0, .int .i64 x0, .int .i64 sv, .int .i64 0]) (listed' := #[false, true, true, true, true, true, true, true, true, false, false, false]) rfl (by kernel_rfl) (by kernel_rfl) (by kernel_rfl) rfl rfl hHeld (by intro w hSw; (try dsimp only at hSw); go_simp) rfl (by simp only [List.setIfInBounds_toArray, List.set_cons_zero, List.set_cons_succ]; try rfl) ?_
    refine twoH (i := 0) (k := 9) (by kernel_rfl) ?_ ?_
    · refine runH (i := 0) (d := 46) (v := .slice A4 K c4) (w' := D) (listed' := #[true, true, true, true, true, true, true, true, true, false, false, false]) rfl rfl rfl (by go_simp) ⟨e1, e2⟩ rfl (by simp only [List.setIfInBounds_toArray, List.set_cons_zero, List.set_cons_succ]; try rfl) ?_
      refine oneH (i := 9) (by kernel_rfl) ?_
      refine runH (i := 9) (d := 55) (v := .slice (some ⟨D.heap.size, 0, none⟩) 1 1) (w' := D1) (listed' := #[true, true, true, true, true, true, true, true, true, true, false, false]) rfl rfl rfl (by rw [← HD1.out]; go_simp) j1 rfl (by simp only [List.setIfInBounds_toArray, List.set_cons_zero, List.set_cons_succ]; try rfl) ?_
      refine oneH (i := 10) (by kernel_rfl) ?_
      refine runH (i := 10) (d := 56) (v := .slice (some ⟨g, 0, none⟩) (K + 1) cap) (w' := D2) (listed' := #[true, true, true, true, true, true, true, true, true, true, true, false]) rfl rfl rfl (by exact exec_append rfl rfl rfl hrun) j2 rfl (by simp only [List.setIfInBounds_toArray, List.set_cons_zero, List.set_cons_succ]; try rfl) ?_
      refine oneH (i := 11) (by kernel_rfl) ?_
      refine skipH (i := 11) (v := .skip) (w' := (D2.setCell ⟨BA, 0, none⟩ (.slice (some ⟨g, 0, none⟩) (K + 1) cap))) (listed' := #[true, true, true, true, true, true, true, true, true, true, true, true]) rfl rfl rfl (by go_simp) (.inl rfl) j3 rfl ?_
      exact wpAnyH_done (Q := AtEnd Q) (by kernel_rfl) HE.out _
    · refine runH (i := 9) (d := 55) (v := .slice (some ⟨D.heap.size, 0, none⟩) 1 1) (w' := D1) (listed' := #[false, true, true, true, true, true, true, true, true, true, false, false]) rfl rfl rfl (by rw [← HD1.out]; go_simp) j1 rfl (by simp only [List.setIfInBounds_toArray, List.set_cons_zero, List.set_cons_succ]; try rfl) ?_
      refine oneH (i := 0) (by kernel_rfl) ?_
      refine runH (i := 0) (d := 46) (v := .slice A4 K c4) (w' := D1) (listed' := #[true, true, true, true, true, true, true, true, true, true, false, false]) rfl rfl rfl (by go_simp) j1 rfl (by simp only [List.setIfInBounds_toArray, List.set_cons_zero, List.set_cons_succ]; try rfl) ?_
      refine oneH (i := 10) (by kernel_rfl) ?_
      refine runH (i := 10) (d := 56) (v := .slice (some ⟨g, 0, none⟩) (K + 1) cap) (w' := D2) (listed' := #[true, true, true, true, true, true, true, true, true, true, true, false]) rfl rfl rfl (by exact exec_append rfl rfl rfl hrun) j2 rfl (by simp only [List.setIfInBounds_toArray, List.set_cons_zero, List.set_cons_succ]; try rfl) ?_
      refine oneH (i := 11) (by kernel_rfl) ?_
      refine skipH (i := 11) (v := .skip) (w' := (D2.setCell ⟨BA, 0, none⟩ (.slice (some ⟨g, 0, none⟩) (K + 1) cap))) (listed' := #[true, true, true, true, true, true, true, true, true, true, true, true]) rfl rfl rfl (by go_simp) (.inl rfl) j3 rfl ?_
      exact wpAnyH_done (Q := AtEnd Q) (by kernel_rfl) HE.out _
end Go.Proofs.YtjlfgojblimobaaGreat
end
