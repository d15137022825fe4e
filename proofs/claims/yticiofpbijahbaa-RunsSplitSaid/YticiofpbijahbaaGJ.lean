/- Bounds: of runs' levels and places, and of how many there are. No program is read here. -/
/- What package runs' Split holds in memory between two runs, and the steps that turn it. No function of the program is walked here. -/
import Derived.Test.YticiofpbijahbaaGD
import Derived.Test.YticiofpbijahbaaGI
section
namespace Go.Proofs.Yticiofpbijahbaa.M

theorem near_in (d : Int) : ∀ L : List Int, near d L = d ∨ (near d L ∈ L ∧ near d L ≠ -1) := by
  intro L
  induction L with
  | nil => exact .inl rfl
  | cons x r ih =>
    unfold near
    split
    · rcases ih with h | h
      · exact .inl h
      · exact .inr ⟨List.mem_cons_of_mem _ h.1, h.2⟩
    · rename_i h; exact .inr ⟨List.mem_cons_self, h⟩
section
variable {l lv : List Int} {b : Int}
theorem Fits.lev (hf : Fits l lv b) {x : Int} (hx : x ∈ lv) : -1 ≤ x ∧ x ≤ 125 := by
  obtain ⟨i, hi⟩ := List.getElem?_of_mem hx
  have hlt := (List.getElem?_eq_some_iff.1 hi).1
  obtain ⟨c, hc⟩ : ∃ c, l[i]? = some c := ⟨_, List.getElem?_eq_getElem (by rw [hf.len]; exact hlt)⟩
  have := hf.at_ i c x hc hi
  omega
theorem Fits.b01 (hf : Fits l lv b) : 0 ≤ b ∧ b ≤ 125 := by have := hf.base; omega
theorem Fits.near (hf : Fits l lv b) {L : List Int} (hL : ∀ x ∈ L, x ∈ lv) : 0 ≤ near b L ∧ near b L ≤ 125 := by
  rcases near_in b L with h | ⟨h1, h2⟩
  · rw [h]; exact hf.b01
  · have := hf.lev (hL _ h1); omega
theorem Fits.run (hf : Fits l lv b) {r : Rn} (hr : r ∈ runs lv b) : (0 ≤ r.lv ∧ r.lv ≤ 125) ∧ (0 ≤ r.ah ∧ r.ah ≤ 125) ∧ (0 ≤ r.be ∧ r.be ≤ 125) ∧ (0 ≤ bh l b r ∧ bh l b r ≤ 125) := by
  have h := runs_ok r hr
  have h1 : 0 ≤ r.lv ∧ r.lv ≤ 125 := by
    obtain ⟨j, _, hj⟩ := h.at_ _ h.fs_in
    have := hf.lev (List.mem_of_getElem? hj)
    have := h.no
    omega
  have h2 : 0 ≤ r.ah ∧ r.ah ≤ 125 := by rw [h.ah]; exact hf.near fun x hx => List.mem_of_mem_take (List.mem_reverse.1 hx)
  have h3 : 0 ≤ r.be ∧ r.be ≤ 125 := by rw [h.be]; exact hf.near fun x hx => List.mem_of_mem_drop hx
  refine ⟨h1, h2, h3, ?_⟩
  unfold bh
  split
  · exact hf.b01
  · exact h3
/-- A run's first and last place. -/
theorem run_ends {r : Rn} (hr : r ∈ runs lv b) : ∃ f q : Nat, r.fs = f ∧ r.ls = q ∧ f < lv.length ∧ q < lv.length ∧ r.pl[0]? = some (f : Int) ∧ r.pl[r.pl.length - 1]? = some (q : Int) ∧ 0 < r.pl.length ∧ lv[f]? = some r.lv ∧ lv[q]? = some r.lv := by
  have h := runs_ok r hr
  obtain ⟨f, hf, hf2⟩ := h.at_ _ h.fs_in
  obtain ⟨q, hq, hq2⟩ := h.at_ _ h.ls_in
  refine ⟨f, q, hf, hq, (List.getElem?_eq_some_iff.1 hf2).1, (List.getElem?_eq_some_iff.1 hq2).1, ?_, ?_, List.length_pos_iff.2 h.ne, hf2, hq2⟩
  · rw [← hf]
    unfold Rn.fs
    have := h.ne
    cases hp : r.pl with
    | nil => exact absurd hp this
    | cons x y => rfl
  · rw [← hq]
    unfold Rn.ls
    rw [List.getLastD_eq_getLast?, List.getLast?_eq_getElem?]
    have := List.length_pos_iff.2 h.ne
    rw [List.getElem?_eq_getElem (by omega)]
    rfl
end
theorem flat_le {α β : Type} (g : α → List β) : ∀ {L L' : List α}, L.Sublist L' → (L.flatMap g).length ≤ (L'.flatMap g).length := by
  intro L L' h
  induction h with
  | slnil => exact Nat.le_refl _
  | cons x _ ih => rw [List.flatMap_cons, List.length_append]; omega
  | cons_cons x _ ih => rw [List.flatMap_cons, List.flatMap_cons, List.length_append, List.length_append]; omega
theorem idxs_len : ∀ (r : List Int) (k : Nat), (idxs k r).length ≤ r.length := by
  intro r
  induction r with
  | nil => intro k; exact Nat.le_refl _
  | cons x r ih =>
    intro k
    unfold idxs
    split
    · have := ih (k + 1); simp; omega
    · have := ih (k + 1); simp; omega
theorem range_flat (rs : List Rn) : ∀ t, t ≤ rs.length → (List.range t).flatMap (fun j => (rn rs j).pl) = (rs.take t).flatMap (·.pl) := by
  intro t
  induction t with
  | zero => intro _; rfl
  | succ t ih =>
    intro h
    rw [List.range_succ, List.flatMap_append, ih (by omega), List.take_succ_eq_append_getElem (by omega), List.flatMap_append]
    simp [rn_at (List.getElem?_eq_getElem (show t < rs.length by omega))]
theorem flat_all (lv : List Int) (b : Int) : ((runs lv b).flatMap (·.pl)).length ≤ lv.length := by rw [runs_all]; exact idxs_len _ _
theorem rpl_len {lv : List Int} {b : Int} {r : Rn} (hr : r ∈ runs lv b) : r.pl.length ≤ lv.length := by
  refine Nat.le_trans ?_ (flat_all lv b)
  have := flat_le (fun r : Rn => r.pl) (List.singleton_sublist.2 hr)
  simpa using this
theorem sq_len {l lv : List Int} {b : Int} {t k : Nat} {s : Sq} (ht : t ≤ (runs lv b).length) (hs : (sqs l b (runs lv b) t)[k]? = some s) : s.pl.length ≤ lv.length := by
  unfold sqs at hs
  rw [List.getElem?_map, Option.map_eq_some_iff] at hs
  obtain ⟨i, _, rfl⟩ := hs
  refine Nat.le_trans ?_ (flat_all lv b)
  refine Nat.le_trans (flat_le _ (show (mem _ _ t i).Sublist (List.range t) from List.filter_sublist)) ?_
  rw [range_flat _ t ht]
  exact flat_le _ (List.take_sublist _ _)
theorem sq_lv {l lv : List Int} {b : Int} {t k : Nat} {s : Sq} (ht : t ≤ (runs lv b).length) (hs : (sqs l b (runs lv b) t)[k]? = some s) : ∃ r ∈ runs lv b, s.lv = r.lv := by
  unfold sqs at hs
  rw [List.getElem?_map, Option.map_eq_some_iff] at hs
  obtain ⟨i, hi, rfl⟩ := hs
  have := (heads_lt (List.mem_of_getElem? hi)).1
  exact ⟨_, rn_mem (by omega), rfl⟩
theorem runs_len (lv : List Int) (b : Int) : (runs lv b).length ≤ lv.length := by
  refine Nat.le_trans ?_ (flat_all lv b)
  have key : ∀ L : List Rn, (∀ r ∈ L, r.pl ≠ []) → L.length ≤ (L.flatMap (·.pl)).length := by
    intro L
    induction L with
    | nil => intro _; exact Nat.le_refl _
    | cons x L ih =>
      intro h
      have h1 := ih fun r hr => h r (List.mem_cons_of_mem _ hr)
      have h2 := List.length_pos_iff.2 (h x List.mem_cons_self)
      rw [List.flatMap_cons, List.length_append, List.length_cons]
      omega
  exact key _ fun r hr => (runs_ok r hr).ne
theorem sqs_len (l : List Int) (b : Int) (rs : List Rn) (t : Nat) : (sqs l b rs t).length ≤ t := by
  unfold sqs heads
  rw [List.length_map]
  have := List.length_filter_le (fun i => (pv (goes l rs) (from_ rs) i).isNone) (List.range t)
  simpa using this
end Go.Proofs.Yticiofpbijahbaa.M
end

section
namespace Go.Proofs.Yticiofpbijahbaa
open Go.RowKit
set_option maxRecDepth 100000

/-- Nothing has turned but the box of all, the map, and rows of places and of sequences. -/
structure Kept (n0 BA mb : Nat) (W W' : World) : Prop where
  os : W'.os = W.os
  tape : W'.tape = W.tape
  output : W'.output = W.output
  size : W.heap.size ≤ W'.heap.size
  lo : ∀ k, k < n0 → k ≠ BA → k ≠ mb → W'.heap[k]? = W.heap[k]?
  hi : ∀ (k : Nat) (o : Obj), n0 ≤ k → W.heap[k]? = some o → (∀ cs m, o ≠ .cells cs 3 m) → (∀ cs m, o ≠ .cells cs 46 m) → W'.heap[k]? = some o
section
variable {n0 BA mb : Nat} {W W' X Y Z W1 : World}
theorem Kept.trans (h : Kept n0 BA mb X Y) (k : Kept n0 BA mb Y Z) : Kept n0 BA mb X Z :=
  ⟨k.os.trans h.os, k.tape.trans h.tape, k.output.trans h.output, Nat.le_trans h.size k.size, fun i a b c => (k.lo i a b c).trans (h.lo i a b c), fun i o a hi p q => k.hi i o a (h.hi i o a hi p q) p q⟩
theorem Kept.of_below (h : Below W.heap.size W W') (hn : n0 ≤ W.heap.size) : Kept n0 BA mb W W' :=
  ⟨h.os, h.tape, h.output, h.size, fun k hk _ _ => h.block k (by omega), fun k o _ hk _ _ => (h.block k (Array.getElem?_eq_some_iff.1 hk).1).trans hk⟩
theorem Kept.refl (hn : n0 ≤ W.heap.size) : Kept n0 BA mb W W := .of_below (Below.refl _ _) hn
theorem Kept.below (h : Kept n0 BA mb W W') {B : Nat} (h1 : B ≤ n0) (h2 : B ≤ BA) (h3 : B ≤ mb) : Below B W W' :=
  ⟨h.os, h.tape, h.output, h.size, fun k hk => h.lo k (by omega) (by omega) (by omega)⟩
/-- A row of places, or of sequences, grows. -/
theorem Kept.row {base n s : Nat} {t : TypeId} {v : Value} {xs : List Value} (hn : n0 ≤ W.heap.size) (ho : W.ownsRow base t s v n xs) (hb : n0 ≤ base) (ht : t = 3 ∨ t = 46) (hg : W.grownBy W1 v.ownBlock) : Kept n0 BA mb W W1 := by
  refine ⟨hg.os, hg.tape, hg.output, hg.size, fun k hk _ _ => hg.block k (by omega) fun e => (by have := (World.ownsRow.lt ho k e.symm).1; omega), fun k o hk ho' h1 h2 => ?_⟩
  refine (hg.block k (Array.getElem?_eq_some_iff.1 ho').1 fun e => ?_).trans ho'
  rcases ho.2 with ⟨rfl, _⟩ | ⟨g, cap, cur, rfl, hbg, hgg, _⟩
  · simp [Value.ownBlock] at e
  · have e2 : k = g := by simpa [Value.ownBlock] using e
    rw [e2, hgg] at ho'
    injection ho' with ho'
    rcases ht with rfl | rfl
    · exact h1 _ _ ho'.symm
    · exact h2 _ _ ho'.symm
theorem Kept.box (hB : BA < n0) (v : Value) : Kept n0 BA mb W (W.setCell ⟨BA, 0, none⟩ v) :=
  ⟨rfl, rfl, rfl, by simp [World.setCell], fun k _ h1 _ => Below.heap_setCell _ _ _ k h1, fun k o hk ho _ _ => (Below.heap_setCell _ _ _ k (show k ≠ BA by omega)).trans ho⟩
theorem Kept.cell {G i : Nat} {cs : Array Value} {m : Nat × Nat} (hG : W.heap[G]? = some (.cells cs 46 m)) (hn : n0 ≤ G) (v : Value) : Kept n0 BA mb W (W.setCell ⟨G, i, none⟩ v) :=
  ⟨rfl, rfl, rfl, by simp [World.setCell], fun k hk _ _ => Below.heap_setCell _ _ _ k (show k ≠ G by omega), fun k o _ ho _ h2 => by
    have hne : k ≠ G := fun e => by
      rw [e, hG] at ho
      injection ho with ho
      exact h2 _ _ ho.symm
    rw [Below.heap_setCell _ _ _ k hne]
    exact ho⟩
theorem Kept.map (hn : n0 ≤ W.heap.size) (hm : mb < n0) (hg : W.grownBy W1 (some mb)) : Kept n0 BA mb W W1 :=
  ⟨hg.os, hg.tape, hg.output, hg.size, fun k hk _ h2 => hg.block k (by omega) (fun e => h2 (by injection e)), fun k o hk ho _ _ => (hg.block k (Array.getElem?_eq_some_iff.1 ho).1 (fun e => by injection e with e; omega)).trans ho⟩
theorem Kept.keepsR (h : Kept n0 BA mb W W') {n₀ Bs Bb : Nat} (h1 : n₀ ≤ BA) (h2 : BA < mb) (h3 : mb < n0) (hs : mb < Bs) (hs2 : Bs < n0) (hb : mb < Bb) (hb2 : Bb < n0) {va : Value} (hA : Boxed W BA 25 va) (hM : ∃ es c, W.heap[mb]? = some (.map es c)) : KeepsR n₀ Bs Bb W W' := by
  refine ⟨h.below (by omega) h1 (by omega), fun o ho => (h.lo Bs hs2 (by omega) (by omega)).trans ho, fun o ho => (h.lo Bb hb2 (by omega) (by omega)).trans ho, fun k cs m hk => ?_⟩
  rcases Nat.lt_or_ge k n0 with hlt | hge
  · refine (h.lo k hlt (fun e => ?_) (fun e => ?_)).trans hk
    · rw [e, show W.heap[BA]? = _ from hA] at hk
      injection hk with hk
      injection hk with _ hk _
      revert hk
      decide
    · obtain ⟨es, c, hM⟩ := hM
      rw [e, hM] at hk
      injection hk with hk
      cases hk
  · exact h.hi k _ hge hk (fun cs' m' e => by injection e with _ e _; revert e; decide) (fun cs' m' e => by injection e with _ e _; revert e; decide)
theorem Kept.from_ (h : Kept n0 BA mb W W') : KeepsFrom n0 W W' := ⟨h.size, fun k o hk ho hc => h.hi k o hk ho (fun cs m e => by rw [e] at hc; cases hc) (fun cs m e => by rw [e] at hc; cases hc)⟩
theorem Kept.run (h : Kept n0 BA mb W W') {B : Nat} {cs : Array Value} (hr : RunAt W B cs) (hB : n0 ≤ B) : RunAt W' B cs :=
  h.hi B _ hB hr (fun cs' m' e => by injection e with _ e _; revert e; decide) (fun cs' m' e => by injection e with _ e _; revert e; decide)
end
/-- Rows of whole numbers are as they were. -/
def IntKept (n0 : Nat) (W W' : World) : Prop := ∀ (g : Nat) cs, n0 ≤ g → W.heap[g]? = some (.cells cs 3 (0, 0)) → W'.heap[g]? = some (.cells cs 3 (0, 0))
theorem IntKept.own {n0 base n : Nat} {W W' : World} {v : Value} {xs : List Value} (h : IntKept n0 W W') (ho : W.ownsRow base 3 1 v n xs) (hb : n0 ≤ base) : W'.ownsRow base 3 1 v n xs := by
  refine ⟨ho.1, ?_⟩
  rcases ho.2 with h0 | ⟨g, cap, cur, hv, hbg, hg, rest⟩
  · exact .inl h0
  · exact .inr ⟨g, cap, cur, hv, hbg, h g _ (by omega) hg, rest⟩
theorem MapI.obj {w : World} {mb t : Nat} {f : Int → Option Nat} (h : MapI w mb t f) : ∃ es c, w.heap[mb]? = some (.map es c) := by
  obtain ⟨n, D, ⟨es, clock, h1, _⟩, _⟩ := h
  exact ⟨es, clock, h1⟩

/-- What does not turn. -/
structure SpFix (BL BB BA BE BM mb n0 : Nat) (A : Option Addr) (ca n : Nat) (AE : Option Addr) (cE : Nat) (l : List Int) (b : Int) (w W : World) : Prop where
  boxL : Boxed W BL 22 (.slice A n ca)
  boxB : Boxed W BB 3 (.int .i64 b)
  boxE : Boxed W BE 23 (.slice AE n cE)
  boxM : Boxed W BM 50 (.map (some mb))
  ends : W.ownsRow (BA + 1) 3 1 (.slice AE n cE) n ((M.matchI l).map (Value.int .i64))
  endsB : ∀ g, (Value.slice AE n cE).ownBlock = some g → g < mb
  below : Below w.heap.size w W
  size : n0 ≤ W.heap.size
/-- How the blocks stand. -/
structure SpLie (BL BB BA BE BM mb n0 : Nat) (w : World) : Prop where
  l : BL < n0 ∧ BL ≠ BA ∧ BL ≠ mb
  b : BB < n0 ∧ BB ≠ BA ∧ BB ≠ mb
  e : BE < n0 ∧ BE ≠ BA ∧ BE ≠ mb
  m : BM < n0 ∧ BM ≠ BA ∧ BM ≠ mb
  am : BA < mb
  mn : mb < n0
  wa : w.heap.size ≤ BA
section
variable {BL BB BA BE BM mb n0 : Nat} {A : Option Addr} {ca n : Nat} {AE : Option Addr} {cE : Nat} {l : List Int} {b : Int} {w W W' W1 : World}
theorem SpFix.kept (hl : SpLie BL BB BA BE BM mb n0 w) (h : SpFix BL BB BA BE BM mb n0 A ca n AE cE l b w W) (k : Kept n0 BA mb W W') : SpFix BL BB BA BE BM mb n0 A ca n AE cE l b w W' := by
  have h1 := hl.wa
  have h2 := hl.am
  have h3 := hl.mn
  refine ⟨(k.lo _ hl.l.1 hl.l.2.1 hl.l.2.2).trans h.boxL, (k.lo _ hl.b.1 hl.b.2.1 hl.b.2.2).trans h.boxB, (k.lo _ hl.e.1 hl.e.2.1 hl.e.2.2).trans h.boxE, (k.lo _ hl.m.1 hl.m.2.1 hl.m.2.2).trans h.boxM, ⟨h.ends.1, ?_⟩, h.endsB, h.below.trans (k.below (by omega) h1 (by omega)), Nat.le_trans h.size k.size⟩
  rcases h.ends.2 with h0 | ⟨g, cap, cur, hv, hb, hg, rest⟩
  · exact .inl h0
  · have hgm := h.endsB g (by rw [hv]; rfl)
    exact .inr ⟨g, cap, cur, hv, hb, by rw [k.lo g (by omega) (by omega) (by omega)]; exact hg, rest⟩
/-- Where an isolate ends, in memory. -/
theorem SpFix.end_ (h : SpFix BL BB BA BE BM mb n0 A ca n AE cE l b w W) {k : Nat} (hk : k < l.length) : ∃ ad, AE = some ad ∧ W.cell? (ad.add k) = some (.int .i64 (M.endI l k)) := by
  have hm : (M.matchI l)[k]? = some (M.endI l k) := by unfold M.matchI M.matchTo; simp [hk]
  rcases h.ends.2 with ⟨hv, h0⟩ | ⟨g, cap, cur, hv, hb, hg, rest⟩
  · have := h.ends.1
    rw [List.length_map, h0] at this
    have h3 := (List.getElem?_eq_some_iff.1 hm).1
    omega
  · injection hv with e1 _ e2
    exact ⟨⟨g, 0, none⟩, e1, World.ownsRow.cells h.ends (by rw [e1]; rfl) k _ (by rw [List.getElem?_map, hm]; rfl)⟩

/-- All sequences, in memory. -/
structure SpSq (n0 BA : Nat) (W : World) (ss : List M.Sq) (vs : List Sv) (va : Value) : Prop where
  box : Boxed W BA 25 va
  row : W.ownsRow n0 46 4 va ss.length (sqCells vs ss)
  rws : Rws W n0 vs (ss.map (·.pl))
variable {ss : List M.Sq} {vs : List Sv} {va : Value}
theorem SpSq.len (h : SpSq n0 BA W ss vs va) : vs.length = ss.length := by have := h.rws.len; simpa using this
theorem SpSq.later (h : SpSq n0 BA W ss vs va) (hb : Below W.heap.size W W') : SpSq n0 BA W' ss vs va := by
  refine ⟨(hb.block BA h.box.lt).trans h.box, ⟨h.row.1, ?_⟩, h.rws.below hb⟩
  rcases h.row.2 with h0 | ⟨g, cap, cur, hv, hbg, hg, rest⟩
  · exact .inl h0
  · exact .inr ⟨g, cap, cur, hv, hbg, by rw [hb.block g (lt_of_block hg)]; exact hg, rest⟩
theorem SpSq.still (h : SpSq n0 BA W ss vs va) (hs : Still (ours mineR) n0 W W') (hB : BA < n0) : SpSq n0 BA W' ss vs va :=
  ⟨(hs.below.block BA hB).trans h.box, own_still h.row hs (fun _ _ => by simp [ours, mineR, Obj.isCells]), h.rws.still hs (fun _ _ => by simp [ours, mineR, Obj.isCells])⟩
/-- The row of sequences is another block than the box. -/
theorem SpSq.row_box (h : SpSq n0 BA W ss vs va) (hB : BA < n0) : va.ownBlock ≠ some BA := fun e => by have := (World.ownsRow.lt h.row BA e).1; omega
/-- One more sequence. -/
theorem SpSq.pushed {va' : Value} {tmp : Obj} {lvl fi : Int} (h : SpSq n0 BA W ss vs va) (hB : BA < n0) (hn : n0 ≤ W.heap.size) (hg : (W.alloc tmp).grownBy W1 va.ownBlock)
    (ho : W1.ownsRow n0 46 4 va' (ss.length + 1) (sqCells vs ss ++ [.slice none 0 0, .int .i64 lvl, .int .i64 fi, .int .i64 0])) :
    Kept n0 BA mb W (W1.setCell ⟨BA, 0, none⟩ va') ∧ SpSq n0 BA (W1.setCell ⟨BA, 0, none⟩ va') (ss ++ [⟨[], lvl, fi, 0⟩]) (vs ++ [(none, 0)]) va' ∧ IntKept n0 W (W1.setCell ⟨BA, 0, none⟩ va') := by
  have hal : Below W.heap.size W (W.alloc tmp) := (Below.refl _ _).alloc (Nat.le_refl _) _
  have ha := h.later hal
  have hk1 : Kept n0 BA mb W W1 := (Kept.of_below hal hn).trans (Kept.row (by simp; omega) ha.row (Nat.le_refl _) (.inr rfl) hg)
  have hbox1 : Boxed W1 BA 25 va := ha.box.kept hg (fun e => ha.row_box hB e.symm)
  have hrw1 : Rws W1 n0 vs (ss.map (·.pl)) := ha.rws.growOther ha.row (by decide) hg
  refine ⟨hk1.trans (Kept.box hB va'), ⟨hbox1.set va', ?_, ?_⟩, fun g cs hn0 hgi => ?_⟩
  · have hne : va'.ownBlock ≠ some BA := fun e => by have := (World.ownsRow.lt ho BA e).1; omega
    have := ownsRow_setCell_other (a := ⟨BA, 0, none⟩) ho hne va'
    rw [List.length_append]
    rw [← sqCells_snoc (none, 0) ⟨[], lvl, fi, 0⟩ h.len]
    exact this
  · rw [List.map_append]
    exact (hrw1.setOther (show W1.heap[BA]? = _ from hbox1) (by decide) va').snoc
  · have h1 : (W.alloc tmp).heap[g]? = some (.cells cs 3 (0, 0)) := (hal.block g (Array.getElem?_eq_some_iff.1 hgi).1).trans hgi
    have hne : some g ≠ va.ownBlock := fun e => by
      rcases ha.row.2 with ⟨e0, _⟩ | ⟨g', _, _, e0, _, hg', _⟩
      · rw [e0] at e; cases e
      · rw [e0] at e
        obtain rfl : g = g' := by simpa [Value.ownBlock] using e
        rw [hg'] at h1
        injection h1 with h1
        injection h1 with _ h1 _
        revert h1
        decide
    rw [Below.heap_setCell _ _ _ g (show g ≠ BA by omega), hg.block g (Array.getElem?_eq_some_iff.1 h1).1 hne]
    exact h1
/-- A cell of a sequence in memory. -/
theorem SpSq.cells {k : Nat} {s : M.Sq} {v : Sv} (h : SpSq n0 BA W ss vs va) (hs : ss[k]? = some s) (hv : vs[k]? = some v) : ∃ G c, va = .slice (some ⟨G, 0, none⟩) ss.length c ∧ n0 ≤ G ∧ (∃ cs, W.heap[G]? = some (.cells cs 46 (0, 0))) ∧
    W.cell? ⟨G, k * 4, none⟩ = some (.slice v.1 s.pl.length v.2) ∧ W.cell? ⟨G, k * 4 + 1, none⟩ = some (.int .i64 s.lv) ∧ W.cell? ⟨G, k * 4 + 2, none⟩ = some (.int .i64 s.fi) ∧ W.cell? ⟨G, k * 4 + 3, none⟩ = some (.int .i64 s.la) ∧
    (∀ j, W.frozen? ⟨G, j, none⟩ = false) := by
  have hk := (List.getElem?_eq_some_iff.1 hs).1
  rcases h.row.2 with ⟨_, h0⟩ | ⟨g, cap, cur, hv', hbg, hg, hn, hm, _, _⟩
  · omega
  · obtain ⟨q0, q1, q2, q3⟩ := sqCells_at hv hs
    have hr := h.row
    rw [hv'] at hr
    exact ⟨g, cap, hv', hbg, ⟨cur, hg⟩, (World.ownsRow.cellAt (size := 4) hr _ (by omega)).trans q0, (World.ownsRow.cellAt (size := 4) hr _ (by omega)).trans q1, (World.ownsRow.cellAt (size := 4) hr _ (by omega)).trans q2, (World.ownsRow.cellAt (size := 4) hr _ (by omega)).trans q3, fun j => hr.frozenAt j⟩
/-- A sequence gets the places of a run. -/
theorem SpSq.placed {k G c g cap : Nat} {s : M.Sq} {v : Sv} {new : List Int} (h : SpSq n0 BA W ss vs va) (hB : BA < n0) (hn : n0 ≤ W.heap.size) (hs : ss[k]? = some s) (hv : vs[k]? = some v) (hva : va = .slice (some ⟨G, 0, none⟩) ss.length c)
    (hg : W.grownBy W1 (Value.slice v.1 s.pl.length v.2).ownBlock) (ho : W1.ownsRow n0 3 1 (.slice (some ⟨g, 0, none⟩) (s.pl.length + new.length) cap) (s.pl.length + new.length) (s.pl.map (Value.int .i64) ++ new.map (Value.int .i64)))
    (hat : (Value.slice v.1 s.pl.length v.2).ownBlock = some g ∨ g = W.heap.size) :
    Kept n0 BA mb W (W1.setCell ⟨G, k * 4, none⟩ (.slice (some ⟨g, 0, none⟩) (s.pl.length + new.length) cap)) ∧
      SpSq n0 BA (W1.setCell ⟨G, k * 4, none⟩ (.slice (some ⟨g, 0, none⟩) (s.pl.length + new.length) cap)) (ss.set k ⟨s.pl ++ new, s.lv, s.fi, s.la⟩) (vs.set k (some ⟨g, 0, none⟩, cap)) va := by
  have hpl : (ss.map (·.pl))[k]? = some s.pl := by rw [List.getElem?_map, hs]; rfl
  have hown := h.rws.own k v s.pl hv hpl
  have hk1 : Kept n0 BA mb W W1 := Kept.row hn hown (Nat.le_refl _) (.inl rfl) hg
  rw [own_blk] at hg hat
  have hrw1 := h.rws.grow hv hpl rfl hg (by rw [List.map_append]; exact ho) (by simp) (hat.imp_right (fun e => by omega))
  -- the row of sequences is another block than one of places
  obtain ⟨G', c', hva', hG', ⟨cs, hcs⟩, _⟩ := h.cells hs hv
  obtain rfl : G = G' := by rw [hva] at hva'; injection hva' with e; injection e with e; injection e
  have hGne : v.1.map (·.block) ≠ some G := fun e => by
    rcases hown.2 with ⟨hv0, _⟩ | ⟨g2, _, _, hv2, _, hg2, _⟩
    · injection hv0 with e1
      rw [e1] at e
      cases e
    · injection hv2 with e1
      rw [e1] at e
      have e3 : g2 = G := by simpa using e
      rw [e3, hcs] at hg2
      injection hg2 with hg2
      injection hg2 with _ hg2 _
      revert hg2
      decide
  have hG1 : W1.heap[G]? = some (.cells cs 46 (0, 0)) := (hg.block G (Array.getElem?_eq_some_iff.1 hcs).1 (fun e => hGne e.symm)).trans hcs
  have hbox1 : Boxed W1 BA 25 va := h.box.kept hg (fun e => by
    have := (World.ownsRow.lt hown BA (by rw [own_blk]; exact e.symm)).1
    omega)
  have hrow1 : W1.ownsRow n0 46 4 va ss.length (sqCells vs ss) := h.row.kept hg (.inr (by rw [hva]; exact fun e => hGne e.symm))
  refine ⟨hk1.trans (Kept.cell hG1 hG' _), ?_, ?_, ?_⟩
  · exact (Below.heap_setCell _ _ _ BA (show BA ≠ G by omega)).trans hbox1
  · rw [List.length_set]
    subst hva
    have := (World.ownsRow.stored hrow1 (k * 4) (.slice (some ⟨g, 0, none⟩) (s.pl.length + new.length) cap)).1
    rw [← sqCells_set0 hv hs (s' := ⟨s.pl ++ new, s.lv, s.fi, s.la⟩) (v' := (some ⟨g, 0, none⟩, cap)) rfl rfl rfl]
    simpa using this
  · rw [List.map_set]
    exact hrw1.setOther hG1 (by decide) _
/-- A sequence gets its last side. -/
theorem SpSq.lasted {k G c : Nat} {s : M.Sq} {v : Sv} (h : SpSq n0 BA W ss vs va) (hB : BA < n0) (hs : ss[k]? = some s) (hv : vs[k]? = some v) (hva : va = .slice (some ⟨G, 0, none⟩) ss.length c) (la : Int) :
    Kept n0 BA mb W (W.setCell ⟨G, k * 4 + 3, none⟩ (.int .i64 la)) ∧ SpSq n0 BA (W.setCell ⟨G, k * 4 + 3, none⟩ (.int .i64 la)) (ss.set k ⟨s.pl, s.lv, s.fi, la⟩) vs va := by
  obtain ⟨G', c', hva', hG', ⟨cs, hcs⟩, _⟩ := h.cells hs hv
  obtain rfl : G = G' := by rw [hva] at hva'; injection hva' with e; injection e with e; injection e
  refine ⟨Kept.cell hcs hG' _, (Below.heap_setCell _ _ _ BA (show BA ≠ G by omega)).trans h.box, ?_, ?_⟩
  · rw [List.length_set]
    have hr := h.row
    subst hva
    have := (World.ownsRow.stored hr (k * 4 + 3) (.int .i64 la)).1
    rw [← sqCells_set3 hv hs (s' := ⟨s.pl, s.lv, s.fi, la⟩) rfl rfl rfl]
    exact this
  · have : ((ss.set k ⟨s.pl, s.lv, s.fi, la⟩).map (·.pl)) = ss.map (·.pl) := by
      rw [List.map_set]
      refine List.ext_getElem? fun j => ?_
      by_cases hj : k = j
      · subst hj
        rw [List.getElem?_set_self (by simp; exact (List.getElem?_eq_some_iff.1 hs).1), List.getElem?_map, hs]
        rfl
      · rw [List.getElem?_set_ne hj]
    rw [this]
    exact h.rws.setOther hcs (by decide) _

/-- What holds within a round: r is the run that is gone through. -/
structure SpMid (BL BB BA BE BM mb n0 : Nat) (A : Option Addr) (ca n : Nat) (AE : Option Addr) (cE : Nat) (l : List Int) (b : Int) (w W0 : World) (Br g2 p c2 : Nat) (r : M.Rn) (ss : List M.Sq) (vs : List Sv) (va : Value) (f : Int → Option Nat) (t : Nat) (W : World) : Prop where
  fix : SpFix BL BB BA BE BM mb n0 A ca n AE cE l b w W
  sq : SpSq n0 BA W ss vs va
  map : MapI W mb t f
  run : RunAt W Br #[.slice (some ⟨g2, 0, none⟩) p c2, .int .i64 r.lv, .int .i64 r.ah, .int .i64 r.be]
  row : W.ownsRow n0 3 1 (.slice (some ⟨g2, 0, none⟩) p c2) p (r.pl.map (Value.int .i64))
  kept : Kept n0 BA mb W0 W
variable {W0 : World} {Br g2 p c2 t : Nat} {r : M.Rn} {f : Int → Option Nat}
theorem SpMid.later (hl : SpLie BL BB BA BE BM mb n0 w) (h : SpMid BL BB BA BE BM mb n0 A ca n AE cE l b w W0 Br g2 p c2 r ss vs va f t W) (hb : Below W.heap.size W W') : SpMid BL BB BA BE BM mb n0 A ca n AE cE l b w W0 Br g2 p c2 r ss vs va f t W' :=
  have k := Kept.of_below hb h.fix.size
  ⟨h.fix.kept hl k, h.sq.later hb, h.map.keep (hb.block mb h.map.lt), (hb.block Br h.run.lt).trans h.run, own_below h.row hb, h.kept.trans k⟩
theorem SpMid.push {va' : Value} {tmp : Obj} {lvl fi : Int} (hl : SpLie BL BB BA BE BM mb n0 w) (h : SpMid BL BB BA BE BM mb n0 A ca n AE cE l b w W0 Br g2 p c2 r ss vs va f t W) (hBr : n0 ≤ Br) (hg : (W.alloc tmp).grownBy W1 va.ownBlock)
    (ho : W1.ownsRow n0 46 4 va' (ss.length + 1) (sqCells vs ss ++ [.slice none 0 0, .int .i64 lvl, .int .i64 fi, .int .i64 0])) :
    SpMid BL BB BA BE BM mb n0 A ca n AE cE l b w W0 Br g2 p c2 r (ss ++ [⟨[], lvl, fi, 0⟩]) (vs ++ [(none, 0)]) va' f t (W1.setCell ⟨BA, 0, none⟩ va') := by
  have hB : BA < n0 := by have := hl.am; have := hl.mn; omega
  obtain ⟨k, s, i⟩ := h.sq.pushed (mb := mb) hB h.fix.size hg ho
  refine ⟨h.fix.kept hl k, s, h.map.keep ?_, k.run h.run hBr, i.own h.row (Nat.le_refl _), h.kept.trans k⟩
  have hlt := h.map.lt
  have hne : some mb ≠ va.ownBlock := fun e => by have := (World.ownsRow.lt h.sq.row mb e.symm).1; have := hl.mn; omega
  rw [Below.heap_setCell _ _ _ mb (show mb ≠ BA by have := hl.am; omega), hg.block mb (by simp; omega) hne, Below.heap_alloc _ _ _ hlt]
theorem SpMid.mapd {f' : Int → Option Nat} {t' : Nat} (hl : SpLie BL BB BA BE BM mb n0 w) (h : SpMid BL BB BA BE BM mb n0 A ca n AE cE l b w W0 Br g2 p c2 r ss vs va f t W) (hBr : n0 ≤ Br) (hg : W.grownBy W1 (some mb)) (hm : MapI W1 mb t' f') :
    SpMid BL BB BA BE BM mb n0 A ca n AE cE l b w W0 Br g2 p c2 r ss vs va f' t' W1 := by
  have hmn := hl.mn
  have k := Kept.map (BA := BA) h.fix.size hmn hg
  have i : ∀ (g : Nat) (o : Obj), n0 ≤ g → W.heap[g]? = some o → W1.heap[g]? = some o := fun g o hn hgg => (hg.block g (Array.getElem?_eq_some_iff.1 hgg).1 (fun e => by injection e with e; omega)).trans hgg
  refine ⟨h.fix.kept hl k, ⟨(hg.block BA h.sq.box.lt (fun e => by injection e with e; have := hl.am; omega)).trans h.sq.box, ?_, h.sq.rws.keep fun g cs hn hgg => i g _ hn hgg⟩, hm, k.run h.run hBr, IntKept.own (n0 := n0) (fun g cs hn hgg => i g _ hn hgg) h.row (Nat.le_refl _), h.kept.trans k⟩
  refine ⟨h.sq.row.1, ?_⟩
  rcases h.sq.row.2 with h0 | ⟨g, cap, cur, hv, hbg, hgg, rest⟩
  · exact .inl h0
  · exact .inr ⟨g, cap, cur, hv, hbg, i g _ hbg hgg, rest⟩
end

theorem Try.infoSeq : (Try.prog.info? 46).map (fun i => (i.zero, i.size, i.bytes)) = some (some (.agg #[.slice none 0 0, .int .i64 0, .int .i64 0, .int .i64 0]), 4, 48) := by kernel_rfl
theorem own_form {w : World} {base s n : Nat} {t : TypeId} {v : Value} {xs : List Value} (h : w.ownsRow base t s v n xs) : ∃ A c, v = .slice A n c ∧ (A = none → n = 0 ∧ c = 0) := by
  rcases h.2 with ⟨rfl, h0⟩ | ⟨g, cap, cur, rfl, _⟩
  · exact ⟨none, 0, by rw [h0], fun _ => ⟨h0, rfl⟩⟩
  · exact ⟨_, cap, rfl, fun h => by cases h⟩
/-- What holds ahead of each round, and behind the last. -/
def SpInv (BL BB BA BE BM mb n0 : Nat) (A : Option Addr) (ca n : Nat) (AE : Option Addr) (cE : Nat) (l : List Int) (b : Int) (lv : List Int) (w : World) (pre : List Yi) (W : World) : Prop :=
  ∃ vs va, SpFix BL BB BA BE BM mb n0 A ca n AE cE l b w W ∧ SpSq n0 BA W (M.sqs l b (M.runs lv b) pre.length) vs va ∧ MapI W mb pre.length (M.mp l (M.runs lv b) pre.length)
section
variable {BL BB BA BE BM mb n0 : Nat} {A : Option Addr} {ca n : Nat} {AE : Option Addr} {cE : Nat} {l : List Int} {b : Int} {lv : List Int} {w W W' : World} {pre : List Yi}
theorem SpFix.still (hl : SpLie BL BB BA BE BM mb n0 w) (h : SpFix BL BB BA BE BM mb n0 A ca n AE cE l b w W) (hs : Still (ours mineR) n0 W W') : SpFix BL BB BA BE BM mb n0 A ca n AE cE l b w W' := by
  have hb := hs.below.block
  have h1 := hl.wa
  have h2 := hl.am
  have h3 := hl.mn
  refine ⟨(hb _ hl.l.1).trans h.boxL, (hb _ hl.b.1).trans h.boxB, (hb _ hl.e.1).trans h.boxE, (hb _ hl.m.1).trans h.boxM, ⟨h.ends.1, ?_⟩, h.endsB, h.below.trans (hs.below.mono (by omega)), Nat.le_trans h.size hs.below.size⟩
  rcases h.ends.2 with h0 | ⟨g, cap, cur, hv, hbg, hg, rest⟩
  · exact .inl h0
  · have hgm := h.endsB g (by rw [hv]; rfl)
    exact .inr ⟨g, cap, cur, hv, hbg, by rw [hb g (by omega)]; exact hg, rest⟩
theorem SpInv.still (hl : SpLie BL BB BA BE BM mb n0 w) (h : SpInv BL BB BA BE BM mb n0 A ca n AE cE l b lv w pre W) (hs : Still (ours mineR) n0 W W') : SpInv BL BB BA BE BM mb n0 A ca n AE cE l b lv w pre W' := by
  obtain ⟨vs, va, h1, h2, h3⟩ := h
  exact ⟨vs, va, h1.still hl hs, h2.still hs (by have := hl.am; have := hl.mn; omega), h3.keep (hs.below.block mb hl.mn)⟩
end
/-- What holds where a round's body begins. -/
def SpRound (BL BB BA BE BM mb n0 : Nat) (A : Option Addr) (ca n : Nat) (AE : Option Addr) (cE : Nat) (l : List Int) (b : Int) (lv : List Int) (w : World) (tm : Yi → Nat → Array Value) (pre : List Yi) (x : Yi) (a₁ : Act) (W : World) : Prop :=
  SpInv BL BB BA BE BM mb n0 A ca n AE cE l b lv w pre W ∧ NextRun lv b n0 pre x W ∧ ∃ Br, n0 ≤ Br ∧ RunAt W Br #[x.slice, .int .i64 x.1.lv, .int .i64 x.1.ah, .int .i64 x.1.be] ∧ a₁ = { tmps := tm x Br, defers := [] }
theorem SpRound.put {BL BB BA BE BM mb n0 : Nat} {A : Option Addr} {ca n : Nat} {AE : Option Addr} {cE : Nat} {l : List Int} {b : Int} {lv : List Int} {w W : World} {tm : Yi → Nat → Array Value} {pre : List Yi} {x : Yi} {a₁ : Act} {k : Nat} {o o' : Obj} (hl : SpLie BL BB BA BE BM mb n0 w)
    (h : SpRound BL BB BA BE BM mb n0 A ca n AE cE l b lv w tm pre x a₁ W) (hk : n0 ≤ k) (ho : W.heap[k]? = some o) (hc : o.isCells = false) : SpRound BL BB BA BE BM mb n0 A ca n AE cE l b lv w tm pre x a₁ (W.putObj k o') := by
  obtain ⟨h1, h2, Br, hBr, hrun, ha⟩ := h
  have st := still_put (mine := mineR) o' ho hc hk
  refine ⟨h1.still hl st, ⟨h2.1, own_still h2.2 st (fun _ _ => by simp [ours, mineR, Obj.isCells])⟩, Br, hBr, ?_, ha⟩
  have hne : Br ≠ k := fun e => by
    rw [e] at hrun
    rw [show W.heap[k]? = _ from hrun] at ho
    injection ho with ho
    rw [← ho] at hc
    cases hc
  exact (World.putObj_heap_other hne).trans hrun
end Go.Proofs.Yticiofpbijahbaa
end
