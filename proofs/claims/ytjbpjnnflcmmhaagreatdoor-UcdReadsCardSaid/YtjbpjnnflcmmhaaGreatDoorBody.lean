/- The round of Parse's range over lines, over the translation: it goes on, or panics. Conditions: the two boxed results lie apart from the row of entries; the variable MaxLen of the library holds some number. -/
import Derived.Test.YtjbpjnnflcmmhaaGreatDoorLines
import Derived.Test.YtjbpjnnflcmmhaaGreatDoorAt
import Derived.Maps.AppendAt
namespace Go.Proofs.YtjbpjnnflcmmhaaGreatDoor
open Go.RowKit
attribute [local go_sem] Oper.semAt_some

/-- The range of a function's body, and its assignment. -/
def rangeBody (c : Option Code) : Code := match c with
  | some (.seq _ (.seq _ (.seq (.seq _ (.block _ (.rangeFunc _ _ _ b))) _))) => b
  | _ => .skip
def rangeAssign (c : Option Code) : Code := match c with
  | some (.seq _ (.seq _ (.seq (.seq _ (.block _ (.rangeFunc _ _ a _))) _))) => a
  | _ => .skip

theorem Tryz.infoEntry : (Tryz.prog.info? 35).map (fun i => (i.zero, i.size, i.bytes)) = some (some (.agg #[.int .i64 0, .int .i64 0, .string ⟨#[]⟩, .string ⟨#[]⟩]), 4, 48) := by kernel_rfl
theorem Tryz.mixed : Tryz.prog.follows .mixedOrders = true := by kernel_rfl

/-- An entry's cells; a list's. -/
def M.E.cells (e : M.E) : List Value := [.int .i64 e.a, .int .i64 e.b, .string e.v, .string e.x]
def cellsE (l : List M.E) : List Value := l.flatMap M.E.cells
theorem cellsE_snoc (l : List M.E) (e : M.E) : cellsE (l ++ [e]) = cellsE l ++ e.cells := by simp [cellsE]
theorem cellsE_length (l : List M.E) : (cellsE l).length = l.length * 4 := by
  induction l with
  | nil => rfl
  | cons e r ih => simp [cellsE, M.E.cells] at ih ⊢; omega
/-- The caller's own row of entries. -/
def OwnE (w : World) (base : Nat) (v : Value) (l : List M.E) : Prop := w.ownsRow base 35 4 v l.length (cellsE l)

/-- The frame of a round of Parse. -/
abbrev roundTmps (B : Nat) (x : ByteArray) (c0 c5 c6 c7 : Value) : Array Value :=
  #[c0, undef, .pointer (some ⟨B, 0, none⟩), .pointer (some ⟨B + 1, 0, none⟩), .string x, c5, c6, c7, .string x, undef, undef, undef, undef, undef, undef, undef, undef, undef, undef, undef, undef]

set_option maxHeartbeats 2000000 in
theorem body_skip (l n B : Nat) (c0 c5 c6 c7 : Value) (W : World) (Q : Exit → Act → World → Prop) (h : ∀ t, Q .normal { tmps := t, defers := [] } W) :
    (rangeBody Tryz.f5.body).wpIn (Fence.wide.inRound l) n Tryz.prog Q { tmps := roundTmps B ⟨#[]⟩ c0 c5 c6 c7, defers := [] } W := by
  unfold rangeBody Tryz.f5
  dsimp only
  gi_wp2
  exact h _

set_option maxHeartbeats 2000000 in
theorem body_full (l n B cap : Nat) (A : Option Addr) (x : ByteArray) (c0 c5 c6 c7 : Value) (W : World) (Q : Exit → Act → World → Prop) (hx : ¬ x.toList = []) (hc : W.cell? ⟨B, 0, none⟩ = some (.slice A 600 cap)) (h : ∀ t, Q (.panic ucdPanic) { tmps := t, defers := [] } W) :
    (rangeBody Tryz.f5.body).wpIn (Fence.wide.inRound l) n Tryz.prog Q { tmps := roundTmps B x c0 c5 c6 c7, defers := [] } W := by
  have hx1 : x.toList.isEmpty = false := by rw [List.isEmpty_eq_false_iff]; exact hx
  unfold rangeBody Tryz.f5
  dsimp only
  gi_wp2
  exact h _

set_option maxHeartbeats 2000000 in
theorem body_wrong (l n B k cap : Nat) (A : Option Addr) (x : ByteArray) (c0 c5 c6 c7 : Value) (W : World) (Q : Exit → Act → World → Prop) (hx : ¬ x.toList = []) (hc : W.cell? ⟨B, 0, none⟩ = some (.slice A k cap)) (hk : k < 600)
    (he : ∀ W, MaxOk W → Calls Tryz.prog 13 #[.string x] W fun e W' => e = .panicked ucdPanic ∧ Below W.heap.size W W') (hm : MaxOk W) (h : ∀ t W', Below W.heap.size W W' → Q (.panic ucdPanic) { tmps := t, defers := [] } W') :
    (rangeBody Tryz.f5.body).wpIn (Fence.wide.inRound l) n Tryz.prog Q { tmps := roundTmps B x c0 c5 c6 c7, defers := [] } W := by
  have hx1 : x.toList.isEmpty = false := by rw [List.isEmpty_eq_false_iff]; exact hx
  have HE := Lib.hid he
  have HM := Lib.hid hm
  have H := Lib.hid h
  have hk2 : ((k : Int) == 600) = false := by rw [beq_eq_false_iff_ne]; omega
  clear he hm h
  unfold rangeBody Tryz.f5
  dsimp only
  gi_wp2
  refine wpIn_region_any Tryz.mixed ?_
  change wpAnyIn _ _ _ _ _ _ _ _ _ (World.drew _)
  have call := fun (K : Ending → World → Prop) (hK : ∀ W', Below W.heap.size W W' → K (.panicked ucdPanic) W') => (HE.out W.drew (HM.out.next (Below.refl _ _).drew)).mono (R' := K) (fun e W' ⟨h1, h2⟩ => by subst h1; exact hK W' ((Below.refl _ _).drew.trans h2))
  have CALL := Lib.hid call
  clear call
  refine wpAnyIn_ready (rs := [0, 1]) (by kernel_rfl) (by simp) ?_
  refine AllReadyIn.cons rfl (fun K hK => ?_) (AllReadyIn.cons rfl (fun K hK => ?_) AllReadyIn.nil)
  · go_simp
    refine hK _ _ ?_
    clear hK K
    refine wpAnyIn_ready (rs := [1]) (by kernel_rfl) (by simp) ?_
    refine AllReadyIn.cons rfl (fun K hK => ?_) AllReadyIn.nil
    go_simp
    refine hK _ _ ?_
    clear hK K
    refine wpAnyIn_ready (rs := [2]) (by kernel_rfl) (by simp) ?_
    refine AllReadyIn.cons rfl (fun K hK => ?_) AllReadyIn.nil
    go_simp
    refine ⟨trivial, (fun h => (by cases h)), CallsIn.inRound l (callsIn_wide.2 (CALL.out _ fun W' hb => ?_))⟩
    exact H.out _ W' hb
  · go_simp
    refine hK _ _ ?_
    clear hK K
    refine wpAnyIn_ready (rs := [0, 2]) (by kernel_rfl) (by simp) ?_
    refine AllReadyIn.cons rfl (fun K hK => ?_) (AllReadyIn.cons rfl (fun K hK => ?_) AllReadyIn.nil)
    · go_simp
      refine hK _ _ ?_
      clear hK K
      refine wpAnyIn_ready (rs := [2]) (by kernel_rfl) (by simp) ?_
      refine AllReadyIn.cons rfl (fun K hK => ?_) AllReadyIn.nil
      go_simp
      refine ⟨trivial, (fun h => (by cases h)), CallsIn.inRound l (callsIn_wide.2 (CALL.out _ fun W' hb => ?_))⟩
      exact H.out _ W' hb
    · go_simp
      refine ⟨trivial, (fun h => (by cases h)), CallsIn.inRound l (callsIn_wide.2 (CALL.out _ fun W' hb => ?_))⟩
      exact H.out _ W' hb

theorem grown_cell (w : World) (a : Addr) (u : Value) : w.grownBy (w.setCell a u) (some a.block) :=
  ⟨rfl, rfl, rfl, by simp [World.setCell], fun k _ hne => Below.heap_setCell _ _ _ _ (fun e => hne (by rw [e]))⟩
theorem OwnE.below {w w1 : World} {base : Nat} {v : Value} {l : List M.E} (h : OwnE w base v l) (hb : Below w.heap.size w w1) : OwnE w1 base v l :=
  World.ownsRow.kept h (row := none) ⟨hb.os, hb.tape, hb.output, hb.size, fun k hk _ => hb.block k hk⟩ (by cases v.ownBlock <;> simp)

/-- What a round has kept that has stored into block B. -/
structure Kept (B base : Nat) (W W' : World) : Prop where
  size : W.heap.size ≤ W'.heap.size
  block : ∀ k, k < base → k ≠ B → W'.heap[k]? = W.heap[k]?
  below : Below B W W'

theorem kept_of {W w1 w2 : World} {B base : Nat} {v v' : Value} {acc : List M.E} {e : M.E} {o : Obj} (hB : B < base) (hbase : base ≤ W.heap.size) (hc : W.cell? ⟨B, 0, none⟩ = some v) (hf : W.frozen? ⟨B, 0, none⟩ = false) (hown : OwnE W base v acc)
    (hb1 : Below W.heap.size W w1) (hg : (w1.alloc o).grownBy w2 v.ownBlock) (hown2 : w2.ownsRow base 35 4 v' (acc.length + 1) (cellsE acc ++ e.cells)) :
    w2.cell? ⟨B, 0, none⟩ = some v ∧ w2.frozen? ⟨B, 0, none⟩ = false ∧ (w2.setCell ⟨B, 0, none⟩ v').cell? ⟨B, 0, none⟩ = some v' ∧ (w2.setCell ⟨B, 0, none⟩ v').frozen? ⟨B, 0, none⟩ = false ∧ OwnE (w2.setCell ⟨B, 0, none⟩ v') base v' (acc ++ [e]) ∧ Kept B base W (w2.setCell ⟨B, 0, none⟩ v') := by
  have far : ∀ k, k < base → some k ≠ v.ownBlock := fun k hk e => by have := (World.ownsRow.lt hown k e.symm).1; omega
  have hsz := hb1.size
  have hsz2 := hg.size
  simp only [World.size_alloc] at hsz2
  have al : Below w1.heap.size w1 (w1.alloc o) := (Below.refl _ _).alloc (Nat.le_refl _) _
  have blk : ∀ k, k < base → w2.heap[k]? = W.heap[k]? := fun k hk =>
    (hg.block k (by simp; omega) (far k hk)).trans ((al.block k (by omega)).trans (hb1.block k (by omega)))
  have c2 : w2.cell? ⟨B, 0, none⟩ = some v := (World.cell?_of_block (a := ⟨B, 0, none⟩) (blk B hB)).trans hc
  have f2 : w2.frozen? ⟨B, 0, none⟩ = false := (World.frozen?_of_block (a := ⟨B, 0, none⟩) (blk B hB)).trans hf
  refine ⟨c2, f2, World.cell?_setCell_same (v := v') w2 _ c2, by rw [World.frozen?_setCell]; exact f2, ?_, ?_, fun k hk hne => ?_, ?_⟩
  · unfold OwnE
    rw [cellsE_snoc, List.length_append]
    refine World.ownsRow.kept hown2 (grown_cell w2 ⟨B, 0, none⟩ v') (.inr fun e => ?_)
    have := (World.ownsRow.lt hown2 B e).1
    omega
  · simp only [World.size_setCell]; omega
  · exact (Below.heap_setCell w2 ⟨B, 0, none⟩ v' k hne).trans (blk k hk)
  · have b1 : Below B W (w1.alloc o) := (hb1.mono (by omega)).alloc (by omega) _
    exact (b1.grown hg (by simp; omega) (fun k hk => by have := (World.ownsRow.lt hown k hk).1; omega)).setCell (p := ⟨B, 0, none⟩) (Nat.le_refl _) _

theorem step_append_in {F : Fence} {n : Nat} {P : Program} {ops : Array Oper} {o : Oper} {a : Act} {w w' : World} {K : Act → World → Prop} {Q : Exit → Act → World → Prop} {E : Prop} {v' : Value} (hg : o.guard = none) (s x : Operand) (t : TypeId)
    (hop : o.op = Op.call { callee := Callee.builtin Builtin.append, args := #[s, x], argTypes := #[t, t] }) {vs vx : Value} (hs : a.eval s = vs) (hx : a.eval x = vx) (hrun : (Builtin.append_ #[t, t] o.type #[vs, vx]).run P w = .ok v' w') (h : K (a.put o.dst v') w') :
    if Region.wanted o (yielded ops a.tmps) = true then Oper.wpIn F n P o a w K Q else E := by
  rw [if_pos (by simp [Region.wanted, hg])]
  unfold Oper.wpIn
  refine ⟨by simp [Oper.about, hop, resolve, Target.leads, Sem.run_pure], ?_⟩
  rw [Oper.semAt_plain F _ _ (by rw [hop]; intro c hc'; cases hc')]
  simp [execOp, hop, resolve, invoke, builtin, hs, hx, hrun, Result.andThen]
  exact h

theorem news_cells (w : World) (e : M.E) (t : TypeId) : ∀ j u, e.cells[j]? = some u → (w.alloc (.cells #[.int .i64 e.a, .int .i64 e.b, .string e.v, .string e.x] t)).cell? ((⟨w.heap.size, 0, none⟩ : Addr).add j) = some u := by
  intro j u hj
  match j, hj with
  | 0, hj => simp [M.E.cells] at hj; subst hj; simp [Addr.add, go_sem]
  | 1, hj => simp [M.E.cells] at hj; subst hj; simp [Addr.add, go_sem]
  | 2, hj => simp [M.E.cells] at hj; subst hj; simp [Addr.add, go_sem]
  | 3, hj => simp [M.E.cells] at hj; subst hj; simp [Addr.add, go_sem]
theorem news_one (e : M.E) : ∀ u ∈ e.cells, u.oneCell' = true := by
  intro u hu
  simp [M.E.cells] at hu
  rcases hu with rfl | rfl | rfl | rfl <;> rfl

set_option maxHeartbeats 4000000 in
theorem body_right (l n B base cap k : Nat) (A : Option Addr) (x : ByteArray) (acc : List M.E) (e : M.E) (c0 c5 c6 c7 : Value) (W : World) (Q : Exit → Act → World → Prop) (hx : ¬ x.toList = []) (hc : W.cell? ⟨B, 0, none⟩ = some (.slice A k cap)) (hf : W.frozen? ⟨B, 0, none⟩ = false)
    (hk : k = acc.length) (hk6 : k < 600) (hB : B < base) (hbase : base ≤ W.heap.size) (hown : OwnE W base (.slice A k cap) acc)
    (he : ∀ W, MaxOk W → Calls Tryz.prog 13 #[.string x] W fun e' W' => e' = .returned e.val ∧ Below W.heap.size W W') (hm : MaxOk W)
    (h : ∀ t W' v', W'.cell? ⟨B, 0, none⟩ = some v' → W'.frozen? ⟨B, 0, none⟩ = false → OwnE W' base v' (acc ++ [e]) → Kept B base W W' → Q .normal { tmps := t, defers := [] } W') :
    (rangeBody Tryz.f5.body).wpIn (Fence.wide.inRound l) n Tryz.prog Q { tmps := roundTmps B x c0 c5 c6 c7, defers := [] } W := by
  obtain ⟨i0, hi, hz0, hz1, hz2⟩ := info_parts Tryz.infoEntry
  have hx1 : x.toList.isEmpty = false := by rw [List.isEmpty_eq_false_iff]; exact hx
  have HC := Lib.hid hc
  have HF := Lib.hid hf
  have HO := Lib.hid hown
  have HE := Lib.hid he
  have HM := Lib.hid hm
  have H := Lib.hid h
  have HK := Lib.hid hk
  have hk2 : ((k : Int) == 600) = false := by rw [beq_eq_false_iff_ne]; omega
  -- the call of entry, and what is appended behind it, whatever comes ahead
  have call := fun (K : Ending → World → Prop) (hK : ∀ w1 g n' cap' w2, w1.cell? ⟨B, 0, none⟩ = some (.slice A k cap) → B < w1.heap.size → (Builtin.append_ #[24, 24] 24 #[.slice A k cap, .slice (some ⟨w1.heap.size, 0, none⟩) 1 1]).run Tryz.prog (w1.alloc (.cells #[.int .i64 e.a, .int .i64 e.b, .string e.v, .string e.x] 35)) = .ok (.slice (some ⟨g, 0, none⟩) n' cap') w2 →
      w2.cell? ⟨B, 0, none⟩ = some (.slice A k cap) → w2.frozen? ⟨B, 0, none⟩ = false → (∀ t, Q .normal { tmps := t, defers := [] } (w2.setCell ⟨B, 0, none⟩ (.slice (some ⟨g, 0, none⟩) n' cap'))) → K (.returned e.val) w1) =>
    (HE.out W.drew (HM.out.next (Below.refl _ _).drew)).mono (R' := K) (fun e' w1 ⟨h1, h2⟩ => by
      subst h1
      have hb1 : Below W.heap.size W w1 := (Below.refl _ _).drew.trans h2
      obtain ⟨v', w2, hrun, own2, hg, _⟩ := run_append_own (P := Tryz.prog) (w1.alloc (.cells #[.int .i64 e.a, .int .i64 e.b, .string e.v, .string e.x] 35)) base 24 24 35 i0 _ 4 48 Tryz.underlying24 hi hz0 hz1 hz2 rfl (by decide) (.slice A k cap) acc.length (cellsE acc) (World.ownsRow.alloc (HO.out.below hb1) _) ⟨w1.heap.size, 0, none⟩ 1 1 e.cells rfl (news_cells w1 e _) (news_one e) (by unfold maxLen; omega) (by omega) (by have := hb1.size; simp; omega)
      obtain ⟨c2, f2, c3, f3, o3, kp⟩ := kept_of hB hbase HC.out HF.out HO.out hb1 hg own2
      have c1 : w1.cell? ⟨B, 0, none⟩ = some (.slice A k cap) := (hb1.cell (p := ⟨B, 0, none⟩) (by show B < _; omega)).trans HC.out
      obtain ⟨g, cap', rfl⟩ := ownsRow_succ own2
      exact hK w1 g _ cap' w2 c1 (by have := hb1.size; omega) hrun c2 f2 (fun t => H.out t _ _ c3 f3 o3 kp))
  have CALL := Lib.hid call
  clear he hm h hf hown call hk
  unfold rangeBody Tryz.f5
  dsimp only
  gi_wp2
  refine wpIn_region_any Tryz.mixed ?_
  change wpAnyIn _ _ _ _ _ _ _ _ _ (World.drew _)
  refine wpAnyIn_ready (rs := [0, 1]) (by kernel_rfl) (by simp) ?_
  refine AllReadyIn.cons rfl (fun K hK => ?_) (AllReadyIn.cons rfl (fun K hK => ?_) AllReadyIn.nil)
  · go_simp
    refine hK _ _ ?_
    clear hK K
    refine wpAnyIn_ready (rs := [1]) (by kernel_rfl) (by simp) ?_
    refine AllReadyIn.cons rfl (fun K hK => ?_) AllReadyIn.nil
    go_simp
    refine hK _ _ ?_
    clear hK K
    refine wpAnyIn_ready (rs := [2]) (by kernel_rfl) (by simp) ?_
    refine AllReadyIn.cons rfl (fun K hK => ?_) AllReadyIn.nil
    go_simp
    refine ⟨trivial, (fun h => (by cases h)), CallsIn.inRound l (callsIn_wide.2 (CALL.out _ fun w1 g n' cap' w2 c1 lt1 hrun c2 f2 fin => ?_))⟩
    unfold M.E.val
    refine hK _ _ ?_
    clear hK K
    refine wpAnyIn_ready (rs := [3]) (by kernel_rfl) (by simp) ?_
    refine AllReadyIn.cons rfl (fun K hK => ?_) AllReadyIn.nil
    go_simp
    refine hK _ _ ?_
    clear hK K
    refine wpAnyIn_ready (rs := [4]) (by kernel_rfl) (by simp) ?_
    refine AllReadyIn.cons rfl (fun K hK => ?_) AllReadyIn.nil
    refine step_append_in (by rfl) _ _ _ (by rfl) (by rfl) (by rfl) hrun ?_
    refine hK _ _ ?_
    clear hK K
    refine wpAnyIn_ready (rs := [5]) (by kernel_rfl) (by simp) ?_
    refine AllReadyIn.cons rfl (fun K hK => ?_) AllReadyIn.nil
    go_simp
    refine hK _ _ ?_
    clear hK K
    refine wpAnyIn_done (by kernel_rfl) ?_ _
    exact fin _
  · go_simp
    refine hK _ _ ?_
    clear hK K
    refine wpAnyIn_ready (rs := [0, 2]) (by kernel_rfl) (by simp) ?_
    refine AllReadyIn.cons rfl (fun K hK => ?_) (AllReadyIn.cons rfl (fun K hK => ?_) AllReadyIn.nil)
    · go_simp
      refine hK _ _ ?_
      clear hK K
      refine wpAnyIn_ready (rs := [2]) (by kernel_rfl) (by simp) ?_
      refine AllReadyIn.cons rfl (fun K hK => ?_) AllReadyIn.nil
      go_simp
      refine ⟨trivial, (fun h => (by cases h)), CallsIn.inRound l (callsIn_wide.2 (CALL.out _ fun w1 g n' cap' w2 c1 lt1 hrun c2 f2 fin => ?_))⟩
      unfold M.E.val
      refine hK _ _ ?_
      clear hK K
      refine wpAnyIn_ready (rs := [3]) (by kernel_rfl) (by simp) ?_
      refine AllReadyIn.cons rfl (fun K hK => ?_) AllReadyIn.nil
      go_simp
      refine hK _ _ ?_
      clear hK K
      refine wpAnyIn_ready (rs := [4]) (by kernel_rfl) (by simp) ?_
      refine AllReadyIn.cons rfl (fun K hK => ?_) AllReadyIn.nil
      refine step_append_in (by rfl) _ _ _ (by rfl) (by rfl) (by rfl) hrun ?_
      refine hK _ _ ?_
      clear hK K
      refine wpAnyIn_ready (rs := [5]) (by kernel_rfl) (by simp) ?_
      refine AllReadyIn.cons rfl (fun K hK => ?_) AllReadyIn.nil
      go_simp
      refine hK _ _ ?_
      clear hK K
      refine wpAnyIn_done (by kernel_rfl) ?_ _
      exact fin _
    · go_simp
      refine ⟨trivial, (fun h => (by cases h)), CallsIn.inRound l (callsIn_wide.2 (CALL.out _ fun w1 g n' cap' w2 c1 lt1 hrun c2 f2 fin => ?_))⟩
      unfold M.E.val
      refine hK _ _ ?_
      clear hK K
      refine wpAnyIn_ready (rs := [0, 3]) (by kernel_rfl) (by simp) ?_
      refine AllReadyIn.cons rfl (fun K hK => ?_) (AllReadyIn.cons rfl (fun K hK => ?_) AllReadyIn.nil)
      · go_simp
        refine hK _ _ ?_
        clear hK K
        refine wpAnyIn_ready (rs := [3]) (by kernel_rfl) (by simp) ?_
        refine AllReadyIn.cons rfl (fun K hK => ?_) AllReadyIn.nil
        go_simp
        refine hK _ _ ?_
        clear hK K
        refine wpAnyIn_ready (rs := [4]) (by kernel_rfl) (by simp) ?_
        refine AllReadyIn.cons rfl (fun K hK => ?_) AllReadyIn.nil
        refine step_append_in (by rfl) _ _ _ (by rfl) (by rfl) (by rfl) hrun ?_
        refine hK _ _ ?_
        clear hK K
        refine wpAnyIn_ready (rs := [5]) (by kernel_rfl) (by simp) ?_
        refine AllReadyIn.cons rfl (fun K hK => ?_) AllReadyIn.nil
        go_simp
        refine hK _ _ ?_
        clear hK K
        refine wpAnyIn_done (by kernel_rfl) ?_ _
        exact fin _
      · go_simp
        refine hK _ _ ?_
        clear hK K
        refine wpAnyIn_ready (rs := [0]) (by kernel_rfl) (by simp) ?_
        refine AllReadyIn.cons rfl (fun K hK => ?_) AllReadyIn.nil
        go_simp
        refine hK _ _ ?_
        clear hK K
        refine wpAnyIn_ready (rs := [4]) (by kernel_rfl) (by simp) ?_
        refine AllReadyIn.cons rfl (fun K hK => ?_) AllReadyIn.nil
        refine step_append_in (by rfl) _ _ _ (by rfl) (by rfl) (by rfl) hrun ?_
        refine hK _ _ ?_
        clear hK K
        refine wpAnyIn_ready (rs := [5]) (by kernel_rfl) (by simp) ?_
        refine AllReadyIn.cons rfl (fun K hK => ?_) AllReadyIn.nil
        go_simp
        refine hK _ _ ?_
        clear hK K
        refine wpAnyIn_done (by kernel_rfl) ?_ _
        exact fin _
end Go.Proofs.YtjbpjnnflcmmhaaGreatDoor
