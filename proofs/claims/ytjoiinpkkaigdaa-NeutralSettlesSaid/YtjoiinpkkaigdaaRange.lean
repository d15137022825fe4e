/- A range over a function whose iterator turns cells of its own, told apart by their kind: the iterator's contract, and the statement's walk out of it and of the walk of its body. No program is read here. -/
import Derived.Test.YtjoiinpkkaigdaaBase
import Derived.RangeFuncNested
import Derived.RangeFuncBound
import Derived.RangeFuncCalls
import Derived.RangeFuncLeaves
namespace Go.Proofs.Ytjoiinpkkaigdaa
open Go.RowKit
variable {n : Nat} {P : Program}

/-- Blocks below B are as they were, and so is whatever is not told of. -/
structure Still (mine : Obj → Bool) (B : Nat) (W W' : World) : Prop where
  below : Below B W W'
  kept : ∀ (k : Nat) (o : Obj), W.heap[k]? = some o → mine o = false → W'.heap[k]? = some o
theorem Still.refl (mine : Obj → Bool) (B : Nat) (W : World) : Still mine B W W := ⟨Below.refl _ _, fun _ _ h _ => h⟩
theorem Still.trans {mine : Obj → Bool} {B : Nat} {X Y Z : World} (h : Still mine B X Y) (k : Still mine B Y Z) : Still mine B X Z := ⟨h.below.trans k.below, fun i o hi ho => k.kept i o (h.kept i o hi ho) ho⟩
theorem Still.of_below {mine : Obj → Bool} {B : Nat} {W W' : World} (h : Below W.heap.size W W') (hB : B ≤ W.heap.size) : Still mine B W W' :=
  ⟨h.mono hB, fun k _ hk _ => (h.block k (Array.getElem?_eq_some_iff.1 hk).1).trans hk⟩
theorem Still.wider {mine ours : Obj → Bool} {B B' : Nat} {W W' : World} (h : Still mine B W W') (hm : ∀ o, ours o = false → mine o = false) (hB : B' ≤ B) : Still ours B' W W' := ⟨h.below.mono hB, fun k o hk ho => h.kept k o hk (hm o ho)⟩
/-- Cells of the iterator's, and what is no cells. -/
def ours (mine : Obj → Bool) (o : Obj) : Bool := mine o || !o.isCells
theorem ours_mine {mine : Obj → Bool} (o : Obj) (h : ours mine o = false) : mine o = false := by unfold ours at h; simp at h; exact h.1
theorem still_put {mine : Obj → Bool} {B l : Nat} {W : World} {o : Obj} (o' : Obj) (hl : W.heap[l]? = some o) (ho : o.isCells = false) (hB : B ≤ l) : Still (ours mine) B W (W.putObj l o') := by
  have hlt := (Array.getElem?_eq_some_iff.1 hl).1
  refine ⟨⟨rfl, rfl, rfl, by simp, fun k hk => World.putObj_heap_other (by omega)⟩, fun k o2 hk hm => ?_⟩
  have hne : k ≠ l := fun e => by
    rw [e, hl] at hk
    injection hk with hk
    rw [← hk] at hm
    unfold ours at hm
    rw [ho] at hm
    simp at hm
  exact (World.putObj_heap_other hne).trans hk

/-- An iterator's contract: whatever the caller's invariants that bear its steps, the elements come one by one; a round may say 'no more'. -/
def Gives {α : Type} (mine : Obj → Bool) (n : Nat) (P : Program) (gf : Nat) (lb : Array Value) (encs : α → Array Value) (Kp : World → World → Prop) (S Sp Ok : List α → Prop) (N : Nat) (w : World) : Prop :=
  ∀ (l : Nat) (J Jx : List α → World → Prop) (W : World), Below w.heap.size w W →
    (∀ s A B, J s A → Still mine W.heap.size A B → J s B) → (∀ s A B, Jx s A → Still mine W.heap.size A B → Jx s B) →
    (∀ pre x A, J pre A → pre.length < N → Ok (pre ++ [x]) → YieldAt Fence.wide (n - 1) P l (encs x) A fun e B =>
      (e = .returned (.bool true) ∧ J (pre ++ [x]) B ∧ Kp A B) ∨ (e = .returned (.bool false) ∧ Jx (pre ++ [x]) B)) →
    J [] W →
    CallsIn Fence.wide n P gf (#[.func (.yield l) #[] #[]] ++ lb) W fun e B => (∃ v, e = .returned v) ∧ ((∃ xs, S xs ∧ J xs B) ∨ (∃ pre, Sp pre ∧ Jx pre B))

theorem range_mine {α : Type} {g : Operand} {ps : Array Tmp} {assign body : Code} {Q : Exit → Act → World → Prop} {a : Act} {w : World} (h1 : 1 ≤ n)
    {gf : Nat} {lb : Array Value} (hg : a.eval g = .func (.func gf) #[] lb) (eg : ∀ args w, (callFunc gf args).run P w = .ok (.enter gf args) w)
    {mine : Obj → Bool} (hmine : ∀ o, o.isCells = false → mine o = false)
    {encs : α → Array Value} {Kp : World → World → Prop} {S Sp Ok : List α → Prop} {N : Nat} (hseq : Gives mine (n - 1) P gf lb encs Kp S Sp Ok N w)
    (hKt : ∀ {A B C : World}, Kp A B → Kp B C → Kp A C) (hKb : ∀ (W : World) (l : Nat) (o o' : Obj), w.heap.size ≤ l → W.heap[l]? = some o → o.isCells = false → Kp W (W.putObj l o')) (hps : ∀ x, (encs x).size = ps.size)
    (I : List α → World → Prop) (Ix : Code → List α → World → Prop) (hI : ∀ s A B, I s A → Still (ours mine) w.heap.size A B → I s B) (hIx : ∀ c s A B, Ix c s A → Still (ours mine) w.heap.size A B → Ix c s B) (h0 : I [] w) (a₁ : α → Act)
    (hassign : ∀ (l : Nat) (x : α) (W : World) (K : Act → World → Prop), K (a₁ x) W →
      assign.wpIn (Fence.wide.inRound l) (n - 1 - 1) P (Exit.then K (fun _ _ _ => False)) { tmps := (ps.zip (encs x)).foldl (fun t (p, v) => t.setIfInBounds p v) a.tmps, defers := [] } W)
    (hbody : ∀ (l : Nat) (pre : List α) (x : α) (W : World), I pre W → pre.length < N → Ok (pre ++ [x]) → body.wpIn (Fence.wide.inRound l) (n - 1 - 1) P (ownPostG w.heap.size Kp I Ix (pre ++ [x]) W) (a₁ x) W)
    (hdone : ∀ (D : Nat) (xs : List α) (W : World), w.heap.size ≤ D → S xs → I xs W → W.heap[D]? = some (.deferred (some [])) → Q .normal { a with defers := { target := .collected D, args := #[] } :: a.defers } W)
    (hstop : ∀ (D : Nat) (c : Code) (pre : List α) (W : World), w.heap.size ≤ D → Sp pre → Ix c pre W → W.heap[D]? = some (.deferred (some [])) → c.wpIn Fence.wide n P Q { a with defers := { target := .collected D, args := #[] } :: a.defers } W) :
    (Code.rangeFunc g ps assign body).wpIn Fence.wide n P Q a w := by
  refine wpIn_rangeFunc fun fn hfn => ?_
  -- the loop's record lies at L, the block for what its rounds defer at w.heap.size
  obtain ⟨rec, hrec⟩ : ∃ rec : LoopState → Option Code → Loop, rec = fun st pe => { state := st, pending := pe, fn, tmps := a.tmps, params := ps, assign, body, defers := w.heap.size } := ⟨_, rfl⟩
  obtain ⟨L, hL⟩ : ∃ L, L = w.heap.size + 1 := ⟨_, rfl⟩
  obtain ⟨W1, hW1⟩ : ∃ W1, W1 = (w.alloc (.deferred (some []))).alloc (.loop (rec .ready none)) := ⟨_, rfl⟩
  have enters : (Instr.enterLoop fn a.tmps ps assign body none).run P w = .ok (L, [{ target := .collected w.heap.size, args := #[] }]) W1 := by
    rw [hW1, hrec, hL]; exact run_enterLoop_outer _ _ _ _ _
  have recAt : W1.heap[L]? = some (.loop (rec .ready none)) := by
    rw [hW1, hL, show w.heap.size + 1 = (w.alloc (.deferred (some []))).heap.size by simp]; exact World.alloc_heap_new _ _
  have defAt : W1.heap[w.heap.size]? = some (.deferred (some [])) := by
    rw [hW1]; exact (Below.heap_alloc _ _ _ (by simp)).trans (World.alloc_heap_new w _)
  have size1 : W1.heap.size = w.heap.size + 2 := by rw [hW1]; simp
  have below1 : Below w.heap.size w W1 := by rw [hW1]; exact ((Below.refl _ w).alloc (Nat.le_refl _) _).alloc (by simp) _
  have res : (resolve a.eval (rangeCall g L) 0).run P W1 = .ok { target := .fn (.func gf) lb, args := #[.func (.yield L) #[] #[]] } W1 := by
    simp only [resolve, hg]; simp [go_sem]
  have inv : (invoke (.fn (.func gf) lb) #[.func (.yield L) #[] #[]]).run P W1 = .ok (.enter gf (#[.func (.yield L) #[] #[]] ++ lb)) W1 := by
    simp [invoke, go_sem, eg]
  refine ⟨L, _, W1, _, W1, gf, _, W1, enters, res, fun _ _ => trivial, inv, fun _ => h1, ?_⟩
  have notMine : ∀ o : Obj, o.isCells = false → ours mine o = true := fun o ho => by unfold ours; rw [ho]; simp
  -- what the iterator is handed: the caller's invariant, and the two blocks of the loop's own
  have go := hseq L (fun s W => I s W ∧ W.heap[L]? = some (.loop (rec .ready none)) ∧ W.heap[w.heap.size]? = some (.deferred (some [])))
    (fun s W => ∃ c, Ix c s W ∧ W.heap[L]? = some (.loop (rec .done (some c))) ∧ W.heap[w.heap.size]? = some (.deferred (some []))) W1 below1
    (fun s A B h m => ⟨hI s A B h.1 (m.wider ours_mine (by omega)), m.kept _ _ h.2.1 (hmine _ rfl), m.kept _ _ h.2.2 (hmine _ rfl)⟩)
    (fun s A B ⟨c, h⟩ m => ⟨c, hIx c s A B h.1 (m.wider ours_mine (by omega)), m.kept _ _ h.2.1 (hmine _ rfl), m.kept _ _ h.2.2 (hmine _ rfl)⟩)
  refine (go ?_ ⟨hI _ _ _ h0 (Still.of_below below1 (Nat.le_refl _)), recAt, defAt⟩).mono ?_
  · rintro pre x W ⟨hi, hl, hd⟩ hlen hok
    have hlt := (Array.getElem?_eq_some_iff.1 hl).1
    have yields := run_yield (P := P) (args := encs x) hl (by rw [hrec]; exact hps x)
    rw [hrec] at yields
    refine ⟨fn, _, assign, body, yields, roundIn_of_wpIn hfn (hassign _ x W _ ⟨_, run_beginRound hl (by rw [hrec]), ?_⟩)⟩
    obtain ⟨W2, hW2⟩ : ∃ W2, W2 = W.putObj L (.loop { rec .ready none with state := .busy }) := ⟨_, rfl⟩
    have rec2 : W2.heap[L]? = some (.loop { rec .ready none with state := .busy }) := by rw [hW2]; exact World.putObj_heap_same hlt
    have def2 : W2.heap[w.heap.size]? = some (.deferred (some [])) := by rw [hW2]; exact (World.putObj_heap_other (by omega)).trans hd
    have inv2 : I pre W2 := by rw [hW2]; exact hI _ _ _ hi (still_put _ hl rfl (by omega))
    have kp2 : Kp W W2 := by rw [hW2]; exact hKb _ _ _ _ (by omega) hl rfl
    -- a round's end: its record is ready again, or done
    have ending : ∀ (jump : Option Code) (W3 : World), KeepsFrom w.heap.size W2 W3 → ∃ W4,
        (Instr.endRound L jump).run P W3 = .ok (.bool jump.isNone) W4 ∧ W4.heap[L]? = some (.loop (rec (if jump.isNone then .ready else .done) jump)) ∧ W4.heap[w.heap.size]? = some (.deferred (some [])) ∧ Still (ours mine) w.heap.size W3 W4 ∧ Kp W3 W4 := fun jump W3 k3 => by
      have rec3 := k3.same L _ (by omega) rec2 rfl
      have run := run_endRound (P := P) jump rec3
      refine ⟨_, run, ?_, (World.putObj_heap_other (by omega)).trans (k3.same _ _ (Nat.le_refl _) def2 rfl), still_put _ rec3 rfl (by omega), hKb _ _ _ _ (by omega) rec3 rfl⟩
      rw [World.putObj_heap_same (Array.getElem?_eq_some_iff.1 rec3).1, hrec]
    rw [← hW2]
    refine wpIn_mono (hbody L pre x W2 inv2 hlen hok) ?_
    rintro e a3 W3 hp
    match e, hp with
    | .normal, ⟨k3, kp3, i3⟩ =>
      obtain ⟨W4, run, r4, d4, s4, kp4⟩ := ending none W3 k3
      exact ⟨_, W4, run, .inl ⟨rfl, ⟨hI _ _ _ i3 s4, r4, d4⟩, hKt (hKt kp2 kp3) kp4⟩⟩
    | .ret, ⟨k3, i3⟩ =>
      obtain ⟨W4, run, r4, d4, s4, _⟩ := ending (some .ret) W3 k3
      exact ⟨_, W4, run, .inr ⟨rfl, _, hIx _ _ _ _ i3 s4, r4, d4⟩⟩
    | .exit id, ⟨k3, i3⟩ =>
      obtain ⟨W4, run, r4, d4, s4, _⟩ := ending (some (.exit id)) W3 k3
      exact ⟨_, W4, run, .inr ⟨rfl, _, hIx _ _ _ _ i3 s4, r4, d4⟩⟩
    | .goto t, ⟨k3, i3⟩ =>
      obtain ⟨W4, run, r4, d4, s4, _⟩ := ending (some (.goto t)) W3 k3
      exact ⟨_, W4, run, .inr ⟨rfl, _, hIx _ _ _ _ i3 s4, r4, d4⟩⟩
  · rintro e W2 ⟨⟨v, rfl⟩, ⟨xs, hS, hi, hl, hd⟩ | ⟨pre, hSp, c, hi, hl, hd⟩⟩
    · have hend : (Instr.endLoop L).run P W2 = .ok none (W2.putObj L (.loop (rec .exhausted none))) := by
        have := run_endLoop (P := P) hl (by rw [hrec]; simp)
        rw [hrec] at this ⊢
        exact this
      exact ⟨none, _, hend, hdone _ xs _ (Nat.le_refl _) hS (hI _ _ _ hi (still_put _ hl rfl (by omega))) ((World.putObj_heap_other (by omega)).trans hd)⟩
    · have hend : (Instr.endLoop L).run P W2 = .ok (some c) (W2.putObj L (.loop (rec .exhausted (some c)))) := by
        have := run_endLoop (P := P) hl (by rw [hrec]; simp)
        rw [hrec] at this ⊢
        exact this
      exact ⟨some c, _, hend, hstop _ c pre _ (Nat.le_refl _) hSp (hIx _ _ _ _ hi (still_put _ hl rfl (by omega))) ((World.putObj_heap_other (by omega)).trans hd)⟩
end Go.Proofs.Ytjoiinpkkaigdaa
