/- A range over a function whose iterator turns cells of its own, told apart by their kind, and hands out what lies in memory: the iterator's contract, and the statement's walk out of it and of the walk of its body. No program is read here. -/
/- A region that draws its order, within a round of a range over a function: what the plain walk shows of it serves there, too, if it defers nothing. No program is read here. -/
import Derived.Test.YticiofpbijahbaaGA
import Derived.RangeFuncNested
import Derived.RangeFuncBound
import Derived.RangeFuncCalls
import Derived.RangeFuncLeaves
import Derived.OrdersIn
import Derived.Deep.RegionHeld3
import Derived.StillTail
import Derived.OwnWalkIn
section
namespace Go.Proofs.Yticiofpbijahbaa
open Go.RowKit
variable {n : Nat} {P : Program}

/-- Blocks below B are as they were, and so is whatever is not told of. -/
structure Still (mine : Obj → Bool) (B : Nat) (W W' : World) : Prop where
  below : Below B W W'
  kept : ∀ (k : Nat) (o : Obj), W.heap[k]? = some o → mine o = false → W'.heap[k]? = some o
theorem Still.refl (mine : Obj → Bool) (B : Nat) (W : World) : Still mine B W W := ⟨Below.refl _ _, fun _ _ h _ => h⟩
theorem Still.trans {mine : Obj → Bool} {B : Nat} {X Y Z : World} (h : Still mine B X Y) (k : Still mine B Y Z) : Still mine B X Z := ⟨h.below.trans k.below, fun i o hi ho => k.kept i o (h.kept i o hi ho) ho⟩
theorem Still.of_below {mine : Obj → Bool} {B : Nat} {W W' : World} (h : Below W.heap.size W W') (hB : B ≤ W.heap.size) : Still mine B W W' :=
  ⟨h.mono hB, fun k _ hk _ => (h.block k (Array.getElem?_eq_some_iff.1 hk).1).trans hk⟩
theorem Still.wider {mine ours : Obj → Bool} {B B' : Nat} {W W' : World} (h : Still mine B W W') (hm : ∀ o, ours o = false → mine o = false) (hB : B' ≤ B) : Still ours B' W W' := ⟨h.below.mono hB, fun k o hk ho => h.kept k o hk (hm o ho)⟩
/-- Cells of the iterator's, and what is no cells. -/
def ours (mine : Obj → Bool) (o : Obj) : Bool := mine o || !o.isCells
theorem ours_mine {mine : Obj → Bool} (o : Obj) (h : ours mine o = false) : mine o = false := by unfold ours at h; simp at h; exact h.1
theorem still_put {mine : Obj → Bool} {B l : Nat} {W : World} {o : Obj} (o' : Obj) (hl : W.heap[l]? = some o) (ho : o.isCells = false) (hB : B ≤ l) : Still (ours mine) B W (W.putObj l o') := by
  have hlt := (Array.getElem?_eq_some_iff.1 hl).1
  refine ⟨⟨rfl, rfl, rfl, by simp, fun k hk => World.putObj_heap_other (by omega)⟩, fun k o2 hk hm => ?_⟩
  have hne : k ≠ l := fun e => by
    rw [e, hl] at hk
    injection hk with hk
    rw [← hk] at hm
    unfold ours at hm
    rw [ho] at hm
    simp at hm
  exact (World.putObj_heap_other hne).trans hk

/-- An iterator's contract: whatever the caller's invariants that bear its steps, the elements come one by one; a round may say 'no more'. -/
def Gives {α : Type} (mine : Obj → Bool) (n : Nat) (P : Program) (gf : Nat) (lb : Array Value) (encs : α → Array Value) (Kp : World → World → Prop) (El : List α → α → World → Prop) (S Sp : List α → Prop) (N : Nat) (w : World) : Prop :=
  ∀ (l : Nat) (J Jx : List α → World → Prop) (W : World), Below w.heap.size w W →
    (∀ s A B, J s A → Still mine W.heap.size A B → J s B) → (∀ s A B, Jx s A → Still mine W.heap.size A B → Jx s B) →
    (∀ pre x A, J pre A → pre.length < N → El pre x A → YieldAt Fence.wide (n - 1) P l (encs x) A fun e B =>
      (e = .returned (.bool true) ∧ J (pre ++ [x]) B ∧ Kp A B) ∨ (e = .returned (.bool false) ∧ Jx (pre ++ [x]) B)) →
    J [] W →
    CallsIn Fence.wide n P gf (#[.func (.yield l) #[] #[]] ++ lb) W fun e B => (∃ v, e = .returned v) ∧ ((∃ xs, S xs ∧ J xs B) ∨ (∃ pre, Sp pre ∧ Jx pre B))

theorem range_mine {α : Type} {g : Operand} {ps : Array Tmp} {assign body : Code} {Q : Exit → Act → World → Prop} {a : Act} {w : World} (h1 : 1 ≤ n)
    {gf : Nat} {lb : Array Value} (hg : a.eval g = .func (.func gf) #[] lb) (eg : ∀ args w, (callFunc gf args).run P w = .ok (.enter gf args) w)
    {mine : Obj → Bool} (hmine : ∀ o, o.isCells = false → mine o = false)
    {encs : α → Array Value} {Kp : World → World → Prop} {El : List α → α → World → Prop} {S Sp : List α → Prop} {N : Nat} (hseq : Gives mine (n - 1) P gf lb encs Kp El S Sp N w)
    (hKt : ∀ {A B C : World}, Kp A B → Kp B C → Kp A C) (hKb : ∀ (W : World) (l : Nat) (o o' : Obj), w.heap.size ≤ l → W.heap[l]? = some o → o.isCells = false → Kp W (W.putObj l o')) (hps : ∀ x, (encs x).size = ps.size)
    (I : List α → World → Prop) (Ix : Code → List α → World → Prop) (hI : ∀ s A B, I s A → Still (ours mine) w.heap.size A B → I s B) (hIx : ∀ c s A B, Ix c s A → Still (ours mine) w.heap.size A B → Ix c s B) (h0 : I [] w)
    (Rb : List α → α → Act → World → Prop) (hRb : ∀ pre x a₁ (A : World) (l : Nat) (o o' : Obj), Rb pre x a₁ A → w.heap.size ≤ l → A.heap[l]? = some o → o.isCells = false → Rb pre x a₁ (A.putObj l o')) (hKa : ∀ A B : World, w.heap.size ≤ A.heap.size → Below A.heap.size A B → Kp A B)
    (hassign : ∀ (l : Nat) (pre : List α) (x : α) (W : World) (K : Act → World → Prop), I pre W → El pre x W → (∀ a₁ V, Below W.heap.size W V → Rb pre x a₁ V → K a₁ V) →
      assign.wpIn (Fence.wide.inRound l) (n - 1 - 1) P (Exit.then K (fun _ _ _ => False)) { tmps := (ps.zip (encs x)).foldl (fun t (p, v) => t.setIfInBounds p v) a.tmps, defers := [] } W)
    (hbody : ∀ (l : Nat) (pre : List α) (x : α) (a₁ : Act) (W : World), Rb pre x a₁ W → pre.length < N → body.wpIn (Fence.wide.inRound l) (n - 1 - 1) P (ownPostG w.heap.size Kp I Ix (pre ++ [x]) W) a₁ W)
    (hdone : ∀ (D : Nat) (xs : List α) (W : World), w.heap.size ≤ D → S xs → I xs W → W.heap[D]? = some (.deferred (some [])) → Q .normal { a with defers := { target := .collected D, args := #[] } :: a.defers } W)
    (hstop : ∀ (D : Nat) (c : Code) (pre : List α) (W : World), w.heap.size ≤ D → Sp pre → Ix c pre W → W.heap[D]? = some (.deferred (some [])) → c.wpIn Fence.wide n P Q { a with defers := { target := .collected D, args := #[] } :: a.defers } W) :
    (Code.rangeFunc g ps assign body).wpIn Fence.wide n P Q a w := by
  refine wpIn_rangeFunc fun fn hfn => ?_
  -- the loop's record lies at L, the block for what its rounds defer at w.heap.size
  obtain ⟨rec, hrec⟩ : ∃ rec : LoopState → Option Code → Loop, rec = fun st pe => { state := st, pending := pe, fn, tmps := a.tmps, params := ps, assign, body, defers := w.heap.size } := ⟨_, rfl⟩
  obtain ⟨L, hL⟩ : ∃ L, L = w.heap.size + 1 := ⟨_, rfl⟩
  obtain ⟨W1, hW1⟩ : ∃ W1, W1 = (w.alloc (.deferred (some []))).alloc (.loop (rec .ready none)) := ⟨_, rfl⟩
  have enters : (Instr.enterLoop fn a.tmps ps assign body none).run P w = .ok (L, [{ target := .collected w.heap.size, args := #[] }]) W1 := by
    rw [hW1, hrec, hL]; exact run_enterLoop_outer _ _ _ _ _
  have recAt : W1.heap[L]? = some (.loop (rec .ready none)) := by
    rw [hW1, hL, show w.heap.size + 1 = (w.alloc (.deferred (some []))).heap.size by simp]; exact World.alloc_heap_new _ _
  have defAt : W1.heap[w.heap.size]? = some (.deferred (some [])) := by
    rw [hW1]; exact (Below.heap_alloc _ _ _ (by simp)).trans (World.alloc_heap_new w _)
  have size1 : W1.heap.size = w.heap.size + 2 := by rw [hW1]; simp
  have below1 : Below w.heap.size w W1 := by rw [hW1]; exact ((Below.refl _ w).alloc (Nat.le_refl _) _).alloc (by simp) _
  have res : (resolve a.eval (rangeCall g L) 0).run P W1 = .ok { target := .fn (.func gf) lb, args := #[.func (.yield L) #[] #[]] } W1 := by
    simp only [resolve, hg]; simp [go_sem]
  have inv : (invoke (.fn (.func gf) lb) #[.func (.yield L) #[] #[]]).run P W1 = .ok (.enter gf (#[.func (.yield L) #[] #[]] ++ lb)) W1 := by
    simp [invoke, go_sem, eg]
  refine ⟨L, _, W1, _, W1, gf, _, W1, enters, res, fun _ _ => trivial, inv, fun _ => h1, ?_⟩
  have notMine : ∀ o : Obj, o.isCells = false → ours mine o = true := fun o ho => by unfold ours; rw [ho]; simp
  -- what the iterator is handed: the caller's invariant, and the two blocks of the loop's own
  have go := hseq L (fun s W => I s W ∧ W.heap[L]? = some (.loop (rec .ready none)) ∧ W.heap[w.heap.size]? = some (.deferred (some [])))
    (fun s W => ∃ c, Ix c s W ∧ W.heap[L]? = some (.loop (rec .done (some c))) ∧ W.heap[w.heap.size]? = some (.deferred (some []))) W1 below1
    (fun s A B h m => ⟨hI s A B h.1 (m.wider ours_mine (by omega)), m.kept _ _ h.2.1 (hmine _ rfl), m.kept _ _ h.2.2 (hmine _ rfl)⟩)
    (fun s A B ⟨c, h⟩ m => ⟨c, hIx c s A B h.1 (m.wider ours_mine (by omega)), m.kept _ _ h.2.1 (hmine _ rfl), m.kept _ _ h.2.2 (hmine _ rfl)⟩)
  refine (go ?_ ⟨hI _ _ _ h0 (Still.of_below below1 (Nat.le_refl _)), recAt, defAt⟩).mono ?_
  · rintro pre x W ⟨hi, hl, hd⟩ hlen hel
    have hlt := (Array.getElem?_eq_some_iff.1 hl).1
    have yields := run_yield (P := P) (args := encs x) hl (by rw [hrec]; exact hps x)
    rw [hrec] at yields
    refine ⟨fn, _, assign, body, yields, roundIn_of_wpIn hfn (hassign _ pre x W _ hi hel fun a₁ V hV hrb => ?_)⟩
    have hlV : V.heap[L]? = some (.loop (rec .ready none)) := (hV.block L hlt).trans hl
    have hltV : L < V.heap.size := Nat.lt_of_lt_of_le hlt hV.size
    refine ⟨_, run_beginRound hlV (by rw [hrec]), ?_⟩
    obtain ⟨W2, hW2⟩ : ∃ W2, W2 = V.putObj L (.loop { rec .ready none with state := .busy }) := ⟨_, rfl⟩
    have rec2 : W2.heap[L]? = some (.loop { rec .ready none with state := .busy }) := by rw [hW2]; exact World.putObj_heap_same hltV
    have def2 : W2.heap[w.heap.size]? = some (.deferred (some [])) := by rw [hW2]; exact (World.putObj_heap_other (by omega)).trans ((hV.block _ (Array.getElem?_eq_some_iff.1 hd).1).trans hd)
    have rb2 : Rb pre x a₁ W2 := by rw [hW2]; exact hRb _ _ _ _ _ _ _ hrb (by omega) hlV rfl
    have kp2 : Kp W W2 := by rw [hW2]; exact hKt (hKa W V (by omega) hV) (hKb _ _ _ _ (by omega) hlV rfl)
    -- a round's end: its record is ready again, or done
    have ending : ∀ (jump : Option Code) (W3 : World), KeepsFrom w.heap.size W2 W3 → ∃ W4,
        (Instr.endRound L jump).run P W3 = .ok (.bool jump.isNone) W4 ∧ W4.heap[L]? = some (.loop (rec (if jump.isNone then .ready else .done) jump)) ∧ W4.heap[w.heap.size]? = some (.deferred (some [])) ∧ Still (ours mine) w.heap.size W3 W4 ∧ Kp W3 W4 := fun jump W3 k3 => by
      have rec3 := k3.same L _ (by omega) rec2 rfl
      have run := run_endRound (P := P) jump rec3
      refine ⟨_, run, ?_, (World.putObj_heap_other (by omega)).trans (k3.same _ _ (Nat.le_refl _) def2 rfl), still_put _ rec3 rfl (by omega), hKb _ _ _ _ (by omega) rec3 rfl⟩
      rw [World.putObj_heap_same (Array.getElem?_eq_some_iff.1 rec3).1, hrec]
    rw [← hW2]
    refine wpIn_mono (hbody L pre x a₁ W2 rb2 hlen) ?_
    rintro e a3 W3 hp
    match e, hp with
    | .normal, ⟨k3, kp3, i3⟩ =>
      obtain ⟨W4, run, r4, d4, s4, kp4⟩ := ending none W3 k3
      exact ⟨_, W4, run, .inl ⟨rfl, ⟨hI _ _ _ i3 s4, r4, d4⟩, hKt (hKt kp2 kp3) kp4⟩⟩
    | .ret, ⟨k3, i3⟩ =>
      obtain ⟨W4, run, r4, d4, s4, _⟩ := ending (some .ret) W3 k3
      exact ⟨_, W4, run, .inr ⟨rfl, _, hIx _ _ _ _ i3 s4, r4, d4⟩⟩
    | .exit id, ⟨k3, i3⟩ =>
      obtain ⟨W4, run, r4, d4, s4, _⟩ := ending (some (.exit id)) W3 k3
      exact ⟨_, W4, run, .inr ⟨rfl, _, hIx _ _ _ _ i3 s4, r4, d4⟩⟩
    | .goto t, ⟨k3, i3⟩ =>
      obtain ⟨W4, run, r4, d4, s4, _⟩ := ending (some (.goto t)) W3 k3
      exact ⟨_, W4, run, .inr ⟨rfl, _, hIx _ _ _ _ i3 s4, r4, d4⟩⟩
  · rintro e W2 ⟨⟨v, rfl⟩, ⟨xs, hS, hi, hl, hd⟩ | ⟨pre, hSp, c, hi, hl, hd⟩⟩
    · have hend : (Instr.endLoop L).run P W2 = .ok none (W2.putObj L (.loop (rec .exhausted none))) := by
        have := run_endLoop (P := P) hl (by rw [hrec]; simp)
        rw [hrec] at this ⊢
        exact this
      exact ⟨none, _, hend, hdone _ xs _ (Nat.le_refl _) hS (hI _ _ _ hi (still_put _ hl rfl (by omega))) ((World.putObj_heap_other (by omega)).trans hd)⟩
    · have hend : (Instr.endLoop L).run P W2 = .ok (some c) (W2.putObj L (.loop (rec .exhausted (some c)))) := by
        have := run_endLoop (P := P) hl (by rw [hrec]; simp)
        rw [hrec] at this ⊢
        exact this
      exact ⟨some c, _, hend, hstop _ c pre _ (Nat.le_refl _) hSp (hIx _ _ _ _ hi (still_put _ hl rfl (by omega))) ((World.putObj_heap_other (by omega)).trans hd)⟩
end Go.Proofs.Yticiofpbijahbaa
end

section
namespace Go.Proofs.Yticiofpbijahbaa
open Go.RowKit Go.Sort

/-- Q, at a normal end alone. -/
def AtEnd (Q : Exit → Act → World → Prop) : Exit → Act → World → Prop
  | .normal, a, w => Q .normal a w
  | _, _, _ => False
theorem AtEnd.imp {Q : Exit → Act → World → Prop} : ∀ (e : Exit) (a : Act) (w : World), AtEnd Q e a w → Q e a w := fun e a w h => by
  cases e <;> first | exact h | exact (h : False).elim
theorem AtEnd.no {Q : Exit → Act → World → Prop} : ¬ LetsOut (AtEnd Q) := fun ⟨_, _, h⟩ => h
def isDefer : Op → Bool
  | .defer _ => true
  | _ => false
/-- No operation defers. -/
def calmB (ops : Array Oper) : Bool := ops.toList.all fun o => !isDefer o.op
section
variable {P : Program} {ops : Array Oper} {Q : Exit → Act → World → Prop} {l n : Nat}
theorem calm_at (hd : calmB ops = true) {i : Nat} {o : Oper} (h : ops[i]? = some o) : ∀ c, o.op ≠ .defer c := by
  intro c hc
  unfold calmB at hd
  rw [List.all_eq_true] at hd
  have := hd o (List.mem_of_getElem? (i := i) (by simpa using h))
  rw [hc] at this
  cases this
theorem op_round {o : Oper} (ho : ∀ c, o.op ≠ .defer c) {a : Act} {w : World} {K K' : Act → World → Prop} (hK : ∀ a w, K a w → K' a w) (h : o.wp P a w K (AtEnd Q)) : o.wpIn (Fence.wide.inRound l) n P a w K' (AtEnd Q) := by
  refine ⟨fun _ _ => trivial, ?_⟩
  rw [Oper.semAt_plain _ _ _ ho]
  unfold Oper.wp at h
  generalize (execOp a.eval o).run P w = r at *
  have hnd : (Fence.wide.inRound l).depth.isSome = true → 1 ≤ n := fun h => by cases h
  cases r with
  | ok x w' =>
    cases x <;> simp only [Oper.upon, Oper.uponIn] at h ⊢
    case value u => exact hK _ _ h
    case skip => exact hK _ _ h
    case defer d => exact hK _ _ h
    case enter f args =>
      refine ⟨hnd, CallsIn.inRound l (callsIn_wide.2 (Calls.mono h fun e w'' he => ?_))⟩
      cases e with
      | returned u => exact hK _ _ he
      | panicked c => exact he
      | outgrown => exact he
    case row row args =>
      refine ⟨hnd, fun c cs _ => ?_⟩
      obtain ⟨v, w'', hr, hs⟩ := h c cs
      exact ⟨v, w'', hK _ _ hr, stepsIn_wide.2 hs⟩
  | halt x w' =>
    cases x <;> simp only [Oper.upon, Oper.uponIn] at h ⊢
    case panic u => exact h
theorem any_round (hd : calmB ops = true) {md : Region.Mode} : ∀ (fuel : Nat) (listed : Array Bool) (a : Act) (w : World), wpAny P md ops (AtEnd Q) fuel listed a w → wpAnyIn (Fence.wide.inRound l) n P md ops (AtEnd Q) fuel listed a w := by
  intro fuel
  induction fuel with
  | zero => intro listed a w h; exact h
  | succ fuel ih =>
    intro listed a w h
    refine ⟨h.1, fun i hi => ?_⟩
    have h2 := h.2 i hi
    unfold wpOp at h2
    unfold wpOpIn
    cases ho : ops[i]? with
    | none => rw [ho] at h2; exact ih _ _ _ h2
    | some o =>
      rw [ho] at h2
      dsimp only at h2 ⊢
      split
      · rename_i hw
        rw [if_pos hw] at h2
        rcases h2 with h2 | h2
        · exact op_round (calm_at hd ho) (fun a w => ih _ a w) h2
        · exact absurd h2.2 AtEnd.no
      · rename_i hw
        rw [if_neg hw] at h2
        exact ⟨fun _ _ => trivial, ih _ _ _ h2⟩
theorem region_any {id : Nat} {a : Act} {w : World} (hm : P.follows .mixedOrders = true) (hd : calmB ops = true)
    (h : wpAny P .any ops (AtEnd Q) ops.size (Array.replicate ops.size false) a { w with drawn := w.drawn + 1 }) : (Code.region id ops true).wpIn (Fence.wide.inRound l) n P Q a w :=
  wpIn_mono (wpIn_region_any hm (any_round hd _ _ _ _ h)) AtEnd.imp
/-- By one condition on the world. -/
theorem region_held {S : World → Prop} {id : Nat} {a : Act} {w : World} (hm : P.follows .mixedOrders = true) (hd : calmB ops = true) (hS : S w.drew)
    (h : S w.drew → wpAnyH P .any ops (AtEnd Q) S ops.size (Array.replicate ops.size false) a w.drew) : (Code.region id ops true).wpIn (Fence.wide.inRound l) n P Q a w :=
  region_any hm hd (wpAny_of_held _ _ _ _ (h hS))
/-- It reads alone. -/
theorem region_quiet {id : Nat} {a : Act} {w : World} {L : List Oper} (hm : P.follows .mixedOrders = true) (hd : calmB L.toArray = true) (hB : Region.lexB .any L.toArray = true)
    (h : wpQuiet P L.toArray (fun w' => ∃ p : Regrown, w' = grow (redrawn w p.d) p.os) (fun a' => ∀ w', (∃ p : Regrown, w' = grow (redrawn w p.d) p.os) → Q .normal a' w') L a) : (Code.region id L.toArray true).wpIn (Fence.wide.inRound l) n P Q a w := by
  refine region_any hm hd ?_
  simp only [Region.lexB, Bool.and_eq_true] at hB
  have hC : ∃ p : Regrown, ({ w with drawn := w.drawn + 1 } : World) = grow (redrawn w p.d) p.os := ⟨⟨w.drawn + 1, #[]⟩, by rw [grow_empty]; rfl⟩
  refine wpAny_of_quiet (Q := fun a' => ∀ w', (∃ p : Regrown, w' = grow (redrawn w p.d) p.os) → Q .normal a' w') (Q' := AtEnd Q) (fun _ w' hw' h => h w' hw') _ _ _ _ hC ?_
  have := wpAnyQ_lex (C := fun w' => ∃ p : Regrown, w' = grow (redrawn w p.d) p.os) (md := .any) hB.1 L 0 (Array.replicate L.toArray.size false) a (by simp) (by simpa using hB.2) h
  simpa using this

variable {S : World → Prop} {md : Region.Mode}
/-- An operation that yields its value wherever S holds is taken first. -/
theorem takeH {i d fuel : Nat} {o : Oper} {v : Value} {listed listed' : Array Bool} {ts ts' : Array Value} {w : World} (hi : ops[i]? = some o)
    (hs : Region.noSelect ops = true) (hf : Region.free md ops listed i = true) (hr : (Region.ready md ops listed).contains i = true) (hg : o.guard = none) (hd : o.dst = some d) (hS : S w)
    (hy : ∀ w, S w → (execOp (Act.eval ⟨ts, []⟩) o).run P w = .ok (.value v) w) (hl : listed.setIfInBounds i true = listed') (ht : ts.setIfInBounds d v = ts')
    (h : wpAnyH P md ops (AtEnd Q) S fuel listed' ⟨ts', []⟩ w) : wpAnyH P md ops (AtEnd Q) S (fuel + 1) listed ⟨ts, []⟩ w := by
  refine wpAnyH_take hi hs hf hr (fun _ _ _ h => h) (Or.inl ⟨by simp [Region.wanted, hg], hy⟩) hS ?_
  rw [hl, hd]
  unfold Act.put
  simp only [ht]
  exact h
/-- The rest, behind one that is carried out. -/
def BackH (P : Program) (md : Region.Mode) (ops : Array Oper) (Q : Exit → Act → World → Prop) (S : World → Prop) (fuel : Nat) (listed : Array Bool) (ts : Array Value) (w : World) (i : Nat) : Prop :=
  wpOp P ops (AtEnd Q) i (fun a' w' => S w' ∧ wpAnyH P md ops (AtEnd Q) S fuel (listed.setIfInBounds i true) a' w') ⟨ts, []⟩ w
theorem oneH {i fuel : Nat} {listed : Array Bool} {ts : Array Value} {w : World} (hr : Region.ready md ops listed = [i]) (h : BackH P md ops Q S fuel listed ts w i) : wpAnyH P md ops (AtEnd Q) S (fuel + 1) listed ⟨ts, []⟩ w :=
  wpAnyH_all hr (by simp) fun j hj => by obtain rfl := List.mem_singleton.1 hj; exact h
theorem twoH {i k fuel : Nat} {listed : Array Bool} {ts : Array Value} {w : World} (hr : Region.ready md ops listed = [i, k]) (h : BackH P md ops Q S fuel listed ts w i) (h2 : BackH P md ops Q S fuel listed ts w k) : wpAnyH P md ops (AtEnd Q) S (fuel + 1) listed ⟨ts, []⟩ w :=
  wpAnyH_all hr (by simp) fun j hj => by
    rcases List.mem_cons.1 hj with rfl | hj
    · exact h
    · obtain rfl := List.mem_singleton.1 hj; exact h2
theorem runH {i d fuel : Nat} {o : Oper} {v : Value} {listed listed' : Array Bool} {ts ts' : Array Value} {w w' : World} (hi : ops[i]? = some o) (hg : o.guard = none) (hd : o.dst = some d)
    (hrun : (execOp (Act.eval ⟨ts, []⟩) o).run P w = .ok (.value v) w') (hS : S w') (hl : listed.setIfInBounds i true = listed') (ht : ts.setIfInBounds d v = ts')
    (h : wpAnyH P md ops (AtEnd Q) S fuel listed' ⟨ts', []⟩ w') : BackH P md ops Q S fuel listed ts w i := by
  unfold BackH wpOp
  rw [hi]
  dsimp only
  rw [if_pos (by simp [Region.wanted, hg])]
  refine .inl ?_
  unfold Oper.wp
  rw [hrun]
  refine ⟨hS, ?_⟩
  rw [hl, hd]
  unfold Act.put
  simp only [ht]
  exact h
theorem skipH {i fuel : Nat} {o : Oper} {v : Next} {listed listed' : Array Bool} {ts : Array Value} {w w' : World} (hi : ops[i]? = some o) (hg : o.guard = none) (hd : o.dst = none)
    (hrun : (execOp (Act.eval ⟨ts, []⟩) o).run P w = .ok v w') (hv : v = .skip ∨ ∃ u, v = .value u) (hS : S w') (hl : listed.setIfInBounds i true = listed')
    (h : wpAnyH P md ops (AtEnd Q) S fuel listed' ⟨ts, []⟩ w') : BackH P md ops Q S fuel listed ts w i := by
  unfold BackH wpOp
  rw [hi]
  dsimp only
  rw [if_pos (by simp [Region.wanted, hg])]
  refine .inl ?_
  unfold Oper.wp
  rw [hrun]
  rcases hv with rfl | ⟨u, rfl⟩
  all_goals
    refine ⟨hS, ?_⟩
    rw [hl, hd]
    exact h
theorem callH {i d fuel f : Nat} {args : Array Value} {o : Oper} {v : Value} {listed listed' : Array Bool} {ts ts' : Array Value} {w : World} (hi : ops[i]? = some o) (hg : o.guard = none) (hd : o.dst = some d)
    (hrun : (execOp (Act.eval ⟨ts, []⟩) o).run P w = .ok (.enter f args) w) (hc : Calls P f args w fun r w' => r = .returned v ∧ w = w') (hS : S w) (hl : listed.setIfInBounds i true = listed') (ht : ts.setIfInBounds d v = ts')
    (h : wpAnyH P md ops (AtEnd Q) S fuel listed' ⟨ts', []⟩ w) : BackH P md ops Q S fuel listed ts w i := by
  unfold BackH wpOp
  rw [hi]
  dsimp only
  rw [if_pos (by simp [Region.wanted, hg])]
  refine .inl ?_
  unfold Oper.wp
  rw [hrun]
  refine hc.mono ?_
  rintro r w' ⟨rfl, rfl⟩
  refine ⟨hS, ?_⟩
  rw [hl, hd]
  unfold Act.put
  simp only [ht]
  exact h
/-- An append, out of the builtin's run. -/
theorem exec_append {o : Oper} {a : Act} {s x : Operand} {t : TypeId} (ho : o.op = .call { callee := .builtin .append, args := #[s, x], argTypes := #[t, t] }) {v1 v2 r : Value} {w w' : World} (h1 : a.eval s = v1) (h2 : a.eval x = v2)
    (hrun : (Builtin.append_ #[t, t] o.type #[v1, v2]).run P w = .ok r w') : (execOp a.eval o).run P w = .ok (.value r) w' := by
  unfold execOp
  simp only [ho, resolve, invoke, builtin, Sem.run_bind, Sem.run_pure, Result.andThen_ok, List.map_toArray, List.map_cons, List.map_nil, h1, h2, hrun]
/-- By one condition on the world, from a state that is written out. -/
theorem region_by {S : World → Prop} {id k : Nat} {ts : Array Value} {w : World} {listed : Array Bool} (hm : P.follows .mixedOrders = true) (hd : calmB ops = true) (hk : ops.size = k) (hl : Array.replicate k false = listed)
    (h : wpAnyH P .any ops (AtEnd Q) S k listed ⟨ts, []⟩ w.drew) : (Code.region id ops true).wpIn (Fence.wide.inRound l) n P Q ⟨ts, []⟩ w := by
  subst hk hl
  exact region_any hm hd (wpAny_of_held _ _ _ _ h)
end
end Go.Proofs.Yticiofpbijahbaa
end
