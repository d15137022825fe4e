/- A walk that knows of which function its frame is: sequences, blocks, a range over a function whose rounds go on or panic, and a function's contract out of it, deferred calls and all. No program is read here. -/
import Derived.Test.YtjbpjnnflcmmhaaGreatDoorRound
import Derived.RangeFuncLeaves
import Derived.RangeFuncRecord
namespace Go.Proofs.YtjbpjnnflcmmhaaGreatDoor
variable {n : Nat} {P : Program}

/-- A walk of the code c in a frame of function f. -/
def wpAt (P : Program) (f : FuncId) (c : Code) (Q : Exit → Act → World → Prop) (a : Act) (w : World) : Prop :=
  ∀ (b : Frame) (k : List Item) (cs : List Frame), b.roundOf = none → b.fn = f →
    ∃ e a' w', Q e a' w' ∧ ArrivesIn (Machine.fenced P Fence.wide) P (lone (b.atR a (.code c :: k)) cs w) b k cs e a' w'

theorem wpAt_of {f : FuncId} {c : Code} {Q : Exit → Act → World → Prop} {a : Act} {w : World} (h : c.wpIn Fence.wide n P Q a w) : wpAt P f c Q a w :=
  fun b k cs hro _ => h b k cs hro trivial (room_wide _)

theorem wpAt_seq {f : FuncId} {x y : Code} {Q : Exit → Act → World → Prop} {a : Act} {w : World} (h : wpAt P f x (Exit.then (wpAt P f y Q) Q) a w) : wpAt P f (.seq x y) Q a w := by
  intro b k cs hro hf
  have first : StepsIn (Machine.fenced P Fence.wide) P (lone (b.atR a (.code (.seq x y) :: k)) cs w) (lone (b.atR a (.code x :: .code y :: k)) cs w) := .one (fenced_wide _ _) stepR_seq
  obtain ⟨e, a₁, w₁, post, way⟩ := h b (.code y :: k) cs hro hf
  have other : e ≠ .normal → Q e a₁ w₁ → ∃ e a' w', Q e a' w' ∧ ArrivesIn (Machine.fenced P Fence.wide) P (lone (b.atR a (.code (.seq x y) :: k)) cs w) b k cs e a' w' :=
    fun hne hq => ⟨e, a₁, w₁, hq, .of_steps first (.pass (x := .code y) rfl (fun _ _ => .inl hne) way)⟩
  cases e with
  | normal =>
    obtain ⟨e₂, a₂, w₂, post₂, way₂⟩ := post b k cs hro hf
    exact ⟨e₂, a₂, w₂, post₂, .of_steps (first.trans way) way₂⟩
  | exit id => exact other (by simp) post
  | goto l => exact other (by simp) post
  | ret => exact other (by simp) post
  | panic ch => exact other (by simp) post
  | outgrown => exact other (by simp) post

/-- It goes on or panics. -/
def onOr (K : Act → World → Prop) (Z : List PanicEntry → Act → World → Prop) : Exit → Act → World → Prop
  | .normal, a, w => K a w
  | .panic ch, a, w => Z ch a w
  | _, _, _ => False

theorem wpAt_block {f : FuncId} {id : Nat} {c : Code} {Q : Exit → Act → World → Prop} {a : Act} {w : World} (h : wpAt P f c (onOr (Q .normal) (fun ch => Q (.panic ch))) a w) : wpAt P f (.block id c) Q a w := by
  intro b k cs hro hf
  have first : StepsIn (Machine.fenced P Fence.wide) P (lone (b.atR a (.code (.block id c) :: k)) cs w) (lone (b.atR a (.code c :: .inBlock id :: k)) cs w) := .one (fenced_wide _ _) stepR_block
  obtain ⟨e, a₁, w₁, post, way⟩ := h b (.inBlock id :: k) cs hro hf
  match e, post, way with
  | .normal, post, way => exact ⟨.normal, a₁, w₁, post, first.trans (StepsIn.trans way (.one (fenced_wide _ _) stepR_inBlock))⟩
  | .panic ch, post, way => exact ⟨.panic ch, a₁, w₁, post, .of_steps first way⟩

/-- A range over a function, in a frame of function f: the record is laid; the one call; its end. -/
theorem wpAt_range {f : FuncId} {g : Operand} {ps : Array Tmp} {assign body : Code} {Q : Exit → Act → World → Prop} {a : Act} {w : World} {gf : Nat} {lb : Array Value}
    (hg : a.eval g = .func (.func gf) #[] lb) (eg : ∀ args w, (callFunc gf args).run P w = .ok (.enter gf args) w)
    (h : ∀ (rec : LoopState → Option Code → Loop) (W : World), rec = (fun st pe => { state := st, pending := pe, fn := f, tmps := a.tmps, params := ps, assign, body, defers := w.heap.size }) →
      W = (w.alloc (.deferred (some []))).alloc (.loop (rec .ready none)) →
      CallsIn Fence.wide n P gf (#[.func (.yield (w.heap.size + 1)) #[] #[]] ++ lb) W fun e W' =>
        (∃ v, e = .returned v ∧ W'.heap[w.heap.size + 1]? = some (.loop (rec .ready none)) ∧ Q .normal { a with defers := { target := .collected w.heap.size, args := #[] } :: a.defers } (W'.putObj (w.heap.size + 1) (.loop (rec .exhausted none)))) ∨
        (∃ ch, e = .panicked ch ∧ Q (.panic ch) { a with defers := { target := .collected w.heap.size, args := #[] } :: a.defers } W')) :
    wpAt P f (.rangeFunc g ps assign body) Q a w := by
  intro b k cs hro hf
  obtain ⟨rec, hrec⟩ : ∃ rec : LoopState → Option Code → Loop, rec = fun st pe => { state := st, pending := pe, fn := f, tmps := a.tmps, params := ps, assign, body, defers := w.heap.size } := ⟨_, rfl⟩
  obtain ⟨W, hW⟩ : ∃ W, W = (w.alloc (.deferred (some []))).alloc (.loop (rec .ready none)) := ⟨_, rfl⟩
  have he : (Instr.enterLoop b.fn a.tmps ps assign body b.roundOf).run P w = .ok (w.heap.size + 1, [{ target := .collected w.heap.size, args := #[] }]) W := by
    rw [hro, hf, hW, hrec]; exact run_enterLoop_outer _ _ _ _ _
  have hres : (resolve a.eval (rangeCall g (w.heap.size + 1)) 0).run P W = .ok { target := .fn (.func gf) lb, args := #[.func (.yield (w.heap.size + 1)) #[] #[]] } W := by
    simp only [resolve, hg]
    simp [go_sem]
  have hinv : (invoke (.fn (.func gf) lb) #[.func (.yield (w.heap.size + 1)) #[] #[]]).run P W = .ok (.enter gf (#[.func (.yield (w.heap.size + 1)) #[] #[]] ++ lb)) W := by
    simp [invoke, go_sem, eg]
  have enter := stepR_rangeFunc (P := P) (b := b) (a := a) (k := k) (cs := cs) (w := w) he hres hinv
  obtain ⟨e, w₃, fr, hR, way, hfn, out⟩ := (h rec W hrec hW).2 (b.atR { a with defers := [{ target := .collected w.heap.size, args := #[] }] ++ a.defers } (.inRangeFunc (w.heap.size + 1) :: k) :: cs) (room_wide _)
  rcases hR with ⟨v, rfl, hl, hq⟩ | ⟨ch, rfl, hq⟩
  · have hend : (Instr.endLoop (w.heap.size + 1)).run P w₃ = .ok none (w₃.putObj (w.heap.size + 1) (.loop (rec .exhausted none))) := by
      have := run_endLoop (P := P) hl (by rw [hrec]; simp)
      rw [hrec] at this ⊢
      exact this
    refine ⟨.normal, _, _, hq, ?_⟩
    refine StepsIn.head (fenced_wide _ _) enter (StepsIn.trans way (.head (fenced_wide _ _) (step_leave_returned out) ?_))
    rw [finish_atR_inRangeFunc]
    exact .one (fenced_wide _ _) (stepR_endRangeFunc hend)
  · refine ⟨.panic ch, _, w₃, hq, .inRangeFunc (w.heap.size + 1) :: k, .head (fenced_wide _ _) enter (StepsIn.trans way (.one (fenced_wide _ _) ?_))⟩
    rw [← Frame.raise_atR]
    exact step_leave_panicked out

/-- What is asked where a body is left: what it deferred is called. -/
def leavePost (n : Nat) (P : Program) (fn : Func) (R : Ending → World → Prop) : Exit → Act → World → Prop
  | .ret, a, w => LeavesInM Fence.wide n P fn a.tmps R a.defers .returning w
  | .panic ch, a, w => LeavesInM Fence.wide n P fn a.tmps R a.defers (.panicking ch) w
  | _, _, _ => False
/-- A function's contract out of such a walk of its body, with all that it defers. -/
theorem calls_of_wpAt {f : FuncId} {fn : Func} {c : Code} {args : Array Value} {w : World} {R : Ending → World → Prop} (hf : P.funcs[f]? = some fn) (hb : fn.body = some c)
    (h : wpAt P f c (leavePost n P fn R) { tmps := args ++ Array.replicate (fn.ntmps - args.size) undef, defers := [] } w) : Calls P f args w R := by
  refine (callsIn_wide (n := n)).1 ⟨trivial, fun cs hr => ?_⟩
  obtain ⟨b, hbb⟩ : ∃ b : Frame, b = { (default : Frame) with fn := f, kind := .normal, roundOf := none } := ⟨_, rfl⟩
  have start : Frame.enter P f args .normal = b.atR { tmps := args ++ Array.replicate (fn.ntmps - args.size) undef, defers := [] } [.code c] := by
    rw [hbb]; simp [Frame.enter, Frame.atR, hf, hb]
  have ek : b.kind = .normal := by rw [hbb]
  have ef : b.fn = f := by rw [hbb]
  have er : b.roundOf = none := by rw [hbb]
  obtain ⟨e, a', w', post, way⟩ := h b [] cs er ef
  rw [← start] at way
  match e, post, way with
  | .ret, post, way =>
    obtain ⟨todo, way⟩ := way.1 er
    obtain ⟨e', w'', fr', hR, way', hfn', out⟩ := leaves_stepsInM (F := Fence.wide) (n := n) a'.defers .returning w' { b.atR a' todo with mode := .returning } cs rfl rfl rfl (by show P.funcs[b.fn]? = _; rw [ef, hf]) ek trivial hr post
    exact ⟨e', w'', fr', hR, ComesIn.of_steps way way', hfn'.trans ef, out⟩
  | .panic ch, post, ⟨todo, way⟩ =>
    obtain ⟨e', w'', fr', hR, way', hfn', out⟩ := leaves_stepsInM (F := Fence.wide) (n := n) a'.defers (.panicking ch) w' { b.atR a' todo with mode := .panicking ch } cs rfl rfl rfl (by show P.funcs[b.fn]? = _; rw [ef, hf]) ek trivial hr post
    exact ⟨e', w'', fr', hR, ComesIn.of_steps way way', hfn'.trans ef, out⟩
end Go.Proofs.YtjbpjnnflcmmhaaGreatDoor
