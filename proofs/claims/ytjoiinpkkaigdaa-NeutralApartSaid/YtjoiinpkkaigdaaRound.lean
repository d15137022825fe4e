/- A region that draws its order, within a round of a range over a function: what the plain walk shows of it serves there, too, if it defers nothing. No program is read here. -/
import Derived.Test.YtjoiinpkkaigdaaBase
import Derived.RangeFuncCalls
import Derived.OrdersIn
import Derived.Deep.RegionHeld3
import Derived.StillTail
import Derived.OwnWalkIn
namespace Go.Proofs.Ytjoiinpkkaigdaa
open Go.RowKit Go.Sort

/-- Q, at a normal end alone. -/
def AtEnd (Q : Exit → Act → World → Prop) : Exit → Act → World → Prop
  | .normal, a, w => Q .normal a w
  | _, _, _ => False
theorem AtEnd.imp {Q : Exit → Act → World → Prop} : ∀ (e : Exit) (a : Act) (w : World), AtEnd Q e a w → Q e a w := fun e a w h => by
  cases e <;> first | exact h | exact (h : False).elim
theorem AtEnd.no {Q : Exit → Act → World → Prop} : ¬ LetsOut (AtEnd Q) := fun ⟨_, _, h⟩ => h
def isDefer : Op → Bool
  | .defer _ => true
  | _ => false
/-- No operation defers. -/
def calmB (ops : Array Oper) : Bool := ops.toList.all fun o => !isDefer o.op
section
variable {P : Program} {ops : Array Oper} {Q : Exit → Act → World → Prop} {l n : Nat}
theorem calm_at (hd : calmB ops = true) {i : Nat} {o : Oper} (h : ops[i]? = some o) : ∀ c, o.op ≠ .defer c := by
  intro c hc
  unfold calmB at hd
  rw [List.all_eq_true] at hd
  have := hd o (List.mem_of_getElem? (i := i) (by simpa using h))
  rw [hc] at this
  cases this
theorem op_round {o : Oper} (ho : ∀ c, o.op ≠ .defer c) {a : Act} {w : World} {K K' : Act → World → Prop} (hK : ∀ a w, K a w → K' a w) (h : o.wp P a w K (AtEnd Q)) : o.wpIn (Fence.wide.inRound l) n P a w K' (AtEnd Q) := by
  refine ⟨fun _ _ => trivial, ?_⟩
  rw [Oper.semAt_plain _ _ _ ho]
  unfold Oper.wp at h
  generalize (execOp a.eval o).run P w = r at *
  have hnd : (Fence.wide.inRound l).depth.isSome = true → 1 ≤ n := fun h => by cases h
  cases r with
  | ok x w' =>
    cases x <;> simp only [Oper.upon, Oper.uponIn] at h ⊢
    case value u => exact hK _ _ h
    case skip => exact hK _ _ h
    case defer d => exact hK _ _ h
    case enter f args =>
      refine ⟨hnd, CallsIn.inRound l (callsIn_wide.2 (Calls.mono h fun e w'' he => ?_))⟩
      cases e with
      | returned u => exact hK _ _ he
      | panicked c => exact he
      | outgrown => exact he
    case row row args =>
      refine ⟨hnd, fun c cs _ => ?_⟩
      obtain ⟨v, w'', hr, hs⟩ := h c cs
      exact ⟨v, w'', hK _ _ hr, stepsIn_wide.2 hs⟩
  | halt x w' =>
    cases x <;> simp only [Oper.upon, Oper.uponIn] at h ⊢
    case panic u => exact h
theorem any_round (hd : calmB ops = true) {md : Region.Mode} : ∀ (fuel : Nat) (listed : Array Bool) (a : Act) (w : World), wpAny P md ops (AtEnd Q) fuel listed a w → wpAnyIn (Fence.wide.inRound l) n P md ops (AtEnd Q) fuel listed a w := by
  intro fuel
  induction fuel with
  | zero => intro listed a w h; exact h
  | succ fuel ih =>
    intro listed a w h
    refine ⟨h.1, fun i hi => ?_⟩
    have h2 := h.2 i hi
    unfold wpOp at h2
    unfold wpOpIn
    cases ho : ops[i]? with
    | none => rw [ho] at h2; exact ih _ _ _ h2
    | some o =>
      rw [ho] at h2
      dsimp only at h2 ⊢
      split
      · rename_i hw
        rw [if_pos hw] at h2
        rcases h2 with h2 | h2
        · exact op_round (calm_at hd ho) (fun a w => ih _ a w) h2
        · exact absurd h2.2 AtEnd.no
      · rename_i hw
        rw [if_neg hw] at h2
        exact ⟨fun _ _ => trivial, ih _ _ _ h2⟩
theorem region_any {id : Nat} {a : Act} {w : World} (hm : P.follows .mixedOrders = true) (hd : calmB ops = true)
    (h : wpAny P .any ops (AtEnd Q) ops.size (Array.replicate ops.size false) a { w with drawn := w.drawn + 1 }) : (Code.region id ops true).wpIn (Fence.wide.inRound l) n P Q a w :=
  wpIn_mono (wpIn_region_any hm (any_round hd _ _ _ _ h)) AtEnd.imp
/-- By one condition on the world. -/
theorem region_held {S : World → Prop} {id : Nat} {a : Act} {w : World} (hm : P.follows .mixedOrders = true) (hd : calmB ops = true) (hS : S w.drew)
    (h : S w.drew → wpAnyH P .any ops (AtEnd Q) S ops.size (Array.replicate ops.size false) a w.drew) : (Code.region id ops true).wpIn (Fence.wide.inRound l) n P Q a w :=
  region_any hm hd (wpAny_of_held _ _ _ _ (h hS))
/-- It reads alone. -/
theorem region_quiet {id : Nat} {a : Act} {w : World} {L : List Oper} (hm : P.follows .mixedOrders = true) (hd : calmB L.toArray = true) (hB : Region.lexB .any L.toArray = true)
    (h : wpQuiet P L.toArray (fun w' => ∃ p : Regrown, w' = grow (redrawn w p.d) p.os) (fun a' => ∀ w', (∃ p : Regrown, w' = grow (redrawn w p.d) p.os) → Q .normal a' w') L a) : (Code.region id L.toArray true).wpIn (Fence.wide.inRound l) n P Q a w := by
  refine region_any hm hd ?_
  simp only [Region.lexB, Bool.and_eq_true] at hB
  have hC : ∃ p : Regrown, ({ w with drawn := w.drawn + 1 } : World) = grow (redrawn w p.d) p.os := ⟨⟨w.drawn + 1, #[]⟩, by rw [grow_empty]; rfl⟩
  refine wpAny_of_quiet (Q := fun a' => ∀ w', (∃ p : Regrown, w' = grow (redrawn w p.d) p.os) → Q .normal a' w') (Q' := AtEnd Q) (fun _ w' hw' h => h w' hw') _ _ _ _ hC ?_
  have := wpAnyQ_lex (C := fun w' => ∃ p : Regrown, w' = grow (redrawn w p.d) p.os) (md := .any) hB.1 L 0 (Array.replicate L.toArray.size false) a (by simp) (by simpa using hB.2) h
  simpa using this

variable {S : World → Prop} {md : Region.Mode}
/-- An operation that yields its value wherever S holds is taken first. -/
theorem takeH {i d fuel : Nat} {o : Oper} {v : Value} {listed listed' : Array Bool} {ts ts' : Array Value} {w : World} (hi : ops[i]? = some o)
    (hs : Region.noSelect ops = true) (hf : Region.free md ops listed i = true) (hr : (Region.ready md ops listed).contains i = true) (hg : o.guard = none) (hd : o.dst = some d) (hS : S w)
    (hy : ∀ w, S w → (execOp (Act.eval ⟨ts, []⟩) o).run P w = .ok (.value v) w) (hl : listed.setIfInBounds i true = listed') (ht : ts.setIfInBounds d v = ts')
    (h : wpAnyH P md ops (AtEnd Q) S fuel listed' ⟨ts', []⟩ w) : wpAnyH P md ops (AtEnd Q) S (fuel + 1) listed ⟨ts, []⟩ w := by
  refine wpAnyH_take hi hs hf hr (fun _ _ _ h => h) (Or.inl ⟨by simp [Region.wanted, hg], hy⟩) hS ?_
  rw [hl, hd]
  unfold Act.put
  simp only [ht]
  exact h
/-- The rest, behind one that is carried out. -/
def BackH (P : Program) (md : Region.Mode) (ops : Array Oper) (Q : Exit → Act → World → Prop) (S : World → Prop) (fuel : Nat) (listed : Array Bool) (ts : Array Value) (w : World) (i : Nat) : Prop :=
  wpOp P ops (AtEnd Q) i (fun a' w' => S w' ∧ wpAnyH P md ops (AtEnd Q) S fuel (listed.setIfInBounds i true) a' w') ⟨ts, []⟩ w
theorem oneH {i fuel : Nat} {listed : Array Bool} {ts : Array Value} {w : World} (hr : Region.ready md ops listed = [i]) (h : BackH P md ops Q S fuel listed ts w i) : wpAnyH P md ops (AtEnd Q) S (fuel + 1) listed ⟨ts, []⟩ w :=
  wpAnyH_all hr (by simp) fun j hj => by obtain rfl := List.mem_singleton.1 hj; exact h
theorem twoH {i k fuel : Nat} {listed : Array Bool} {ts : Array Value} {w : World} (hr : Region.ready md ops listed = [i, k]) (h : BackH P md ops Q S fuel listed ts w i) (h2 : BackH P md ops Q S fuel listed ts w k) : wpAnyH P md ops (AtEnd Q) S (fuel + 1) listed ⟨ts, []⟩ w :=
  wpAnyH_all hr (by simp) fun j hj => by
    rcases List.mem_cons.1 hj with rfl | hj
    · exact h
    · obtain rfl := List.mem_singleton.1 hj; exact h2
theorem runH {i d fuel : Nat} {o : Oper} {v : Value} {listed listed' : Array Bool} {ts ts' : Array Value} {w w' : World} (hi : ops[i]? = some o) (hg : o.guard = none) (hd : o.dst = some d)
    (hrun : (execOp (Act.eval ⟨ts, []⟩) o).run P w = .ok (.value v) w') (hS : S w') (hl : listed.setIfInBounds i true = listed') (ht : ts.setIfInBounds d v = ts')
    (h : wpAnyH P md ops (AtEnd Q) S fuel listed' ⟨ts', []⟩ w') : BackH P md ops Q S fuel listed ts w i := by
  unfold BackH wpOp
  rw [hi]
  dsimp only
  rw [if_pos (by simp [Region.wanted, hg])]
  refine .inl ?_
  unfold Oper.wp
  rw [hrun]
  refine ⟨hS, ?_⟩
  rw [hl, hd]
  unfold Act.put
  simp only [ht]
  exact h
theorem skipH {i fuel : Nat} {o : Oper} {v : Next} {listed listed' : Array Bool} {ts : Array Value} {w w' : World} (hi : ops[i]? = some o) (hg : o.guard = none) (hd : o.dst = none)
    (hrun : (execOp (Act.eval ⟨ts, []⟩) o).run P w = .ok v w') (hv : v = .skip ∨ ∃ u, v = .value u) (hS : S w') (hl : listed.setIfInBounds i true = listed')
    (h : wpAnyH P md ops (AtEnd Q) S fuel listed' ⟨ts, []⟩ w') : BackH P md ops Q S fuel listed ts w i := by
  unfold BackH wpOp
  rw [hi]
  dsimp only
  rw [if_pos (by simp [Region.wanted, hg])]
  refine .inl ?_
  unfold Oper.wp
  rw [hrun]
  rcases hv with rfl | ⟨u, rfl⟩
  all_goals
    refine ⟨hS, ?_⟩
    rw [hl, hd]
    exact h
theorem callH {i d fuel f : Nat} {args : Array Value} {o : Oper} {v : Value} {listed listed' : Array Bool} {ts ts' : Array Value} {w : World} (hi : ops[i]? = some o) (hg : o.guard = none) (hd : o.dst = some d)
    (hrun : (execOp (Act.eval ⟨ts, []⟩) o).run P w = .ok (.enter f args) w) (hc : Calls P f args w fun r w' => r = .returned v ∧ w = w') (hS : S w) (hl : listed.setIfInBounds i true = listed') (ht : ts.setIfInBounds d v = ts')
    (h : wpAnyH P md ops (AtEnd Q) S fuel listed' ⟨ts', []⟩ w) : BackH P md ops Q S fuel listed ts w i := by
  unfold BackH wpOp
  rw [hi]
  dsimp only
  rw [if_pos (by simp [Region.wanted, hg])]
  refine .inl ?_
  unfold Oper.wp
  rw [hrun]
  refine hc.mono ?_
  rintro r w' ⟨rfl, rfl⟩
  refine ⟨hS, ?_⟩
  rw [hl, hd]
  unfold Act.put
  simp only [ht]
  exact h
/-- A call that turns the world. -/
theorem callE {i d fuel f : Nat} {args : Array Value} {o : Oper} {v : Value} {listed listed' : Array Bool} {ts ts' : Array Value} {w : World} (hi : ops[i]? = some o) (hg : o.guard = none) (hd : o.dst = some d)
    (hrun : (execOp (Act.eval ⟨ts, []⟩) o).run P w = .ok (.enter f args) w) (hl : listed.setIfInBounds i true = listed') (ht : ts.setIfInBounds d v = ts')
    (hc : Calls P f args w fun r w' => r = .returned v ∧ S w' ∧ wpAnyH P md ops (AtEnd Q) S fuel listed' ⟨ts', []⟩ w') : BackH P md ops Q S fuel listed ts w i := by
  unfold BackH wpOp
  rw [hi]
  dsimp only
  rw [if_pos (by simp [Region.wanted, hg])]
  refine .inl ?_
  unfold Oper.wp
  rw [hrun]
  refine hc.mono ?_
  rintro r w' ⟨rfl, hS, h⟩
  refine ⟨hS, ?_⟩
  rw [hl, hd]
  unfold Act.put
  simp only [ht]
  exact h
/-- An append, out of the builtin's run. -/
theorem exec_append {o : Oper} {a : Act} {s x : Operand} {t : TypeId} (ho : o.op = .call { callee := .builtin .append, args := #[s, x], argTypes := #[t, t] }) {v1 v2 r : Value} {w w' : World} (h1 : a.eval s = v1) (h2 : a.eval x = v2)
    (hrun : (Builtin.append_ #[t, t] o.type #[v1, v2]).run P w = .ok r w') : (execOp a.eval o).run P w = .ok (.value r) w' := by
  unfold execOp
  simp only [ho, resolve, invoke, builtin, Sem.run_bind, Sem.run_pure, Result.andThen_ok, List.map_toArray, List.map_cons, List.map_nil, h1, h2, hrun]
/-- By one condition on the world, from a state that is written out. -/
theorem region_by {S : World → Prop} {id k : Nat} {ts : Array Value} {w : World} {listed : Array Bool} (hm : P.follows .mixedOrders = true) (hd : calmB ops = true) (hk : ops.size = k) (hl : Array.replicate k false = listed)
    (h : wpAnyH P .any ops (AtEnd Q) S k listed ⟨ts, []⟩ w.drew) : (Code.region id ops true).wpIn (Fence.wide.inRound l) n P Q ⟨ts, []⟩ w := by
  subst hk hl
  exact region_any hm hd (wpAny_of_held _ _ _ _ h)
end
end Go.Proofs.Ytjoiinpkkaigdaa
