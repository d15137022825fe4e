/- The contract of slices.SortFunc at pairs, by their first places. Conditions: the row is the caller's own, of at most 2^44. -/
/- A region that draws its order, within a round of a range over a function: what the plain walk shows of it serves there, too, if it defers nothing. No program is read here. -/
/- What of those that wait comes from the end on, found: as plain lists. And a scope in a fence as wide as all. No function of the program is walked here. -/
import Derived.Test.YtjlfgojblimobaaGreatA26
import Derived.Test.YtjlfgojblimobaaGreatA00
import Derived.RangeFuncCalls
import Derived.OrdersIn
import Derived.Deep.RegionHeld3
import Derived.StillTail
import Derived.OwnWalkIn
import Derived.StillTailTactics
import Derived.WalkMore
section
namespace Go.Proofs.YtjlfgojblimobaaGreat.S11
open Go.Shelf Go.RowKit Go.Lib
set_option maxRecDepth 100000

def enc2 (x : Int × Int) : List Value := [.int .i64 x.1, .int .i64 x.2]
def cf2 (x y : Int × Int) : Int := Lib.compareInt x.1 y.1
theorem lt2 (x y : Int × Int) : ltOf cf2 x y = decide (x.1 < y.1) := by
  unfold ltOf cf2 Lib.compareInt
  by_cases h1 : x.1 < y.1
  · simp [h1]
  · by_cases h2 : y.1 < x.1 <;> simp [h1, h2]
theorem swo2 : Go.Sort.SWO (ltOf cf2) where
  irrefl x := by rw [lt2]; simp
  trans x y z h1 h2 := by rw [lt2] at *; simp at *; omega
  ntrans x y z h1 h2 := by rw [lt2] at *; simp at *; omega
set_option maxHeartbeats 1000000 in
theorem closure2 (x y : Int × Int) (W : World) : Calls Tryz.prog 117 #[.agg #[.int .i64 x.1, .int .i64 x.2], .agg #[.int .i64 y.1, .int .i64 y.2]] W fun e w' => e = .returned (.int .i64 (cf2 x y)) ∧ ∃ q os', w' = Go.Sort.grow (W.drewN q) os' := by
  have hcon := fun W' => AnyG.cmp_Compare_int Tryz.cmpTwo x.1 y.1 W'
  change ∀ W', Calls Tryz.prog 118 _ _ _ at hcon
  unfold cf2
  generalize Lib.compareInt x.1 y.1 = r at hcon ⊢
  go_enter Tryz.func117, Tryz.ntmps117
  go_wp2_with (go_at_call 118; refine (hcon _).mono ?_; rintro e w' ⟨rfl, rfl⟩)
  go_ret
  exact ⟨rfl, 0, _, by rw [Go.Sort.alloc_eq_grow, Go.Sort.alloc_eq_grow, Go.Sort.grow_grow]; rfl⟩
theorem flat2 (d : Array (Int × Int)) : (Go.Sort.flatK enc2 2 d).toList = cells2 d.toList := by
  refine List.ext_getElem? fun t => ?_
  by_cases ht : t < d.size * 2
  · obtain ⟨j, hj⟩ : ∃ j, t / 2 = j := ⟨_, rfl⟩
    have hjd : j < d.size := by omega
    have hg := Go.Sort.get_flatK enc2 2 d t ht
    have hsz : t < (Go.Sort.flatK enc2 2 d).size := by simpa using ht
    rw [getElem!_pos _ t hsz] at hg
    rw [Array.getElem?_toList, Array.getElem?_eq_getElem hsz, hg, hj, getElem!_pos d j hjd]
    obtain ⟨h1, h2⟩ := cells2_at (l := d.toList) (j := j) (e := d[j]) (by rw [Array.getElem?_toList, Array.getElem?_eq_getElem hjd])
    rcases (show t = j * 2 ∨ t = j * 2 + 1 by omega) with e | e
    · rw [e, h1, show j * 2 % 2 = 0 by omega]
      rfl
    · rw [e, h2, show (j * 2 + 1) % 2 = 1 by omega]
      rfl
  · rw [List.getElem?_eq_none (by simp; omega), List.getElem?_eq_none (by rw [cells2_length]; simp; omega)]
theorem own_put {w : World} {base : Nat} {t : TypeId} {g n c q : Nat} {l : List (Int × Int)} {d : Array (Int × Int)} {os : Array Obj} (h : OwnT w base t (.slice (some ⟨g, 0, none⟩) n c) l) (hd : d.size = l.length) :
    OwnT (sortWorldK enc2 2 w g 0 q d os) base t (.slice (some ⟨g, 0, none⟩) n c) d.toList ∧
    (sortWorldK enc2 2 w g 0 q d os).os = w.os ∧ (sortWorldK enc2 2 w g 0 q d os).tape = w.tape ∧ (sortWorldK enc2 2 w g 0 q d os).output = w.output ∧ w.heap.size ≤ (sortWorldK enc2 2 w g 0 q d os).heap.size ∧ ∀ b, b < w.heap.size → b ≠ g → (sortWorldK enc2 2 w g 0 q d os).heap[b]? = w.heap[b]? := by
  obtain ⟨hx, h2⟩ := h
  rcases h2 with ⟨h1, _⟩ | ⟨g', cap, cur, hv, hbg, hg, hn, hm, hs, ht⟩
  · cases h1
  injection hv with e1 e2 e3
  injection e1 with e1
  injection e1 with e1
  subst e1 e3
  have hgl := (Array.getElem?_eq_some_iff.1 hg).1
  have hheap : (sortWorldK enc2 2 w g 0 q d os).heap = w.heap.modify g (Go.Sort.onCells (Go.Sort.putCells id 0 (Go.Sort.flatK enc2 2 d))) ++ os := rfl
  refine ⟨⟨by rw [cells2_length], .inr ⟨g, c, Go.Sort.putCells id 0 (Go.Sort.flatK enc2 2 d) cur, by rw [e2, ← hd]; rfl, hbg, ?_, by simp [hd]; omega, hm, by unfold Go.Sort.putCells; rw [Array.size_mapIdx, hs], ?_⟩⟩, rfl, rfl, rfl, by rw [hheap]; simp, fun b hb hne => ?_⟩
  · rw [hheap, Array.getElem?_append_left (by rw [Array.size_modify]; exact hgl), Array.getElem?_eq_getElem (by rw [Array.size_modify]; exact hgl), Array.getElem_modify_self]
    rw [Array.getElem?_eq_getElem hgl] at hg
    injection hg with hg
    rw [hg]
    rfl
  · rw [← flat2]
    refine List.ext_getElem? fun t => ?_
    rw [List.getElem?_take, Array.length_toList, hd]
    by_cases htl : t < l.length * 2
    · have hsz : t < (Go.Sort.flatK enc2 2 d).size := by simp [hd]; omega
      have hcs : t < cur.size := by rw [hs]; omega
      rw [if_pos htl, Array.getElem?_toList, Array.getElem?_toList, Array.getElem?_eq_getElem hsz]
      unfold Go.Sort.putCells
      rw [Array.getElem?_mapIdx, Array.getElem?_eq_getElem hcs, Option.map_some, if_pos ⟨by omega, by omega⟩, Nat.sub_zero, getElem!_pos _ t hsz]
      rfl
    · rw [if_neg htl, List.getElem?_eq_none (by simp [hd]; omega)]
  · rw [hheap, Array.getElem?_append_left (by rw [Array.size_modify]; exact hb), Array.getElem?_eq_getElem (by rw [Array.size_modify]; exact hb), Array.getElem_modify_of_ne (fun e => hne e.symm), Array.getElem?_eq_getElem hb]
set_option maxHeartbeats 4000000 in
theorem csort_any (base : Nat) (v : Value) (acc : List (Int × Int)) (w : World) (h : OwnT w base 96 v acc) (hl : acc.length ≤ 17592186044416) :
    Calls Tryz.prog 116 #[v, .func (.func 117) #[] #[]] w fun r w' => r = .returned (.tuple #[]) ∧ ∃ acc' : List (Int × Int), acc'.Perm acc ∧ (acc'.Pairwise fun a b => a.1 ≤ b.1) ∧ OwnT w' base 96 v acc' ∧
      w'.os = w.os ∧ w'.tape = w.tape ∧ w'.output = w.output ∧ w.heap.size ≤ w'.heap.size ∧ ∀ b, b < w.heap.size → v.ownBlock ≠ some b → w'.heap[b]? = w.heap[b]? := by
  cases acc with
  | nil =>
    have hv := h.2
    obtain ⟨A, c, rfl, -⟩ := own_form h
    have hS := AnyF.slices_SortFunc_none (P := Tryz.prog) (ρ := Tryz.sortTwo_ren) { Tryz.sortTwo with } A c (.func (.func 117) #[] #[]) w
    refine hS.mono ?_
    rintro e w' ⟨rfl, rfl⟩
    exact ⟨rfl, [], List.Perm.refl _, List.Pairwise.nil, h, rfl, rfl, rfl, Nat.le_refl _, fun _ _ _ => rfl⟩
  | cons a0 r0 =>
    obtain ⟨acc, hacc⟩ : ∃ acc, a0 :: r0 = acc := ⟨_, rfl⟩
    have hpos : 0 < acc.length := by rw [← hacc]; simp
    rw [hacc] at h hl ⊢
    clear hacc
    obtain ⟨A, c, rfl, -, -, -, hg⟩ := own_form h
    obtain ⟨g, rfl⟩ := hg hpos
    have hgl : g < w.heap.size := by
      obtain ⟨-, cs, m, h1⟩ := own_type h (k := g) rfl
      exact (Array.getElem?_eq_some_iff.1 h1).1
    have eg : ∀ args w, (callFunc 117 args).run Tryz.prog w = .ok (.enter 117 args) w := enters_of Tryz.func117 (by kernel_rfl) rfl
    have hH : Go.Sort.HoldsK enc2 2 w g 0 acc.toArray := by
      intro j hj
      have hj2 : j < acc.length * 2 := by simpa using hj
      refine ⟨?_, World.ownsRow.frozenAt h _⟩
      have hf := flat2 acc.toArray
      rw [List.toList_toArray] at hf
      rw [Nat.zero_add, World.ownsRow.cellAt h j hj2, ← hf, Array.getElem?_toList, Array.getElem?_eq_getElem hj, getElem!_pos _ j hj]
      rfl
    have hS := AnyQ.slices_SortFunc Tryz.sortTwo 2 Tryz.isAgg96 Tryz.sizeOf96 enc2 (fun _ => rfl) (fun x v hv => by simp [enc2] at hv; rcases hv with rfl | rfl <;> rfl) cf2 swo2 117 #[] g 0 c acc.toArray w eg (fun _ _ _ _ x y => closure2 x y _) hH hgl (by simp; omega)
    have hsz : acc.toArray.size = acc.length := by simp
    rw [hsz] at hS
    refine hS.mono ?_
    rintro e w' ⟨rfl, d', n, os, hp, hs, rfl⟩
    obtain ⟨p1, -, p3⟩ := hp
    have hd : d'.size = acc.length := by rw [p1, hsz]
    obtain ⟨o1, o2, o3, o4, o5, o6⟩ := own_put (q := n) (os := os) h hd
    refine ⟨rfl, d'.toList, ?_, ?_, o1, o2, o3, o4, o5, fun b hb hne => o6 b hb fun e => hne (by rw [e]; rfl)⟩
    · rw [← hd, Array.extract_size, show acc.toArray.extract 0 d'.size = acc.toArray by rw [hd, ← hsz, Array.extract_size]] at p3
      simpa using p3
    · refine List.pairwise_iff_getElem.2 fun i j hi hj hij => ?_
      rw [Array.length_toList] at hi hj
      have h1 := hs i j (Nat.zero_le _) hij (by rw [← hd]; exact hj)
      rw [lt2, getElem!_pos d' j hj, getElem!_pos d' i hi] at h1
      simp only [decide_eq_false_iff_not] at h1
      rw [Array.getElem_toList, Array.getElem_toList]
      omega
end Go.Proofs.YtjlfgojblimobaaGreat.S11
end

section
namespace Go.Proofs.YtjlfgojblimobaaGreat.S11
open Go.RowKit Go.Sort

def AtEnd (Q : Exit → Act → World → Prop) : Exit → Act → World → Prop
  | .normal, a, w => Q .normal a w
  | _, _, _ => False
theorem AtEnd.imp {Q : Exit → Act → World → Prop} : ∀ (e : Exit) (a : Act) (w : World), AtEnd Q e a w → Q e a w := fun e a w h => by
  cases e <;> first | exact h | exact (h : False).elim
theorem AtEnd.no {Q : Exit → Act → World → Prop} : ¬ LetsOut (AtEnd Q) := fun ⟨_, _, h⟩ => h
def isDefer : Op → Bool
  | .defer _ => true
  | _ => false
def calmB (ops : Array Oper) : Bool := ops.toList.all fun o => !isDefer o.op
section
variable {P : Program} {ops : Array Oper} {Q : Exit → Act → World → Prop} {l n : Nat}
theorem calm_at (hd : calmB ops = true) {i : Nat} {o : Oper} (h : ops[i]? = some o) : ∀ c, o.op ≠ .defer c := by
  intro c hc
  unfold calmB at hd
  rw [List.all_eq_true] at hd
  have := hd o (List.mem_of_getElem? (i := i) (by simpa using h))
  rw [hc] at this
  cases this
theorem op_round {o : Oper} (ho : ∀ c, o.op ≠ .defer c) {a : Act} {w : World} {K K' : Act → World → Prop} (hK : ∀ a w, K a w → K' a w) (h : o.wp P a w K (AtEnd Q)) : o.wpIn (Fence.wide.inRound l) n P a w K' (AtEnd Q) := by
  refine ⟨fun _ _ => trivial, ?_⟩
  rw [Oper.semAt_plain _ _ _ ho]
  unfold Oper.wp at h
  generalize (execOp a.eval o).run P w = r at *
  have hnd : (Fence.wide.inRound l).depth.isSome = true → 1 ≤ n := fun h => by cases h
  cases r with
  | ok x w' =>
    cases x <;> simp only [Oper.upon, Oper.uponIn] at h ⊢
    case value u => exact hK _ _ h
    case skip => exact hK _ _ h
    case defer d => exact hK _ _ h
    case enter f args =>
      refine ⟨hnd, CallsIn.inRound l (callsIn_wide.2 (Calls.mono h fun e w'' he => ?_))⟩
      cases e with
      | returned u => exact hK _ _ he
      | panicked c => exact he
      | outgrown => exact he
    case row row args =>
      refine ⟨hnd, fun c cs _ => ?_⟩
      obtain ⟨v, w'', hr, hs⟩ := h c cs
      exact ⟨v, w'', hK _ _ hr, stepsIn_wide.2 hs⟩
  | halt x w' =>
    cases x <;> simp only [Oper.upon, Oper.uponIn] at h ⊢
    case panic u => exact h
theorem any_round (hd : calmB ops = true) {md : Region.Mode} : ∀ (fuel : Nat) (listed : Array Bool) (a : Act) (w : World), wpAny P md ops (AtEnd Q) fuel listed a w → wpAnyIn (Fence.wide.inRound l) n P md ops (AtEnd Q) fuel listed a w := by
  intro fuel
  induction fuel with
  | zero => intro listed a w h; exact h
  | succ fuel ih =>
    intro listed a w h
    refine ⟨h.1, fun i hi => ?_⟩
    have h2 := h.2 i hi
    unfold wpOp at h2
    unfold wpOpIn
    cases ho : ops[i]? with
    | none => rw [ho] at h2; exact ih _ _ _ h2
    | some o =>
      rw [ho] at h2
      dsimp only at h2 ⊢
      split
      · rename_i hw
        rw [if_pos hw] at h2
        rcases h2 with h2 | h2
        · exact op_round (calm_at hd ho) (fun a w => ih _ a w) h2
        · exact absurd h2.2 AtEnd.no
      · rename_i hw
        rw [if_neg hw] at h2
        exact ⟨fun _ _ => trivial, ih _ _ _ h2⟩
theorem region_any {id : Nat} {a : Act} {w : World} (hm : P.follows .mixedOrders = true) (hd : calmB ops = true)
    (h : wpAny P .any ops (AtEnd Q) ops.size (Array.replicate ops.size false) a { w with drawn := w.drawn + 1 }) : (Code.region id ops true).wpIn (Fence.wide.inRound l) n P Q a w :=
  wpIn_mono (wpIn_region_any hm (any_round hd _ _ _ _ h)) AtEnd.imp
theorem region_quiet {id : Nat} {a : Act} {w : World} {L : List Oper} (hm : P.follows .mixedOrders = true) (hd : calmB L.toArray = true) (hB : Region.lexB .any L.toArray = true)
    (h : wpQuiet P L.toArray (fun w' => ∃ p : Regrown, w' = grow (redrawn w p.d) p.os) (fun a' => ∀ w', (∃ p : Regrown, w' = grow (redrawn w p.d) p.os) → Q .normal a' w') L a) : (Code.region id L.toArray true).wpIn (Fence.wide.inRound l) n P Q a w := by
  refine region_any hm hd ?_
  simp only [Region.lexB, Bool.and_eq_true] at hB
  have hC : ∃ p : Regrown, ({ w with drawn := w.drawn + 1 } : World) = grow (redrawn w p.d) p.os := ⟨⟨w.drawn + 1, #[]⟩, by rw [grow_empty]; rfl⟩
  refine wpAny_of_quiet (Q := fun a' => ∀ w', (∃ p : Regrown, w' = grow (redrawn w p.d) p.os) → Q .normal a' w') (Q' := AtEnd Q) (fun _ w' hw' h => h w' hw') _ _ _ _ hC ?_
  have := wpAnyQ_lex (C := fun w' => ∃ p : Regrown, w' = grow (redrawn w p.d) p.os) (md := .any) hB.1 L 0 (Array.replicate L.toArray.size false) a (by simp) (by simpa using hB.2) h
  simpa using this

variable {S : World → Prop} {md : Region.Mode}
theorem takeH {i d fuel : Nat} {o : Oper} {v : Value} {listed listed' : Array Bool} {ts ts' : Array Value} {w : World} (hi : ops[i]? = some o)
    (hs : Region.noSelect ops = true) (hf : Region.free md ops listed i = true) (hr : (Region.ready md ops listed).contains i = true) (hg : o.guard = none) (hd : o.dst = some d) (hS : S w)
    (hy : ∀ w, S w → (execOp (Act.eval ⟨ts, []⟩) o).run P w = .ok (.value v) w) (hl : listed.setIfInBounds i true = listed') (ht : ts.setIfInBounds d v = ts')
    (h : wpAnyH P md ops (AtEnd Q) S fuel listed' ⟨ts', []⟩ w) : wpAnyH P md ops (AtEnd Q) S (fuel + 1) listed ⟨ts, []⟩ w := by
  refine wpAnyH_take hi hs hf hr (fun _ _ _ h => h) (Or.inl ⟨by simp [Region.wanted, hg], hy⟩) hS ?_
  rw [hl, hd]
  unfold Act.put
  simp only [ht]
  exact h
def BackH (P : Program) (md : Region.Mode) (ops : Array Oper) (Q : Exit → Act → World → Prop) (S : World → Prop) (fuel : Nat) (listed : Array Bool) (ts : Array Value) (w : World) (i : Nat) : Prop :=
  wpOp P ops (AtEnd Q) i (fun a' w' => S w' ∧ wpAnyH P md ops (AtEnd Q) S fuel (listed.setIfInBounds i true) a' w') ⟨ts, []⟩ w
theorem oneH {i fuel : Nat} {listed : Array Bool} {ts : Array Value} {w : World} (hr : Region.ready md ops listed = [i]) (h : BackH P md ops Q S fuel listed ts w i) : wpAnyH P md ops (AtEnd Q) S (fuel + 1) listed ⟨ts, []⟩ w :=
  wpAnyH_all hr (by simp) fun j hj => by obtain rfl := List.mem_singleton.1 hj; exact h
theorem twoH {i k fuel : Nat} {listed : Array Bool} {ts : Array Value} {w : World} (hr : Region.ready md ops listed = [i, k]) (h : BackH P md ops Q S fuel listed ts w i) (h2 : BackH P md ops Q S fuel listed ts w k) : wpAnyH P md ops (AtEnd Q) S (fuel + 1) listed ⟨ts, []⟩ w :=
  wpAnyH_all hr (by simp) fun j hj => by
    rcases List.mem_cons.1 hj with rfl | hj
    · exact h
    · obtain rfl := List.mem_singleton.1 hj; exact h2
theorem runH {i d fuel : Nat} {o : Oper} {v : Value} {listed listed' : Array Bool} {ts ts' : Array Value} {w w' : World} (hi : ops[i]? = some o) (hg : o.guard = none) (hd : o.dst = some d)
    (hrun : (execOp (Act.eval ⟨ts, []⟩) o).run P w = .ok (.value v) w') (hS : S w') (hl : listed.setIfInBounds i true = listed') (ht : ts.setIfInBounds d v = ts')
    (h : wpAnyH P md ops (AtEnd Q) S fuel listed' ⟨ts', []⟩ w') : BackH P md ops Q S fuel listed ts w i := by
  unfold BackH wpOp
  rw [hi]
  dsimp only
  rw [if_pos (by simp [Region.wanted, hg])]
  refine .inl ?_
  unfold Oper.wp
  rw [hrun]
  refine ⟨hS, ?_⟩
  rw [hl, hd]
  unfold Act.put
  simp only [ht]
  exact h
theorem skipH {i fuel : Nat} {o : Oper} {v : Next} {listed listed' : Array Bool} {ts : Array Value} {w w' : World} (hi : ops[i]? = some o) (hg : o.guard = none) (hd : o.dst = none)
    (hrun : (execOp (Act.eval ⟨ts, []⟩) o).run P w = .ok v w') (hv : v = .skip ∨ ∃ u, v = .value u) (hS : S w') (hl : listed.setIfInBounds i true = listed')
    (h : wpAnyH P md ops (AtEnd Q) S fuel listed' ⟨ts, []⟩ w') : BackH P md ops Q S fuel listed ts w i := by
  unfold BackH wpOp
  rw [hi]
  dsimp only
  rw [if_pos (by simp [Region.wanted, hg])]
  refine .inl ?_
  unfold Oper.wp
  rw [hrun]
  rcases hv with rfl | ⟨u, rfl⟩
  all_goals
    refine ⟨hS, ?_⟩
    rw [hl, hd]
    exact h
theorem callH {i d fuel f : Nat} {args : Array Value} {o : Oper} {v : Value} {listed listed' : Array Bool} {ts ts' : Array Value} {w : World} (hi : ops[i]? = some o) (hg : o.guard = none) (hd : o.dst = some d)
    (hrun : (execOp (Act.eval ⟨ts, []⟩) o).run P w = .ok (.enter f args) w) (hc : Calls P f args w fun r w' => r = .returned v ∧ w = w') (hS : S w) (hl : listed.setIfInBounds i true = listed') (ht : ts.setIfInBounds d v = ts')
    (h : wpAnyH P md ops (AtEnd Q) S fuel listed' ⟨ts', []⟩ w) : BackH P md ops Q S fuel listed ts w i := by
  unfold BackH wpOp
  rw [hi]
  dsimp only
  rw [if_pos (by simp [Region.wanted, hg])]
  refine .inl ?_
  unfold Oper.wp
  rw [hrun]
  refine hc.mono ?_
  rintro r w' ⟨rfl, rfl⟩
  refine ⟨hS, ?_⟩
  rw [hl, hd]
  unfold Act.put
  simp only [ht]
  exact h
theorem exec_append {o : Oper} {a : Act} {s x : Operand} {t : TypeId} (ho : o.op = .call { callee := .builtin .append, args := #[s, x], argTypes := #[t, t] }) {v1 v2 r : Value} {w w' : World} (h1 : a.eval s = v1) (h2 : a.eval x = v2)
    (hrun : (Builtin.append_ #[t, t] o.type #[v1, v2]).run P w = .ok r w') : (execOp a.eval o).run P w = .ok (.value r) w' := by
  unfold execOp
  simp only [ho, resolve, invoke, builtin, Sem.run_bind, Sem.run_pure, Result.andThen_ok, List.map_toArray, List.map_cons, List.map_nil, h1, h2, hrun]
theorem region_by {S : World → Prop} {id k : Nat} {ts : Array Value} {w : World} {listed : Array Bool} (hm : P.follows .mixedOrders = true) (hd : calmB ops = true) (hk : ops.size = k) (hl : Array.replicate k false = listed)
    (h : wpAnyH P .any ops (AtEnd Q) S k listed ⟨ts, []⟩ w.drew) : (Code.region id ops true).wpIn (Fence.wide.inRound l) n P Q ⟨ts, []⟩ w := by
  subst hk hl
  exact region_any hm hd (wpAny_of_held _ _ _ _ h)
end
end Go.Proofs.YtjlfgojblimobaaGreat.S11
end

section
namespace Go.Proofs.YtjlfgojblimobaaGreat.S11
open Go.RowKit

theorem M.bks_app (l : List Int) (x : Int) {k : Nat} (hk : k ≤ l.length) : M.bks (l ++ [x]) k = M.bks l k := by
  induction k with
  | zero => rfl
  | succ k ih =>
    unfold M.bks
    rw [ih (by omega), List.getD_eq_getElem?_getD, List.getD_eq_getElem?_getD, List.getElem?_append_left (by omega)]
def M.ints (st : List Nat) : List Int := st.reverse.map fun o : Nat => (o : Int)
theorem M.ints_len (st : List Nat) : (M.ints st).length = st.length := by unfold M.ints; simp
theorem M.bks_st (s : Nat) (st : List Nat) : M.bks (M.ints (s :: st)) (st.length + 1) = (st.length, (s : Int)) :: M.bks (M.ints st) st.length := by
  have e : M.ints (s :: st) = M.ints st ++ [(s : Int)] := by unfold M.ints; simp
  rw [e]
  show (st.length, (M.ints st ++ [(s : Int)]).getD st.length 0) :: M.bks (M.ints st ++ [(s : Int)]) st.length = _
  rw [M.bks_app _ _ (by rw [M.ints_len]; exact Nat.le_refl _), List.getD_eq_getElem?_getD, List.getElem?_append_right (by rw [M.ints_len]; exact Nat.le_refl _), M.ints_len, Nat.sub_self]
  rfl
theorem M.bks_find {st : List Nat} {q rest : List (Nat × Int)} {x : Nat × Int} (h : (q ++ [x]) ++ rest = M.bks (M.ints st) st.length) : ∃ (a : List Nat) (p : Nat) (r : List Nat), st = a ++ p :: r ∧ r.length = x.1 ∧ x.2 = p ∧ ∀ z ∈ a, ∃ e ∈ q, e.2 = (z : Int) := by
  induction st generalizing q with
  | nil => simp [M.bks] at h
  | cons s st ih =>
    rw [show (s :: st).length = st.length + 1 from rfl, M.bks_st] at h
    cases q with
    | nil =>
      injection h with h1 _
      subst h1
      exact ⟨[], s, st, rfl, rfl, rfl, fun z hz => by cases hz⟩
    | cons e q =>
      injection h with h1 h2
      obtain ⟨a, p, r, g1, g2, g3, g4⟩ := ih h2
      refine ⟨s :: a, p, r, by rw [g1]; rfl, g2, g3, fun z hz => ?_⟩
      rcases List.mem_cons.1 hz with rfl | hz
      · exact ⟨e, by simp, by rw [h1]⟩
      · obtain ⟨e', h4, h5⟩ := g4 z hz
        exact ⟨e', by simp [h4], h5⟩
theorem M.bks_all {st : List Nat} {z : Nat} (hz : z ∈ st) : ∃ e ∈ M.bks (M.ints st) st.length, e.2 = (z : Int) := by
  induction st with
  | nil => cases hz
  | cons s st ih =>
    rw [show (s :: st).length = st.length + 1 from rfl, M.bks_st]
    rcases List.mem_cons.1 hz with rfl | hz
    · exact ⟨_, List.mem_cons_self, rfl⟩
    · obtain ⟨e, h1, h2⟩ := ih hz
      exact ⟨e, by simp [h1], h2⟩
theorem M.drop_none {st : List Nat} {mid : Nat → Int} {y : Int} (h : ∀ z ∈ st, mid z ≠ y) : st.dropWhile (fun p => decide (mid p ≠ y)) = [] := by
  induction st with
  | nil => rfl
  | cons s st ih =>
    rw [List.dropWhile_cons, if_pos (by simpa using h s (by simp))]
    exact ih fun z hz => h z (by simp [hz])
theorem M.drop_some {a r : List Nat} {p : Nat} {mid : Nat → Int} {y : Int} (h : ∀ z ∈ a, mid z ≠ y) (hp : mid p = y) : (a ++ p :: r).dropWhile (fun p => decide (mid p ≠ y)) = p :: r := by
  induction a with
  | nil =>
    show (p :: r).dropWhile _ = _
    rw [List.dropWhile_cons, if_neg (by simp [hp])]
  | cons s a ih =>
    show (s :: (a ++ p :: r)).dropWhile _ = _
    rw [List.dropWhile_cons, if_pos (by simpa using h s (by simp))]
    exact ih fun z hz => h z (by simp [hz])
theorem wpIn_scope_wide {n : Nat} {P : Program} {c : Code} {Q : Exit → Act → World → Prop} {a : Act} {w : World} (h : c.wpIn Fence.wide n P (Exit.noGoto Q) a w) : (Code.scope c).wpIn Fence.wide n P Q a w :=
  wpIn_wide.2 (wp_scope_straight (wpIn_wide.1 h))
def Nc (W0 W : World) : Prop := ∀ (k : Nat) (o : Obj), W0.heap[k]? = some o → o.isCells = false → W.heap[k]? = some o
theorem Nc.still {W0 W W' : World} {B : Nat} (h : Nc W0 W) (hs : Still (ours mineN) B W W') (hB : W0.heap.size ≤ B) : Nc W0 W' := fun k o hk ho => by
  have hlt := (Array.getElem?_eq_some_iff.1 hk).1
  exact (hs.below.block k (by omega)).trans (h k o hk ho)
theorem Nc.of_below {W0 W : World} (h : Below W0.heap.size W0 W) : Nc W0 W := fun k _ hk _ => (h.block k (Array.getElem?_eq_some_iff.1 hk).1).trans hk
theorem nc_append {W w1 : World} {tmp : Obj} {B base size n : Nat} {e : TypeId} {u v : Value} {xs : List Value} {cs : Array Value} {t : TypeId} {mm : Nat × Nat} (hrow : W.ownsRow base e size v n xs) (hg : (W.alloc tmp).grownBy w1 v.ownBlock) (hB : W.heap[B]? = some (.cells cs t mm)) : Nc W (w1.setCell ⟨B, 0, none⟩ u) := fun k o hk ho => by
  have hne : k ≠ B := fun e => by
    rw [e, hB] at hk
    injection hk with hk
    rw [← hk] at ho
    cases ho
  rw [Below.heap_setCell _ _ _ k hne]
  refine grown_block hg hk fun e => ?_
  obtain ⟨-, cs', m', h⟩ := own_type hrow e
  rw [h] at hk
  injection hk with hk
  rw [← hk] at ho
  cases ho
theorem nc_set {W : World} {B : Nat} {u : Value} {cs : Array Value} {t : TypeId} {mm : Nat × Nat} (hB : W.heap[B]? = some (.cells cs t mm)) : Nc W (W.setCell ⟨B, 0, none⟩ u) := fun k o hk ho => by
  have hne : k ≠ B := fun e => by
    rw [e, hB] at hk
    injection hk with hk
    rw [← hk] at ho
    cases ho
  rw [Below.heap_setCell _ _ _ k hne]
  exact hk
theorem Nc.trans {A B C : World} (h : Nc A B) (k : Nc B C) : Nc A C := fun i o hi ho => k i o (h i o hi ho) ho
theorem Nc.keeps {W W' : World} (h : Nc W W') (hs : W.heap.size ≤ W'.heap.size) : KeepsOthers W W' := ⟨hs, fun k o hk ho => h k o hk ho⟩
end Go.Proofs.YtjlfgojblimobaaGreat.S11
end
