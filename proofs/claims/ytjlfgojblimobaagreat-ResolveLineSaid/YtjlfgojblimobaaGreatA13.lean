/- A range over a function whose iterator turns cells of its own, told apart by their kind, and hands out what lies in memory: the iterator's contract, and the statement's walk out of it and of the walk of its body. No program is read here. -/
/- The contracts of package runs' levelRuns and of the function that it makes, over the translation: level runs come one by one, each with its places in a row that nobody else has. Conditions: the slice reads as a list of levels, at most a thousand long, within its capacity; each round keeps what lay below a block, the two boxes, and the iterator's own cells. -/
/- The walk of the function that package runs' levelRuns makes. Conditions: the slice reads as a list of levels, at most a thousand long, within its capacity; each round keeps what lay below a block, the two boxes, and the iterator's own cells. -/
import Derived.Test.YtjlfgojblimobaaGreatA00
import Derived.RangeFuncNested
import Derived.RangeFuncBound
import Derived.RangeFuncCalls
import Derived.RangeFuncLeaves
import Derived.Test.YtjlfgojblimobaaGreatA12
import Derived.StillTailTactics
import Derived.Shelf.Abstract
import Derived.OwnWalkIn
import Derived.TacticsInMore
import Derived.LoopNIn
import Derived.LoopIn
import Derived.Maps.AppendAt
section
namespace Go.Proofs.YtjlfgojblimobaaGreat
open Go.RowKit
variable {n : Nat} {P : Program}

structure Still (mine : Obj → Bool) (B : Nat) (W W' : World) : Prop where
  below : Below B W W'
  kept : ∀ (k : Nat) (o : Obj), W.heap[k]? = some o → mine o = false → W'.heap[k]? = some o
theorem Still.refl (mine : Obj → Bool) (B : Nat) (W : World) : Still mine B W W := ⟨Below.refl _ _, fun _ _ h _ => h⟩
theorem Still.trans {mine : Obj → Bool} {B : Nat} {X Y Z : World} (h : Still mine B X Y) (k : Still mine B Y Z) : Still mine B X Z := ⟨h.below.trans k.below, fun i o hi ho => k.kept i o (h.kept i o hi ho) ho⟩
theorem Still.of_below {mine : Obj → Bool} {B : Nat} {W W' : World} (h : Below W.heap.size W W') (hB : B ≤ W.heap.size) : Still mine B W W' :=
  ⟨h.mono hB, fun k _ hk _ => (h.block k (Array.getElem?_eq_some_iff.1 hk).1).trans hk⟩
theorem Still.wider {mine ours : Obj → Bool} {B B' : Nat} {W W' : World} (h : Still mine B W W') (hm : ∀ o, ours o = false → mine o = false) (hB : B' ≤ B) : Still ours B' W W' := ⟨h.below.mono hB, fun k o hk ho => h.kept k o hk (hm o ho)⟩
def ours (mine : Obj → Bool) (o : Obj) : Bool := mine o || !o.isCells
theorem ours_mine {mine : Obj → Bool} (o : Obj) (h : ours mine o = false) : mine o = false := by unfold ours at h; simp at h; exact h.1
theorem still_put {mine : Obj → Bool} {B l : Nat} {W : World} {o : Obj} (o' : Obj) (hl : W.heap[l]? = some o) (ho : o.isCells = false) (hB : B ≤ l) : Still (ours mine) B W (W.putObj l o') := by
  have hlt := (Array.getElem?_eq_some_iff.1 hl).1
  refine ⟨⟨rfl, rfl, rfl, by simp, fun k hk => World.putObj_heap_other (by omega)⟩, fun k o2 hk hm => ?_⟩
  have hne : k ≠ l := fun e => by
    rw [e, hl] at hk
    injection hk with hk
    rw [← hk] at hm
    unfold ours at hm
    rw [ho] at hm
    simp at hm
  exact (World.putObj_heap_other hne).trans hk

def Gives {α : Type} (mine : Obj → Bool) (n : Nat) (P : Program) (gf : Nat) (lb : Array Value) (encs : α → Array Value) (Kp : World → World → Prop) (El : List α → α → World → Prop) (S Sp : List α → Prop) (N : Nat) (w : World) : Prop :=
  ∀ (l : Nat) (J Jx : List α → World → Prop) (W : World), Below w.heap.size w W →
    (∀ s A B, J s A → Still mine W.heap.size A B → J s B) → (∀ s A B, Jx s A → Still mine W.heap.size A B → Jx s B) →
    (∀ pre x A, J pre A → pre.length < N → El pre x A → YieldAt Fence.wide (n - 1) P l (encs x) A fun e B =>
      (e = .returned (.bool true) ∧ J (pre ++ [x]) B ∧ Kp A B) ∨ (e = .returned (.bool false) ∧ Jx (pre ++ [x]) B)) →
    J [] W →
    CallsIn Fence.wide n P gf (#[.func (.yield l) #[] #[]] ++ lb) W fun e B => (∃ v, e = .returned v) ∧ ((∃ xs, S xs ∧ J xs B) ∨ (∃ pre, Sp pre ∧ Jx pre B))

theorem range_mine {α : Type} {g : Operand} {ps : Array Tmp} {assign body : Code} {Q : Exit → Act → World → Prop} {a : Act} {w : World} (h1 : 1 ≤ n)
    {gf : Nat} {lb : Array Value} (hg : a.eval g = .func (.func gf) #[] lb) (eg : ∀ args w, (callFunc gf args).run P w = .ok (.enter gf args) w)
    {mine : Obj → Bool} (hmine : ∀ o, o.isCells = false → mine o = false)
    {encs : α → Array Value} {Kp : World → World → Prop} {El : List α → α → World → Prop} {S Sp : List α → Prop} {N : Nat} (hseq : Gives mine (n - 1) P gf lb encs Kp El S Sp N w)
    (hKt : ∀ {A B C : World}, Kp A B → Kp B C → Kp A C) (hKb : ∀ (W : World) (l : Nat) (o o' : Obj), w.heap.size ≤ l → W.heap[l]? = some o → o.isCells = false → Kp W (W.putObj l o')) (hps : ∀ x, (encs x).size = ps.size)
    (I : List α → World → Prop) (Ix : Code → List α → World → Prop) (hI : ∀ s A B, I s A → Still (ours mine) w.heap.size A B → I s B) (hIx : ∀ c s A B, Ix c s A → Still (ours mine) w.heap.size A B → Ix c s B) (h0 : I [] w)
    (Rb : List α → α → Act → World → Prop) (hRb : ∀ pre x a₁ (A : World) (l : Nat) (o o' : Obj), Rb pre x a₁ A → w.heap.size ≤ l → A.heap[l]? = some o → o.isCells = false → Rb pre x a₁ (A.putObj l o')) (hKa : ∀ A B : World, w.heap.size ≤ A.heap.size → Below A.heap.size A B → Kp A B)
    (hassign : ∀ (l : Nat) (pre : List α) (x : α) (W : World) (K : Act → World → Prop), I pre W → El pre x W → (∀ a₁ V, Below W.heap.size W V → Rb pre x a₁ V → K a₁ V) →
      assign.wpIn (Fence.wide.inRound l) (n - 1 - 1) P (Exit.then K (fun _ _ _ => False)) { tmps := (ps.zip (encs x)).foldl (fun t (p, v) => t.setIfInBounds p v) a.tmps, defers := [] } W)
    (hbody : ∀ (l : Nat) (pre : List α) (x : α) (a₁ : Act) (W : World), Rb pre x a₁ W → pre.length < N → body.wpIn (Fence.wide.inRound l) (n - 1 - 1) P (ownPostG w.heap.size Kp I Ix (pre ++ [x]) W) a₁ W)
    (hdone : ∀ (D : Nat) (xs : List α) (W : World), w.heap.size ≤ D → S xs → I xs W → W.heap[D]? = some (.deferred (some [])) → Q .normal { a with defers := { target := .collected D, args := #[] } :: a.defers } W)
    (hstop : ∀ (D : Nat) (c : Code) (pre : List α) (W : World), w.heap.size ≤ D → Sp pre → Ix c pre W → W.heap[D]? = some (.deferred (some [])) → c.wpIn Fence.wide n P Q { a with defers := { target := .collected D, args := #[] } :: a.defers } W) :
    (Code.rangeFunc g ps assign body).wpIn Fence.wide n P Q a w := by
  refine wpIn_rangeFunc fun fn hfn => ?_
  -- the loop's record lies at L, the block for what its rounds defer at w.heap.size
  obtain ⟨rec, hrec⟩ : ∃ rec : LoopState → Option Code → Loop, rec = fun st pe => { state := st, pending := pe, fn, tmps := a.tmps, params := ps, assign, body, defers := w.heap.size } := ⟨_, rfl⟩
  obtain ⟨L, hL⟩ : ∃ L, L = w.heap.size + 1 := ⟨_, rfl⟩
  obtain ⟨W1, hW1⟩ : ∃ W1, W1 = (w.alloc (.deferred (some []))).alloc (.loop (rec .ready none)) := ⟨_, rfl⟩
  have enters : (Instr.enterLoop fn a.tmps ps assign body none).run P w = .ok (L, [{ target := .collected w.heap.size, args := #[] }]) W1 := by
    rw [hW1, hrec, hL]; exact run_enterLoop_outer _ _ _ _ _
  have recAt : W1.heap[L]? = some (.loop (rec .ready none)) := by
    rw [hW1, hL, show w.heap.size + 1 = (w.alloc (.deferred (some []))).heap.size by simp]; exact World.alloc_heap_new _ _
  have defAt : W1.heap[w.heap.size]? = some (.deferred (some [])) := by
    rw [hW1]; exact (Below.heap_alloc _ _ _ (by simp)).trans (World.alloc_heap_new w _)
  have size1 : W1.heap.size = w.heap.size + 2 := by rw [hW1]; simp
  have below1 : Below w.heap.size w W1 := by rw [hW1]; exact ((Below.refl _ w).alloc (Nat.le_refl _) _).alloc (by simp) _
  have res : (resolve a.eval (rangeCall g L) 0).run P W1 = .ok { target := .fn (.func gf) lb, args := #[.func (.yield L) #[] #[]] } W1 := by
    simp only [resolve, hg]; simp [go_sem]
  have inv : (invoke (.fn (.func gf) lb) #[.func (.yield L) #[] #[]]).run P W1 = .ok (.enter gf (#[.func (.yield L) #[] #[]] ++ lb)) W1 := by
    simp [invoke, go_sem, eg]
  refine ⟨L, _, W1, _, W1, gf, _, W1, enters, res, fun _ _ => trivial, inv, fun _ => h1, ?_⟩
  have notMine : ∀ o : Obj, o.isCells = false → ours mine o = true := fun o ho => by unfold ours; rw [ho]; simp
  -- what the iterator is handed: the caller's invariant, and the two blocks of the loop's own
  have go := hseq L (fun s W => I s W ∧ W.heap[L]? = some (.loop (rec .ready none)) ∧ W.heap[w.heap.size]? = some (.deferred (some [])))
    (fun s W => ∃ c, Ix c s W ∧ W.heap[L]? = some (.loop (rec .done (some c))) ∧ W.heap[w.heap.size]? = some (.deferred (some []))) W1 below1
    (fun s A B h m => ⟨hI s A B h.1 (m.wider ours_mine (by omega)), m.kept _ _ h.2.1 (hmine _ rfl), m.kept _ _ h.2.2 (hmine _ rfl)⟩)
    (fun s A B ⟨c, h⟩ m => ⟨c, hIx c s A B h.1 (m.wider ours_mine (by omega)), m.kept _ _ h.2.1 (hmine _ rfl), m.kept _ _ h.2.2 (hmine _ rfl)⟩)
  refine (go ?_ ⟨hI _ _ _ h0 (Still.of_below below1 (Nat.le_refl _)), recAt, defAt⟩).mono ?_
  · rintro pre x W ⟨hi, hl, hd⟩ hlen hel
    have hlt := (Array.getElem?_eq_some_iff.1 hl).1
    have yields := run_yield (P := P) (args := encs x) hl (by rw [hrec]; exact hps x)
    rw [hrec] at yields
    refine ⟨fn, _, assign, body, yields, roundIn_of_wpIn hfn (hassign _ pre x W _ hi hel fun a₁ V hV hrb => ?_)⟩
    have hlV : V.heap[L]? = some (.loop (rec .ready none)) := (hV.block L hlt).trans hl
    have hltV : L < V.heap.size := Nat.lt_of_lt_of_le hlt hV.size
    refine ⟨_, run_beginRound hlV (by rw [hrec]), ?_⟩
    obtain ⟨W2, hW2⟩ : ∃ W2, W2 = V.putObj L (.loop { rec .ready none with state := .busy }) := ⟨_, rfl⟩
    have rec2 : W2.heap[L]? = some (.loop { rec .ready none with state := .busy }) := by rw [hW2]; exact World.putObj_heap_same hltV
    have def2 : W2.heap[w.heap.size]? = some (.deferred (some [])) := by rw [hW2]; exact (World.putObj_heap_other (by omega)).trans ((hV.block _ (Array.getElem?_eq_some_iff.1 hd).1).trans hd)
    have rb2 : Rb pre x a₁ W2 := by rw [hW2]; exact hRb _ _ _ _ _ _ _ hrb (by omega) hlV rfl
    have kp2 : Kp W W2 := by rw [hW2]; exact hKt (hKa W V (by omega) hV) (hKb _ _ _ _ (by omega) hlV rfl)
    -- a round's end: its record is ready again, or done
    have ending : ∀ (jump : Option Code) (W3 : World), KeepsFrom w.heap.size W2 W3 → ∃ W4,
        (Instr.endRound L jump).run P W3 = .ok (.bool jump.isNone) W4 ∧ W4.heap[L]? = some (.loop (rec (if jump.isNone then .ready else .done) jump)) ∧ W4.heap[w.heap.size]? = some (.deferred (some [])) ∧ Still (ours mine) w.heap.size W3 W4 ∧ Kp W3 W4 := fun jump W3 k3 => by
      have rec3 := k3.same L _ (by omega) rec2 rfl
      have run := run_endRound (P := P) jump rec3
      refine ⟨_, run, ?_, (World.putObj_heap_other (by omega)).trans (k3.same _ _ (Nat.le_refl _) def2 rfl), still_put _ rec3 rfl (by omega), hKb _ _ _ _ (by omega) rec3 rfl⟩
      rw [World.putObj_heap_same (Array.getElem?_eq_some_iff.1 rec3).1, hrec]
    rw [← hW2]
    refine wpIn_mono (hbody L pre x a₁ W2 rb2 hlen) ?_
    rintro e a3 W3 hp
    match e, hp with
    | .normal, ⟨k3, kp3, i3⟩ =>
      obtain ⟨W4, run, r4, d4, s4, kp4⟩ := ending none W3 k3
      exact ⟨_, W4, run, .inl ⟨rfl, ⟨hI _ _ _ i3 s4, r4, d4⟩, hKt (hKt kp2 kp3) kp4⟩⟩
    | .ret, ⟨k3, i3⟩ =>
      obtain ⟨W4, run, r4, d4, s4, _⟩ := ending (some .ret) W3 k3
      exact ⟨_, W4, run, .inr ⟨rfl, _, hIx _ _ _ _ i3 s4, r4, d4⟩⟩
    | .exit id, ⟨k3, i3⟩ =>
      obtain ⟨W4, run, r4, d4, s4, _⟩ := ending (some (.exit id)) W3 k3
      exact ⟨_, W4, run, .inr ⟨rfl, _, hIx _ _ _ _ i3 s4, r4, d4⟩⟩
    | .goto t, ⟨k3, i3⟩ =>
      obtain ⟨W4, run, r4, d4, s4, _⟩ := ending (some (.goto t)) W3 k3
      exact ⟨_, W4, run, .inr ⟨rfl, _, hIx _ _ _ _ i3 s4, r4, d4⟩⟩
  · rintro e W2 ⟨⟨v, rfl⟩, ⟨xs, hS, hi, hl, hd⟩ | ⟨pre, hSp, c, hi, hl, hd⟩⟩
    · have hend : (Instr.endLoop L).run P W2 = .ok none (W2.putObj L (.loop (rec .exhausted none))) := by
        have := run_endLoop (P := P) hl (by rw [hrec]; simp)
        rw [hrec] at this ⊢
        exact this
      exact ⟨none, _, hend, hdone _ xs _ (Nat.le_refl _) hS (hI _ _ _ hi (still_put _ hl rfl (by omega))) ((World.putObj_heap_other (by omega)).trans hd)⟩
    · have hend : (Instr.endLoop L).run P W2 = .ok (some c) (W2.putObj L (.loop (rec .exhausted (some c)))) := by
        have := run_endLoop (P := P) hl (by rw [hrec]; simp)
        rw [hrec] at this ⊢
        exact this
      exact ⟨some c, _, hend, hstop _ c pre _ (Nat.le_refl _) hSp (hIx _ _ _ _ hi (still_put _ hl rfl (by omega))) ((World.putObj_heap_other (by omega)).trans hd)⟩
end Go.Proofs.YtjlfgojblimobaaGreat
end

section
namespace Go.Proofs.YtjlfgojblimobaaGreat
open Go.RowKit Go.Shelf
attribute [local go_sem] Oper.semAt_some
set_option maxRecDepth 100000

abbrev Yi := M.Rn × Option Addr × Nat
def Yi.slice (x : Yi) : Value := .slice x.2.1 x.1.pl.length x.2.2
def mineR (o : Obj) : Bool := match o with
  | .cells _ t _ => t == 121
  | _ => false
theorem mineR_not (o : Obj) (h : o.isCells = false) : mineR o = false := by cases o <;> first | rfl | (simp [Obj.isCells] at h)
def RunAt (w : World) (B : Nat) (cs : Array Value) : Prop := w.heap[B]? = some (.cells cs 121 (0, 0))
theorem heap_set {w : World} {B i : Nat} {cs : Array Value} {t : TypeId} {m : Nat × Nat} (v : Value) (h : w.heap[B]? = some (.cells cs t m)) : (w.setCell ⟨B, i, none⟩ v).heap[B]? = some (.cells (cs.setIfInBounds i v) t m) := by
  obtain ⟨hlt, hk⟩ := Array.getElem?_eq_some_iff.1 h
  show (w.heap.modify B _)[B]? = _
  rw [Array.getElem?_eq_getElem (by rw [Array.size_modify]; exact hlt), Array.getElem_modify_self, hk]
  rfl
section
variable {w w' W W0 W1 : World} {B Bp : Nat} {cs : Array Value}
theorem RunAt.lt (h : RunAt w B cs) : B < w.heap.size := (Array.getElem?_eq_some_iff.1 h).1
theorem RunAt.set (h : RunAt w B cs) (i : Nat) (v : Value) : RunAt (w.setCell ⟨B, i, none⟩ v) B (cs.setIfInBounds i v) := heap_set v h
theorem RunAt.cell (h : RunAt w B cs) {i : Nat} {v : Value} (hi : cs[i]? = some v) : w.cell? ⟨B, i, none⟩ = some v := by
  unfold World.cell?
  rw [show w.heap[B]? = _ from h]
  exact hi
theorem RunAt.frozen (h : RunAt w B cs) (j : Nat) : w.frozen? ⟨B, j, none⟩ = false := by
  unfold World.frozen?
  rw [show w.heap[B]? = _ from h]
  simp
theorem RunAt.below {n : Nat} (h : RunAt w B cs) (hb : Below n w w') (hB : B < n) : RunAt w' B cs := (hb.block B hB).trans h
theorem still_run (h : RunAt w Bp cs) (hB : B ≤ Bp) (i : Nat) (v : Value) : Still mineR B w (w.setCell ⟨Bp, i, none⟩ v) := by
  refine ⟨(Below.refl _ _).setCell (p := ⟨Bp, i, none⟩) hB _, fun k o hk ho => ?_⟩
  have hne : k ≠ Bp := fun e => by
    rw [e, show w.heap[Bp]? = _ from h] at hk
    injection hk with hk
    rw [← hk] at ho
    simp [mineR] at ho
  rw [Below.heap_setCell _ _ _ k hne]
  exact hk
theorem own_type {base : Nat} {e : TypeId} {v : Value} {xs : List Value} {n k : Nat} (h : w.ownsRow base e 1 v n xs) (hk : v.ownBlock = some k) : base ≤ k ∧ ∃ cs m, w.heap[k]? = some (.cells cs e m) := by
  rcases h.2 with ⟨rfl, _⟩ | ⟨g, cap, cur, rfl, hb, hg, _⟩
  · simp [Value.ownBlock] at hk
  · obtain rfl : g = k := by simpa [Value.ownBlock] using hk
    exact ⟨hb, _, _, hg⟩
theorem RunAt.not_row (h : RunAt w Bp cs) {base n : Nat} {v : Value} {xs : List Value} (ho : w.ownsRow base 3 1 v n xs) : v.ownBlock ≠ some Bp := fun e => by
  obtain ⟨_, cs', m, h'⟩ := own_type ho e
  rw [show w.heap[Bp]? = _ from h] at h'
  injection h' with h'
  injection h' with _ h' _
  revert h'
  decide
theorem own_still {mine : Obj → Bool} {base : Nat} {e : TypeId} {s : Nat} {v : Value} {xs : List Value} {k : Nat} (h : W.ownsRow base e s v k xs) (hs : Still mine B W W1) (hm : ∀ cs m, mine (.cells cs e m) = false) : W1.ownsRow base e s v k xs := by
  refine ⟨h.1, ?_⟩
  rcases h.2 with h1 | ⟨g, cap, cur, hv, hbg, hg, rest⟩
  · exact .inl h1
  · exact .inr ⟨g, cap, cur, hv, hbg, hs.kept g _ hg (hm _ _), rest⟩
end
structure KeepsR (n₀ Bs Bb : Nat) (W W' : World) : Prop where
  below : Below n₀ W W'
  boxS : ∀ o, W.heap[Bs]? = some o → W'.heap[Bs]? = some o
  boxB : ∀ o, W.heap[Bb]? = some o → W'.heap[Bb]? = some o
  own : ∀ (k : Nat) cs m, W.heap[k]? = some (.cells cs 121 m) → W'.heap[k]? = some (.cells cs 121 m)
theorem KeepsR.trans {n₀ Bs Bb : Nat} {A B C : World} (h : KeepsR n₀ Bs Bb A B) (k : KeepsR n₀ Bs Bb B C) : KeepsR n₀ Bs Bb A C :=
  ⟨h.below.trans k.below, fun o ho => k.boxS o (h.boxS o ho), fun o ho => k.boxB o (h.boxB o ho), fun i cs m hi => k.own i cs m (h.own i cs m hi)⟩
theorem keepsR_put {n₀ Bs Bb : Nat} {w : World} (hn : n₀ ≤ w.heap.size) (hs : Bs < w.heap.size) (hf : Bb < w.heap.size) (W : World) (l : Nat) (o o' : Obj) (hl : w.heap.size ≤ l) (h : W.heap[l]? = some o) (hc : o.isCells = false) : KeepsR n₀ Bs Bb W (W.putObj l o') := by
  refine ⟨⟨rfl, rfl, rfl, by simp, fun k hk => World.putObj_heap_other (by omega)⟩, fun _ ho => (World.putObj_heap_other (by omega)).trans ho, fun _ ho => (World.putObj_heap_other (by omega)).trans ho, fun k cs m hk => ?_⟩
  have hne : k ≠ l := fun e => by
    rw [e, h] at hk
    injection hk with hk
    rw [hk] at hc
    cases hc
  exact (World.putObj_heap_other hne).trans hk
def putRun (w : World) (B : Nat) (v : Value) (x a e : Int) : World := (((w.setCell ⟨B, 0, none⟩ v).setCell ⟨B, 1, none⟩ (.int .i64 x)).setCell ⟨B, 2, none⟩ (.int .i64 a)).setCell ⟨B, 3, none⟩ (.int .i64 e)
def NextRun (lv : List Int) (b : Int) (base : Nat) (pre : List Yi) (x : Yi) (W : World) : Prop :=
  (M.runs lv b)[pre.length]? = some x.1 ∧ W.ownsRow base 3 1 x.slice x.1.pl.length (x.1.pl.map (Value.int .i64))

structure AtR (n₀ Bs Bb Bp : Nat) (A : Option Addr) (ca N : Nat) (b : Int) (lv : List Int) (J : List Yi → World → Prop) (W : World) (k : Nat) (c : M.Rn) (p : Nat) (A2 : Option Addr) (c2 : Nat) (W0 : World) (xs : List Yi) (w : World) : Prop where
  run : RunAt w Bp #[.slice A2 p c2, .int .i64 c.lv, .int .i64 c.ah, .int .i64 c.be]
  row : w.ownsRow W0.heap.size 3 1 (.slice A2 p c2) p (c.pl.map (Value.int .i64))
  len : c.pl.length = p
  come : J xs W0
  still : Still mineR W.heap.size W0 w
  size : W.heap.size ≤ W0.heap.size
  below : Below n₀ W w
  boxS : Boxed w Bs 25 (.slice A N ca)
  boxB : Boxed w Bb 3 (.int .i64 b)
  cut : xs.map (·.1) ++ M.cutR b k c (lv.drop k) = M.runs lv b
  pk : p ≤ k
section
variable {n₀ Bs Bb Bp : Nat} {A : Option Addr} {ca N : Nat} {b : Int} {lv : List Int} {J : List Yi → World → Prop} {W : World} {k : Nat} {c : M.Rn} {p : Nat} {A2 : Option Addr} {c2 : Nat} {W0 : World} {xs : List Yi} {w w1 w7 : World} {x : Int}
theorem AtR.skip (h : AtR n₀ Bs Bb Bp A ca N b lv J W k c p A2 c2 W0 xs w) (hx : lv[k]? = some (-1)) : AtR n₀ Bs Bb Bp A ca N b lv J W (k + 1) c p A2 c2 W0 xs w :=
  { h with
    cut := by
      have := h.cut
      rw [M.drop_next hx] at this
      exact this
    pk := by have := h.pk; omega }
theorem AtR.grown {tmp : Obj} (h : AtR n₀ Bs Bb Bp A ca N b lv J W k c p A2 c2 W0 xs w) (hg : (w.alloc tmp).grownBy w1 (Value.slice A2 p c2).ownBlock) : RunAt w1 Bp #[.slice A2 p c2, .int .i64 c.lv, .int .i64 c.ah, .int .i64 c.be] :=
  (hg.block Bp (by have := h.run.lt; simp; omega) (fun e => h.run.not_row h.row e.symm)).trans ((Below.heap_alloc _ _ _ h.run.lt).trans h.run)
theorem AtR.append {tmp : Obj} {A3 : Option Addr} {c3 : Nat} (h : AtR n₀ Bs Bb Bp A ca N b lv J W k c p A2 c2 W0 xs w) (hx : lv[k]? = some x) (h1 : x ≠ -1) (hn : c.pl = [] ∨ x = c.lv) (hn₀ : n₀ ≤ W.heap.size) (hW : W.heap.size ≤ Bp) (hs : Bs < W.heap.size) (hb : Bb < W.heap.size)
    (hg : (w.alloc tmp).grownBy w1 (Value.slice A2 p c2).ownBlock) (ho : w1.ownsRow W0.heap.size 3 1 (.slice A3 (p + 1) c3) (p + 1) (c.pl.map (Value.int .i64) ++ [.int .i64 k])) :
    AtR n₀ Bs Bb Bp A ca N b lv J W (k + 1) ⟨c.pl ++ [(k : Int)], x, c.ah, c.be⟩ (p + 1) A3 c3 W0 xs ((w1.setCell ⟨Bp, 0, none⟩ (.slice A3 (p + 1) c3)).setCell ⟨Bp, 1, none⟩ (.int .i64 x)) := by
  have hnr := h.run.not_row h.row
  have hrow : ∀ j, (Value.slice A2 p c2).ownBlock = some j → W0.heap.size ≤ j := fun j hj => (own_type h.row hj).1
  have hrun1 : RunAt w1 Bp #[.slice A2 p c2, .int .i64 c.lv, .int .i64 c.ah, .int .i64 c.be] := (hg.block Bp (by have := h.run.lt; simp; omega) (fun e => hnr e.symm)).trans ((Below.heap_alloc _ _ _ h.run.lt).trans h.run)
  have hsz := h.still.below.size
  have hsz2 := h.size
  have hb1 : Below W.heap.size w w1 := ((Below.refl _ w).alloc (by omega) tmp).grown hg (by simp; omega) (fun j hj => by have := hrow j hj; omega)
  have far : ∀ j o, w.heap[j]? = some o → (Value.slice A2 p c2).ownBlock ≠ some j → j ≠ Bp → ((w1.setCell ⟨Bp, 0, none⟩ (.slice A3 (p + 1) c3)).setCell ⟨Bp, 1, none⟩ (.int .i64 x)).heap[j]? = some o := fun j o hj h2 h3 => by
    have hlt := (Array.getElem?_eq_some_iff.1 hj).1
    rw [Below.heap_setCell _ _ _ j h3, Below.heap_setCell _ _ _ j h3, hg.block j (by simp; omega) (fun e => h2 e.symm), Below.heap_alloc _ _ _ hlt]
    exact hj
  have hbb : Below W.heap.size w ((w1.setCell ⟨Bp, 0, none⟩ (.slice A3 (p + 1) c3)).setCell ⟨Bp, 1, none⟩ (.int .i64 x)) := (hb1.setCell (p := ⟨Bp, 0, none⟩) hW _).setCell (p := ⟨Bp, 1, none⟩) hW _
  refine ⟨?_, ?_, by simp [h.len], h.come, ⟨h.still.below.trans hbb, fun j o hj hm => ?_⟩, h.size, h.below.trans (hbb.mono hn₀), ?_, ?_, ?_, by have := h.pk; omega⟩
  · have := (hrun1.set 0 (.slice A3 (p + 1) c3)).set 1 (.int .i64 x)
    simpa using this
  · have hnr1 := hrun1.not_row ho
    have := ownsRow_setCell_other (a := ⟨Bp, 1, none⟩) (ownsRow_setCell_other (a := ⟨Bp, 0, none⟩) ho hnr1 (.slice A3 (p + 1) c3)) hnr1 (.int .i64 x)
    simpa using this
  · have hj1 := h.still.kept j o hj hm
    have hlt := (Array.getElem?_eq_some_iff.1 hj).1
    refine far j o hj1 (fun e => by have := hrow j e; omega) (fun e => ?_)
    rw [e, show w.heap[Bp]? = _ from h.run] at hj1
    injection hj1 with hj1
    rw [← hj1] at hm
    simp [mineR] at hm
  · exact (hbb.block Bs hs).trans h.boxS
  · exact (hbb.block Bb hb).trans h.boxB
  · have := h.cut
    rw [M.drop_next hx, M.cutR, if_neg h1, if_neg (by rintro ⟨h2, h3⟩; rcases hn with hn | hn; exact h2 hn; exact h3 hn)] at this
    exact this
theorem AtR.comes (h : AtR n₀ Bs Bb Bp A ca N b lv J W k c p A2 c2 W0 xs w) {y : Int} (hc : ∃ r, M.cutR b k c (lv.drop k) = { c with be := y } :: r) (hJ : ∀ s X Y, J s X → Still mineR W.heap.size X Y → J s Y) (hW : W.heap.size ≤ Bp) {base : Nat} (hbase : base ≤ W.heap.size) :
    xs.length < (M.runs lv b).length ∧ J xs (w.setCell ⟨Bp, 3, none⟩ (.int .i64 y)) ∧ NextRun lv b base xs (⟨c.pl, c.lv, c.ah, y⟩, A2, c2) (w.setCell ⟨Bp, 3, none⟩ (.int .i64 y)) := by
  obtain ⟨r, hr⟩ := hc
  have hcut := h.cut
  rw [hr] at hcut
  refine ⟨by rw [← hcut]; simp, hJ _ _ _ h.come (h.still.trans (still_run h.run hW 3 _)), ?_, ?_⟩
  · rw [← hcut, List.getElem?_append_right (by simp)]
    simp
  · unfold Yi.slice
    rw [h.len]
    exact own_base (ownsRow_setCell_other (a := ⟨Bp, 3, none⟩) h.row (h.run.not_row h.row) _) (Nat.le_trans hbase h.size)
theorem AtR.reset (h : AtR n₀ Bs Bb Bp A ca N b lv J W k c p A2 c2 W0 xs w) (hx : lv[k]? = some x) (h1 : x ≠ -1) (hn : c.pl ≠ []) (hne : x ≠ c.lv) (hW : W.heap.size ≤ Bp) (hs : Bs < W.heap.size) (hb : Bb < W.heap.size) (hn₀ : n₀ ≤ W.heap.size)
    (hk : KeepsR n₀ Bs Bb (w.setCell ⟨Bp, 3, none⟩ (.int .i64 x)) w7) (hJ7 : J (xs ++ [(⟨c.pl, c.lv, c.ah, x⟩, A2, c2)]) w7) (hsz : W.heap.size ≤ w7.heap.size) :
    AtR n₀ Bs Bb Bp A ca N b lv J W k ⟨[], 0, c.lv, 0⟩ 0 none 0 w7 (xs ++ [(⟨c.pl, c.lv, c.ah, x⟩, A2, c2)]) (putRun w7 Bp (.slice none 0 0) 0 c.lv 0) := by
  have hrun : RunAt w7 Bp #[.slice A2 p c2, .int .i64 c.lv, .int .i64 c.ah, .int .i64 x] := by
    have := h.run.set 3 (.int .i64 x)
    refine hk.own _ _ _ (show RunAt _ _ _ from ?_)
    simpa using this
  have hrun0 := hrun.set 0 (.slice none 0 0)
  have hrun1 := hrun0.set 1 (.int .i64 0)
  have hrun2 := hrun1.set 2 (.int .i64 c.lv)
  have hst : Still mineR W.heap.size w7 (putRun w7 Bp (.slice none 0 0) 0 c.lv 0) := (((still_run hrun hW 0 _).trans (still_run hrun0 hW 1 _)).trans (still_run hrun1 hW 2 _)).trans (still_run hrun2 hW 3 _)
  have hs3 : Below W.heap.size w (w.setCell ⟨Bp, 3, none⟩ (.int .i64 x)) := (Below.refl _ _).setCell (p := ⟨Bp, 3, none⟩) hW _
  refine ⟨?_, World.ownsRow_nil _ _ _ _, rfl, hJ7, hst, hsz, (h.below.trans (hs3.mono hn₀)).trans (hk.below.trans (hst.below.mono hn₀)), ?_, ?_, ?_, Nat.zero_le _⟩
  · have := hrun2.set 3 (.int .i64 0)
    unfold putRun
    simpa using this
  · exact (hst.below.block Bs hs).trans (hk.boxS _ ((hs3.block Bs hs).trans h.boxS))
  · exact (hst.below.block Bb hb).trans (hk.boxB _ ((hs3.block Bb hb).trans h.boxB))
  · have := h.cut
    rw [M.drop_next hx, M.cutR, if_neg h1, if_pos ⟨hn, hne⟩] at this
    rw [← this, M.drop_next hx, M.cutR, if_neg h1, if_neg (by simp), List.map_append, List.append_assoc]
    rfl
end
end Go.Proofs.YtjlfgojblimobaaGreat
end

section
namespace Go.Proofs.YtjlfgojblimobaaGreat
open Go.RowKit Go.Shelf
attribute [local go_sem] Oper.semAt_some
set_option maxRecDepth 100000

theorem Tryz.infoIntR : (Tryz.prog.info? 3).map (fun i => (i.zero, i.size, i.bytes)) = some (some (.int .i64 0), 1, 8) := by kernel_rfl
set_option maxHeartbeats 4000000 in
theorem runs1_in (n l Bs Bb n₀ base : Nat) (A : Option Addr) (ca N : Nat) (b : Int) (lv : List Int) (J Jx : List Yi → World → Prop) (hn : 1 ≤ n) (W : World)
    (hJ : ∀ s X Y, J s X → Still mineR W.heap.size X Y → J s Y)
    (hY : ∀ pre x X, J pre X → pre.length < (M.runs lv b).length → NextRun lv b base pre x X → YieldAt Fence.wide (n - 1) Tryz.prog l #[.agg #[x.slice, .int .i64 x.1.lv, .int .i64 x.1.ah, .int .i64 x.1.be]] X fun e Y =>
      (e = .returned (.bool true) ∧ J (pre ++ [x]) Y ∧ KeepsR n₀ Bs Bb X Y) ∨ (e = .returned (.bool false) ∧ Jx (pre ++ [x]) Y))
    (hBs : Boxed W Bs 25 (.slice A N ca)) (hBb : Boxed W Bb 3 (.int .i64 b)) (hr : RdS .i64 W n₀ A lv) (hN : lv.length = N) (hl : N ≤ 1000) (hca : N ≤ ca) (hn₀ : n₀ ≤ W.heap.size) (hbase : base ≤ W.heap.size) (h0 : J [] W) :
    CallsIn Fence.wide n Tryz.prog 108 #[.func (.yield l) #[] #[], .pointer (some ⟨Bb, 0, none⟩), .pointer (some ⟨Bs, 0, none⟩)] W fun e W' => (∃ v, e = .returned v) ∧
      ((∃ xs, xs.map (·.1) = M.runs lv b ∧ J xs W') ∨ (∃ pre, True ∧ Jx pre W')) := by
  obtain ⟨i0, hi, hz0, hz1, hz2⟩ := info_parts Tryz.infoIntR
  have HY := Lib.hid hY
  have HJ := Lib.hid hJ
  have HR := Lib.hid hr
  have HBS := Lib.hid hBs
  have HBB := Lib.hid hBb
  have HN := Lib.hid hN
  have H0 := Lib.hid h0
  have hl1 : (N : Int) ≤ 1000 := by omega
  have hc1 : (N : Int) ≤ ca := by omega
  have hcs := hBs.cell
  have hcb := hBb.cell
  obtain ⟨Bp, hBp⟩ : ∃ x, W.heap.size = x := ⟨_, rfl⟩
  obtain ⟨W1, hW1⟩ : ∃ X, W.alloc (.cells #[.slice none 0 0, .int .i64 0, .int .i64 b, .int .i64 0] 121) = X := ⟨_, rfl⟩
  have hrun : RunAt W1 Bp #[.slice none 0 0, .int .i64 0, .int .i64 b, .int .i64 0] := by rw [← hBp, ← hW1]; exact World.alloc_heap_new _ _
  have hb1 : Below W.heap.size W W1 := by rw [← hW1]; exact (Below.refl _ _).alloc (Nat.le_refl _) _
  have HAT0 := Lib.hid (show AtR n₀ Bs Bb Bp A ca N b lv J W 0 ⟨[], 0, b, 0⟩ 0 none 0 W [] W1 from
    ⟨hrun, World.ownsRow_nil _ _ _ _, rfl, h0, Still.of_below hb1 (Nat.le_refl _), Nat.le_refl _, hb1.mono hn₀, (hb1.block _ hBs.lt).trans hBs, (hb1.block _ hBb.lt).trans hBb, rfl, Nat.le_refl _⟩)
  have HS := Lib.hid (show Bs < W.heap.size ∧ Bb < W.heap.size ∧ W.heap.size ≤ Bp from ⟨hBs.lt, hBb.lt, by omega⟩)
  have HW1 := Lib.hid hW1
  have HBP := Lib.hid hBp
  have hsB : Bs < Bp := by have := hBs.lt; omega
  have hbB : Bb < Bp := by have := hBb.lt; omega
  clear hY hJ hr hBs hBb hN h0 hrun hb1 hW1
  refine callsIn_of_wp Tryz.func108 rfl trivial ?_ rfl
  simp only [Tryz.ntmps108, List.size_toArray, List.length_cons, List.length_nil, Nat.reduceAdd, Nat.reduceSub, Array.replicate_succ, Array.replicate_zero, List.push_toArray, List.append_toArray, List.nil_append, List.cons_append]
  gi_wp2_with fail
  rw [HW1.out]
  clear hcs hcb hsB hbB
  gi_loopw [11] (fun ix wr => ∃ (k : Nat) (c : M.Rn) (p : Nat) (A2 : Option Addr) (c2 : Nat) (W0 : World) (xs : List Yi), ix = .int .i64 k ∧ k ≤ N ∧ AtR n₀ Bs Bb Bp A ca N b lv J W k c p A2 c2 W0 xs wr) (fun ix _ => N - (intOf ix).toNat)
  case atStart => exact ⟨0, _, 0, none, 0, W, [], rfl, Nat.zero_le _, HAT0.out⟩
  case round =>
    obtain ⟨k, ⟨pl, x0, a0, e0⟩, p, A2, c2, W0, xs, rfl, hkN, hat⟩ := hrel
    have HAT := Lib.hid hat
    have k0 : (0 : Int) ≤ k := by omega
    have hp0 : (0 : Int) ≤ p := by omega
    have hp1 : (p : Int) ≤ k := by have := hat.pk; omega
    have hpl : pl.length = p := hat.len
    have HPL := Lib.hid hpl
    have c0 := hat.run.cell (i := 0) rfl
    have c1 := hat.run.cell (i := 1) rfl
    have c2' := hat.run.cell (i := 2) rfl
    have c3 := hat.run.cell (i := 3) rfl
    have f0 := hat.run.frozen 0
    have f1 := hat.run.frozen 1
    have f3 := hat.run.frozen 3
    dsimp only at c1 c2' c3
    have HSZ := Lib.hid (show W0.heap.size ≤ wr.heap.size ∧ W.heap.size ≤ wr.heap.size ∧ Bp < wr.heap.size from ⟨hat.still.below.size, Nat.le_trans hat.size hat.still.below.size, hat.run.lt⟩)
    clear hpl
    rcases Nat.lt_or_ge k N with hkn | hkn
    · have k2 : (k : Int) < N := by omega
      obtain ⟨ad, x, rfl, hcx, hx, hab⟩ := rd_at HR.out hat.below (by have := HN.out; omega : k < lv.length)
      have HX := Lib.hid hx
      clear hx hab hat hkn
      by_cases hx1 : x = -1
      · subst hx1
        have HAT2 := Lib.hid (HAT.out.skip HX.out)
        clear c0 c1 c2' c3 f0 f1 f3
        gi_wp2_with fail
        go_roundw
        case rel => exact ⟨k + 1, _, p, A2, c2, W0, xs, by go_num, by omega, HAT2.out⟩
        case measure => simp [intOf]; omega
      · have hx2 : (x == -1) = false := by simp [hx1]
        by_cases hp : p = 0
        · have hp2 : ¬ (0 : Int) < p := by omega
          have hnil : pl = [] := List.eq_nil_of_length_eq_zero (by have := HPL.out; omega)
          have HNIL := Lib.hid hnil
          clear hnil hp
          gi_wp2_with (gi_at_builtin; refine wpListIn_append_own _ rfl _ _ 25 rfl W0.heap.size 3 i0 (.int .i64 0) 1 8 Tryz.underlying25 hi hz0 hz1 hz2 rfl (by decide) _ _ _ rfl (HAT.out.row.alloc _) ⟨wr.heap.size, 0, none⟩ 1 1 [.int .i64 k] rfl rfl (one_new _ _ _) one_cell (by unfold maxLen; omega) (by omega) (by simp; have := HSZ.out; omega) ?_; intro v' w1 hown hgrow _; obtain ⟨g', cap', rfl⟩ := ownsRow_succ hown; have hr1 := HAT.out.grown hgrow; have d0 := hr1.cell (i := 0) rfl; have d1 := hr1.cell (i := 1) rfl; have g0 := hr1.frozen 0; have g1 := hr1.frozen 1)
          have HA := Lib.hid (HAT.out.append HX.out hx1 (.inl HNIL.out) hn₀ HS.out.2.2 HS.out.1 HS.out.2.1 hgrow hown)
          go_roundw
          case rel => exact ⟨k + 1, _, p + 1, _, cap', W0, xs, by go_num, by omega, HA.out⟩
          case measure => simp [intOf]; omega
        · have hp2 : (0 : Int) < p := by omega
          clear hp
          by_cases hx0 : x = x0
          · subst hx0
            gi_wp2_with (gi_at_builtin; refine wpListIn_append_own _ rfl _ _ 25 rfl W0.heap.size 3 i0 (.int .i64 0) 1 8 Tryz.underlying25 hi hz0 hz1 hz2 rfl (by decide) _ _ _ rfl (HAT.out.row.alloc _) ⟨wr.heap.size, 0, none⟩ 1 1 [.int .i64 k] rfl rfl (one_new _ _ _) one_cell (by unfold maxLen; omega) (by omega) (by simp; have := HSZ.out; omega) ?_; intro v' w1 hown hgrow _; obtain ⟨g', cap', rfl⟩ := ownsRow_succ hown; have hr1 := HAT.out.grown hgrow; have d0 := hr1.cell (i := 0) rfl; have d1 := hr1.cell (i := 1) rfl; have g0 := hr1.frozen 0; have g1 := hr1.frozen 1)
            have HA := Lib.hid (HAT.out.append HX.out hx1 (.inr rfl) hn₀ HS.out.2.2 HS.out.1 HS.out.2.1 hgrow hown)
            go_roundw
            case rel => exact ⟨k + 1, _, p + 1, _, cap', W0, xs, by go_num, by omega, HA.out⟩
            case measure => simp [intOf]; omega
          · have HNE := Lib.hid (show pl ≠ [] from fun e => by have := HPL.out; rw [e] at this; simp at this; omega)
            have hx3 : (x == x0) = false := by simp [hx0]
            obtain ⟨hlen, hJ6, hnext⟩ := HAT.out.comes (y := x) ⟨_, by rw [M.drop_next HX.out, M.cutR, if_neg hx1, if_pos ⟨HNE.out, hx0⟩]⟩ HJ.out HS.out.2.2 hbase
            obtain ⟨fn, tmps, assign, body, hy, hR⟩ := HY.out xs (⟨pl, x0, a0, x⟩, A2, c2) _ hJ6 hlen hnext
            have hs : Yi.slice (⟨pl, x0, a0, x⟩, A2, c2) = .slice A2 p c2 := by unfold Yi.slice; rw [HPL.out]
            rw [hs] at hy
            dsimp only at hy
            have HRD := Lib.hid hR
            clear hR hlen hJ6 hnext hs
            gi_wp2_with fail
            refine HRD.out.mono ?_
            rintro e w7 (⟨rfl, hJ7, hk7⟩ | ⟨rfl, hJx7⟩)
            · have hsz7 : W.heap.size ≤ w7.heap.size := by have h1 := hk7.below.size; have h2 := HSZ.out; simp [World.setCell] at h1; omega
              have hat7 := HAT.out.reset HX.out hx1 HNE.out hx0 HS.out.2.2 HS.out.1 HS.out.2.1 hn₀ hk7 hJ7 hsz7
              have hr7 := hk7.own _ _ _ (show RunAt _ _ #[.slice A2 p c2, .int .i64 x0, .int .i64 a0, .int .i64 x] from by have := HAT.out.run.set 3 (.int .i64 x); simpa using this)
              have HR7 := Lib.hid (show RunAt w7 Bp #[.slice A2 p c2, .int .i64 x0, .int .i64 a0, .int .i64 x] from hr7)
              have d0 := HR7.out.cell (i := 0) rfl
              have d1 := HR7.out.cell (i := 1) rfl
              have d2 := HR7.out.cell (i := 2) rfl
              have d3 := HR7.out.cell (i := 3) rfl
              have g0 := HR7.out.frozen 0
              have g1 := HR7.out.frozen 1
              have g2 := HR7.out.frozen 2
              have g3 := HR7.out.frozen 3
              obtain ⟨W8, hW8⟩ : ∃ X, putRun w7 Bp (.slice none 0 0) 0 x0 0 = X := ⟨_, rfl⟩
              rw [hW8] at hat7
              unfold putRun at hW8
              have HAT8 := Lib.hid hat7
              have e0' := hat7.run.cell (i := 0) rfl
              have e1' := hat7.run.cell (i := 1) rfl
              have q0 := hat7.run.frozen 0
              have q1 := hat7.run.frozen 1
              have HSZ8 := Lib.hid (show w7.heap.size ≤ W8.heap.size from hat7.still.below.size)
              clear hat7 hr7 hk7 hJ7 hy hsz7 HRD c0 c1 c2' c3 f0 f1 f3 hcx
              gi_wp2_with (gi_at_builtin; refine wpListIn_append_own _ rfl _ _ 25 rfl w7.heap.size 3 i0 (.int .i64 0) 1 8 Tryz.underlying25 hi hz0 hz1 hz2 rfl (by decide) _ _ _ rfl (HAT8.out.row.alloc _) ⟨W8.heap.size, 0, none⟩ 1 1 [.int .i64 k] rfl rfl (one_new _ _ _) one_cell (by unfold maxLen; omega) (by omega) (by simp; have := HSZ8.out; omega) ?_; intro v' w1 hown hgrow _; obtain ⟨g', cap', rfl⟩ := ownsRow_succ hown; have hr1 := HAT8.out.grown hgrow; have d0 := hr1.cell (i := 0) rfl; have d1 := hr1.cell (i := 1) rfl; have g0 := hr1.frozen 0; have g1 := hr1.frozen 1)
              have HA := Lib.hid (HAT8.out.append HX.out hx1 (.inl rfl) hn₀ HS.out.2.2 HS.out.1 HS.out.2.1 hgrow hown)
              go_roundw
              case rel => exact ⟨k + 1, _, 0 + 1, _, cap', w7, _, by go_num, by omega, HA.out⟩
              case measure => simp [intOf]; omega
            · have HJX := Lib.hid hJx7
              clear hJx7 hy
              gi_wp2
              refine bodyPost_ret (results_none rfl _ _ _) rfl ?_
              exact ⟨⟨_, rfl⟩, .inr ⟨_, trivial, HJX.out⟩⟩
    · obtain rfl : k = N := by omega
      by_cases hp : p = 0
      · have hp2 : ¬ (0 : Int) < p := by omega
        have HRES := Lib.hid (show xs.map (·.1) = M.runs lv b by
          have h1 := HAT.out.cut
          have hnil : pl = [] := List.eq_nil_of_length_eq_zero (by have := HPL.out; omega)
          rw [List.drop_eq_nil_of_le (by rw [HN.out]; exact Nat.le_refl _), M.cutR, if_pos hnil, List.append_nil] at h1
          exact h1)
        clear hp
        gi_wp2
        go_end0
        exact ⟨⟨_, rfl⟩, .inl ⟨xs, HRES.out, HJ.out _ _ _ HAT.out.come HAT.out.still⟩⟩
      · have hp2 : (0 : Int) < p := by omega
        have HNE := Lib.hid (show pl ≠ [] from fun e => by have := HPL.out; rw [e] at this; simp at this; omega)
        have HRES := Lib.hid (show (xs ++ [((⟨pl, x0, a0, b⟩ : M.Rn), A2, c2)]).map (·.1) = M.runs lv b by
          have h1 := HAT.out.cut
          rw [List.drop_eq_nil_of_le (by rw [HN.out]; exact Nat.le_refl _), M.cutR, if_neg HNE.out] at h1
          rw [List.map_append]
          exact h1)
        have hcb2 := HAT.out.boxB.cell
        obtain ⟨hlen, hJ6, hnext⟩ := HAT.out.comes (y := b) ⟨_, by rw [List.drop_eq_nil_of_le (by rw [HN.out]; exact Nat.le_refl _), M.cutR, if_neg HNE.out]⟩ HJ.out HS.out.2.2 hbase
        obtain ⟨fn, tmps, assign, body, hy, hR⟩ := HY.out xs (⟨pl, x0, a0, b⟩, A2, c2) _ hJ6 hlen hnext
        have hs : Yi.slice (⟨pl, x0, a0, b⟩, A2, c2) = .slice A2 p c2 := by unfold Yi.slice; rw [HPL.out]
        rw [hs] at hy
        dsimp only at hy
        have HRD := Lib.hid hR
        clear hR hlen hJ6 hnext hs hp hkn hat
        gi_wp2_with fail
        refine HRD.out.mono ?_
        rintro e w7 (⟨rfl, hJ7, hk7⟩ | ⟨rfl, hJx7⟩)
        · have HJ7 := Lib.hid hJ7
          clear hJ7 hk7 hy
          gi_wp2
          go_end0
          exact ⟨⟨_, rfl⟩, .inl ⟨_, HRES.out, HJ7.out⟩⟩
        · have HJX := Lib.hid hJx7
          clear hJx7 hy
          gi_wp2
          go_end0
          exact ⟨⟨_, rfl⟩, .inr ⟨_, trivial, HJX.out⟩⟩

set_option maxHeartbeats 1000000 in
theorem levelRuns_any (A : Option Addr) (ca n : Nat) (b : Int) (w : World) :
    Calls Tryz.prog 71 #[.slice A n ca, .int .i64 b] w fun e w' => e = .returned (.func (.func 108) #[] #[.pointer (some ⟨w.heap.size + 1, 0, none⟩), .pointer (some ⟨w.heap.size, 0, none⟩)]) ∧ (w.alloc (.cells #[.slice A n ca] 25)).alloc (.cells #[.int .i64 b] 3) = w' := by
  have hmf : ∀ (fn : Fn) (first cap : Array Value) (w : World), (Instr.makeFunc fn first cap).run Tryz.prog w = .ok (.func fn first cap) w := fun _ _ _ _ => rfl
  go_enter Tryz.func71, Tryz.ntmps71
  go_wp2
  go_ret
  exact ⟨rfl, rfl⟩

def Yi.enc (x : Yi) : Array Value := #[.agg #[x.slice, .int .i64 x.1.lv, .int .i64 x.1.ah, .int .i64 x.1.be]]
theorem runs_gives (n Bs Bb n₀ : Nat) (A : Option Addr) (ca N : Nat) (b : Int) (lv : List Int) (w : World) (hn : 1 ≤ n) (hBs : Boxed w Bs 25 (.slice A N ca)) (hBb : Boxed w Bb 3 (.int .i64 b)) (hr : RdS .i64 w n₀ A lv) (hN : lv.length = N) (hl : N ≤ 1000) (hca : N ≤ ca) (hn₀ : n₀ ≤ w.heap.size) :
    Gives mineR n Tryz.prog 108 #[.pointer (some ⟨Bb, 0, none⟩), .pointer (some ⟨Bs, 0, none⟩)] Yi.enc (KeepsR n₀ Bs Bb) (NextRun lv b w.heap.size) (fun xs => xs.map (·.1) = M.runs lv b) (fun _ => True) (M.runs lv b).length w := fun l J Jx W hW hJ _ hY h0 =>
  runs1_in n l Bs Bb n₀ w.heap.size A ca N b lv J Jx hn W hJ hY ((hW.block Bs hBs.lt).trans hBs) ((hW.block Bb hBb.lt).trans hBb) (hr.below (hW.mono hn₀)) hN hl hca (Nat.le_trans hn₀ hW.size) hW.size h0
end Go.Proofs.YtjlfgojblimobaaGreat
end
