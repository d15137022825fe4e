/- What goes with what stands about it, as plain functions on lists of whole numbers: the settled classes, and the levels. No program is read here. -/
/- A range over a function whose iterator turns cells of its own, told apart by their kind: the iterator's contract, and the statement's walk out of it and of the walk of its body. No program is read here. -/
/- The contracts of the document's Neutral, side and at. Conditions: the slice reads as a list, at most a thousand long; a neutral place. -/
/- The contracts of the document's Settle and Raise. Conditions: the slice reads as a list of classes, at most a thousand long. -/
import Derived.Test.YtjlfgojblimobaaGreatA00
import Derived.RangeFuncNested
import Derived.RangeFuncBound
import Derived.RangeFuncCalls
import Derived.RangeFuncLeaves
import Derived.Handy
section
namespace Go.Proofs.YtjlfgojblimobaaGreat.S12.M

def neu (c : Int) : Prop := c = 10 ∨ c = 11 ∨ c = 12 ∨ c = 13 ∨ c = 19 ∨ c = 20 ∨ c = 21 ∨ c = 22
instance (c : Int) : Decidable (neu c) := by unfold neu; infer_instance
def sd2 (c : Int) : Int := if c = 0 then 0 else if c = 1 ∨ c = 3 ∨ c = 6 then 1 else 10
def sa (f : Int) : List Int → Int
  | [] => f
  | x :: r => if neu x then sa f r else sd2 x
def nat (own f g : Int) (p q : List Int) : Int := if sa f p = sa g q ∧ sa f p ≠ 10 then sa f p else own
def sgo (own f g : Int) : List Int → List Int → List Int
  | _, [] => []
  | p, c :: q => (if neu c then nat own f g p q else c) :: sgo own f g (c :: p) q
def own (lv : Int) : Int := if lv % 2 = 1 then 1 else 0
def settle (lv f g : Int) (l : List Int) : List Int := sgo (own lv) f g [] l
def rs (lv c : Int) : Int := if lv % 2 = 0 ∧ c = 1 then lv + 1 else if lv % 2 = 0 ∧ (c = 3 ∨ c = 6) then lv + 2 else if lv % 2 = 1 ∧ (c = 0 ∨ (c = 3 ∨ c = 6)) then lv + 1 else lv
def raise (lv : Int) (l : List Int) : List Int := l.map (rs lv)
def setOk (lv f g : Int) : Prop := (0 ≤ lv ∧ lv ≤ 125) ∧ (f = 0 ∨ f = 1) ∧ (g = 0 ∨ g = 1)
instance (lv f g : Int) : Decidable (setOk lv f g) := by unfold setOk; infer_instance
section
variable {o f g lv : Int} {p q l r : List Int}
theorem sa_cons (f x : Int) (r : List Int) : sa f (x :: r) = if neu x then sa f r else sd2 x := rfl
theorem sgo_cons (o f g : Int) (p : List Int) (c : Int) (q : List Int) : sgo o f g p (c :: q) = (if neu c then nat o f g p q else c) :: sgo o f g (c :: p) q := rfl
theorem sgo_len : (sgo o f g p q).length = q.length := by
  induction q generalizing p with
  | nil => rfl
  | cons c q ih => rw [sgo_cons, List.length_cons, ih, List.length_cons]
theorem settle_len : (settle lv f g l).length = l.length := sgo_len
theorem raise_len : (raise lv l).length = l.length := List.length_map _
theorem sd2_or (c : Int) : sd2 c = 0 ∨ sd2 c = 1 ∨ sd2 c = 10 := by unfold sd2; (repeat' split) <;> simp
theorem not_neu {c : Int} (h : c = 0 ∨ c = 1) : ¬ neu c := by unfold neu; omega
theorem sgo_at {i : Nat} {x : Int} (h : (sgo o f g p q)[i]? = some x) : ∃ c, q[i]? = some c ∧ x = if neu c then nat o f g ((q.take i).reverse ++ p) (q.drop (i + 1)) else c := by
  induction q generalizing p i with
  | nil => simp [sgo] at h
  | cons c q ih =>
    rw [sgo_cons] at h
    cases i with
    | zero =>
      rw [List.getElem?_cons_zero] at h
      injection h with h
      exact ⟨c, rfl, h.symm⟩
    | succ i =>
      rw [List.getElem?_cons_succ] at h
      obtain ⟨c', h1, h2⟩ := ih h
      refine ⟨c', by rw [List.getElem?_cons_succ]; exact h1, ?_⟩
      rw [List.take_succ_cons, List.reverse_cons, List.append_assoc, List.singleton_append, List.drop_succ_cons]
      exact h2
theorem settle_at {i : Nat} {x : Int} (h : (settle lv f g l)[i]? = some x) : ∃ c, l[i]? = some c ∧ x = if neu c then nat (own lv) f g (l.take i).reverse (l.drop (i + 1)) else c := by
  obtain ⟨c, h1, h2⟩ := sgo_at h
  rw [List.append_nil] at h2
  exact ⟨c, h1, h2⟩
theorem rs_is {lv c : Int} : lv ≤ rs lv c ∧ rs lv c ≤ lv + 2 ∧ ((c = 0 ∨ c = 3 ∨ c = 6) → rs lv c % 2 = 0) ∧ (c = 1 → rs lv c % 2 = 1) := by
  unfold rs
  refine ⟨?_, ?_, ?_, ?_⟩
  all_goals (repeat' split) <;> omega
end
end Go.Proofs.YtjlfgojblimobaaGreat.S12.M
end

section
namespace Go.Proofs.YtjlfgojblimobaaGreat.S12
open Go.RowKit
variable {n : Nat} {P : Program}

structure Still (mine : Obj → Bool) (B : Nat) (W W' : World) : Prop where
  below : Below B W W'
  kept : ∀ (k : Nat) (o : Obj), W.heap[k]? = some o → mine o = false → W'.heap[k]? = some o
theorem Still.refl (mine : Obj → Bool) (B : Nat) (W : World) : Still mine B W W := ⟨Below.refl _ _, fun _ _ h _ => h⟩
theorem Still.trans {mine : Obj → Bool} {B : Nat} {X Y Z : World} (h : Still mine B X Y) (k : Still mine B Y Z) : Still mine B X Z := ⟨h.below.trans k.below, fun i o hi ho => k.kept i o (h.kept i o hi ho) ho⟩
theorem Still.of_below {mine : Obj → Bool} {B : Nat} {W W' : World} (h : Below W.heap.size W W') (hB : B ≤ W.heap.size) : Still mine B W W' :=
  ⟨h.mono hB, fun k _ hk _ => (h.block k (Array.getElem?_eq_some_iff.1 hk).1).trans hk⟩
theorem Still.wider {mine ours : Obj → Bool} {B B' : Nat} {W W' : World} (h : Still mine B W W') (hm : ∀ o, ours o = false → mine o = false) (hB : B' ≤ B) : Still ours B' W W' := ⟨h.below.mono hB, fun k o hk ho => h.kept k o hk (hm o ho)⟩
def ours (mine : Obj → Bool) (o : Obj) : Bool := mine o || !o.isCells
theorem ours_mine {mine : Obj → Bool} (o : Obj) (h : ours mine o = false) : mine o = false := by unfold ours at h; simp at h; exact h.1
theorem still_put {mine : Obj → Bool} {B l : Nat} {W : World} {o : Obj} (o' : Obj) (hl : W.heap[l]? = some o) (ho : o.isCells = false) (hB : B ≤ l) : Still (ours mine) B W (W.putObj l o') := by
  have hlt := (Array.getElem?_eq_some_iff.1 hl).1
  refine ⟨⟨rfl, rfl, rfl, by simp, fun k hk => World.putObj_heap_other (by omega)⟩, fun k o2 hk hm => ?_⟩
  have hne : k ≠ l := fun e => by
    rw [e, hl] at hk
    injection hk with hk
    rw [← hk] at hm
    unfold ours at hm
    rw [ho] at hm
    simp at hm
  exact (World.putObj_heap_other hne).trans hk

def Gives {α : Type} (mine : Obj → Bool) (n : Nat) (P : Program) (gf : Nat) (lb : Array Value) (encs : α → Array Value) (Kp : World → World → Prop) (S Sp Ok : List α → Prop) (N : Nat) (w : World) : Prop :=
  ∀ (l : Nat) (J Jx : List α → World → Prop) (W : World), Below w.heap.size w W →
    (∀ s A B, J s A → Still mine W.heap.size A B → J s B) → (∀ s A B, Jx s A → Still mine W.heap.size A B → Jx s B) →
    (∀ pre x A, J pre A → pre.length < N → Ok (pre ++ [x]) → YieldAt Fence.wide (n - 1) P l (encs x) A fun e B =>
      (e = .returned (.bool true) ∧ J (pre ++ [x]) B ∧ Kp A B) ∨ (e = .returned (.bool false) ∧ Jx (pre ++ [x]) B)) →
    J [] W →
    CallsIn Fence.wide n P gf (#[.func (.yield l) #[] #[]] ++ lb) W fun e B => (∃ v, e = .returned v) ∧ ((∃ xs, S xs ∧ J xs B) ∨ (∃ pre, Sp pre ∧ Jx pre B))

theorem range_mine {α : Type} {g : Operand} {ps : Array Tmp} {assign body : Code} {Q : Exit → Act → World → Prop} {a : Act} {w : World} (h1 : 1 ≤ n)
    {gf : Nat} {lb : Array Value} (hg : a.eval g = .func (.func gf) #[] lb) (eg : ∀ args w, (callFunc gf args).run P w = .ok (.enter gf args) w)
    {mine : Obj → Bool} (hmine : ∀ o, o.isCells = false → mine o = false)
    {encs : α → Array Value} {Kp : World → World → Prop} {S Sp Ok : List α → Prop} {N : Nat} (hseq : Gives mine (n - 1) P gf lb encs Kp S Sp Ok N w)
    (hKt : ∀ {A B C : World}, Kp A B → Kp B C → Kp A C) (hKb : ∀ (W : World) (l : Nat) (o o' : Obj), w.heap.size ≤ l → W.heap[l]? = some o → o.isCells = false → Kp W (W.putObj l o')) (hps : ∀ x, (encs x).size = ps.size)
    (I : List α → World → Prop) (Ix : Code → List α → World → Prop) (hI : ∀ s A B, I s A → Still (ours mine) w.heap.size A B → I s B) (hIx : ∀ c s A B, Ix c s A → Still (ours mine) w.heap.size A B → Ix c s B) (h0 : I [] w) (a₁ : α → Act)
    (hassign : ∀ (l : Nat) (x : α) (W : World) (K : Act → World → Prop), K (a₁ x) W →
      assign.wpIn (Fence.wide.inRound l) (n - 1 - 1) P (Exit.then K (fun _ _ _ => False)) { tmps := (ps.zip (encs x)).foldl (fun t (p, v) => t.setIfInBounds p v) a.tmps, defers := [] } W)
    (hbody : ∀ (l : Nat) (pre : List α) (x : α) (W : World), I pre W → pre.length < N → Ok (pre ++ [x]) → body.wpIn (Fence.wide.inRound l) (n - 1 - 1) P (ownPostG w.heap.size Kp I Ix (pre ++ [x]) W) (a₁ x) W)
    (hdone : ∀ (D : Nat) (xs : List α) (W : World), w.heap.size ≤ D → S xs → I xs W → W.heap[D]? = some (.deferred (some [])) → Q .normal { a with defers := { target := .collected D, args := #[] } :: a.defers } W)
    (hstop : ∀ (D : Nat) (c : Code) (pre : List α) (W : World), w.heap.size ≤ D → Sp pre → Ix c pre W → W.heap[D]? = some (.deferred (some [])) → c.wpIn Fence.wide n P Q { a with defers := { target := .collected D, args := #[] } :: a.defers } W) :
    (Code.rangeFunc g ps assign body).wpIn Fence.wide n P Q a w := by
  refine wpIn_rangeFunc fun fn hfn => ?_
  -- the loop's record lies at L, the block for what its rounds defer at w.heap.size
  obtain ⟨rec, hrec⟩ : ∃ rec : LoopState → Option Code → Loop, rec = fun st pe => { state := st, pending := pe, fn, tmps := a.tmps, params := ps, assign, body, defers := w.heap.size } := ⟨_, rfl⟩
  obtain ⟨L, hL⟩ : ∃ L, L = w.heap.size + 1 := ⟨_, rfl⟩
  obtain ⟨W1, hW1⟩ : ∃ W1, W1 = (w.alloc (.deferred (some []))).alloc (.loop (rec .ready none)) := ⟨_, rfl⟩
  have enters : (Instr.enterLoop fn a.tmps ps assign body none).run P w = .ok (L, [{ target := .collected w.heap.size, args := #[] }]) W1 := by
    rw [hW1, hrec, hL]; exact run_enterLoop_outer _ _ _ _ _
  have recAt : W1.heap[L]? = some (.loop (rec .ready none)) := by
    rw [hW1, hL, show w.heap.size + 1 = (w.alloc (.deferred (some []))).heap.size by simp]; exact World.alloc_heap_new _ _
  have defAt : W1.heap[w.heap.size]? = some (.deferred (some [])) := by
    rw [hW1]; exact (Below.heap_alloc _ _ _ (by simp)).trans (World.alloc_heap_new w _)
  have size1 : W1.heap.size = w.heap.size + 2 := by rw [hW1]; simp
  have below1 : Below w.heap.size w W1 := by rw [hW1]; exact ((Below.refl _ w).alloc (Nat.le_refl _) _).alloc (by simp) _
  have res : (resolve a.eval (rangeCall g L) 0).run P W1 = .ok { target := .fn (.func gf) lb, args := #[.func (.yield L) #[] #[]] } W1 := by
    simp only [resolve, hg]; simp [go_sem]
  have inv : (invoke (.fn (.func gf) lb) #[.func (.yield L) #[] #[]]).run P W1 = .ok (.enter gf (#[.func (.yield L) #[] #[]] ++ lb)) W1 := by
    simp [invoke, go_sem, eg]
  refine ⟨L, _, W1, _, W1, gf, _, W1, enters, res, fun _ _ => trivial, inv, fun _ => h1, ?_⟩
  have notMine : ∀ o : Obj, o.isCells = false → ours mine o = true := fun o ho => by unfold ours; rw [ho]; simp
  -- what the iterator is handed: the caller's invariant, and the two blocks of the loop's own
  have go := hseq L (fun s W => I s W ∧ W.heap[L]? = some (.loop (rec .ready none)) ∧ W.heap[w.heap.size]? = some (.deferred (some [])))
    (fun s W => ∃ c, Ix c s W ∧ W.heap[L]? = some (.loop (rec .done (some c))) ∧ W.heap[w.heap.size]? = some (.deferred (some []))) W1 below1
    (fun s A B h m => ⟨hI s A B h.1 (m.wider ours_mine (by omega)), m.kept _ _ h.2.1 (hmine _ rfl), m.kept _ _ h.2.2 (hmine _ rfl)⟩)
    (fun s A B ⟨c, h⟩ m => ⟨c, hIx c s A B h.1 (m.wider ours_mine (by omega)), m.kept _ _ h.2.1 (hmine _ rfl), m.kept _ _ h.2.2 (hmine _ rfl)⟩)
  refine (go ?_ ⟨hI _ _ _ h0 (Still.of_below below1 (Nat.le_refl _)), recAt, defAt⟩).mono ?_
  · rintro pre x W ⟨hi, hl, hd⟩ hlen hok
    have hlt := (Array.getElem?_eq_some_iff.1 hl).1
    have yields := run_yield (P := P) (args := encs x) hl (by rw [hrec]; exact hps x)
    rw [hrec] at yields
    refine ⟨fn, _, assign, body, yields, roundIn_of_wpIn hfn (hassign _ x W _ ⟨_, run_beginRound hl (by rw [hrec]), ?_⟩)⟩
    obtain ⟨W2, hW2⟩ : ∃ W2, W2 = W.putObj L (.loop { rec .ready none with state := .busy }) := ⟨_, rfl⟩
    have rec2 : W2.heap[L]? = some (.loop { rec .ready none with state := .busy }) := by rw [hW2]; exact World.putObj_heap_same hlt
    have def2 : W2.heap[w.heap.size]? = some (.deferred (some [])) := by rw [hW2]; exact (World.putObj_heap_other (by omega)).trans hd
    have inv2 : I pre W2 := by rw [hW2]; exact hI _ _ _ hi (still_put _ hl rfl (by omega))
    have kp2 : Kp W W2 := by rw [hW2]; exact hKb _ _ _ _ (by omega) hl rfl
    -- a round's end: its record is ready again, or done
    have ending : ∀ (jump : Option Code) (W3 : World), KeepsFrom w.heap.size W2 W3 → ∃ W4,
        (Instr.endRound L jump).run P W3 = .ok (.bool jump.isNone) W4 ∧ W4.heap[L]? = some (.loop (rec (if jump.isNone then .ready else .done) jump)) ∧ W4.heap[w.heap.size]? = some (.deferred (some [])) ∧ Still (ours mine) w.heap.size W3 W4 ∧ Kp W3 W4 := fun jump W3 k3 => by
      have rec3 := k3.same L _ (by omega) rec2 rfl
      have run := run_endRound (P := P) jump rec3
      refine ⟨_, run, ?_, (World.putObj_heap_other (by omega)).trans (k3.same _ _ (Nat.le_refl _) def2 rfl), still_put _ rec3 rfl (by omega), hKb _ _ _ _ (by omega) rec3 rfl⟩
      rw [World.putObj_heap_same (Array.getElem?_eq_some_iff.1 rec3).1, hrec]
    rw [← hW2]
    refine wpIn_mono (hbody L pre x W2 inv2 hlen hok) ?_
    rintro e a3 W3 hp
    match e, hp with
    | .normal, ⟨k3, kp3, i3⟩ =>
      obtain ⟨W4, run, r4, d4, s4, kp4⟩ := ending none W3 k3
      exact ⟨_, W4, run, .inl ⟨rfl, ⟨hI _ _ _ i3 s4, r4, d4⟩, hKt (hKt kp2 kp3) kp4⟩⟩
    | .ret, ⟨k3, i3⟩ =>
      obtain ⟨W4, run, r4, d4, s4, _⟩ := ending (some .ret) W3 k3
      exact ⟨_, W4, run, .inr ⟨rfl, _, hIx _ _ _ _ i3 s4, r4, d4⟩⟩
    | .exit id, ⟨k3, i3⟩ =>
      obtain ⟨W4, run, r4, d4, s4, _⟩ := ending (some (.exit id)) W3 k3
      exact ⟨_, W4, run, .inr ⟨rfl, _, hIx _ _ _ _ i3 s4, r4, d4⟩⟩
    | .goto t, ⟨k3, i3⟩ =>
      obtain ⟨W4, run, r4, d4, s4, _⟩ := ending (some (.goto t)) W3 k3
      exact ⟨_, W4, run, .inr ⟨rfl, _, hIx _ _ _ _ i3 s4, r4, d4⟩⟩
  · rintro e W2 ⟨⟨v, rfl⟩, ⟨xs, hS, hi, hl, hd⟩ | ⟨pre, hSp, c, hi, hl, hd⟩⟩
    · have hend : (Instr.endLoop L).run P W2 = .ok none (W2.putObj L (.loop (rec .exhausted none))) := by
        have := run_endLoop (P := P) hl (by rw [hrec]; simp)
        rw [hrec] at this ⊢
        exact this
      exact ⟨none, _, hend, hdone _ xs _ (Nat.le_refl _) hS (hI _ _ _ hi (still_put _ hl rfl (by omega))) ((World.putObj_heap_other (by omega)).trans hd)⟩
    · have hend : (Instr.endLoop L).run P W2 = .ok (some c) (W2.putObj L (.loop (rec .exhausted (some c)))) := by
        have := run_endLoop (P := P) hl (by rw [hrec]; simp)
        rw [hrec] at this ⊢
        exact this
      exact ⟨some c, _, hend, hstop _ c pre _ (Nat.le_refl _) hSp (hIx _ _ _ _ hi (still_put _ hl rfl (by omega))) ((World.putObj_heap_other (by omega)).trans hd)⟩
end Go.Proofs.YtjlfgojblimobaaGreat.S12
end

section
namespace Go.Proofs.YtjlfgojblimobaaGreat.S12
open Go.RowKit
set_option maxRecDepth 100000

theorem M.take_next' {l : List Int} {k : Nat} {x : Int} (h : l[k]? = some x) : (l.take (k + 1)).reverse = x :: (l.take k).reverse := by
  obtain ⟨hk, rfl⟩ := List.getElem?_eq_some_iff.1 h
  rw [List.take_succ_eq_append_getElem hk]
  simp
theorem M.drop_next' {l : List Int} {k : Nat} {x : Int} (h : l[k]? = some x) : l.drop k = x :: l.drop (k + 1) := by
  obtain ⟨hk, rfl⟩ := List.getElem?_eq_some_iff.1 h
  exact List.drop_eq_getElem_cons hk
set_option maxHeartbeats 4000000 in
theorem refNeu_any (c : Int) (w : World) : Calls Tryz.prog 18 #[.int .i64 c] w fun r w' => r = .returned (.bool (decide (M.neu c))) ∧ w = w' := by
  have H := Lib.hid (show M.neu c ↔ (c = 10 ∨ c = 11 ∨ c = 12 ∨ c = 13 ∨ c = 19 ∨ c = 20 ∨ c = 21 ∨ c = 22) from Iff.rfl)
  go_enter Tryz.func18, Tryz.ntmps18
  go_wp2_with fail
  all_goals (go_ret; exact ⟨ret_bool (by rw [Bool.eq_iff_iff, decide_eq_true_iff, H.out]; simp_all), rfl⟩)
theorem refSide_any (c : Int) (w : World) : Calls Tryz.prog 101 #[.int .i64 c] w fun r w' => r = .returned (.int .i64 (M.sd2 c)) ∧ w = w' := by
  have H := Lib.hid (show M.sd2 c = if c = 0 then 0 else if c = 1 ∨ c = 3 ∨ c = 6 then 1 else 10 from rfl)
  go_enter Tryz.func101, Tryz.ntmps101
  go_wp2_with fail
  all_goals (go_ret; exact ⟨ret_int (by rw [H.out]; simp_all), rfl⟩)
theorem new_three (w : World) (a b c : Int) (t : TypeId) : ∃ W : World, w.alloc (.cells #[.int .i64 a, .int .i64 b, .int .i64 c] t) = W ∧ Below w.heap.size w W ∧ W.cell? ⟨w.heap.size, 0, none⟩ = some (.int .i64 a) ∧ W.cell? ⟨w.heap.size, 1, none⟩ = some (.int .i64 b) ∧ W.cell? ⟨w.heap.size, 2, none⟩ = some (.int .i64 c) ∧ w.heap.size < W.heap.size :=
  ⟨_, rfl, (Below.refl _ _).alloc (Nat.le_refl _) _, by simp [go_sem], by simp [go_sem], by simp [go_sem], by simp⟩
set_option maxHeartbeats 16000000 in
theorem refAt_any (A : Option Addr) (ca n i : Nat) (l : List Int) (lv f g : Int) (w : World) (hr : RdS .i64 w w.heap.size A l) (hn : l.length = n) (hl : n ≤ 1000) (hlv : 0 ≤ lv) (hi : ∃ c, l[i]? = some c ∧ M.neu c) :
    Calls Tryz.prog 52 #[.slice A n ca, .agg #[.int .i64 lv, .int .i64 f, .int .i64 g], .int .i64 i] w fun r w' => r = .returned (.int .i64 (M.nat (M.own lv) f g (l.take i).reverse (l.drop (i + 1)))) ∧ Below w.heap.size w w' := by
  obtain ⟨c0, hc0, hneu⟩ := hi
  have hin := (List.getElem?_eq_some_iff.1 hc0).1
  obtain ⟨ad, _, rfl, -⟩ := rd_at hr (Below.refl _ _) hin
  obtain ⟨W1, hW1, hb1, e0, e1, e2, -⟩ := new_three w lv f g 63
  have HR := Lib.hid ((hr.below hb1).more hb1.size)
  have HN := Lib.hid hn
  have HB1 := Lib.hid hb1
  obtain ⟨R, hR⟩ : ∃ R, M.nat (M.own lv) f g (l.take i).reverse (l.drop (i + 1)) = R := ⟨_, rfl⟩
  rw [hR]
  obtain ⟨X, hX⟩ : ∃ X, M.sa f (l.take i).reverse = X := ⟨_, rfl⟩
  obtain ⟨Y, hY⟩ : ∃ Y, M.sa g (l.drop (i + 1)) = Y := ⟨_, rfl⟩
  have HX := Lib.hid (show M.sa f (l.take (i + 1)).reverse = X by rw [M.take_next' hc0, M.sa_cons, if_pos hneu, hX])
  have HY := Lib.hid (show M.sa g (l.drop i) = Y by rw [M.drop_next' hc0, M.sa_cons, if_pos hneu, hY])
  have hR2 : (if X = Y ∧ X ≠ 10 then X else M.own lv) = R := by rw [← hR, ← hX, ← hY]; rfl
  have hl1 : (n : Int) ≤ 1000 := by omega
  have hi1 : (i : Int) < n := by omega
  have hi0 : (0 : Int) ≤ i := by omega
  clear hr hn hR hX hY hb1 hc0 hneu
  rcases Int.emod_two_eq lv with h2 | h2
  · rw [show M.own lv = 0 by unfold M.own; rw [h2]; rfl] at hR2
    have HRR := Lib.hid hR2
    have hb2 : (lv % 2 == 1) = false := by rw [h2]; rfl
    clear hR2 h2
    go_enter Tryz.func52, Tryz.ntmps52
    go_wp2_with fail
    go_loop [8] (fun v => ∃ (k : Nat) (q : Int), k ≤ i + 1 ∧ v = .int .i64 q ∧ q + 1 = k ∧ M.sa f (l.take k).reverse = X) (fun v => (intOf v + 1).toNat)
    case atStart => exact ⟨i + 1, (i : Int), Nat.le_refl _, rfl, by omega, HX.out⟩
    case round =>
      obtain ⟨k, q, hki, rfl, hq, hto⟩ := hrel
      have HT := Lib.hid hto
      clear hto
      cases k with
      | zero =>
        have hq0 : ¬ 0 ≤ q := by omega
        obtain rfl : f = X := HT.out
        clear hq
        go_wp2_with fail
        go_loop [9] (fun v => ∃ (m : Nat), m ≤ n ∧ v = .int .i64 m ∧ M.sa g (l.drop m) = Y) (fun v => n - (intOf v).toNat)
        case atStart => exact ⟨i, by omega, rfl, HY.out⟩
        case round =>
          obtain ⟨m, hmn, rfl, hto⟩ := hrel
          have HT2 := Lib.hid hto
          have hm0 : (0 : Int) ≤ m := by omega
          clear hto
          by_cases hlt : m < n
          · have hm1 : (m : Int) < n := by omega
            obtain ⟨ad', y, e', hcy, hy, -⟩ := rd_at HR.out (Below.refl _ _) (by rw [HN.out]; exact hlt : m < l.length)
            obtain rfl : ad = ad' := by injection e'
            have h1 := HT2.out
            rw [M.drop_next' hy, M.sa_cons] at h1
            have HNE2 := Lib.hid (refNeu_any y W1)
            have HSD2 := Lib.hid (refSide_any y W1)
            clear hy e'
            by_cases hne : M.neu y
            · rw [if_pos hne] at h1
              rw [decide_eq_true hne] at HNE2
              have H1' := Lib.hid h1
              clear hne h1
              go_wp2_with fail
              refine HNE2.out.mono ?_
              rintro r w1 ⟨rfl, rfl⟩
              go_wp2_with fail
              go_round
              case rel => exact ⟨m + 1, by omega, by go_num, H1'.out⟩
              case measure => simp [intOf]; omega
            · rw [if_neg hne] at h1
              rw [decide_eq_false hne] at HNE2
              rw [h1] at HSD2
              clear hne h1
              go_wp2_with fail
              refine HNE2.out.mono ?_
              rintro r w1 ⟨rfl, rfl⟩
              go_wp2_with fail
              refine HSD2.out.mono ?_
              rintro r w1 ⟨rfl, rfl⟩
              go_wp2_with fail
              all_goals (go_ret; exact ⟨ret_int (by rw [← HRR.out]; simp_all), HB1.out⟩)
          · obtain rfl : n = m := by omega
            have hm1 : ¬ (n : Int) < (n : Int) := by omega
            have h1 := HT2.out
            rw [List.drop_eq_nil_of_le (by rw [HN.out]; exact Nat.le_refl _)] at h1
            obtain rfl : g = Y := h1
            go_wp2_with fail
            all_goals (go_ret; exact ⟨ret_int (by rw [← HRR.out]; simp_all), HB1.out⟩)
      | succ k =>
        obtain rfl : q = (k : Nat) := by omega
        have hk0 : (0 : Int) ≤ k := by omega
        have hk1 : (k : Int) < n := by omega
        obtain ⟨ad', x, e', hcx, hx, -⟩ := rd_at HR.out (Below.refl _ _) (by rw [HN.out]; omega : k < l.length)
        obtain rfl : ad = ad' := by injection e'
        have h1 := HT.out
        rw [M.take_next' hx, M.sa_cons] at h1
        have HNE := Lib.hid (refNeu_any x W1)
        have HSD := Lib.hid (refSide_any x W1)
        clear hx hq e'
        by_cases hne : M.neu x
        · rw [if_pos hne] at h1
          rw [decide_eq_true hne] at HNE
          have H1 := Lib.hid h1
          have hw1 : IntKind.i64.wrap ((k : Int) - 1) = (k : Int) - 1 := by rw [IntKind.wrap_i64]; omega
          clear hne h1
          go_wp2_with fail
          refine HNE.out.mono ?_
          rintro r w1 ⟨rfl, rfl⟩
          go_wp2_with fail
          go_round
          case rel => exact ⟨k, (k : Int) - 1, by omega, rfl, by omega, H1.out⟩
          case measure => simp [intOf]
        · rw [if_neg hne] at h1
          rw [decide_eq_false hne] at HNE
          rw [h1] at HSD
          clear hne h1
          go_wp2_with fail
          refine HNE.out.mono ?_
          rintro r w1 ⟨rfl, rfl⟩
          go_wp2_with fail
          go_loop [9] (fun v => ∃ (m : Nat), m ≤ n ∧ v = .int .i64 m ∧ M.sa g (l.drop m) = Y) (fun v => n - (intOf v).toNat)
          case atStart => exact ⟨i, by omega, rfl, HY.out⟩
          case round =>
            obtain ⟨m, hmn, rfl, hto⟩ := hrel
            have HT2 := Lib.hid hto
            have hm0 : (0 : Int) ≤ m := by omega
            clear hto
            by_cases hlt : m < n
            · have hm1 : (m : Int) < n := by omega
              obtain ⟨ad', y, e', hcy, hy, -⟩ := rd_at HR.out (Below.refl _ _) (by rw [HN.out]; exact hlt : m < l.length)
              obtain rfl : ad = ad' := by injection e'
              have h1 := HT2.out
              rw [M.drop_next' hy, M.sa_cons] at h1
              have HNE2 := Lib.hid (refNeu_any y W1)
              have HSD2 := Lib.hid (refSide_any y W1)
              clear hy e'
              by_cases hne : M.neu y
              · rw [if_pos hne] at h1
                rw [decide_eq_true hne] at HNE2
                have H1' := Lib.hid h1
                clear hne h1
                go_wp2_with fail
                refine HNE2.out.mono ?_
                rintro r w1 ⟨rfl, rfl⟩
                go_wp2_with fail
                go_round
                case rel => exact ⟨m + 1, by omega, by go_num, H1'.out⟩
                case measure => simp [intOf]; omega
              · rw [if_neg hne] at h1
                rw [decide_eq_false hne] at HNE2
                rw [h1] at HSD2
                clear hne h1
                go_wp2_with fail
                refine HNE2.out.mono ?_
                rintro r w1 ⟨rfl, rfl⟩
                go_wp2_with fail
                refine HSD.out.mono ?_
                rintro r w1 ⟨rfl, rfl⟩
                go_wp2_with fail
                refine HSD2.out.mono ?_
                rintro r w1 ⟨rfl, rfl⟩
                go_wp2_with fail
                all_goals (go_ret; exact ⟨ret_int (by rw [← HRR.out]; simp_all), HB1.out⟩)
            · obtain rfl : n = m := by omega
              have hm1 : ¬ (n : Int) < (n : Int) := by omega
              have h1 := HT2.out
              rw [List.drop_eq_nil_of_le (by rw [HN.out]; exact Nat.le_refl _)] at h1
              obtain rfl : g = Y := h1
              go_wp2_with fail
              refine HSD.out.mono ?_
              rintro r w1 ⟨rfl, rfl⟩
              go_wp2_with fail
              all_goals (go_ret; exact ⟨ret_int (by rw [← HRR.out]; simp_all), HB1.out⟩)
  · rw [show M.own lv = 1 by unfold M.own; rw [h2]; rfl] at hR2
    have HRR := Lib.hid hR2
    have hb2 : (lv % 2 == 1) = true := by rw [h2]; rfl
    clear hR2 h2
    go_enter Tryz.func52, Tryz.ntmps52
    go_wp2_with fail
    go_loop [8] (fun v => ∃ (k : Nat) (q : Int), k ≤ i + 1 ∧ v = .int .i64 q ∧ q + 1 = k ∧ M.sa f (l.take k).reverse = X) (fun v => (intOf v + 1).toNat)
    case atStart => exact ⟨i + 1, (i : Int), Nat.le_refl _, rfl, by omega, HX.out⟩
    case round =>
      obtain ⟨k, q, hki, rfl, hq, hto⟩ := hrel
      have HT := Lib.hid hto
      clear hto
      cases k with
      | zero =>
        have hq0 : ¬ 0 ≤ q := by omega
        obtain rfl : f = X := HT.out
        clear hq
        go_wp2_with fail
        go_loop [9] (fun v => ∃ (m : Nat), m ≤ n ∧ v = .int .i64 m ∧ M.sa g (l.drop m) = Y) (fun v => n - (intOf v).toNat)
        case atStart => exact ⟨i, by omega, rfl, HY.out⟩
        case round =>
          obtain ⟨m, hmn, rfl, hto⟩ := hrel
          have HT2 := Lib.hid hto
          have hm0 : (0 : Int) ≤ m := by omega
          clear hto
          by_cases hlt : m < n
          · have hm1 : (m : Int) < n := by omega
            obtain ⟨ad', y, e', hcy, hy, -⟩ := rd_at HR.out (Below.refl _ _) (by rw [HN.out]; exact hlt : m < l.length)
            obtain rfl : ad = ad' := by injection e'
            have h1 := HT2.out
            rw [M.drop_next' hy, M.sa_cons] at h1
            have HNE2 := Lib.hid (refNeu_any y W1)
            have HSD2 := Lib.hid (refSide_any y W1)
            clear hy e'
            by_cases hne : M.neu y
            · rw [if_pos hne] at h1
              rw [decide_eq_true hne] at HNE2
              have H1' := Lib.hid h1
              clear hne h1
              go_wp2_with fail
              refine HNE2.out.mono ?_
              rintro r w1 ⟨rfl, rfl⟩
              go_wp2_with fail
              go_round
              case rel => exact ⟨m + 1, by omega, by go_num, H1'.out⟩
              case measure => simp [intOf]; omega
            · rw [if_neg hne] at h1
              rw [decide_eq_false hne] at HNE2
              rw [h1] at HSD2
              clear hne h1
              go_wp2_with fail
              refine HNE2.out.mono ?_
              rintro r w1 ⟨rfl, rfl⟩
              go_wp2_with fail
              refine HSD2.out.mono ?_
              rintro r w1 ⟨rfl, rfl⟩
              go_wp2_with fail
              all_goals (go_ret; exact ⟨ret_int (by rw [← HRR.out]; simp_all), HB1.out⟩)
          · obtain rfl : n = m := by omega
            have hm1 : ¬ (n : Int) < (n : Int) := by omega
            have h1 := HT2.out
            rw [List.drop_eq_nil_of_le (by rw [HN.out]; exact Nat.le_refl _)] at h1
            obtain rfl : g = Y := h1
            go_wp2_with fail
            all_goals (go_ret; exact ⟨ret_int (by rw [← HRR.out]; simp_all), HB1.out⟩)
      | succ k =>
        obtain rfl : q = (k : Nat) := by omega
        have hk0 : (0 : Int) ≤ k := by omega
        have hk1 : (k : Int) < n := by omega
        obtain ⟨ad', x, e', hcx, hx, -⟩ := rd_at HR.out (Below.refl _ _) (by rw [HN.out]; omega : k < l.length)
        obtain rfl : ad = ad' := by injection e'
        have h1 := HT.out
        rw [M.take_next' hx, M.sa_cons] at h1
        have HNE := Lib.hid (refNeu_any x W1)
        have HSD := Lib.hid (refSide_any x W1)
        clear hx hq e'
        by_cases hne : M.neu x
        · rw [if_pos hne] at h1
          rw [decide_eq_true hne] at HNE
          have H1 := Lib.hid h1
          have hw1 : IntKind.i64.wrap ((k : Int) - 1) = (k : Int) - 1 := by rw [IntKind.wrap_i64]; omega
          clear hne h1
          go_wp2_with fail
          refine HNE.out.mono ?_
          rintro r w1 ⟨rfl, rfl⟩
          go_wp2_with fail
          go_round
          case rel => exact ⟨k, (k : Int) - 1, by omega, rfl, by omega, H1.out⟩
          case measure => simp [intOf]
        · rw [if_neg hne] at h1
          rw [decide_eq_false hne] at HNE
          rw [h1] at HSD
          clear hne h1
          go_wp2_with fail
          refine HNE.out.mono ?_
          rintro r w1 ⟨rfl, rfl⟩
          go_wp2_with fail
          go_loop [9] (fun v => ∃ (m : Nat), m ≤ n ∧ v = .int .i64 m ∧ M.sa g (l.drop m) = Y) (fun v => n - (intOf v).toNat)
          case atStart => exact ⟨i, by omega, rfl, HY.out⟩
          case round =>
            obtain ⟨m, hmn, rfl, hto⟩ := hrel
            have HT2 := Lib.hid hto
            have hm0 : (0 : Int) ≤ m := by omega
            clear hto
            by_cases hlt : m < n
            · have hm1 : (m : Int) < n := by omega
              obtain ⟨ad', y, e', hcy, hy, -⟩ := rd_at HR.out (Below.refl _ _) (by rw [HN.out]; exact hlt : m < l.length)
              obtain rfl : ad = ad' := by injection e'
              have h1 := HT2.out
              rw [M.drop_next' hy, M.sa_cons] at h1
              have HNE2 := Lib.hid (refNeu_any y W1)
              have HSD2 := Lib.hid (refSide_any y W1)
              clear hy e'
              by_cases hne : M.neu y
              · rw [if_pos hne] at h1
                rw [decide_eq_true hne] at HNE2
                have H1' := Lib.hid h1
                clear hne h1
                go_wp2_with fail
                refine HNE2.out.mono ?_
                rintro r w1 ⟨rfl, rfl⟩
                go_wp2_with fail
                go_round
                case rel => exact ⟨m + 1, by omega, by go_num, H1'.out⟩
                case measure => simp [intOf]; omega
              · rw [if_neg hne] at h1
                rw [decide_eq_false hne] at HNE2
                rw [h1] at HSD2
                clear hne h1
                go_wp2_with fail
                refine HNE2.out.mono ?_
                rintro r w1 ⟨rfl, rfl⟩
                go_wp2_with fail
                refine HSD.out.mono ?_
                rintro r w1 ⟨rfl, rfl⟩
                go_wp2_with fail
                refine HSD2.out.mono ?_
                rintro r w1 ⟨rfl, rfl⟩
                go_wp2_with fail
                all_goals (go_ret; exact ⟨ret_int (by rw [← HRR.out]; simp_all), HB1.out⟩)
            · obtain rfl : n = m := by omega
              have hm1 : ¬ (n : Int) < (n : Int) := by omega
              have h1 := HT2.out
              rw [List.drop_eq_nil_of_le (by rw [HN.out]; exact Nat.le_refl _)] at h1
              obtain rfl : g = Y := h1
              go_wp2_with fail
              refine HSD.out.mono ?_
              rintro r w1 ⟨rfl, rfl⟩
              go_wp2_with fail
              all_goals (go_ret; exact ⟨ret_int (by rw [← HRR.out]; simp_all), HB1.out⟩)
end Go.Proofs.YtjlfgojblimobaaGreat.S12
end

section
namespace Go.Proofs.YtjlfgojblimobaaGreat.S12
open Go.RowKit
set_option maxRecDepth 100000

theorem Tryz.infoCls2 : (Tryz.prog.info? 39).map (fun i => (i.zero, i.size, i.bytes)) = some (some (.int .i64 0), 1, 8) := by kernel_rfl
theorem Tryz.infoInt2 : (Tryz.prog.info? 3).map (fun i => (i.zero, i.size, i.bytes)) = some (some (.int .i64 0), 1, 8) := by kernel_rfl
def RowOr (ty : TypeId) (ok : Prop) (t : List Int) (w : World) (r : Ending) (w' : World) : Prop :=
  Below w.heap.size w w' ∧
  (ok → ∃ v, r = .returned (.tuple #[v, .int .i64 0]) ∧ w'.ownsRow w.heap.size ty 1 v t.length (t.map (Value.int .i64))) ∧
  (¬ ok → r = .returned (.tuple #[.slice none 0 0, .int .i64 1]))
def M.side01 (f : Int) : Prop := (f != 0) = false ∨ ((f != 0) = true ∧ (f != 1) = false)
theorem M.side_is {f : Int} (h : f = 0 ∨ f = 1) : M.side01 f := by unfold M.side01; rcases h with rfl | rfl <;> decide
set_option maxHeartbeats 8000000 in
theorem refSettle_no (A : Option Addr) (ca n : Nat) (t : List Int) (lv f g : Int) (w : World) (h : ¬ M.setOk lv f g) :
    Calls Tryz.prog 26 #[.slice A n ca, .agg #[.int .i64 lv, .int .i64 f, .int .i64 g]] w (RowOr 39 (M.setOk lv f g) t w) := by
  obtain ⟨W1, hW1, hb1, e0, e1, e2, -⟩ := new_three w lv f g 63
  have HM := Lib.hid h
  have HB1 := Lib.hid hb1
  have h4 : lv < 0 ∨ (¬ lv < 0 ∧ 125 < lv) ∨ (¬ lv < 0 ∧ ¬ 125 < lv ∧ (f != 0) = true ∧ (f != 1) = true) ∨ (¬ lv < 0 ∧ ¬ 125 < lv ∧ (f != 0) = false ∧ (g != 0) = true ∧ (g != 1) = true) ∨ (¬ lv < 0 ∧ ¬ 125 < lv ∧ (f != 0) = true ∧ (f != 1) = false ∧ (g != 0) = true ∧ (g != 1) = true) := by
    unfold M.setOk at h
    simp only [bne_iff_ne, bne_eq_false_iff_eq]
    omega
  clear h hb1
  rcases h4 with c1 | ⟨c1, c2⟩ | ⟨c1, c2, c3, c4⟩ | ⟨c1, c2, c3, c4, c5⟩ | ⟨c1, c2, c3, c4, c5, c6⟩
  all_goals
    go_enter Tryz.func26, Tryz.ntmps26
    go_wp2_with fail
    go_returns
    exact ⟨HB1.out, fun h => absurd h HM.out, fun _ => rfl⟩
set_option maxHeartbeats 16000000 in
theorem refSettle_ok (A : Option Addr) (ca n : Nat) (l : List Int) (lv f g : Int) (w : World) (hr : RdS .i64 w w.heap.size A l) (hn : l.length = n) (hl : n ≤ 1000) (h : M.setOk lv f g) :
    Calls Tryz.prog 26 #[.slice A n ca, .agg #[.int .i64 lv, .int .i64 f, .int .i64 g]] w (RowOr 39 (M.setOk lv f g) (M.settle lv f g l) w) := by
  obtain ⟨i0, hi, hz0, hz1, hz2⟩ := info_parts Tryz.infoCls2
  obtain ⟨W1, hW1, hb1, e0, e1, e2, hgt⟩ := new_three w lv f g 63
  have HOK := Lib.hid h
  have HR := Lib.hid ((hr.below hb1).more hb1.size)
  have HN := Lib.hid hn
  have HB1 := Lib.hid hb1
  have HE := Lib.hid (And.intro e0 (And.intro e1 e2))
  have HGT := Lib.hid hgt
  have lv0 : ¬ lv < 0 := by have := h.1; omega
  have lv1 : ¬ 125 < lv := by have := h.1; omega
  have hl1 : (n : Int) ≤ 1000 := by omega
  have hf := M.side_is h.2.1
  have hg := M.side_is h.2.2
  unfold M.side01 at hf hg
  clear hr hn hb1 hgt h
  rcases hf with b1 | ⟨b1, b2⟩ <;> rcases hg with b3 | ⟨b3, b4⟩
  all_goals
    go_enter Tryz.func26, Tryz.ntmps26
    go_wp2_with fail
    go_loopw [6, 7] (fun o v wr => ∃ (k : Nat) (O : List Int), v = .int .i64 k ∧ k ≤ n ∧ O.length = k ∧ wr.ownsRow W1.heap.size 39 1 o O.length (O.map (Value.int .i64)) ∧ M.settle lv f g l = O ++ M.sgo (M.own lv) f g (l.take k).reverse (l.drop k) ∧ Below W1.heap.size W1 wr) (fun _ v _ => n - (intOf v).toNat)
    case atStart => exact ⟨0, [], rfl, Nat.zero_le _, rfl, ⟨rfl, .inl ⟨rfl, rfl⟩⟩, rfl, Below.refl _ _⟩
    case round =>
      obtain ⟨k, O, rfl, hk, hO, ho, hw, hb⟩ := hrel
      rename World => wr
      have HB := Lib.hid hb
      have HO := Lib.hid ho
      have HOL := Lib.hid hO
      have k0 : (0 : Int) ≤ k := by omega
      by_cases hlt : k < n
      · have k1 : (k : Int) < n := by omega
        obtain ⟨ad, c, rfl, hcc, hc, -⟩ := rd_at HR.out hb (by rw [HN.out]; exact hlt : k < l.length)
        have hbs := hb.size
        have hw1 : M.settle lv f g l = (O ++ [if M.neu c then M.nat (M.own lv) f g (l.take k).reverse (l.drop (k + 1)) else c]) ++ M.sgo (M.own lv) f g (l.take (k + 1)).reverse (l.drop (k + 1)) := by
          rw [hw, M.drop_next' hc, M.sgo_cons, M.take_next' hc]
          simp
        have HNE := Lib.hid (refNeu_any c wr)
        by_cases hne : M.neu c
        · rw [if_pos hne] at hw1
          rw [decide_eq_true hne] at HNE
          have d0 := (hb.cell (p := ⟨w.heap.size, 0, none⟩) HGT.out).trans HE.out.1
          have d1 := (hb.cell (p := ⟨w.heap.size, 1, none⟩) HGT.out).trans HE.out.2.1
          have d2 := (hb.cell (p := ⟨w.heap.size, 2, none⟩) HGT.out).trans HE.out.2.2
          have hC := refAt_any (some ad) ca n k l lv f g wr ((HR.out.below hb).more hbs) HN.out hl (by omega) ⟨c, hc, hne⟩
          obtain ⟨x, hx⟩ : ∃ x, M.nat (M.own lv) f g (l.take k).reverse (l.drop (k + 1)) = x := ⟨_, rfl⟩
          rw [hx] at hC hw1
          have HC := Lib.hid hC
          have HW2 := Lib.hid hw1
          clear hb ho hO hw hc hC hx hw1 hne
          go_wp2_with fail
          refine HNE.out.mono ?_
          rintro r w1 ⟨rfl, rfl⟩
          go_wp2_with fail
          refine HC.out.mono ?_
          rintro r w2 ⟨rfl, hb2⟩
          have HB2 := Lib.hid (HB.out.trans (hb2.mono hbs))
          have HO2 := Lib.hid (own_below HO.out hb2)
          rw [HOL.out] at HO2
          have hbs2 := HB2.out.size
          clear hb2 d0 d1 d2
          go_wp2_with (at_builtin; refine wpList_append_own _ rfl _ _ 22 rfl W1.heap.size 39 i0 (.int .i64 0) 1 8 Tryz.underlying22 hi hz0 hz1 hz2 rfl (by decide) _ _ _ rfl (World.ownsRow.alloc HO2.out _) ⟨w2.heap.size, 0, none⟩ 1 1 [.int .i64 x] rfl rfl (one_new _ _ _) one_cell (by unfold maxLen; omega) (by omega) (by simp; omega) ?_)
          intro v4 w4 ho4 hg4 _
          have hb4 : Below W1.heap.size W1 w4 := grow_below0 (HB2.out.alloc hbs2 _) (World.ownsRow.alloc HO2.out _) hg4 (by simp; omega)
          have HB4 := Lib.hid hb4
          have hlen : (O ++ [x]).length = k + 1 := by rw [List.length_append, HOL.out]; rfl
          have hmap : O.map (Value.int .i64) ++ [Value.int .i64 x] = (O ++ [x]).map (Value.int .i64) := by rw [List.map_append]; rfl
          rw [hmap] at ho4
          have HO4 := Lib.hid ho4
          have HLEN := Lib.hid hlen
          clear ho4 hg4 hb4 hlen hmap
          go_wp2_with fail
          go_roundw
          case rel => exact ⟨k + 1, O ++ [x], by go_num, by omega, HLEN.out, by rw [HLEN.out]; exact HO4.out, HW2.out, HB4.out⟩
          case measure => simp [intOf]; omega
        · rw [if_neg hne] at hw1
          rw [decide_eq_false hne] at HNE
          have HW2 := Lib.hid hw1
          have ho' := ho
          rw [hO] at ho'
          have HO2 := Lib.hid ho'
          clear hb ho hO hw hc hw1 hne ho'
          go_wp2_with fail
          refine HNE.out.mono ?_
          rintro r w1 ⟨rfl, rfl⟩
          go_wp2_with (at_builtin; refine wpList_append_own _ rfl _ _ 22 rfl W1.heap.size 39 i0 (.int .i64 0) 1 8 Tryz.underlying22 hi hz0 hz1 hz2 rfl (by decide) _ _ _ rfl (World.ownsRow.alloc HO2.out _) ⟨wr.heap.size, 0, none⟩ 1 1 [.int .i64 c] rfl rfl (one_new _ _ _) one_cell (by unfold maxLen; omega) (by omega) (by simp; omega) ?_)
          intro v4 w4 ho4 hg4 _
          have hb4 : Below W1.heap.size W1 w4 := grow_below0 (HB.out.alloc hbs _) (World.ownsRow.alloc HO2.out _) hg4 (by simp; omega)
          have HB4 := Lib.hid hb4
          have hlen : (O ++ [c]).length = k + 1 := by rw [List.length_append, HOL.out]; rfl
          have hmap : O.map (Value.int .i64) ++ [Value.int .i64 c] = (O ++ [c]).map (Value.int .i64) := by rw [List.map_append]; rfl
          rw [hmap] at ho4
          have HO4 := Lib.hid ho4
          have HLEN := Lib.hid hlen
          clear ho4 hg4 hb4 hlen hmap hcc
          go_wp2_with fail
          go_roundw
          case rel => exact ⟨k + 1, O ++ [c], by go_num, by omega, HLEN.out, by rw [HLEN.out]; exact HO4.out, HW2.out, HB4.out⟩
          case measure => simp [intOf]; omega
      · obtain rfl : n = k := by omega
        have k1 : ¬ (n : Int) < (n : Int) := by omega
        have he : M.settle lv f g l = O := by
          rw [hw, List.drop_eq_nil_of_le (by rw [HN.out]; exact Nat.le_refl _)]
          exact List.append_nil _
        have HEQ := Lib.hid he
        have HBX := Lib.hid (HB1.out.trans (hb.mono HB1.out.size))
        clear hb ho hO hw he
        go_wp2_with fail
        go_returns
        refine ⟨HBX.out, fun _ => ⟨_, rfl, ?_⟩, fun h => absurd HOK.out h⟩
        rw [HEQ.out]
        exact own_base HO.out HB1.out.size
theorem refSettle_any (A : Option Addr) (ca n : Nat) (l : List Int) (lv f g : Int) (w : World) (hr : RdS .i64 w w.heap.size A l) (hn : l.length = n) (hl : n ≤ 1000) :
    Calls Tryz.prog 26 #[.slice A n ca, .agg #[.int .i64 lv, .int .i64 f, .int .i64 g]] w (RowOr 39 (M.setOk lv f g) (M.settle lv f g l) w) := by
  by_cases h : M.setOk lv f g
  · exact refSettle_ok A ca n l lv f g w hr hn hl h
  · exact refSettle_no A ca n _ lv f g w h
end Go.Proofs.YtjlfgojblimobaaGreat.S12
end
