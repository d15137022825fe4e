/- A range over a function whose iterator turns cells of its own, told apart by their kind: the iterator's contract, and the statement's walk out of it and of the walk of its body. No program is read here. -/
/- The contracts of slices.Backward and of the function that it makes, at whole numbers and at classes: what the slice holds comes from its end on, each with its place. Conditions: the slice reads as a list of at most 2^44, and a round that goes on keeps what lay below. -/
/- The code's way to pairs, and to what becomes of them, as plain functions, and that it is the document's: pairs found by the places that close are a permutation of those by the places that open; a place that is its side by now, with the marks behind it, is not turned again. No program is read here. -/
import Derived.Test.YtjlfgojblimobaaGreatA00
import Derived.RangeFuncNested
import Derived.RangeFuncBound
import Derived.RangeFuncCalls
import Derived.RangeFuncLeaves
import Derived.Test.YtjlfgojblimobaaGreatA24
import Derived.Shelf.Abstract
import Derived.OwnWalkIn
import Derived.TacticsInMore
import Derived.LoopNIn
import Derived.LoopIn
import Derived.Test.YtjlfgojblimobaaGreatA22
section
namespace Go.Proofs.YtjlfgojblimobaaGreat.S11
open Go.RowKit
variable {n : Nat} {P : Program}

structure Still (mine : Obj → Bool) (B : Nat) (W W' : World) : Prop where
  below : Below B W W'
  kept : ∀ (k : Nat) (o : Obj), W.heap[k]? = some o → mine o = false → W'.heap[k]? = some o
theorem Still.refl (mine : Obj → Bool) (B : Nat) (W : World) : Still mine B W W := ⟨Below.refl _ _, fun _ _ h _ => h⟩
theorem Still.trans {mine : Obj → Bool} {B : Nat} {X Y Z : World} (h : Still mine B X Y) (k : Still mine B Y Z) : Still mine B X Z := ⟨h.below.trans k.below, fun i o hi ho => k.kept i o (h.kept i o hi ho) ho⟩
theorem Still.of_below {mine : Obj → Bool} {B : Nat} {W W' : World} (h : Below W.heap.size W W') (hB : B ≤ W.heap.size) : Still mine B W W' :=
  ⟨h.mono hB, fun k _ hk _ => (h.block k (Array.getElem?_eq_some_iff.1 hk).1).trans hk⟩
theorem Still.wider {mine ours : Obj → Bool} {B B' : Nat} {W W' : World} (h : Still mine B W W') (hm : ∀ o, ours o = false → mine o = false) (hB : B' ≤ B) : Still ours B' W W' := ⟨h.below.mono hB, fun k o hk ho => h.kept k o hk (hm o ho)⟩
def ours (mine : Obj → Bool) (o : Obj) : Bool := mine o || !o.isCells
theorem ours_mine {mine : Obj → Bool} (o : Obj) (h : ours mine o = false) : mine o = false := by unfold ours at h; simp at h; exact h.1
theorem still_put {mine : Obj → Bool} {B l : Nat} {W : World} {o : Obj} (o' : Obj) (hl : W.heap[l]? = some o) (ho : o.isCells = false) (hB : B ≤ l) : Still (ours mine) B W (W.putObj l o') := by
  have hlt := (Array.getElem?_eq_some_iff.1 hl).1
  refine ⟨⟨rfl, rfl, rfl, by simp, fun k hk => World.putObj_heap_other (by omega)⟩, fun k o2 hk hm => ?_⟩
  have hne : k ≠ l := fun e => by
    rw [e, hl] at hk
    injection hk with hk
    rw [← hk] at hm
    unfold ours at hm
    rw [ho] at hm
    simp at hm
  exact (World.putObj_heap_other hne).trans hk

def Gives {α : Type} (mine : Obj → Bool) (n : Nat) (P : Program) (gf : Nat) (lb : Array Value) (encs : α → Array Value) (Kp : World → World → Prop) (S Sp Ok : List α → Prop) (N : Nat) (w : World) : Prop :=
  ∀ (l : Nat) (J Jx : List α → World → Prop) (W : World), Below w.heap.size w W →
    (∀ s A B, J s A → Still mine W.heap.size A B → J s B) → (∀ s A B, Jx s A → Still mine W.heap.size A B → Jx s B) →
    (∀ pre x A, J pre A → pre.length < N → Ok (pre ++ [x]) → YieldAt Fence.wide (n - 1) P l (encs x) A fun e B =>
      (e = .returned (.bool true) ∧ J (pre ++ [x]) B ∧ Kp A B) ∨ (e = .returned (.bool false) ∧ Jx (pre ++ [x]) B)) →
    J [] W →
    CallsIn Fence.wide n P gf (#[.func (.yield l) #[] #[]] ++ lb) W fun e B => (∃ v, e = .returned v) ∧ ((∃ xs, S xs ∧ J xs B) ∨ (∃ pre, Sp pre ∧ Jx pre B))

theorem range_mine {α : Type} {g : Operand} {ps : Array Tmp} {assign body : Code} {Q : Exit → Act → World → Prop} {a : Act} {w : World} (h1 : 1 ≤ n)
    {gf : Nat} {lb : Array Value} (hg : a.eval g = .func (.func gf) #[] lb) (eg : ∀ args w, (callFunc gf args).run P w = .ok (.enter gf args) w)
    {mine : Obj → Bool} (hmine : ∀ o, o.isCells = false → mine o = false)
    {encs : α → Array Value} {Kp : World → World → Prop} {S Sp Ok : List α → Prop} {N : Nat} (hseq : Gives mine (n - 1) P gf lb encs Kp S Sp Ok N w)
    (hKt : ∀ {A B C : World}, Kp A B → Kp B C → Kp A C) (hKb : ∀ (W : World) (l : Nat) (o o' : Obj), w.heap.size ≤ l → W.heap[l]? = some o → o.isCells = false → Kp W (W.putObj l o')) (hps : ∀ x, (encs x).size = ps.size)
    (I : List α → World → Prop) (Ix : Code → List α → World → Prop) (hI : ∀ s A B, I s A → Still (ours mine) w.heap.size A B → I s B) (hIx : ∀ c s A B, Ix c s A → Still (ours mine) w.heap.size A B → Ix c s B) (h0 : I [] w) (a₁ : α → Act)
    (hassign : ∀ (l : Nat) (x : α) (W : World) (K : Act → World → Prop), K (a₁ x) W →
      assign.wpIn (Fence.wide.inRound l) (n - 1 - 1) P (Exit.then K (fun _ _ _ => False)) { tmps := (ps.zip (encs x)).foldl (fun t (p, v) => t.setIfInBounds p v) a.tmps, defers := [] } W)
    (hbody : ∀ (l : Nat) (pre : List α) (x : α) (W : World), I pre W → pre.length < N → Ok (pre ++ [x]) → body.wpIn (Fence.wide.inRound l) (n - 1 - 1) P (ownPostG w.heap.size Kp I Ix (pre ++ [x]) W) (a₁ x) W)
    (hdone : ∀ (D : Nat) (xs : List α) (W : World), w.heap.size ≤ D → S xs → I xs W → W.heap[D]? = some (.deferred (some [])) → Q .normal { a with defers := { target := .collected D, args := #[] } :: a.defers } W)
    (hstop : ∀ (D : Nat) (c : Code) (pre : List α) (W : World), w.heap.size ≤ D → Sp pre → Ix c pre W → W.heap[D]? = some (.deferred (some [])) → c.wpIn Fence.wide n P Q { a with defers := { target := .collected D, args := #[] } :: a.defers } W) :
    (Code.rangeFunc g ps assign body).wpIn Fence.wide n P Q a w := by
  refine wpIn_rangeFunc fun fn hfn => ?_
  -- the loop's record lies at L, the block for what its rounds defer at w.heap.size
  obtain ⟨rec, hrec⟩ : ∃ rec : LoopState → Option Code → Loop, rec = fun st pe => { state := st, pending := pe, fn, tmps := a.tmps, params := ps, assign, body, defers := w.heap.size } := ⟨_, rfl⟩
  obtain ⟨L, hL⟩ : ∃ L, L = w.heap.size + 1 := ⟨_, rfl⟩
  obtain ⟨W1, hW1⟩ : ∃ W1, W1 = (w.alloc (.deferred (some []))).alloc (.loop (rec .ready none)) := ⟨_, rfl⟩
  have enters : (Instr.enterLoop fn a.tmps ps assign body none).run P w = .ok (L, [{ target := .collected w.heap.size, args := #[] }]) W1 := by
    rw [hW1, hrec, hL]; exact run_enterLoop_outer _ _ _ _ _
  have recAt : W1.heap[L]? = some (.loop (rec .ready none)) := by
    rw [hW1, hL, show w.heap.size + 1 = (w.alloc (.deferred (some []))).heap.size by simp]; exact World.alloc_heap_new _ _
  have defAt : W1.heap[w.heap.size]? = some (.deferred (some [])) := by
    rw [hW1]; exact (Below.heap_alloc _ _ _ (by simp)).trans (World.alloc_heap_new w _)
  have size1 : W1.heap.size = w.heap.size + 2 := by rw [hW1]; simp
  have below1 : Below w.heap.size w W1 := by rw [hW1]; exact ((Below.refl _ w).alloc (Nat.le_refl _) _).alloc (by simp) _
  have res : (resolve a.eval (rangeCall g L) 0).run P W1 = .ok { target := .fn (.func gf) lb, args := #[.func (.yield L) #[] #[]] } W1 := by
    simp only [resolve, hg]; simp [go_sem]
  have inv : (invoke (.fn (.func gf) lb) #[.func (.yield L) #[] #[]]).run P W1 = .ok (.enter gf (#[.func (.yield L) #[] #[]] ++ lb)) W1 := by
    simp [invoke, go_sem, eg]
  refine ⟨L, _, W1, _, W1, gf, _, W1, enters, res, fun _ _ => trivial, inv, fun _ => h1, ?_⟩
  have notMine : ∀ o : Obj, o.isCells = false → ours mine o = true := fun o ho => by unfold ours; rw [ho]; simp
  -- what the iterator is handed: the caller's invariant, and the two blocks of the loop's own
  have go := hseq L (fun s W => I s W ∧ W.heap[L]? = some (.loop (rec .ready none)) ∧ W.heap[w.heap.size]? = some (.deferred (some [])))
    (fun s W => ∃ c, Ix c s W ∧ W.heap[L]? = some (.loop (rec .done (some c))) ∧ W.heap[w.heap.size]? = some (.deferred (some []))) W1 below1
    (fun s A B h m => ⟨hI s A B h.1 (m.wider ours_mine (by omega)), m.kept _ _ h.2.1 (hmine _ rfl), m.kept _ _ h.2.2 (hmine _ rfl)⟩)
    (fun s A B ⟨c, h⟩ m => ⟨c, hIx c s A B h.1 (m.wider ours_mine (by omega)), m.kept _ _ h.2.1 (hmine _ rfl), m.kept _ _ h.2.2 (hmine _ rfl)⟩)
  refine (go ?_ ⟨hI _ _ _ h0 (Still.of_below below1 (Nat.le_refl _)), recAt, defAt⟩).mono ?_
  · rintro pre x W ⟨hi, hl, hd⟩ hlen hok
    have hlt := (Array.getElem?_eq_some_iff.1 hl).1
    have yields := run_yield (P := P) (args := encs x) hl (by rw [hrec]; exact hps x)
    rw [hrec] at yields
    refine ⟨fn, _, assign, body, yields, roundIn_of_wpIn hfn (hassign _ x W _ ⟨_, run_beginRound hl (by rw [hrec]), ?_⟩)⟩
    obtain ⟨W2, hW2⟩ : ∃ W2, W2 = W.putObj L (.loop { rec .ready none with state := .busy }) := ⟨_, rfl⟩
    have rec2 : W2.heap[L]? = some (.loop { rec .ready none with state := .busy }) := by rw [hW2]; exact World.putObj_heap_same hlt
    have def2 : W2.heap[w.heap.size]? = some (.deferred (some [])) := by rw [hW2]; exact (World.putObj_heap_other (by omega)).trans hd
    have inv2 : I pre W2 := by rw [hW2]; exact hI _ _ _ hi (still_put _ hl rfl (by omega))
    have kp2 : Kp W W2 := by rw [hW2]; exact hKb _ _ _ _ (by omega) hl rfl
    -- a round's end: its record is ready again, or done
    have ending : ∀ (jump : Option Code) (W3 : World), KeepsFrom w.heap.size W2 W3 → ∃ W4,
        (Instr.endRound L jump).run P W3 = .ok (.bool jump.isNone) W4 ∧ W4.heap[L]? = some (.loop (rec (if jump.isNone then .ready else .done) jump)) ∧ W4.heap[w.heap.size]? = some (.deferred (some [])) ∧ Still (ours mine) w.heap.size W3 W4 ∧ Kp W3 W4 := fun jump W3 k3 => by
      have rec3 := k3.same L _ (by omega) rec2 rfl
      have run := run_endRound (P := P) jump rec3
      refine ⟨_, run, ?_, (World.putObj_heap_other (by omega)).trans (k3.same _ _ (Nat.le_refl _) def2 rfl), still_put _ rec3 rfl (by omega), hKb _ _ _ _ (by omega) rec3 rfl⟩
      rw [World.putObj_heap_same (Array.getElem?_eq_some_iff.1 rec3).1, hrec]
    rw [← hW2]
    refine wpIn_mono (hbody L pre x W2 inv2 hlen hok) ?_
    rintro e a3 W3 hp
    match e, hp with
    | .normal, ⟨k3, kp3, i3⟩ =>
      obtain ⟨W4, run, r4, d4, s4, kp4⟩ := ending none W3 k3
      exact ⟨_, W4, run, .inl ⟨rfl, ⟨hI _ _ _ i3 s4, r4, d4⟩, hKt (hKt kp2 kp3) kp4⟩⟩
    | .ret, ⟨k3, i3⟩ =>
      obtain ⟨W4, run, r4, d4, s4, _⟩ := ending (some .ret) W3 k3
      exact ⟨_, W4, run, .inr ⟨rfl, _, hIx _ _ _ _ i3 s4, r4, d4⟩⟩
    | .exit id, ⟨k3, i3⟩ =>
      obtain ⟨W4, run, r4, d4, s4, _⟩ := ending (some (.exit id)) W3 k3
      exact ⟨_, W4, run, .inr ⟨rfl, _, hIx _ _ _ _ i3 s4, r4, d4⟩⟩
    | .goto t, ⟨k3, i3⟩ =>
      obtain ⟨W4, run, r4, d4, s4, _⟩ := ending (some (.goto t)) W3 k3
      exact ⟨_, W4, run, .inr ⟨rfl, _, hIx _ _ _ _ i3 s4, r4, d4⟩⟩
  · rintro e W2 ⟨⟨v, rfl⟩, ⟨xs, hS, hi, hl, hd⟩ | ⟨pre, hSp, c, hi, hl, hd⟩⟩
    · have hend : (Instr.endLoop L).run P W2 = .ok none (W2.putObj L (.loop (rec .exhausted none))) := by
        have := run_endLoop (P := P) hl (by rw [hrec]; simp)
        rw [hrec] at this ⊢
        exact this
      exact ⟨none, _, hend, hdone _ xs _ (Nat.le_refl _) hS (hI _ _ _ hi (still_put _ hl rfl (by omega))) ((World.putObj_heap_other (by omega)).trans hd)⟩
    · have hend : (Instr.endLoop L).run P W2 = .ok (some c) (W2.putObj L (.loop (rec .exhausted (some c)))) := by
        have := run_endLoop (P := P) hl (by rw [hrec]; simp)
        rw [hrec] at this ⊢
        exact this
      exact ⟨some c, _, hend, hstop _ c pre _ (Nat.le_refl _) hSp (hIx _ _ _ _ hi (still_put _ hl rfl (by omega))) ((World.putObj_heap_other (by omega)).trans hd)⟩
end Go.Proofs.YtjlfgojblimobaaGreat.S11
end

section
namespace Go.Proofs.YtjlfgojblimobaaGreat.S11
open Go.RowKit Go.Shelf
attribute [local go_sem] Oper.semAt_some

def M.bks (l : List Int) : Nat → List (Nat × Int)
  | 0 => []
  | k + 1 => (k, l.getD k 0) :: M.bks l k
theorem M.bks_len (l : List Int) (k : Nat) : (M.bks l k).length = k := by
  induction k with
  | zero => rfl
  | succ k ih => simp [M.bks, ih]
def mineN (_ : Obj) : Bool := false
theorem mineN_not (o : Obj) (_ : o.isCells = false) : mineN o = false := rfl
theorem keeps_below {n : Nat} {w : World} (hn : n ≤ w.heap.size) (W : World) (l : Nat) (o o' : Obj) (hl : w.heap.size ≤ l) (h : W.heap[l]? = some o) (ho : o.isCells = false) : Below n W (W.putObj l o') := (still_put (mine := mineN) (B := n) o' h ho (by omega)).below

set_option maxRecDepth 100000 in
set_option maxHeartbeats 4000000 in
theorem iback1_in (n l b n₀ : Nat) (A : Option Addr) (ca N : Nat) (js : List Int) (J Jx : List (Nat × Int) → World → Prop) (hn : 1 ≤ n) (W : World)
    (hJ : ∀ s X Y, J s X → Still mineN W.heap.size X Y → J s Y)
    (hY : ∀ pre x X, J pre X → pre.length < N → (∃ k, k < N ∧ (pre ++ [x]) ++ M.bks js k = M.bks js N) → YieldAt Fence.wide (n - 1) Tryz.prog l #[.int .i64 (x : Nat × Int).1, .int .i64 x.2] X fun e Y =>
      (e = .returned (.bool true) ∧ J (pre ++ [x]) Y ∧ Below n₀ X Y) ∨ (e = .returned (.bool false) ∧ Jx (pre ++ [x]) Y))
    (hb : W.cell? ⟨b, 0, none⟩ = some (.slice A N ca)) (hbl : b < n₀) (hr : RdS .i64 W n₀ A js) (hN : js.length = N) (hl : N ≤ 17592186044416) (hn₀ : n₀ ≤ W.heap.size) (h0 : J [] W) :
    CallsIn Fence.wide n Tryz.prog 137 #[.func (.yield l) #[] #[], .pointer (some ⟨b, 0, none⟩)] W fun e W' => (∃ v, e = .returned v) ∧
      ((∃ xs, xs = M.bks js N ∧ J xs W') ∨ (∃ pre, (∃ k, k < N ∧ pre ++ M.bks js k = M.bks js N) ∧ Jx pre W')) := by
  have HY := Lib.hid hY
  have HJ := Lib.hid hJ
  have HR := Lib.hid hr
  have HB := Lib.hid hb
  have HBL := Lib.hid hbl
  have HN := Lib.hid hN
  have H0 := Lib.hid h0
  have HN0 := Lib.hid hn₀
  have hl1 : (N : Int) ≤ 17592186044416 := by omega
  have hn0 : (0 : Int) ≤ N := by omega
  clear hY hJ hr hb hN h0 hbl hn₀ hl
  refine callsIn_of_wp Tryz.func137 rfl trivial ?_ rfl
  simp only [Tryz.ntmps137, List.size_toArray, List.length_cons, List.length_nil, Nat.reduceAdd, Nat.reduceSub, Array.replicate_succ, Array.replicate_zero, List.push_toArray, List.append_toArray, List.nil_append, List.cons_append]
  have hb0 := HB.out
  gi_wp2_with fail
  clear hb0
  gi_loopw [3] (fun ix wr => ∃ (k : Nat) (pre : List (Nat × Int)), ix = .int .i64 ((k : Int) - 1) ∧ k ≤ N ∧ pre ++ M.bks js k = M.bks js N ∧ J pre wr ∧ Below n₀ W wr) (fun ix _ => (intOf ix + 1).toNat)
  case atStart => exact ⟨N, [], rfl, Nat.le_refl _, rfl, H0.out, Below.refl _ _⟩
  case round =>
    obtain ⟨k, pre, rfl, hk, hpre, hj, hbel⟩ := hrel
    have HP := Lib.hid hpre
    have HJP := Lib.hid hj
    have HW := Lib.hid hbel
    have hcb := (hbel.cell (p := ⟨b, 0, none⟩) HBL.out).trans HB.out
    clear hpre hj
    cases k with
    | zero =>
      have z0 : ¬ (0 : Int) ≤ ((0 : Nat) : Int) - 1 := by omega
      clear hbel hcb
      gi_wp2_with fail
      go_end0
      have e := HP.out
      rw [show M.bks js 0 = [] from rfl, List.append_nil] at e
      rw [← e]
      exact ⟨⟨_, rfl⟩, .inl HJP.out⟩
    | succ k =>
      obtain ⟨ad, x, rfl, hcx, hx, -⟩ := rd_at HR.out hbel (by rw [HN.out]; omega : k < js.length)
      have k0 : ((k + 1 : Nat) : Int) - 1 = k := by omega
      have k1 : (0 : Int) ≤ k := by omega
      have k2 : (k : Int) < N := by omega
      have hlen : pre.length < N := by
        have := congrArg List.length HP.out
        rw [List.length_append, M.bks_len, M.bks_len] at this
        omega
      have hbk : (pre ++ [(k, x)]) ++ M.bks js k = M.bks js N := by
        rw [List.append_assoc, ← HP.out]
        congr 1
        show _ = (k, js.getD k 0) :: M.bks js k
        rw [List.getD_eq_getElem?_getD, hx]
        rfl
      have HBK := Lib.hid hbk
      obtain ⟨fn, tmps, assign, body, hy, hR⟩ := HY.out pre (k, x) wr HJP.out hlen ⟨k, by omega, hbk⟩
      dsimp only at hy
      have HRR := Lib.hid hR
      rw [k0]
      clear hbel hx hbk hlen k0 hR
      gi_wp2_with fail
      refine HRR.out.mono ?_
      rintro e W' (⟨rfl, hJ', hk'⟩ | ⟨rfl, hJx'⟩)
      · have HJ' := Lib.hid hJ'
        have HK' := Lib.hid hk'
        clear hJ' hk' hcb hcx
        gi_wp2_with fail
        go_roundw
        case rel => exact ⟨k, pre ++ [(k, x)], by go_num, by omega, HBK.out, HJ'.out, HW.out.trans HK'.out⟩
        case measure => simp [intOf]
      · have HJ' := Lib.hid hJx'
        clear hJx' hcb hcx
        gi_wp2_with fail
        refine bodyPost_ret (results_none rfl _ _ _) rfl ?_
        exact ⟨⟨_, rfl⟩, .inr ⟨pre ++ [(k, x)], ⟨k, by omega, HBK.out⟩, HJ'.out⟩⟩
theorem iback_gives (n b n₀ : Nat) (A : Option Addr) (ca N : Nat) (js : List Int) (w : World) (hn : 1 ≤ n) (hb : w.cell? ⟨b, 0, none⟩ = some (.slice A N ca)) (hbl : b < n₀) (hr : RdS .i64 w n₀ A js) (hN : js.length = N) (hl : N ≤ 17592186044416) (hn₀ : n₀ ≤ w.heap.size) :
    Gives mineN n Tryz.prog 137 #[.pointer (some ⟨b, 0, none⟩)] (fun x : Nat × Int => #[.int .i64 x.1, .int .i64 x.2]) (Below n₀) (fun xs => xs = M.bks js N) (fun pre => ∃ k, k < N ∧ pre ++ M.bks js k = M.bks js N) (fun pre => ∃ k, k < N ∧ pre ++ M.bks js k = M.bks js N) N w :=
  fun l J Jx W hB hJ _ hY h0 => iback1_in n l b n₀ A ca N js J Jx hn W hJ hY ((hB.cell (p := ⟨b, 0, none⟩) (by show b < w.heap.size; omega)).trans hb) hbl (hr.keep fun _ hp => hB.cell (by omega)) hN hl (Nat.le_trans hn₀ hB.size) h0
theorem ibackward_any (A : Option Addr) (ca n : Nat) (w : World) : Calls Tryz.prog 115 #[.slice A n ca] w fun r w' => r = .returned (.func (.func 137) #[] #[.pointer (some ⟨w.heap.size, 0, none⟩)]) ∧ w' = w.alloc (.cells #[.slice A n ca] 25) := by
  go_enter Tryz.func115, Tryz.ntmps115
  go_wp2_with fail
  go_ret
  exact ⟨rfl, rfl⟩

set_option maxRecDepth 100000 in
set_option maxHeartbeats 4000000 in
theorem cback1_in (n l b n₀ : Nat) (A : Option Addr) (ca N : Nat) (js : List Int) (J Jx : List (Nat × Int) → World → Prop) (hn : 1 ≤ n) (W : World)
    (hJ : ∀ s X Y, J s X → Still mineN W.heap.size X Y → J s Y)
    (hY : ∀ pre x X, J pre X → pre.length < N → (∃ k, k < N ∧ (pre ++ [x]) ++ M.bks js k = M.bks js N) → YieldAt Fence.wide (n - 1) Tryz.prog l #[.int .i64 (x : Nat × Int).1, .int .i64 x.2] X fun e Y =>
      (e = .returned (.bool true) ∧ J (pre ++ [x]) Y ∧ Below n₀ X Y) ∨ (e = .returned (.bool false) ∧ Jx (pre ++ [x]) Y))
    (hb : W.cell? ⟨b, 0, none⟩ = some (.slice A N ca)) (hbl : b < n₀) (hr : RdS .i64 W n₀ A js) (hN : js.length = N) (hl : N ≤ 17592186044416) (hn₀ : n₀ ≤ W.heap.size) (h0 : J [] W) :
    CallsIn Fence.wide n Tryz.prog 102 #[.func (.yield l) #[] #[], .pointer (some ⟨b, 0, none⟩)] W fun e W' => (∃ v, e = .returned v) ∧
      ((∃ xs, xs = M.bks js N ∧ J xs W') ∨ (∃ pre, (∃ k, k < N ∧ pre ++ M.bks js k = M.bks js N) ∧ Jx pre W')) := by
  have HY := Lib.hid hY
  have HJ := Lib.hid hJ
  have HR := Lib.hid hr
  have HB := Lib.hid hb
  have HBL := Lib.hid hbl
  have HN := Lib.hid hN
  have H0 := Lib.hid h0
  have HN0 := Lib.hid hn₀
  have hl1 : (N : Int) ≤ 17592186044416 := by omega
  have hn0 : (0 : Int) ≤ N := by omega
  clear hY hJ hr hb hN h0 hbl hn₀ hl
  refine callsIn_of_wp Tryz.func102 rfl trivial ?_ rfl
  simp only [Tryz.ntmps102, List.size_toArray, List.length_cons, List.length_nil, Nat.reduceAdd, Nat.reduceSub, Array.replicate_succ, Array.replicate_zero, List.push_toArray, List.append_toArray, List.nil_append, List.cons_append]
  have hb0 := HB.out
  gi_wp2_with fail
  clear hb0
  gi_loopw [3] (fun ix wr => ∃ (k : Nat) (pre : List (Nat × Int)), ix = .int .i64 ((k : Int) - 1) ∧ k ≤ N ∧ pre ++ M.bks js k = M.bks js N ∧ J pre wr ∧ Below n₀ W wr) (fun ix _ => (intOf ix + 1).toNat)
  case atStart => exact ⟨N, [], rfl, Nat.le_refl _, rfl, H0.out, Below.refl _ _⟩
  case round =>
    obtain ⟨k, pre, rfl, hk, hpre, hj, hbel⟩ := hrel
    have HP := Lib.hid hpre
    have HJP := Lib.hid hj
    have HW := Lib.hid hbel
    have hcb := (hbel.cell (p := ⟨b, 0, none⟩) HBL.out).trans HB.out
    clear hpre hj
    cases k with
    | zero =>
      have z0 : ¬ (0 : Int) ≤ ((0 : Nat) : Int) - 1 := by omega
      clear hbel hcb
      gi_wp2_with fail
      go_end0
      have e := HP.out
      rw [show M.bks js 0 = [] from rfl, List.append_nil] at e
      rw [← e]
      exact ⟨⟨_, rfl⟩, .inl HJP.out⟩
    | succ k =>
      obtain ⟨ad, x, rfl, hcx, hx, -⟩ := rd_at HR.out hbel (by rw [HN.out]; omega : k < js.length)
      have k0 : ((k + 1 : Nat) : Int) - 1 = k := by omega
      have k1 : (0 : Int) ≤ k := by omega
      have k2 : (k : Int) < N := by omega
      have hlen : pre.length < N := by
        have := congrArg List.length HP.out
        rw [List.length_append, M.bks_len, M.bks_len] at this
        omega
      have hbk : (pre ++ [(k, x)]) ++ M.bks js k = M.bks js N := by
        rw [List.append_assoc, ← HP.out]
        congr 1
        show _ = (k, js.getD k 0) :: M.bks js k
        rw [List.getD_eq_getElem?_getD, hx]
        rfl
      have HBK := Lib.hid hbk
      obtain ⟨fn, tmps, assign, body, hy, hR⟩ := HY.out pre (k, x) wr HJP.out hlen ⟨k, by omega, hbk⟩
      dsimp only at hy
      have HRR := Lib.hid hR
      rw [k0]
      clear hbel hx hbk hlen k0 hR
      gi_wp2_with fail
      refine HRR.out.mono ?_
      rintro e W' (⟨rfl, hJ', hk'⟩ | ⟨rfl, hJx'⟩)
      · have HJ' := Lib.hid hJ'
        have HK' := Lib.hid hk'
        clear hJ' hk' hcb hcx
        gi_wp2_with fail
        go_roundw
        case rel => exact ⟨k, pre ++ [(k, x)], by go_num, by omega, HBK.out, HJ'.out, HW.out.trans HK'.out⟩
        case measure => simp [intOf]
      · have HJ' := Lib.hid hJx'
        clear hJx' hcb hcx
        gi_wp2_with fail
        refine bodyPost_ret (results_none rfl _ _ _) rfl ?_
        exact ⟨⟨_, rfl⟩, .inr ⟨pre ++ [(k, x)], ⟨k, by omega, HBK.out⟩, HJ'.out⟩⟩
theorem cback_gives (n b n₀ : Nat) (A : Option Addr) (ca N : Nat) (js : List Int) (w : World) (hn : 1 ≤ n) (hb : w.cell? ⟨b, 0, none⟩ = some (.slice A N ca)) (hbl : b < n₀) (hr : RdS .i64 w n₀ A js) (hN : js.length = N) (hl : N ≤ 17592186044416) (hn₀ : n₀ ≤ w.heap.size) :
    Gives mineN n Tryz.prog 102 #[.pointer (some ⟨b, 0, none⟩)] (fun x : Nat × Int => #[.int .i64 x.1, .int .i64 x.2]) (Below n₀) (fun xs => xs = M.bks js N) (fun pre => ∃ k, k < N ∧ pre ++ M.bks js k = M.bks js N) (fun pre => ∃ k, k < N ∧ pre ++ M.bks js k = M.bks js N) N w :=
  fun l J Jx W hB hJ _ hY h0 => cback1_in n l b n₀ A ca N js J Jx hn W hJ hY ((hB.cell (p := ⟨b, 0, none⟩) (by show b < w.heap.size; omega)).trans hb) hbl (hr.keep fun _ hp => hB.cell (by omega)) hN hl (Nat.le_trans hn₀ hB.size) h0
theorem cbackward_any (A : Option Addr) (ca n : Nat) (w : World) : Calls Tryz.prog 57 #[.slice A n ca] w fun r w' => r = .returned (.func (.func 102) #[] #[.pointer (some ⟨w.heap.size, 0, none⟩)]) ∧ w' = w.alloc (.cells #[.slice A n ca] 22) := by
  go_enter Tryz.func57, Tryz.ntmps57
  go_wp2_with fail
  go_ret
  exact ⟨rfl, rfl⟩
end Go.Proofs.YtjlfgojblimobaaGreat.S11
end

section
namespace Go.Proofs.YtjlfgojblimobaaGreat.S11.M

def cgo (kd mid : Nat → Int) : Nat → Nat → List Nat → List (Int × Int) → List (Int × Int)
  | 0, _, _, acc => acc
  | m + 1, i, st, acc =>
    if kd i = 1 then (if st.length = 63 then acc else cgo kd mid m (i + 1) (i :: st) acc)
    else if kd i = 2 then (match st.dropWhile (fun p => decide (mid p ≠ mid i)) with | [] => cgo kd mid m (i + 1) st acc | p :: r => cgo kd mid m (i + 1) r (acc ++ [((p : Int), (i : Int))]))
    else cgo kd mid m (i + 1) st acc
section
variable {kd mid : Nat → Int} {i m : Nat} {st : List Nat} {pa : List Int} {acc : List (Int × Int)}
theorem prsFrom_set {p : Nat} {q : Int} (h : pa[p]? = some 0) (hq : 0 < q) : (prsFrom i (pa.set p q)).Perm ((((i + p : Nat) : Int), q) :: prsFrom i pa) := by
  induction pa generalizing i p with
  | nil => simp at h
  | cons x r ih =>
    cases p with
    | zero =>
      rw [List.getElem?_cons_zero] at h
      injection h with h
      subst h
      rw [List.set_cons_zero]
      unfold prsFrom
      rw [if_pos hq, if_neg (by omega)]
      exact List.Perm.refl _
    | succ p =>
      rw [List.getElem?_cons_succ] at h
      have h1 := ih (i := i + 1) h
      rw [show i + 1 + p = i + (p + 1) by omega] at h1
      rw [List.set_cons_succ]
      unfold prsFrom
      split
      · exact (List.Perm.cons _ h1).trans (List.Perm.swap _ _ _)
      · exact h1
theorem cgo_perm (h : PInv kd mid i st pa) (hl : i + m ≤ pa.length) (hp : acc.Perm (prsFrom 0 pa)) : (cgo kd mid m i st acc).Perm (prsFrom 0 (pgo kd mid m i st pa)) := by
  induction m generalizing i st pa acc with
  | zero => exact hp
  | succ m ih =>
    unfold cgo pgo
    split
    · rename_i hk
      split
      · exact hp
      · exact ih (h.open_ hk (h.later (Nat.le_refl _) (by omega))) (by omega) hp
    · split
      · rename_i hk
        split
        · rename_i hd
          rw [hd]
          exact ih h.skip (by omega) hp
        · rename_i p r hd
          rw [hd]
          obtain ⟨a, ha, -⟩ := dropWhile_tail hd
          obtain ⟨h1, -, h3⟩ := h.stk p (by rw [ha]; simp)
          have h4 := prsFrom_set (i := 0) (q := (i : Int)) h3 (by omega)
          rw [Nat.zero_add] at h4
          refine ih (h.close hk hd) (by rw [List.length_set]; omega) ?_
          exact (List.perm_append_comm.trans (List.Perm.cons _ hp)).trans h4.symm
      · exact ih h.skip (by omega) hp
theorem cgo_none (h : ∀ j, i ≤ j → kd j = 0) : cgo kd mid m i st acc = acc := by
  induction m generalizing i with
  | zero => rfl
  | succ m ih =>
    unfold cgo
    have h0 := h i (Nat.le_refl _)
    rw [if_neg (by omega), if_neg (by omega)]
    exact ih fun j hj => h j (by omega)
end
theorem perm_rise {l l' : List (Int × Int)} (hp : l'.Perm l) (h : l.Pairwise fun a b => a.1 < b.1) (h' : l'.Pairwise fun a b => a.1 ≤ b.1) : l' = l := by
  induction l generalizing l' with
  | nil => exact List.Perm.eq_nil hp
  | cons a r ih =>
    cases l' with
    | nil => exact absurd hp.symm (by simp)
    | cons b r' =>
      obtain ⟨h1, h2⟩ := List.pairwise_cons.1 h
      obtain ⟨h3, h4⟩ := List.pairwise_cons.1 h'
      have hab : b = a := by
        rcases List.mem_cons.1 (hp.mem_iff.1 (List.mem_cons_self (a := b) (l := r'))) with e | hb
        · exact e
        · rcases List.mem_cons.1 (hp.mem_iff.2 (List.mem_cons_self (a := a) (l := r))) with e | ha
          · exact e.symm
          · have := h1 b hb
            have := h3 a ha
            omega
      subst hab
      rw [ih ((List.perm_cons _).1 hp) h2 h4]
section
variable {l : List Int} {ms : List (Int × Int)}
theorem cprs_perm : (cgo (kd l ms) (mid ms) l.length 0 [] []).Perm (prs l ms) := by
  unfold prs partner
  refine cgo_perm (PInv.zero _ _ _) (by rw [List.length_replicate]; omega) ?_
  have h : ∀ n i, prsFrom i (List.replicate n 0) = [] := fun n => by
    induction n with
    | zero => intro i; rfl
    | succ n ih =>
      intro i
      rw [List.replicate_succ]
      unfold prsFrom
      rw [if_neg (by omega)]
      exact ih _
  rw [h]
theorem prs_rise : (prs l ms).Pairwise fun a b => a.1 < b.1 := prsFrom_rise.1
theorem kd_none {i : Nat} (h : ms.length ≤ i) : kd l ms i = 0 := by
  unfold kd
  rw [List.getElem?_eq_none h]
  split <;> rfl
end
def Rch (came : List Int) (i j : Nat) : Prop := i ≤ j ∧ ∀ y, i < y → y ≤ j → came[y]? = some 8
section
variable {came l out : List Int} {ms : List (Int × Int)} {side other f x c to : Int} {m i j k p q : Nat}
theorem Rch.trans (h : Rch came i j) (h' : Rch came j k) : Rch came i k :=
  ⟨Nat.le_trans h.1 h'.1, fun y h1 h2 => by
    by_cases e : y ≤ j
    · exact h.2 y h1 e
    · exact h'.2 y (by omega) h2⟩
theorem Rch.later (h : Rch came i j) (h1 : i ≤ k) (h2 : k ≤ j) : Rch came k j := ⟨h2, fun y h3 h4 => h.2 y (by omega) h4⟩
theorem Rch.shorter (h : Rch came i j) (h1 : i ≤ k) (h2 : k ≤ j) : Rch came i k := ⟨h1, fun y h3 h4 => h.2 y h3 (by omega)⟩
theorem mk_on (hm : i ≤ j) (hj : j < i + m) (hl : j < l.length) (h : ∀ y, i ≤ y → y ≤ j → came[y]? = some 8) : (mk came side m i l)[j]? = some side := by
  induction m generalizing i l with
  | zero => omega
  | succ m ih =>
    unfold mk
    rw [if_pos (h i (Nat.le_refl _) hm)]
    by_cases e : i = j
    · subst e
      rcases mk_at (came := came) (side := side) (m := m) (i := i + 1) (l := l.set i side) (j := i) with h1 | ⟨_, h1, _⟩
      · rw [h1, List.getElem?_set_self hl]
      · omega
    · exact ih (by omega) (by omega) (by rw [List.length_set]; exact hl) fun y h1 h2 => h y (by omega) h2
theorem mk_off (h : ¬ (i ≤ j ∧ ∀ y, i ≤ y → y ≤ j → came[y]? = some 8)) : (mk came side m i l)[j]? = l[j]? := by
  induction m generalizing i l with
  | zero => rfl
  | succ m ih =>
    unfold mk
    split
    · rename_i h8
      have hne : i ≠ j := fun e => h ⟨by omega, fun y h1 h2 => by
        have : y = i := by omega
        rw [this]
        exact h8⟩
      rw [ih fun ⟨h1, h2⟩ => h ⟨by omega, fun y h3 h4 => by
        by_cases e : y = i
        · rw [e]
          exact h8
        · exact h2 y (by omega) h4⟩, List.getElem?_set_ne hne]
    · rfl
theorem bec_on (hj : j < l.length) (h : Rch came i j) : (bec came l i side)[j]? = some side := by
  by_cases e : i = j
  · subst e
    exact bec_self hj
  · unfold bec
    have := h.1
    exact mk_on (by omega) (by omega) (by rw [List.length_set]; exact hj) fun y h1 h2 => h.2 y (by omega) h2
theorem bec_off (h : ¬ Rch came i j) : (bec came l i side)[j]? = l[j]? := by
  have hne : i ≠ j := fun e => h ⟨by omega, fun y h1 h2 => by omega⟩
  unfold bec
  rw [mk_off fun ⟨h1, h2⟩ => h ⟨by omega, fun y h3 h4 => h2 y (by omega) h4⟩, List.getElem?_set_ne hne]
theorem bec_idle (h : ∀ x, x < out.length → Rch came i x → out[x]? = some side) : bec came out i side = out := by
  refine List.ext_getElem? fun x => ?_
  by_cases hx : x < out.length
  · by_cases hr : Rch came i x
    · rw [bec_on hx hr, h x hx hr]
    · exact bec_off hr
  · rw [List.getElem?_eq_none (by rw [bec_len]; omega), List.getElem?_eq_none (by omega)]
def cset (came out : List Int) (at_ : Nat) (side : Int) : List Int := if out[at_]? = some side then out else bec came out at_ side
structure JInv (came l : List Int) (ms : List (Int × Int)) (k : Nat) (out : List Int) : Prop where
  tch : ∀ z, l[z]? = some 13 → out[z]? ≠ some 13 → ∃ t p q : Nat, t < k ∧ (prs l ms)[t]? = some ((p : Int), (q : Int)) ∧ (Rch came p z ∨ Rch came q z)
  uni : ∀ z, (∀ t p q : Nat, t < k → (prs l ms)[t]? = some ((p : Int), (q : Int)) → p < z) → l[z]? = some 13 → out[z]? ≠ some 13 → ∀ x, x < l.length → Rch came z x → out[x]? = out[z]?
theorem JInv.zero : JInv came l ms 0 l := ⟨fun _ h h' => absurd h h', fun _ _ h h' => absurd h h'⟩
theorem before {t p' q' : Nat} (h : (prs l ms)[k]? = some ((p : Int), (q : Int))) (ht : t < k) (h' : (prs l ms)[t]? = some ((p' : Int), (q' : Int))) : p' < p ∧ (q < q' ∨ q' < p) := by
  have := prs_nested h' h ht
  dsimp only at this
  omega
theorem prs_places (h : (prs l ms)[k]? = some ((p : Int), (q : Int))) : p < q ∧ q < l.length ∧ l[p]? = some 13 ∧ l[q]? = some 13 := by
  obtain ⟨p', q', e, h1, h2, -, h3, h4, -⟩ := prs_at h
  injection e with e1 e2
  obtain rfl := Int.ofNat_inj.1 e1
  obtain rfl := Int.ofNat_inj.1 e2
  exact ⟨h1, h2, h3, h4⟩
theorem JInv.next (h : JInv came l ms k out) (hl : out.length = l.length) (hk : (prs l ms)[k]? = some ((p : Int), (q : Int))) : JInv came l ms (k + 1) (bec came (bec came out p to) q to) := by
  obtain ⟨hpq, hq, hlp, hlq⟩ := prs_places hk
  have on : ∀ z, z < l.length → Rch came p z ∨ Rch came q z → (bec came (bec came out p to) q to)[z]? = some to := fun z hz hr => by
    by_cases hrq : Rch came q z
    · exact bec_on (by rw [bec_len, hl]; exact hz) hrq
    · rw [bec_off hrq]
      exact bec_on (by rw [hl]; exact hz) (hr.resolve_right hrq)
  have off : ∀ z, ¬ Rch came p z → ¬ Rch came q z → (bec came (bec came out p to) q to)[z]? = out[z]? := fun z h1 h2 => by rw [bec_off h2, bec_off h1]
  refine ⟨fun z h13 hne => ?_, fun z hz h13 hne x hx hr => ?_⟩
  · by_cases h1 : Rch came p z
    · exact ⟨k, p, q, by omega, hk, .inl h1⟩
    · by_cases h2 : Rch came q z
      · exact ⟨k, p, q, by omega, hk, .inr h2⟩
      · rw [off z h1 h2] at hne
        obtain ⟨t, p', q', ht, h3, h4⟩ := h.tch z h13 hne
        exact ⟨t, p', q', by omega, h3, h4⟩
  · have hzl : z < l.length := (List.getElem?_eq_some_iff.1 h13).1
    have hpz : p < z := hz k p q (by omega) hk
    by_cases h1 : Rch came p z
    · rw [on z hzl (.inl h1), on x hx (.inl (h1.trans hr))]
    · by_cases h2 : Rch came q z
      · rw [on z hzl (.inr h2), on x hx (.inr (h2.trans hr))]
      · rw [off z h1 h2] at hne ⊢
        have hzx := hr.1
        have h3 : ¬ Rch came p x := fun h3 => h1 (h3.shorter (by omega) hzx)
        have h4 : ¬ Rch came q x := fun h4 => by
          have hqx := h4.1
          by_cases e : q ≤ z
          · exact h2 (h4.shorter e hzx)
          · obtain ⟨t, p', q', ht, h5, h6⟩ := h.tch z h13 hne
            obtain ⟨h7, h8⟩ := before hk ht h5
            rcases h6 with h6 | h6
            · exact h1 (h6.later (by omega) (by omega))
            · have := h6.1
              rcases h8 with h8 | h8
              · omega
              · exact h1 (h6.later (by omega) (by omega))
        rw [off x h3 h4]
        exact h.uni z (fun t p' q' ht h5 => hz t p' q' (by omega) h5) h13 hne x hx hr
theorem JInv.more (h : JInv came l ms k out) : JInv came l ms (k + 1) out :=
  ⟨fun z h13 hne => by
    obtain ⟨t, p', q', ht, h3, h4⟩ := h.tch z h13 hne
    exact ⟨t, p', q', by omega, h3, h4⟩, fun z hz => h.uni z fun t p' q' ht h5 => hz t p' q' (by omega) h5⟩
theorem cset_fst (h : JInv came l ms k out) (hl : out.length = l.length) (hk : (prs l ms)[k]? = some ((p : Int), (q : Int))) (hto : to = 0 ∨ to = 1) : cset came out p to = bec came out p to := by
  obtain ⟨hpq, hq, hlp, hlq⟩ := prs_places hk
  unfold cset
  split
  · rename_i e
    refine (bec_idle fun x hx hr => ?_).symm
    rw [h.uni p (fun t p' q' ht h5 => (before hk ht h5).1) hlp (by rw [e]; intro e; injection e with e; omega) x (by omega) hr, e]
  · rfl
theorem cset_snd (h : JInv came l ms k out) (hl : out.length = l.length) (hk : (prs l ms)[k]? = some ((p : Int), (q : Int))) (hto : to = 0 ∨ to = 1) : cset came (bec came out p to) q to = bec came (bec came out p to) q to := by
  obtain ⟨hpq, hq, hlp, hlq⟩ := prs_places hk
  unfold cset
  split
  · rename_i e
    refine (bec_idle fun x hx hr => ?_).symm
    rw [bec_len] at hx
    by_cases h1 : Rch came p x
    · exact bec_on hx h1
    · rw [bec_off h1]
      have h2 : ¬ Rch came p q := fun h2 => h1 (h2.trans hr)
      rw [bec_off h2] at e
      rw [h.uni q (fun t p' q' ht h5 => by have := (before hk ht h5).1; omega) hlq (by rw [e]; intro e; injection e with e; omega) x (by omega) hr, e]
  · rfl
theorem resTo_j (hk : k ≤ (prs l ms).length) : JInv came l ms k (resTo came l ms side other f k) := by
  induction k with
  | zero => exact JInv.zero
  | succ k ih =>
    have ha := List.getElem?_eq_getElem (l := prs l ms) (i := k) (by omega)
    obtain ⟨p, q, e, -⟩ := prs_at ha
    rw [resTo_succ ha, e]
    rw [e] at ha
    unfold res1
    dsimp only
    rw [Int.toNat_natCast, Int.toNat_natCast]
    split
    · exact (ih (by omega)).more
    · exact (ih (by omega)).next resTo_len ha
theorem ahd_or (hf : f = 0 ∨ f = 1) (r : List Int) : ahd f r = 0 ∨ ahd f r = 1 := by
  induction r with
  | nil => exact hf
  | cons x r ih =>
    unfold ahd
    split
    · exact ih
    · rename_i h
      unfold sg at h ⊢
      split
      · exact .inr rfl
      · split
        · exact .inl rfl
        · rename_i h1 h2
          rw [if_neg h1, if_neg h2] at h
          exact absurd rfl h
theorem toOf_is (hf : f = 0 ∨ f = 1) (hso : (side = 0 ∧ other = 1) ∨ (side = 1 ∧ other = 0)) : toOf side other f out p q = if btw side out (q - (p + 1)) (p + 1) = true then side else if btw other out (q - (p + 1)) (p + 1) = true then ahd f (out.take p).reverse else 13 := by
  unfold toOf
  split
  · rfl
  · split
    · have := ahd_or hf (out.take p).reverse
      split <;> omega
    · rfl
end
end Go.Proofs.YtjlfgojblimobaaGreat.S11.M
end
