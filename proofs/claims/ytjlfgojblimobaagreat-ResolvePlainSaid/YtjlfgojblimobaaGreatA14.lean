/- Sequences in memory: a row of them, each with a row of places that nobody else has; and a map of whole numbers. No function of the program is walked here. -/
/- A region that draws its order, within a round of a range over a function: what the plain walk shows of it serves there, too, if it defers nothing. No program is read here. -/
/- What package runs' Split and the document's hand back: a slice of sequences that reads as their list. No function of the program is walked here. -/
/- The contract of package runs' Split over the translation. Conditions: both slices read as lists, at most a thousand long, within their capacity. -/
/- Bounds: of runs' levels and places, and of how many there are. No program is read here. -/
import Derived.Test.YtjlfgojblimobaaGreatA13
import Derived.Laws.OwnMore
import Derived.Maps.OwnSet
import Derived.Test.YtjlfgojblimobaaGreatA00
import Derived.RangeFuncCalls
import Derived.OrdersIn
import Derived.Deep.RegionHeld3
import Derived.StillTail
import Derived.OwnWalkIn
import Derived.Test.YtjlfgojblimobaaGreatA12
section
namespace Go.Proofs.YtjlfgojblimobaaGreat
open Go.RowKit Go.Maps Go.WideMaps
set_option maxRecDepth 100000

abbrev Sv := Option Addr × Nat
def sqCells : List Sv → List M.Sq → List Value
  | v :: vs, s :: ss => .slice v.1 s.pl.length v.2 :: .int .i64 s.lv :: .int .i64 s.fi :: .int .i64 s.la :: sqCells vs ss
  | _, _ => []
theorem sqCells_at : ∀ {vs : List Sv} {ss : List M.Sq} {k : Nat} {v : Sv} {s : M.Sq}, vs[k]? = some v → ss[k]? = some s →
    (sqCells vs ss)[k * 4]? = some (.slice v.1 s.pl.length v.2) ∧ (sqCells vs ss)[k * 4 + 1]? = some (.int .i64 s.lv) ∧ (sqCells vs ss)[k * 4 + 2]? = some (.int .i64 s.fi) ∧ (sqCells vs ss)[k * 4 + 3]? = some (.int .i64 s.la) := by
  intro vs
  induction vs with
  | nil => intro ss k v s h; simp at h
  | cons v' vs ih => intro ss k v s h1 h2; cases ss with
    | nil => simp at h2
    | cons s' ss =>
      cases k with
      | zero => simp at h1 h2; subst h1 h2; exact ⟨rfl, rfl, rfl, rfl⟩
      | succ k =>
        simp at h1 h2
        obtain ⟨a, b, c, d⟩ := ih h1 h2
        rw [show (k + 1) * 4 = k * 4 + 1 + 1 + 1 + 1 by omega]
        exact ⟨a, b, c, d⟩
theorem sqCells_set0 : ∀ {vs : List Sv} {ss : List M.Sq} {k : Nat} {v v' : Sv} {s s' : M.Sq}, vs[k]? = some v → ss[k]? = some s → s'.lv = s.lv → s'.fi = s.fi → s'.la = s.la →
    (sqCells vs ss).set (k * 4) (.slice v'.1 s'.pl.length v'.2) = sqCells (vs.set k v') (ss.set k s') := by
  intro vs
  induction vs with
  | nil => intro ss k v v' s s' h; simp at h
  | cons v0 vs ih => intro ss k v v' s s' h1 h2 e1 e2 e3; cases ss with
    | nil => simp at h2
    | cons s0 ss =>
      cases k with
      | zero => simp at h1 h2; subst h1 h2; simp only [List.set_cons_zero, sqCells, Nat.zero_mul, e1, e2, e3]
      | succ k =>
        simp at h1 h2
        rw [show (k + 1) * 4 = k * 4 + 1 + 1 + 1 + 1 by omega]
        simp only [sqCells, List.set_cons_succ]
        rw [ih h1 h2 e1 e2 e3]
theorem sqCells_set3 : ∀ {vs : List Sv} {ss : List M.Sq} {k : Nat} {v : Sv} {s s' : M.Sq}, vs[k]? = some v → ss[k]? = some s → s'.pl = s.pl → s'.lv = s.lv → s'.fi = s.fi →
    (sqCells vs ss).set (k * 4 + 3) (.int .i64 s'.la) = sqCells vs (ss.set k s') := by
  intro vs
  induction vs with
  | nil => intro ss k v s s' h; simp at h
  | cons v0 vs ih => intro ss k v s s' h1 h2 e1 e2 e3; cases ss with
    | nil => simp at h2
    | cons s0 ss =>
      cases k with
      | zero => simp at h1 h2; subst h1 h2; simp only [List.set_cons_zero, sqCells, Nat.zero_mul, Nat.zero_add, List.set_cons_succ, e1, e2, e3]
      | succ k =>
        simp at h1 h2
        rw [show (k + 1) * 4 + 3 = k * 4 + 3 + 1 + 1 + 1 + 1 by omega]
        simp only [sqCells, List.set_cons_succ]
        rw [ih h1 h2 e1 e2 e3]
theorem sqCells_snoc : ∀ {vs : List Sv} {ss : List M.Sq} (v : Sv) (s : M.Sq), vs.length = ss.length →
    sqCells vs ss ++ [.slice v.1 s.pl.length v.2, .int .i64 s.lv, .int .i64 s.fi, .int .i64 s.la] = sqCells (vs ++ [v]) (ss ++ [s]) := by
  intro vs
  induction vs with
  | nil => intro ss v s h; cases ss with
    | nil => rfl
    | cons s0 ss => simp at h
  | cons v0 vs ih => intro ss v s h; cases ss with
    | nil => simp at h
    | cons s0 ss =>
      simp only [sqCells, List.cons_append]
      rw [ih v s (by simpa using h)]

structure Rws (W : World) (base : Nat) (vs : List Sv) (ls : List (List Int)) : Prop where
  len : vs.length = ls.length
  own : ∀ (k : Nat) (v : Sv) (l : List Int), vs[k]? = some v → ls[k]? = some l → W.ownsRow base 3 1 (.slice v.1 l.length v.2) l.length (l.map (Value.int .i64))
  apart : ∀ (i j : Nat) (v v' : Sv) (g : Nat), i ≠ j → vs[i]? = some v → vs[j]? = some v' → v.1.map (·.block) = some g → v'.1.map (·.block) ≠ some g
theorem own_blk (A : Option Addr) (n c : Nat) : (Value.slice A n c).ownBlock = A.map (·.block) := by cases A <;> rfl
section
variable {W W' W1 : World} {base : Nat} {vs : List Sv} {ls : List (List Int)}
theorem Rws.nil (W : World) (base : Nat) : Rws W base [] [] := ⟨rfl, fun k v l h => by simp at h, fun i j v v' g _ h => by simp at h⟩
theorem Rws.keep (h : Rws W base vs ls) (hk : ∀ (g : Nat) cs, base ≤ g → W.heap[g]? = some (.cells cs 3 (0, 0)) → W'.heap[g]? = some (.cells cs 3 (0, 0))) : Rws W' base vs ls := by
  refine ⟨h.len, fun k v l h1 h2 => ?_, h.apart⟩
  have ho := h.own k v l h1 h2
  refine ⟨ho.1, ?_⟩
  rcases ho.2 with h0 | ⟨g, cap, cur, hv, hb, hg, rest⟩
  · exact .inl h0
  · exact .inr ⟨g, cap, cur, hv, hb, hk g _ hb hg, rest⟩
theorem Rws.below (h : Rws W base vs ls) (hb : Below W.heap.size W W') : Rws W' base vs ls := h.keep fun g _ _ hg => (hb.block g (Array.getElem?_eq_some_iff.1 hg).1).trans hg
theorem Rws.still {mine : Obj → Bool} {B : Nat} (h : Rws W base vs ls) (hs : Still mine B W W') (hm : ∀ cs m, mine (.cells cs 3 m) = false) : Rws W' base vs ls := h.keep fun g _ _ hg => hs.kept g _ hg (hm _ _)
theorem Rws.setOther {B i : Nat} {cs : Array Value} {t : TypeId} {m : Nat × Nat} (h : Rws W base vs ls) (hB : W.heap[B]? = some (.cells cs t m)) (ht : t ≠ 3) (u : Value) : Rws (W.setCell ⟨B, i, none⟩ u) base vs ls := h.keep fun g cs' _ hg => by
  have hne : g ≠ B := fun e => by
    rw [e, hB] at hg
    injection hg with hg
    injection hg with _ hg _
    exact ht hg
  rw [Below.heap_setCell _ _ _ g hne]
  exact hg
theorem Rws.growOther {base' n s : Nat} {t : TypeId} {v : Value} {xs : List Value} (h : Rws W base vs ls) (ho : W.ownsRow base' t s v n xs) (ht : t ≠ 3) (hg : W.grownBy W1 v.ownBlock) : Rws W1 base vs ls := h.keep fun g cs' _ hgg => by
  have hne : some g ≠ v.ownBlock := fun e => by
    rcases ho.2 with ⟨rfl, _⟩ | ⟨g', cap, cur, rfl, _, hg', _⟩
    · simp [Value.ownBlock] at e
    · have e2 : g = g' := by simpa [Value.ownBlock] using e
      rw [e2, hg'] at hgg
      injection hgg with hgg
      injection hgg with _ hgg _
      exact ht hgg
  exact (hg.block g (Array.getElem?_eq_some_iff.1 hgg).1 hne).trans hgg
theorem Rws.snoc (h : Rws W base vs ls) : Rws W base (vs ++ [(none, 0)]) (ls ++ [[]]) := by
  have hl := h.len
  refine ⟨by simp [hl], fun k v l h1 h2 => ?_, fun i j v v' g hij h1 h2 h3 => ?_⟩
  · rcases Nat.lt_or_ge k vs.length with hk | hk
    · rw [List.getElem?_append_left hk] at h1
      rw [List.getElem?_append_left (by omega)] at h2
      exact h.own k v l h1 h2
    · have : k = vs.length := by have := (List.getElem?_eq_some_iff.1 h1).1; simp at this; omega
      subst this
      rw [List.getElem?_append_right (Nat.le_refl _)] at h1
      rw [hl, List.getElem?_append_right (Nat.le_refl _)] at h2
      simp at h1 h2
      subst h1 h2
      exact World.ownsRow_nil _ _ _ _
  · have hi : i < vs.length := by
      false_or_by_contra
      rename_i hn
      rw [List.getElem?_append_right (by omega)] at h1
      have : i - vs.length = 0 := by have := (List.getElem?_eq_some_iff.1 h1).1; simp at this; omega
      rw [this] at h1
      simp at h1
      subst h1
      simp at h3
    rw [List.getElem?_append_left hi] at h1
    rcases Nat.lt_or_ge j vs.length with hj | hj
    · rw [List.getElem?_append_left hj] at h2
      exact h.apart i j v v' g hij h1 h2 h3
    · rw [List.getElem?_append_right hj] at h2
      have : j - vs.length = 0 := by have := (List.getElem?_eq_some_iff.1 h2).1; simp at this; omega
      rw [this] at h2
      simp at h2
      subst h2
      simp
theorem Rws.grow {k g cap n : Nat} {v : Sv} {l new : List Int} {A : Option Addr} (h : Rws W base vs ls) (h1 : vs[k]? = some v) (h2 : ls[k]? = some l) (hA : A = v.1) (hg : W.grownBy W1 (A.map (·.block)))
    (ho : W1.ownsRow base 3 1 (.slice (some ⟨g, 0, none⟩) n cap) n ((l ++ new).map (Value.int .i64))) (hn : n = (l ++ new).length) (hat : A.map (·.block) = some g ∨ W.heap.size ≤ g) :
    Rws W1 base (vs.set k (some ⟨g, 0, none⟩, cap)) (ls.set k (l ++ new)) := by
  subst hA
  have hk := (List.getElem?_eq_some_iff.1 h1).1
  have hl := h.len
  have blk : ∀ (j : Nat) (v' : Sv) (x : Nat), vs[j]? = some v' → v'.1.map (·.block) = some x → base ≤ x ∧ x < W.heap.size := fun j v' x hv hx => by
    obtain ⟨l', hl'⟩ : ∃ l', ls[j]? = some l' := ⟨_, List.getElem?_eq_getElem (by have := (List.getElem?_eq_some_iff.1 hv).1; omega)⟩
    exact World.ownsRow.lt (h.own j v' l' hv hl') x (by rw [own_blk]; exact hx)
  refine ⟨by simp [hl], fun j v' l' hv hl' => ?_, fun i j v' v'' x hij hv hv' hx => ?_⟩
  · by_cases hj : j = k
    · subst hj
      rw [List.getElem?_set_self hk] at hv
      rw [List.getElem?_set_self (by omega)] at hl'
      obtain rfl := Option.some.inj hv
      obtain rfl := Option.some.inj hl'
      rw [← hn]
      exact ho
    · rw [List.getElem?_set_ne (fun e => hj e.symm)] at hv hl'
      refine World.ownsRow.kept (h.own j v' l' hv hl') hg ?_
      rw [own_blk]
      cases hb : v'.1.map (·.block) with
      | none => exact .inl rfl
      | some x => exact .inr fun e => h.apart j k v' v x hj hv h1 hb e.symm
  · by_cases hi : i = k
    · subst hi
      rw [List.getElem?_set_self hk] at hv
      rw [List.getElem?_set_ne hij] at hv'
      obtain rfl := Option.some.inj hv
      obtain rfl : g = x := by simpa using hx
      intro e
      have hlt := (blk j v'' g hv' e).2
      rcases hat with h3 | h3
      · exact h.apart i j v v'' g hij h1 hv' h3 e
      · omega
    · rw [List.getElem?_set_ne (fun e => hi e.symm)] at hv
      have hlt := (blk i v' x hv hx).2
      by_cases hj : j = k
      · subst hj
        rw [List.getElem?_set_self hk] at hv'
        obtain rfl := Option.some.inj hv'
        intro e
        obtain rfl : g = x := by simpa using e
        rcases hat with h3 | h3
        · exact h.apart i j v' v g hij hv h1 hx h3
        · omega
      · rw [List.getElem?_set_ne (fun e => hj e.symm)] at hv'
        exact h.apart i j v' v'' x hij hv hv' hx
end

def MapIs (D : DataW Unit) (f : Int → Option Nat) : Prop :=
  ∀ e : Int, has D (.int .i64 e) = (f e).isSome ∧ D.atKey (.int .i64 e) (.lit (.int .i64 0)) = .lit (.int .i64 ((f e).getD 0 : Nat))
theorem MapIs.nil : MapIs (.map []) (fun _ => none) := fun _ => ⟨rfl, rfl⟩
theorem key_lit (e : Int) : WideAt.IsKeyLit (.int .i64 e) := by simp [WideAt.IsKeyLit]
theorem MapIs.put {D : DataW Unit} {f : Int → Option Nat} (h : MapIs D f) (hD : IsMap D) (k : Int) (n : Nat) : MapIs (D.put (.int .i64 k) (.lit (.int .i64 n))) (fun e => if e = k then some n else f e) := fun e => by
  by_cases he : e = k
  · subst he
    simp only [if_true]
    exact ⟨by rw [has_put_same hD (key_lit _)]; rfl, by rw [atKey_put_same hD (key_lit _)]; rfl⟩
  · simp only [if_neg he]
    have hne : (Lit.int .i64 e) ≠ .int .i64 k := fun q => he (by injection q)
    exact ⟨by rw [has_put_other hne, (h e).1], by rw [atKey_put_other hne, (h e).2]⟩
def MapI (w : World) (mb t : Nat) (f : Int → Option Nat) : Prop :=
  ∃ n D, w.ownsMap Tryz.prog 3 (plainElem (H := Unit) Tryz.prog 3) mb n D ∧ n ≤ t ∧ MapIs D f
theorem MapI.lt {w : World} {mb t : Nat} {f : Int → Option Nat} (h : MapI w mb t f) : mb < w.heap.size := by obtain ⟨n, D, h, _⟩ := h; exact h.lt
theorem MapI.keep {w w' : World} {mb t : Nat} {f : Int → Option Nat} (h : MapI w mb t f) (hb : w'.heap[mb]? = w.heap[mb]?) : MapI w' mb t f := by
  obtain ⟨n, D, ⟨es, clock, h1, h2⟩, h3⟩ := h
  exact ⟨n, D, ⟨es, clock, by rw [hb]; exact h1, h2⟩, h3⟩
theorem intKeyed : Keyed Tryz.prog 3 := int_keyed Tryz.underlying3
theorem zeroInt (w : World) : (zeroValue 3).run Tryz.prog w = .ok (.int .i64 0) w := by kernel_rfl
theorem wf_small {e : Int} (h0 : -1 ≤ e) (h1 : e ≤ 1000) : (Lit.int .i64 e).wf = true := WalkArith.wf_i64 (by omega)
theorem MapI.look {w : World} {mb t : Nat} {f : Int → Option Nat} (h : MapI w mb t f) {e : Int} (h0 : -1 ≤ e) (h1 : e ≤ 1000) :
    (Instr.lookup 116 (.map (some mb)) (.int .i64 e) true).run Tryz.prog w = .ok (.tuple #[.int .i64 ((f e).getD 0 : Nat), .bool (f e).isSome]) w := by
  obtain ⟨n, D, h, _, hi⟩ := h
  obtain ⟨v, ps, hrun, hv⟩ := h.look_ok intKeyed Tryz.underlying116 (zeroInt w) (plainElem_int Tryz.underlying3 (by decide)) (keyOf_int_mk Tryz.underlying3 (wf_small h0 h1))
  obtain ⟨c, rfl, hc, _⟩ := plainElem_int_inv Tryz.underlying3 hv
  have hc1 : D.atKey (.int .i64 e) (.lit (.int .i64 0)) = .lit (.int .i64 c) := congrArg Prod.fst hc
  rw [(hi e).2] at hc1
  injection hc1 with hc2
  injection hc2 with _ hc3
  rw [hrun, (hi e).1, hc3]
theorem MapI.update {w : World} {mb t : Nat} {f : Int → Option Nat} (h : MapI w mb t f) (ht : t ≤ 1000) {e : Int} (h0 : -1 ≤ e) (h1 : e ≤ 1000) {n : Nat} (hn : n ≤ 1000) :
    ∃ w', (Instr.mapUpdate 116 (.map (some mb)) (.int .i64 e) (.int .i64 n)).run Tryz.prog w = .ok () w' ∧ MapI w' mb (t + 1) (fun x => if x = e then some n else f x) ∧ w.grownBy w' (some mb) := by
  obtain ⟨m, D, h, hm, hi⟩ := h
  obtain ⟨w', hrun, hown, hg⟩ := h.update intKeyed Tryz.underlying116 (by unfold maxLen; omega) (keyOf_int_mk Tryz.underlying3 (wf_small h0 h1)) (plainElem_int Tryz.underlying3 (wf_small (e := n) (by omega) (by omega)))
  exact ⟨w', hrun, ⟨m + 1, _, hown, by omega, hi.put h.isMap e n⟩, hg⟩
end Go.Proofs.YtjlfgojblimobaaGreat
end

section
namespace Go.Proofs.YtjlfgojblimobaaGreat
open Go.RowKit Go.Sort

def AtEnd (Q : Exit → Act → World → Prop) : Exit → Act → World → Prop
  | .normal, a, w => Q .normal a w
  | _, _, _ => False
theorem AtEnd.imp {Q : Exit → Act → World → Prop} : ∀ (e : Exit) (a : Act) (w : World), AtEnd Q e a w → Q e a w := fun e a w h => by
  cases e <;> first | exact h | exact (h : False).elim
theorem AtEnd.no {Q : Exit → Act → World → Prop} : ¬ LetsOut (AtEnd Q) := fun ⟨_, _, h⟩ => h
def isDefer : Op → Bool
  | .defer _ => true
  | _ => false
def calmB (ops : Array Oper) : Bool := ops.toList.all fun o => !isDefer o.op
section
variable {P : Program} {ops : Array Oper} {Q : Exit → Act → World → Prop} {l n : Nat}
theorem calm_at (hd : calmB ops = true) {i : Nat} {o : Oper} (h : ops[i]? = some o) : ∀ c, o.op ≠ .defer c := by
  intro c hc
  unfold calmB at hd
  rw [List.all_eq_true] at hd
  have := hd o (List.mem_of_getElem? (i := i) (by simpa using h))
  rw [hc] at this
  cases this
theorem op_round {o : Oper} (ho : ∀ c, o.op ≠ .defer c) {a : Act} {w : World} {K K' : Act → World → Prop} (hK : ∀ a w, K a w → K' a w) (h : o.wp P a w K (AtEnd Q)) : o.wpIn (Fence.wide.inRound l) n P a w K' (AtEnd Q) := by
  refine ⟨fun _ _ => trivial, ?_⟩
  rw [Oper.semAt_plain _ _ _ ho]
  unfold Oper.wp at h
  generalize (execOp a.eval o).run P w = r at *
  have hnd : (Fence.wide.inRound l).depth.isSome = true → 1 ≤ n := fun h => by cases h
  cases r with
  | ok x w' =>
    cases x <;> simp only [Oper.upon, Oper.uponIn] at h ⊢
    case value u => exact hK _ _ h
    case skip => exact hK _ _ h
    case defer d => exact hK _ _ h
    case enter f args =>
      refine ⟨hnd, CallsIn.inRound l (callsIn_wide.2 (Calls.mono h fun e w'' he => ?_))⟩
      cases e with
      | returned u => exact hK _ _ he
      | panicked c => exact he
      | outgrown => exact he
    case row row args =>
      refine ⟨hnd, fun c cs _ => ?_⟩
      obtain ⟨v, w'', hr, hs⟩ := h c cs
      exact ⟨v, w'', hK _ _ hr, stepsIn_wide.2 hs⟩
  | halt x w' =>
    cases x <;> simp only [Oper.upon, Oper.uponIn] at h ⊢
    case panic u => exact h
theorem any_round (hd : calmB ops = true) {md : Region.Mode} : ∀ (fuel : Nat) (listed : Array Bool) (a : Act) (w : World), wpAny P md ops (AtEnd Q) fuel listed a w → wpAnyIn (Fence.wide.inRound l) n P md ops (AtEnd Q) fuel listed a w := by
  intro fuel
  induction fuel with
  | zero => intro listed a w h; exact h
  | succ fuel ih =>
    intro listed a w h
    refine ⟨h.1, fun i hi => ?_⟩
    have h2 := h.2 i hi
    unfold wpOp at h2
    unfold wpOpIn
    cases ho : ops[i]? with
    | none => rw [ho] at h2; exact ih _ _ _ h2
    | some o =>
      rw [ho] at h2
      dsimp only at h2 ⊢
      split
      · rename_i hw
        rw [if_pos hw] at h2
        rcases h2 with h2 | h2
        · exact op_round (calm_at hd ho) (fun a w => ih _ a w) h2
        · exact absurd h2.2 AtEnd.no
      · rename_i hw
        rw [if_neg hw] at h2
        exact ⟨fun _ _ => trivial, ih _ _ _ h2⟩
theorem region_any {id : Nat} {a : Act} {w : World} (hm : P.follows .mixedOrders = true) (hd : calmB ops = true)
    (h : wpAny P .any ops (AtEnd Q) ops.size (Array.replicate ops.size false) a { w with drawn := w.drawn + 1 }) : (Code.region id ops true).wpIn (Fence.wide.inRound l) n P Q a w :=
  wpIn_mono (wpIn_region_any hm (any_round hd _ _ _ _ h)) AtEnd.imp
theorem region_quiet {id : Nat} {a : Act} {w : World} {L : List Oper} (hm : P.follows .mixedOrders = true) (hd : calmB L.toArray = true) (hB : Region.lexB .any L.toArray = true)
    (h : wpQuiet P L.toArray (fun w' => ∃ p : Regrown, w' = grow (redrawn w p.d) p.os) (fun a' => ∀ w', (∃ p : Regrown, w' = grow (redrawn w p.d) p.os) → Q .normal a' w') L a) : (Code.region id L.toArray true).wpIn (Fence.wide.inRound l) n P Q a w := by
  refine region_any hm hd ?_
  simp only [Region.lexB, Bool.and_eq_true] at hB
  have hC : ∃ p : Regrown, ({ w with drawn := w.drawn + 1 } : World) = grow (redrawn w p.d) p.os := ⟨⟨w.drawn + 1, #[]⟩, by rw [grow_empty]; rfl⟩
  refine wpAny_of_quiet (Q := fun a' => ∀ w', (∃ p : Regrown, w' = grow (redrawn w p.d) p.os) → Q .normal a' w') (Q' := AtEnd Q) (fun _ w' hw' h => h w' hw') _ _ _ _ hC ?_
  have := wpAnyQ_lex (C := fun w' => ∃ p : Regrown, w' = grow (redrawn w p.d) p.os) (md := .any) hB.1 L 0 (Array.replicate L.toArray.size false) a (by simp) (by simpa using hB.2) h
  simpa using this

variable {S : World → Prop} {md : Region.Mode}
theorem takeH {i d fuel : Nat} {o : Oper} {v : Value} {listed listed' : Array Bool} {ts ts' : Array Value} {w : World} (hi : ops[i]? = some o)
    (hs : Region.noSelect ops = true) (hf : Region.free md ops listed i = true) (hr : (Region.ready md ops listed).contains i = true) (hg : o.guard = none) (hd : o.dst = some d) (hS : S w)
    (hy : ∀ w, S w → (execOp (Act.eval ⟨ts, []⟩) o).run P w = .ok (.value v) w) (hl : listed.setIfInBounds i true = listed') (ht : ts.setIfInBounds d v = ts')
    (h : wpAnyH P md ops (AtEnd Q) S fuel listed' ⟨ts', []⟩ w) : wpAnyH P md ops (AtEnd Q) S (fuel + 1) listed ⟨ts, []⟩ w := by
  refine wpAnyH_take hi hs hf hr (fun _ _ _ h => h) (Or.inl ⟨by simp [Region.wanted, hg], hy⟩) hS ?_
  rw [hl, hd]
  unfold Act.put
  simp only [ht]
  exact h
def BackH (P : Program) (md : Region.Mode) (ops : Array Oper) (Q : Exit → Act → World → Prop) (S : World → Prop) (fuel : Nat) (listed : Array Bool) (ts : Array Value) (w : World) (i : Nat) : Prop :=
  wpOp P ops (AtEnd Q) i (fun a' w' => S w' ∧ wpAnyH P md ops (AtEnd Q) S fuel (listed.setIfInBounds i true) a' w') ⟨ts, []⟩ w
theorem oneH {i fuel : Nat} {listed : Array Bool} {ts : Array Value} {w : World} (hr : Region.ready md ops listed = [i]) (h : BackH P md ops Q S fuel listed ts w i) : wpAnyH P md ops (AtEnd Q) S (fuel + 1) listed ⟨ts, []⟩ w :=
  wpAnyH_all hr (by simp) fun j hj => by obtain rfl := List.mem_singleton.1 hj; exact h
theorem twoH {i k fuel : Nat} {listed : Array Bool} {ts : Array Value} {w : World} (hr : Region.ready md ops listed = [i, k]) (h : BackH P md ops Q S fuel listed ts w i) (h2 : BackH P md ops Q S fuel listed ts w k) : wpAnyH P md ops (AtEnd Q) S (fuel + 1) listed ⟨ts, []⟩ w :=
  wpAnyH_all hr (by simp) fun j hj => by
    rcases List.mem_cons.1 hj with rfl | hj
    · exact h
    · obtain rfl := List.mem_singleton.1 hj; exact h2
theorem runH {i d fuel : Nat} {o : Oper} {v : Value} {listed listed' : Array Bool} {ts ts' : Array Value} {w w' : World} (hi : ops[i]? = some o) (hg : o.guard = none) (hd : o.dst = some d)
    (hrun : (execOp (Act.eval ⟨ts, []⟩) o).run P w = .ok (.value v) w') (hS : S w') (hl : listed.setIfInBounds i true = listed') (ht : ts.setIfInBounds d v = ts')
    (h : wpAnyH P md ops (AtEnd Q) S fuel listed' ⟨ts', []⟩ w') : BackH P md ops Q S fuel listed ts w i := by
  unfold BackH wpOp
  rw [hi]
  dsimp only
  rw [if_pos (by simp [Region.wanted, hg])]
  refine .inl ?_
  unfold Oper.wp
  rw [hrun]
  refine ⟨hS, ?_⟩
  rw [hl, hd]
  unfold Act.put
  simp only [ht]
  exact h
theorem skipH {i fuel : Nat} {o : Oper} {v : Next} {listed listed' : Array Bool} {ts : Array Value} {w w' : World} (hi : ops[i]? = some o) (hg : o.guard = none) (hd : o.dst = none)
    (hrun : (execOp (Act.eval ⟨ts, []⟩) o).run P w = .ok v w') (hv : v = .skip ∨ ∃ u, v = .value u) (hS : S w') (hl : listed.setIfInBounds i true = listed')
    (h : wpAnyH P md ops (AtEnd Q) S fuel listed' ⟨ts, []⟩ w') : BackH P md ops Q S fuel listed ts w i := by
  unfold BackH wpOp
  rw [hi]
  dsimp only
  rw [if_pos (by simp [Region.wanted, hg])]
  refine .inl ?_
  unfold Oper.wp
  rw [hrun]
  rcases hv with rfl | ⟨u, rfl⟩
  all_goals
    refine ⟨hS, ?_⟩
    rw [hl, hd]
    exact h
theorem callH {i d fuel f : Nat} {args : Array Value} {o : Oper} {v : Value} {listed listed' : Array Bool} {ts ts' : Array Value} {w : World} (hi : ops[i]? = some o) (hg : o.guard = none) (hd : o.dst = some d)
    (hrun : (execOp (Act.eval ⟨ts, []⟩) o).run P w = .ok (.enter f args) w) (hc : Calls P f args w fun r w' => r = .returned v ∧ w = w') (hS : S w) (hl : listed.setIfInBounds i true = listed') (ht : ts.setIfInBounds d v = ts')
    (h : wpAnyH P md ops (AtEnd Q) S fuel listed' ⟨ts', []⟩ w) : BackH P md ops Q S fuel listed ts w i := by
  unfold BackH wpOp
  rw [hi]
  dsimp only
  rw [if_pos (by simp [Region.wanted, hg])]
  refine .inl ?_
  unfold Oper.wp
  rw [hrun]
  refine hc.mono ?_
  rintro r w' ⟨rfl, rfl⟩
  refine ⟨hS, ?_⟩
  rw [hl, hd]
  unfold Act.put
  simp only [ht]
  exact h
theorem exec_append {o : Oper} {a : Act} {s x : Operand} {t : TypeId} (ho : o.op = .call { callee := .builtin .append, args := #[s, x], argTypes := #[t, t] }) {v1 v2 r : Value} {w w' : World} (h1 : a.eval s = v1) (h2 : a.eval x = v2)
    (hrun : (Builtin.append_ #[t, t] o.type #[v1, v2]).run P w = .ok r w') : (execOp a.eval o).run P w = .ok (.value r) w' := by
  unfold execOp
  simp only [ho, resolve, invoke, builtin, Sem.run_bind, Sem.run_pure, Result.andThen_ok, List.map_toArray, List.map_cons, List.map_nil, h1, h2, hrun]
theorem region_by {S : World → Prop} {id k : Nat} {ts : Array Value} {w : World} {listed : Array Bool} (hm : P.follows .mixedOrders = true) (hd : calmB ops = true) (hk : ops.size = k) (hl : Array.replicate k false = listed)
    (h : wpAnyH P .any ops (AtEnd Q) S k listed ⟨ts, []⟩ w.drew) : (Code.region id ops true).wpIn (Fence.wide.inRound l) n P Q ⟨ts, []⟩ w := by
  subst hk hl
  exact region_any hm hd (wpAny_of_held _ _ _ _ h)
end
end Go.Proofs.YtjlfgojblimobaaGreat
end

section
namespace Go.Proofs.YtjlfgojblimobaaGreat
open Go.RowKit
set_option maxRecDepth 100000

def RdQ (w : World) (B : Nat) (A : Option Addr) (ss : List M.Sq) : Prop :=
  ∀ (k : Nat) (s : M.Sq), ss[k]? = some s → ∃ g Ap cp, A = some ⟨g, 0, none⟩ ∧ g < B ∧
    w.cell? ⟨g, k * 4, none⟩ = some (.slice Ap s.pl.length cp) ∧ w.cell? ⟨g, k * 4 + 1, none⟩ = some (.int .i64 s.lv) ∧ w.cell? ⟨g, k * 4 + 2, none⟩ = some (.int .i64 s.fi) ∧ w.cell? ⟨g, k * 4 + 3, none⟩ = some (.int .i64 s.la) ∧
    RdS .i64 w B Ap s.pl ∧ s.pl.length ≤ cp ∧ cp ≤ maxLen ∧ (Ap = none → cp = 0)
theorem RdQ.below {w w' : World} {B : Nat} {A : Option Addr} {ss : List M.Sq} (h : RdQ w B A ss) (hb : Below B w w') : RdQ w' B A ss := fun k s hs => by
  obtain ⟨g, Ap, cp, hA, hg, c0, c1, c2, c3, hr, h1, h2, h3⟩ := h k s hs
  exact ⟨g, Ap, cp, hA, hg, (hb.cell (p := ⟨g, k * 4, none⟩) hg).trans c0, (hb.cell (p := ⟨g, k * 4 + 1, none⟩) hg).trans c1, (hb.cell (p := ⟨g, k * 4 + 2, none⟩) hg).trans c2, (hb.cell (p := ⟨g, k * 4 + 3, none⟩) hg).trans c3, hr.below hb, h1, h2, h3⟩
theorem RdQ.more {w : World} {B B' : Nat} {A : Option Addr} {ss : List M.Sq} (h : RdQ w B A ss) (hB : B ≤ B') : RdQ w B' A ss := fun k s hs => by
  obtain ⟨g, Ap, cp, hA, hg, c0, c1, c2, c3, hr, h1, h2, h3⟩ := h k s hs
  exact ⟨g, Ap, cp, hA, Nat.lt_of_lt_of_le hg hB, c0, c1, c2, c3, hr.more hB, h1, h2, h3⟩
theorem rdQ_own {w : World} {base : Nat} {t : TypeId} {v : Value} {vs : List Sv} {ss : List M.Sq} (h : w.ownsRow base t 4 v ss.length (sqCells vs ss)) (hr : Rws w base vs (ss.map (·.pl))) :
    ∃ A c, v = .slice A ss.length c ∧ RdQ w w.heap.size A ss ∧ ss.length ≤ c ∧ c ≤ maxLen ∧ (A = none → c = 0) := by
  rcases h.2 with ⟨rfl, h0⟩ | ⟨g, cap, cur, rfl, _, hg, hn, hm, _, _⟩
  · have : ss = [] := List.eq_nil_of_length_eq_zero h0
    subst this
    exact ⟨none, 0, rfl, fun k s hs => by simp at hs, Nat.le_refl _, Nat.zero_le _, fun _ => rfl⟩
  · refine ⟨_, cap, rfl, fun k s hs => ?_, hn, hm, fun h => by cases h⟩
    have hk := (List.getElem?_eq_some_iff.1 hs).1
    obtain ⟨v, hv⟩ : ∃ v, vs[k]? = some v := ⟨_, List.getElem?_eq_getElem (by have := hr.len; simp at this; omega)⟩
    obtain ⟨q0, q1, q2, q3⟩ := sqCells_at hv hs
    have ho := hr.own k v s.pl hv (by rw [List.getElem?_map, hs]; rfl)
    obtain ⟨A', c', he, h1, h2, h3, h4⟩ := reads_own ho
    injection he with e1 _ e2
    subst e1 e2
    exact ⟨g, v.1, v.2, rfl, lt_of_block hg, (World.ownsRow.cellAt (size := 4) h _ (by omega)).trans q0, (World.ownsRow.cellAt (size := 4) h _ (by omega)).trans q1, (World.ownsRow.cellAt (size := 4) h _ (by omega)).trans q2, (World.ownsRow.cellAt (size := 4) h _ (by omega)).trans q3, h1, h2, h3, h4⟩
def SplitOut (l lv : List Int) (b : Int) (w : World) (r : Ending) (w' : World) : Prop :=
  Below w.heap.size w w' ∧
  (M.Fits l lv b → ∃ A c, r = .returned (.tuple #[.slice A (M.seqs l lv b).length c, .int .i64 0]) ∧ RdQ w' w'.heap.size A (M.seqs l lv b) ∧ (M.seqs l lv b).length ≤ c ∧ c ≤ maxLen ∧ (A = none → c = 0)) ∧
  (¬ M.Fits l lv b → r = .returned (.tuple #[.slice none 0 0, .int .i64 81]))
end Go.Proofs.YtjlfgojblimobaaGreat
end

section
namespace Go.Proofs.YtjlfgojblimobaaGreat
open Go.RowKit Go.Shelf
attribute [local go_sem] Oper.semAt_some
set_option maxRecDepth 100000

set_option maxHeartbeats 4000000 in
theorem csplit_base (A B : Option Addr) (ca cb n m : Nat) (l lv : List Int) (b : Int) (w : World) (hb : ¬ (b = 0 ∨ b = 1)) :
    Calls Tryz.prog 39 #[.slice A n ca, .slice B m cb, .int .i64 b] w (SplitOut l lv b w) := by
  obtain ⟨W1, hW1⟩ : ∃ X, (w.alloc (.cells #[.slice A n ca] 22)).alloc (.cells #[.int .i64 b] 3) = X := ⟨_, rfl⟩
  have hb1 : Below w.heap.size w W1 := by rw [← hW1]; exact ((Below.refl _ _).alloc (Nat.le_refl _) _).alloc (by simp) _
  have HB1 := Lib.hid hb1
  have HIB := Lib.hid (isBase_any b W1)
  rw [show (decide (b = 0) || decide (b = 1)) = false by simp; omega] at HIB
  have HN := Lib.hid (show ¬ M.Fits l lv b from fun h => hb h.base)
  have HW1 := Lib.hid hW1
  clear hb hb1 hW1
  go_enter Tryz.func39, Tryz.ntmps39
  go_wp2_with fail
  rw [HW1.out]
  refine HIB.out.mono ?_
  rintro r w1 ⟨rfl, rfl⟩
  go_wp2_with fail
  go_ret2
  exact ⟨HB1.out, fun h => absurd h HN.out, fun _ => rfl⟩
set_option maxHeartbeats 4000000 in
theorem csplit_fit (A B : Option Addr) (ca cb n m : Nat) (l lv : List Int) (b : Int) (w : World) (hr : RdS .i64 w w.heap.size A l) (hn : l.length = n) (hl : n ≤ 1000) (hr2 : RdS .i64 w w.heap.size B lv) (hm : lv.length = m) (hl2 : m ≤ 1000) (hb : b = 0 ∨ b = 1) (hf : ¬ M.FitL l lv) :
    Calls Tryz.prog 39 #[.slice A n ca, .slice B m cb, .int .i64 b] w (SplitOut l lv b w) := by
  obtain ⟨W1, hW1⟩ : ∃ X, (w.alloc (.cells #[.slice A n ca] 22)).alloc (.cells #[.int .i64 b] 3) = X := ⟨_, rfl⟩
  have hb1 : Below w.heap.size w W1 := by rw [← hW1]; exact ((Below.refl _ _).alloc (Nat.le_refl _) _).alloc (by simp) _
  have HB1 := Lib.hid hb1
  have HIB := Lib.hid (isBase_any b W1)
  rw [show (decide (b = 0) || decide (b = 1)) = true by simp; omega] at HIB
  have HFT := Lib.hid (fit_any A B ca cb n m l lv W1 ((hr.below hb1).more hb1.size) hn hl ((hr2.below hb1).more hb1.size) hm hl2)
  have HN := Lib.hid (show ¬ M.Fits l lv b from fun h => hf (M.fits_iff.1 h).2)
  have HF := Lib.hid hf
  have cL : W1.cell? ⟨w.heap.size, 0, none⟩ = some (.slice A n ca) := by rw [← hW1]; exact ((Boxed.new w 22 (.slice A n ca)).alloc _).cell
  have HW1 := Lib.hid hW1
  clear hb hb1 hW1 hr hn hr2 hm hf
  go_enter Tryz.func39, Tryz.ntmps39
  go_wp2_with fail
  rw [HW1.out]
  refine HIB.out.mono ?_
  rintro r w1 ⟨rfl, rfl⟩
  go_wp2_with fail
  refine HFT.out.mono ?_
  rintro r w1 ⟨t, rfl, ht, rfl⟩
  have HT := Lib.hid ht
  clear ht
  cases t with
  | true => exact absurd (HT.out.1 rfl) HF.out
  | false =>
    clear cL
    go_wp2_with fail
    go_ret2
    exact ⟨HB1.out, fun h => absurd h HN.out, fun _ => rfl⟩
end Go.Proofs.YtjlfgojblimobaaGreat
end

section
namespace Go.Proofs.YtjlfgojblimobaaGreat.M

theorem near_in (d : Int) : ∀ L : List Int, near d L = d ∨ (near d L ∈ L ∧ near d L ≠ -1) := by
  intro L
  induction L with
  | nil => exact .inl rfl
  | cons x r ih =>
    unfold near
    split
    · rcases ih with h | h
      · exact .inl h
      · exact .inr ⟨List.mem_cons_of_mem _ h.1, h.2⟩
    · rename_i h; exact .inr ⟨List.mem_cons_self, h⟩
section
variable {l lv : List Int} {b : Int}
theorem Fits.lev (hf : Fits l lv b) {x : Int} (hx : x ∈ lv) : -1 ≤ x ∧ x ≤ 125 := by
  obtain ⟨i, hi⟩ := List.getElem?_of_mem hx
  have hlt := (List.getElem?_eq_some_iff.1 hi).1
  obtain ⟨c, hc⟩ : ∃ c, l[i]? = some c := ⟨_, List.getElem?_eq_getElem (by rw [hf.len]; exact hlt)⟩
  have := hf.at_ i c x hc hi
  omega
theorem Fits.b01 (hf : Fits l lv b) : 0 ≤ b ∧ b ≤ 125 := by have := hf.base; omega
theorem Fits.near (hf : Fits l lv b) {L : List Int} (hL : ∀ x ∈ L, x ∈ lv) : 0 ≤ near b L ∧ near b L ≤ 125 := by
  rcases near_in b L with h | ⟨h1, h2⟩
  · rw [h]; exact hf.b01
  · have := hf.lev (hL _ h1); omega
theorem Fits.run (hf : Fits l lv b) {r : Rn} (hr : r ∈ runs lv b) : (0 ≤ r.lv ∧ r.lv ≤ 125) ∧ (0 ≤ r.ah ∧ r.ah ≤ 125) ∧ (0 ≤ r.be ∧ r.be ≤ 125) ∧ (0 ≤ bh l b r ∧ bh l b r ≤ 125) := by
  have h := runs_ok r hr
  have h1 : 0 ≤ r.lv ∧ r.lv ≤ 125 := by
    obtain ⟨j, _, hj⟩ := h.at_ _ h.fs_in
    have := hf.lev (List.mem_of_getElem? hj)
    have := h.no
    omega
  have h2 : 0 ≤ r.ah ∧ r.ah ≤ 125 := by rw [h.ah]; exact hf.near fun x hx => List.mem_of_mem_take (List.mem_reverse.1 hx)
  have h3 : 0 ≤ r.be ∧ r.be ≤ 125 := by rw [h.be]; exact hf.near fun x hx => List.mem_of_mem_drop hx
  refine ⟨h1, h2, h3, ?_⟩
  unfold bh
  split
  · exact hf.b01
  · exact h3
theorem run_ends {r : Rn} (hr : r ∈ runs lv b) : ∃ f q : Nat, r.fs = f ∧ r.ls = q ∧ f < lv.length ∧ q < lv.length ∧ r.pl[0]? = some (f : Int) ∧ r.pl[r.pl.length - 1]? = some (q : Int) ∧ 0 < r.pl.length ∧ lv[f]? = some r.lv ∧ lv[q]? = some r.lv := by
  have h := runs_ok r hr
  obtain ⟨f, hf, hf2⟩ := h.at_ _ h.fs_in
  obtain ⟨q, hq, hq2⟩ := h.at_ _ h.ls_in
  refine ⟨f, q, hf, hq, (List.getElem?_eq_some_iff.1 hf2).1, (List.getElem?_eq_some_iff.1 hq2).1, ?_, ?_, List.length_pos_iff.2 h.ne, hf2, hq2⟩
  · rw [← hf]
    unfold Rn.fs
    have := h.ne
    cases hp : r.pl with
    | nil => exact absurd hp this
    | cons x y => rfl
  · rw [← hq]
    unfold Rn.ls
    rw [List.getLastD_eq_getLast?, List.getLast?_eq_getElem?]
    have := List.length_pos_iff.2 h.ne
    rw [List.getElem?_eq_getElem (by omega)]
    rfl
end
theorem flat_le {α β : Type} (g : α → List β) : ∀ {L L' : List α}, L.Sublist L' → (L.flatMap g).length ≤ (L'.flatMap g).length := by
  intro L L' h
  induction h with
  | slnil => exact Nat.le_refl _
  | cons x _ ih => rw [List.flatMap_cons, List.length_append]; omega
  | cons_cons x _ ih => rw [List.flatMap_cons, List.flatMap_cons, List.length_append, List.length_append]; omega
theorem idxs_len : ∀ (r : List Int) (k : Nat), (idxs k r).length ≤ r.length := by
  intro r
  induction r with
  | nil => intro k; exact Nat.le_refl _
  | cons x r ih =>
    intro k
    unfold idxs
    split
    · have := ih (k + 1); simp; omega
    · have := ih (k + 1); simp; omega
theorem range_flat (rs : List Rn) : ∀ t, t ≤ rs.length → (List.range t).flatMap (fun j => (rn rs j).pl) = (rs.take t).flatMap (·.pl) := by
  intro t
  induction t with
  | zero => intro _; rfl
  | succ t ih =>
    intro h
    rw [List.range_succ, List.flatMap_append, ih (by omega), List.take_succ_eq_append_getElem (by omega), List.flatMap_append]
    simp [rn_at (List.getElem?_eq_getElem (show t < rs.length by omega))]
theorem flat_all (lv : List Int) (b : Int) : ((runs lv b).flatMap (·.pl)).length ≤ lv.length := by rw [runs_all]; exact idxs_len _ _
theorem rpl_len {lv : List Int} {b : Int} {r : Rn} (hr : r ∈ runs lv b) : r.pl.length ≤ lv.length := by
  refine Nat.le_trans ?_ (flat_all lv b)
  have := flat_le (fun r : Rn => r.pl) (List.singleton_sublist.2 hr)
  simpa using this
theorem sq_len {l lv : List Int} {b : Int} {t k : Nat} {s : Sq} (ht : t ≤ (runs lv b).length) (hs : (sqs l b (runs lv b) t)[k]? = some s) : s.pl.length ≤ lv.length := by
  unfold sqs at hs
  rw [List.getElem?_map, Option.map_eq_some_iff] at hs
  obtain ⟨i, _, rfl⟩ := hs
  refine Nat.le_trans ?_ (flat_all lv b)
  refine Nat.le_trans (flat_le _ (show (mem _ _ t i).Sublist (List.range t) from List.filter_sublist)) ?_
  rw [range_flat _ t ht]
  exact flat_le _ (List.take_sublist _ _)
theorem sq_lv {l lv : List Int} {b : Int} {t k : Nat} {s : Sq} (ht : t ≤ (runs lv b).length) (hs : (sqs l b (runs lv b) t)[k]? = some s) : ∃ r ∈ runs lv b, s.lv = r.lv := by
  unfold sqs at hs
  rw [List.getElem?_map, Option.map_eq_some_iff] at hs
  obtain ⟨i, hi, rfl⟩ := hs
  have := (heads_lt (List.mem_of_getElem? hi)).1
  exact ⟨_, rn_mem (by omega), rfl⟩
theorem runs_len (lv : List Int) (b : Int) : (runs lv b).length ≤ lv.length := by
  refine Nat.le_trans ?_ (flat_all lv b)
  have key : ∀ L : List Rn, (∀ r ∈ L, r.pl ≠ []) → L.length ≤ (L.flatMap (·.pl)).length := by
    intro L
    induction L with
    | nil => intro _; exact Nat.le_refl _
    | cons x L ih =>
      intro h
      have h1 := ih fun r hr => h r (List.mem_cons_of_mem _ hr)
      have h2 := List.length_pos_iff.2 (h x List.mem_cons_self)
      rw [List.flatMap_cons, List.length_append, List.length_cons]
      omega
  exact key _ fun r hr => (runs_ok r hr).ne
theorem sqs_len (l : List Int) (b : Int) (rs : List Rn) (t : Nat) : (sqs l b rs t).length ≤ t := by
  unfold sqs heads
  rw [List.length_map]
  have := List.length_filter_le (fun i => (pv (goes l rs) (from_ rs) i).isNone) (List.range t)
  simpa using this
end Go.Proofs.YtjlfgojblimobaaGreat.M
end
