/- Sequences in memory: a row of them, each with a row of places that nobody else has; and a map of whole numbers. No function of the program is walked here. -/
/- What package runs' Split and the document's hand back: a slice of sequences that reads as their list. No function of the program is walked here. -/
/- The contract of package runs' Split over the translation. Conditions: both slices read as lists, at most a thousand long, within their capacity. -/
import Derived.Test.YticiofpbijahbaaGH
import Derived.Laws.OwnMore
import Derived.Maps.OwnSet
import Derived.Test.YticiofpbijahbaaGG
section
namespace Go.Proofs.Yticiofpbijahbaa
open Go.RowKit Go.Maps Go.WideMaps
set_option maxRecDepth 100000

/-- Where a row of places lies, and its room. -/
abbrev Sv := Option Addr × Nat
def sqCells : List Sv → List M.Sq → List Value
  | v :: vs, s :: ss => .slice v.1 s.pl.length v.2 :: .int .i64 s.lv :: .int .i64 s.fi :: .int .i64 s.la :: sqCells vs ss
  | _, _ => []
theorem sqCells_len : ∀ {vs : List Sv} {ss : List M.Sq}, vs.length = ss.length → (sqCells vs ss).length = ss.length * 4 := by
  intro vs
  induction vs with
  | nil => intro ss h; cases ss with
    | nil => rfl
    | cons s ss => simp at h
  | cons v vs ih => intro ss h; cases ss with
    | nil => simp at h
    | cons s ss => simp only [sqCells, List.length_cons]; rw [ih (by simpa using h)]; omega
theorem sqCells_at : ∀ {vs : List Sv} {ss : List M.Sq} {k : Nat} {v : Sv} {s : M.Sq}, vs[k]? = some v → ss[k]? = some s →
    (sqCells vs ss)[k * 4]? = some (.slice v.1 s.pl.length v.2) ∧ (sqCells vs ss)[k * 4 + 1]? = some (.int .i64 s.lv) ∧ (sqCells vs ss)[k * 4 + 2]? = some (.int .i64 s.fi) ∧ (sqCells vs ss)[k * 4 + 3]? = some (.int .i64 s.la) := by
  intro vs
  induction vs with
  | nil => intro ss k v s h; simp at h
  | cons v' vs ih => intro ss k v s h1 h2; cases ss with
    | nil => simp at h2
    | cons s' ss =>
      cases k with
      | zero => simp at h1 h2; subst h1 h2; exact ⟨rfl, rfl, rfl, rfl⟩
      | succ k =>
        simp at h1 h2
        obtain ⟨a, b, c, d⟩ := ih h1 h2
        rw [show (k + 1) * 4 = k * 4 + 1 + 1 + 1 + 1 by omega]
        exact ⟨a, b, c, d⟩
theorem sqCells_set0 : ∀ {vs : List Sv} {ss : List M.Sq} {k : Nat} {v v' : Sv} {s s' : M.Sq}, vs[k]? = some v → ss[k]? = some s → s'.lv = s.lv → s'.fi = s.fi → s'.la = s.la →
    (sqCells vs ss).set (k * 4) (.slice v'.1 s'.pl.length v'.2) = sqCells (vs.set k v') (ss.set k s') := by
  intro vs
  induction vs with
  | nil => intro ss k v v' s s' h; simp at h
  | cons v0 vs ih => intro ss k v v' s s' h1 h2 e1 e2 e3; cases ss with
    | nil => simp at h2
    | cons s0 ss =>
      cases k with
      | zero => simp at h1 h2; subst h1 h2; simp only [List.set_cons_zero, sqCells, Nat.zero_mul, e1, e2, e3]
      | succ k =>
        simp at h1 h2
        rw [show (k + 1) * 4 = k * 4 + 1 + 1 + 1 + 1 by omega]
        simp only [sqCells, List.set_cons_succ]
        rw [ih h1 h2 e1 e2 e3]
theorem sqCells_set3 : ∀ {vs : List Sv} {ss : List M.Sq} {k : Nat} {v : Sv} {s s' : M.Sq}, vs[k]? = some v → ss[k]? = some s → s'.pl = s.pl → s'.lv = s.lv → s'.fi = s.fi →
    (sqCells vs ss).set (k * 4 + 3) (.int .i64 s'.la) = sqCells vs (ss.set k s') := by
  intro vs
  induction vs with
  | nil => intro ss k v s s' h; simp at h
  | cons v0 vs ih => intro ss k v s s' h1 h2 e1 e2 e3; cases ss with
    | nil => simp at h2
    | cons s0 ss =>
      cases k with
      | zero => simp at h1 h2; subst h1 h2; simp only [List.set_cons_zero, sqCells, Nat.zero_mul, Nat.zero_add, List.set_cons_succ, e1, e2, e3]
      | succ k =>
        simp at h1 h2
        rw [show (k + 1) * 4 + 3 = k * 4 + 3 + 1 + 1 + 1 + 1 by omega]
        simp only [sqCells, List.set_cons_succ]
        rw [ih h1 h2 e1 e2 e3]
theorem sqCells_snoc : ∀ {vs : List Sv} {ss : List M.Sq} (v : Sv) (s : M.Sq), vs.length = ss.length →
    sqCells vs ss ++ [.slice v.1 s.pl.length v.2, .int .i64 s.lv, .int .i64 s.fi, .int .i64 s.la] = sqCells (vs ++ [v]) (ss ++ [s]) := by
  intro vs
  induction vs with
  | nil => intro ss v s h; cases ss with
    | nil => rfl
    | cons s0 ss => simp at h
  | cons v0 vs ih => intro ss v s h; cases ss with
    | nil => simp at h
    | cons s0 ss =>
      simp only [sqCells, List.cons_append]
      rw [ih v s (by simpa using h)]

/-- Rws of places, each by itself. -/
structure Rws (W : World) (base : Nat) (vs : List Sv) (ls : List (List Int)) : Prop where
  len : vs.length = ls.length
  own : ∀ (k : Nat) (v : Sv) (l : List Int), vs[k]? = some v → ls[k]? = some l → W.ownsRow base 3 1 (.slice v.1 l.length v.2) l.length (l.map (Value.int .i64))
  apart : ∀ (i j : Nat) (v v' : Sv) (g : Nat), i ≠ j → vs[i]? = some v → vs[j]? = some v' → v.1.map (·.block) = some g → v'.1.map (·.block) ≠ some g
theorem own_blk (A : Option Addr) (n c : Nat) : (Value.slice A n c).ownBlock = A.map (·.block) := by cases A <;> rfl
section
variable {W W' W1 : World} {base : Nat} {vs : List Sv} {ls : List (List Int)}
theorem Rws.nil (W : World) (base : Nat) : Rws W base [] [] := ⟨rfl, fun k v l h => by simp at h, fun i j v v' g _ h => by simp at h⟩
theorem Rws.keep (h : Rws W base vs ls) (hk : ∀ (g : Nat) cs, base ≤ g → W.heap[g]? = some (.cells cs 3 (0, 0)) → W'.heap[g]? = some (.cells cs 3 (0, 0))) : Rws W' base vs ls := by
  refine ⟨h.len, fun k v l h1 h2 => ?_, h.apart⟩
  have ho := h.own k v l h1 h2
  refine ⟨ho.1, ?_⟩
  rcases ho.2 with h0 | ⟨g, cap, cur, hv, hb, hg, rest⟩
  · exact .inl h0
  · exact .inr ⟨g, cap, cur, hv, hb, hk g _ hb hg, rest⟩
theorem Rws.below (h : Rws W base vs ls) (hb : Below W.heap.size W W') : Rws W' base vs ls := h.keep fun g _ _ hg => (hb.block g (Array.getElem?_eq_some_iff.1 hg).1).trans hg
theorem Rws.still {mine : Obj → Bool} {B : Nat} (h : Rws W base vs ls) (hs : Still mine B W W') (hm : ∀ cs m, mine (.cells cs 3 m) = false) : Rws W' base vs ls := h.keep fun g _ _ hg => hs.kept g _ hg (hm _ _)
/-- Cells of another kind are turned. -/
theorem Rws.setOther {B i : Nat} {cs : Array Value} {t : TypeId} {m : Nat × Nat} (h : Rws W base vs ls) (hB : W.heap[B]? = some (.cells cs t m)) (ht : t ≠ 3) (u : Value) : Rws (W.setCell ⟨B, i, none⟩ u) base vs ls := h.keep fun g cs' _ hg => by
  have hne : g ≠ B := fun e => by
    rw [e, hB] at hg
    injection hg with hg
    injection hg with _ hg _
    exact ht hg
  rw [Below.heap_setCell _ _ _ g hne]
  exact hg
/-- A row of another kind grows. -/
theorem Rws.growOther {base' n s : Nat} {t : TypeId} {v : Value} {xs : List Value} (h : Rws W base vs ls) (ho : W.ownsRow base' t s v n xs) (ht : t ≠ 3) (hg : W.grownBy W1 v.ownBlock) : Rws W1 base vs ls := h.keep fun g cs' _ hgg => by
  have hne : some g ≠ v.ownBlock := fun e => by
    rcases ho.2 with ⟨rfl, _⟩ | ⟨g', cap, cur, rfl, _, hg', _⟩
    · simp [Value.ownBlock] at e
    · have e2 : g = g' := by simpa [Value.ownBlock] using e
      rw [e2, hg'] at hgg
      injection hgg with hgg
      injection hgg with _ hgg _
      exact ht hgg
  exact (hg.block g (Array.getElem?_eq_some_iff.1 hgg).1 hne).trans hgg
theorem Rws.snoc (h : Rws W base vs ls) : Rws W base (vs ++ [(none, 0)]) (ls ++ [[]]) := by
  have hl := h.len
  refine ⟨by simp [hl], fun k v l h1 h2 => ?_, fun i j v v' g hij h1 h2 h3 => ?_⟩
  · rcases Nat.lt_or_ge k vs.length with hk | hk
    · rw [List.getElem?_append_left hk] at h1
      rw [List.getElem?_append_left (by omega)] at h2
      exact h.own k v l h1 h2
    · have : k = vs.length := by have := (List.getElem?_eq_some_iff.1 h1).1; simp at this; omega
      subst this
      rw [List.getElem?_append_right (Nat.le_refl _)] at h1
      rw [hl, List.getElem?_append_right (Nat.le_refl _)] at h2
      simp at h1 h2
      subst h1 h2
      exact World.ownsRow_nil _ _ _ _
  · have hi : i < vs.length := by
      false_or_by_contra
      rename_i hn
      rw [List.getElem?_append_right (by omega)] at h1
      have : i - vs.length = 0 := by have := (List.getElem?_eq_some_iff.1 h1).1; simp at this; omega
      rw [this] at h1
      simp at h1
      subst h1
      simp at h3
    rw [List.getElem?_append_left hi] at h1
    rcases Nat.lt_or_ge j vs.length with hj | hj
    · rw [List.getElem?_append_left hj] at h2
      exact h.apart i j v v' g hij h1 h2 h3
    · rw [List.getElem?_append_right hj] at h2
      have : j - vs.length = 0 := by have := (List.getElem?_eq_some_iff.1 h2).1; simp at this; omega
      rw [this] at h2
      simp at h2
      subst h2
      simp
/-- One of them grows. -/
theorem Rws.grow {k g cap n : Nat} {v : Sv} {l new : List Int} {A : Option Addr} (h : Rws W base vs ls) (h1 : vs[k]? = some v) (h2 : ls[k]? = some l) (hA : A = v.1) (hg : W.grownBy W1 (A.map (·.block)))
    (ho : W1.ownsRow base 3 1 (.slice (some ⟨g, 0, none⟩) n cap) n ((l ++ new).map (Value.int .i64))) (hn : n = (l ++ new).length) (hat : A.map (·.block) = some g ∨ W.heap.size ≤ g) :
    Rws W1 base (vs.set k (some ⟨g, 0, none⟩, cap)) (ls.set k (l ++ new)) := by
  subst hA
  have hk := (List.getElem?_eq_some_iff.1 h1).1
  have hl := h.len
  have blk : ∀ (j : Nat) (v' : Sv) (x : Nat), vs[j]? = some v' → v'.1.map (·.block) = some x → base ≤ x ∧ x < W.heap.size := fun j v' x hv hx => by
    obtain ⟨l', hl'⟩ : ∃ l', ls[j]? = some l' := ⟨_, List.getElem?_eq_getElem (by have := (List.getElem?_eq_some_iff.1 hv).1; omega)⟩
    exact World.ownsRow.lt (h.own j v' l' hv hl') x (by rw [own_blk]; exact hx)
  refine ⟨by simp [hl], fun j v' l' hv hl' => ?_, fun i j v' v'' x hij hv hv' hx => ?_⟩
  · by_cases hj : j = k
    · subst hj
      rw [List.getElem?_set_self hk] at hv
      rw [List.getElem?_set_self (by omega)] at hl'
      obtain rfl := Option.some.inj hv
      obtain rfl := Option.some.inj hl'
      rw [← hn]
      exact ho
    · rw [List.getElem?_set_ne (fun e => hj e.symm)] at hv hl'
      refine World.ownsRow.kept (h.own j v' l' hv hl') hg ?_
      rw [own_blk]
      cases hb : v'.1.map (·.block) with
      | none => exact .inl rfl
      | some x => exact .inr fun e => h.apart j k v' v x hj hv h1 hb e.symm
  · by_cases hi : i = k
    · subst hi
      rw [List.getElem?_set_self hk] at hv
      rw [List.getElem?_set_ne hij] at hv'
      obtain rfl := Option.some.inj hv
      obtain rfl : g = x := by simpa using hx
      intro e
      have hlt := (blk j v'' g hv' e).2
      rcases hat with h3 | h3
      · exact h.apart i j v v'' g hij h1 hv' h3 e
      · omega
    · rw [List.getElem?_set_ne (fun e => hi e.symm)] at hv
      have hlt := (blk i v' x hv hx).2
      by_cases hj : j = k
      · subst hj
        rw [List.getElem?_set_self hk] at hv'
        obtain rfl := Option.some.inj hv'
        intro e
        obtain rfl : g = x := by simpa using e
        rcases hat with h3 | h3
        · exact h.apart i j v' v g hij hv h1 hx h3
        · omega
      · rw [List.getElem?_set_ne (fun e => hj e.symm)] at hv'
        exact h.apart i j v' v'' x hij hv hv' hx
end

/-- What a map of whole numbers tells of each. -/
def MapIs (D : DataW Unit) (f : Int → Option Nat) : Prop :=
  ∀ e : Int, has D (.int .i64 e) = (f e).isSome ∧ D.atKey (.int .i64 e) (.lit (.int .i64 0)) = .lit (.int .i64 ((f e).getD 0 : Nat))
theorem MapIs.nil : MapIs (.map []) (fun _ => none) := fun _ => ⟨rfl, rfl⟩
theorem key_lit (e : Int) : WideAt.IsKeyLit (.int .i64 e) := by simp [WideAt.IsKeyLit]
theorem MapIs.put {D : DataW Unit} {f : Int → Option Nat} (h : MapIs D f) (hD : IsMap D) (k : Int) (n : Nat) : MapIs (D.put (.int .i64 k) (.lit (.int .i64 n))) (fun e => if e = k then some n else f e) := fun e => by
  by_cases he : e = k
  · subst he
    simp only [if_true]
    exact ⟨by rw [has_put_same hD (key_lit _)]; rfl, by rw [atKey_put_same hD (key_lit _)]; rfl⟩
  · simp only [if_neg he]
    have hne : (Lit.int .i64 e) ≠ .int .i64 k := fun q => he (by injection q)
    exact ⟨by rw [has_put_other hne, (h e).1], by rw [atKey_put_other hne, (h e).2]⟩
def MapI (w : World) (mb t : Nat) (f : Int → Option Nat) : Prop :=
  ∃ n D, w.ownsMap Try.prog 3 (plainElem (H := Unit) Try.prog 3) mb n D ∧ n ≤ t ∧ MapIs D f
theorem MapI.lt {w : World} {mb t : Nat} {f : Int → Option Nat} (h : MapI w mb t f) : mb < w.heap.size := by obtain ⟨n, D, h, _⟩ := h; exact h.lt
theorem MapI.keep {w w' : World} {mb t : Nat} {f : Int → Option Nat} (h : MapI w mb t f) (hb : w'.heap[mb]? = w.heap[mb]?) : MapI w' mb t f := by
  obtain ⟨n, D, ⟨es, clock, h1, h2⟩, h3⟩ := h
  exact ⟨n, D, ⟨es, clock, by rw [hb]; exact h1, h2⟩, h3⟩
theorem intKeyed : Keyed Try.prog 3 := int_keyed Try.underlying3
theorem zeroInt (w : World) : (zeroValue 3).run Try.prog w = .ok (.int .i64 0) w := by kernel_rfl
theorem wf_small {e : Int} (h0 : -1 ≤ e) (h1 : e ≤ 1000) : (Lit.int .i64 e).wf = true := WalkArith.wf_i64 (by omega)
theorem MapI.look {w : World} {mb t : Nat} {f : Int → Option Nat} (h : MapI w mb t f) {e : Int} (h0 : -1 ≤ e) (h1 : e ≤ 1000) :
    (Instr.lookup 50 (.map (some mb)) (.int .i64 e) true).run Try.prog w = .ok (.tuple #[.int .i64 ((f e).getD 0 : Nat), .bool (f e).isSome]) w := by
  obtain ⟨n, D, h, _, hi⟩ := h
  obtain ⟨v, ps, hrun, hv⟩ := h.look_ok intKeyed Try.underlying50 (zeroInt w) (plainElem_int Try.underlying3 (by decide)) (keyOf_int_mk Try.underlying3 (wf_small h0 h1))
  obtain ⟨c, rfl, hc, _⟩ := plainElem_int_inv Try.underlying3 hv
  have hc1 : D.atKey (.int .i64 e) (.lit (.int .i64 0)) = .lit (.int .i64 c) := congrArg Prod.fst hc
  rw [(hi e).2] at hc1
  injection hc1 with hc2
  injection hc2 with _ hc3
  rw [hrun, (hi e).1, hc3]
theorem MapI.update {w : World} {mb t : Nat} {f : Int → Option Nat} (h : MapI w mb t f) (ht : t ≤ 1000) {e : Int} (h0 : -1 ≤ e) (h1 : e ≤ 1000) {n : Nat} (hn : n ≤ 1000) :
    ∃ w', (Instr.mapUpdate 50 (.map (some mb)) (.int .i64 e) (.int .i64 n)).run Try.prog w = .ok () w' ∧ MapI w' mb (t + 1) (fun x => if x = e then some n else f x) ∧ w.grownBy w' (some mb) := by
  obtain ⟨m, D, h, hm, hi⟩ := h
  obtain ⟨w', hrun, hown, hg⟩ := h.update intKeyed Try.underlying50 (by unfold maxLen; omega) (keyOf_int_mk Try.underlying3 (wf_small h0 h1)) (plainElem_int Try.underlying3 (wf_small (e := n) (by omega) (by omega)))
  exact ⟨w', hrun, ⟨m + 1, _, hown, by omega, hi.put h.isMap e n⟩, hg⟩
end Go.Proofs.Yticiofpbijahbaa
end

section
namespace Go.Proofs.Yticiofpbijahbaa
open Go.RowKit
set_option maxRecDepth 100000

/-- A slice of sequences that reads as a list. -/
def RdQ (w : World) (B : Nat) (A : Option Addr) (ss : List M.Sq) : Prop :=
  ∀ (k : Nat) (s : M.Sq), ss[k]? = some s → ∃ g Ap cp, A = some ⟨g, 0, none⟩ ∧ g < B ∧
    w.cell? ⟨g, k * 4, none⟩ = some (.slice Ap s.pl.length cp) ∧ w.cell? ⟨g, k * 4 + 1, none⟩ = some (.int .i64 s.lv) ∧ w.cell? ⟨g, k * 4 + 2, none⟩ = some (.int .i64 s.fi) ∧ w.cell? ⟨g, k * 4 + 3, none⟩ = some (.int .i64 s.la) ∧
    RdS .i64 w B Ap s.pl ∧ s.pl.length ≤ cp ∧ cp ≤ maxLen ∧ (Ap = none → cp = 0)
theorem RdQ.below {w w' : World} {B : Nat} {A : Option Addr} {ss : List M.Sq} (h : RdQ w B A ss) (hb : Below B w w') : RdQ w' B A ss := fun k s hs => by
  obtain ⟨g, Ap, cp, hA, hg, c0, c1, c2, c3, hr, h1, h2, h3⟩ := h k s hs
  exact ⟨g, Ap, cp, hA, hg, (hb.cell (p := ⟨g, k * 4, none⟩) hg).trans c0, (hb.cell (p := ⟨g, k * 4 + 1, none⟩) hg).trans c1, (hb.cell (p := ⟨g, k * 4 + 2, none⟩) hg).trans c2, (hb.cell (p := ⟨g, k * 4 + 3, none⟩) hg).trans c3, hr.below hb, h1, h2, h3⟩
theorem RdQ.more {w : World} {B B' : Nat} {A : Option Addr} {ss : List M.Sq} (h : RdQ w B A ss) (hB : B ≤ B') : RdQ w B' A ss := fun k s hs => by
  obtain ⟨g, Ap, cp, hA, hg, c0, c1, c2, c3, hr, h1, h2, h3⟩ := h k s hs
  exact ⟨g, Ap, cp, hA, Nat.lt_of_lt_of_le hg hB, c0, c1, c2, c3, hr.more hB, h1, h2, h3⟩
/-- A row of sequences of one's own reads as their list. -/
theorem rdQ_own {w : World} {base : Nat} {t : TypeId} {v : Value} {vs : List Sv} {ss : List M.Sq} (h : w.ownsRow base t 4 v ss.length (sqCells vs ss)) (hr : Rws w base vs (ss.map (·.pl))) :
    ∃ A c, v = .slice A ss.length c ∧ RdQ w w.heap.size A ss ∧ ss.length ≤ c ∧ c ≤ maxLen ∧ (A = none → c = 0) := by
  rcases h.2 with ⟨rfl, h0⟩ | ⟨g, cap, cur, rfl, _, hg, hn, hm, _, _⟩
  · have : ss = [] := List.eq_nil_of_length_eq_zero h0
    subst this
    exact ⟨none, 0, rfl, fun k s hs => by simp at hs, Nat.le_refl _, Nat.zero_le _, fun _ => rfl⟩
  · refine ⟨_, cap, rfl, fun k s hs => ?_, hn, hm, fun h => by cases h⟩
    have hk := (List.getElem?_eq_some_iff.1 hs).1
    obtain ⟨v, hv⟩ : ∃ v, vs[k]? = some v := ⟨_, List.getElem?_eq_getElem (by have := hr.len; simp at this; omega)⟩
    obtain ⟨q0, q1, q2, q3⟩ := sqCells_at hv hs
    have ho := hr.own k v s.pl hv (by rw [List.getElem?_map, hs]; rfl)
    obtain ⟨A', c', he, h1, h2, h3, h4⟩ := reads_own ho
    injection he with e1 _ e2
    subst e1 e2
    exact ⟨g, v.1, v.2, rfl, lt_of_block hg, (World.ownsRow.cellAt (size := 4) h _ (by omega)).trans q0, (World.ownsRow.cellAt (size := 4) h _ (by omega)).trans q1, (World.ownsRow.cellAt (size := 4) h _ (by omega)).trans q2, (World.ownsRow.cellAt (size := 4) h _ (by omega)).trans q3, h1, h2, h3, h4⟩
/-- What Split hands back. -/
def SplitOut (l lv : List Int) (b : Int) (w : World) (r : Ending) (w' : World) : Prop :=
  Below w.heap.size w w' ∧
  (M.Fits l lv b → ∃ A c, r = .returned (.tuple #[.slice A (M.seqs l lv b).length c, .int .i64 0]) ∧ RdQ w' w'.heap.size A (M.seqs l lv b) ∧ (M.seqs l lv b).length ≤ c ∧ c ≤ maxLen ∧ (A = none → c = 0)) ∧
  (¬ M.Fits l lv b → r = .returned (.tuple #[.slice none 0 0, .int .i64 81]))
end Go.Proofs.Yticiofpbijahbaa
end

section
namespace Go.Proofs.Yticiofpbijahbaa
open Go.RowKit Go.Shelf
attribute [local go_sem] Oper.semAt_some
set_option maxRecDepth 100000

set_option maxHeartbeats 4000000 in
theorem csplit_base (A B : Option Addr) (ca cb n m : Nat) (l lv : List Int) (b : Int) (w : World) (hb : ¬ (b = 0 ∨ b = 1)) :
    Calls Try.prog 8 #[.slice A n ca, .slice B m cb, .int .i64 b] w (SplitOut l lv b w) := by
  obtain ⟨W1, hW1⟩ : ∃ X, (w.alloc (.cells #[.slice A n ca] 22)).alloc (.cells #[.int .i64 b] 3) = X := ⟨_, rfl⟩
  have hb1 : Below w.heap.size w W1 := by rw [← hW1]; exact ((Below.refl _ _).alloc (Nat.le_refl _) _).alloc (by simp) _
  have HB1 := Lib.hid hb1
  have HIB := Lib.hid (isBase_any b W1)
  rw [show (decide (b = 0) || decide (b = 1)) = false by simp; omega] at HIB
  have HN := Lib.hid (show ¬ M.Fits l lv b from fun h => hb h.base)
  have HW1 := Lib.hid hW1
  clear hb hb1 hW1
  go_enter Try.func8, Try.ntmps8
  go_wp2_with fail
  rw [HW1.out]
  refine HIB.out.mono ?_
  rintro r w1 ⟨rfl, rfl⟩
  go_wp2_with fail
  go_ret2
  exact ⟨HB1.out, fun h => absurd h HN.out, fun _ => rfl⟩
set_option maxHeartbeats 4000000 in
theorem csplit_fit (A B : Option Addr) (ca cb n m : Nat) (l lv : List Int) (b : Int) (w : World) (hr : RdS .i64 w w.heap.size A l) (hn : l.length = n) (hl : n ≤ 1000) (hr2 : RdS .i64 w w.heap.size B lv) (hm : lv.length = m) (hl2 : m ≤ 1000) (hb : b = 0 ∨ b = 1) (hf : ¬ M.FitL l lv) :
    Calls Try.prog 8 #[.slice A n ca, .slice B m cb, .int .i64 b] w (SplitOut l lv b w) := by
  obtain ⟨W1, hW1⟩ : ∃ X, (w.alloc (.cells #[.slice A n ca] 22)).alloc (.cells #[.int .i64 b] 3) = X := ⟨_, rfl⟩
  have hb1 : Below w.heap.size w W1 := by rw [← hW1]; exact ((Below.refl _ _).alloc (Nat.le_refl _) _).alloc (by simp) _
  have HB1 := Lib.hid hb1
  have HIB := Lib.hid (isBase_any b W1)
  rw [show (decide (b = 0) || decide (b = 1)) = true by simp; omega] at HIB
  have HFT := Lib.hid (fit_any A B ca cb n m l lv W1 ((hr.below hb1).more hb1.size) hn hl ((hr2.below hb1).more hb1.size) hm hl2)
  have HN := Lib.hid (show ¬ M.Fits l lv b from fun h => hf (M.fits_iff.1 h).2)
  have HF := Lib.hid hf
  have cL : W1.cell? ⟨w.heap.size, 0, none⟩ = some (.slice A n ca) := by rw [← hW1]; exact ((Boxed.new w 22 (.slice A n ca)).alloc _).cell
  have HW1 := Lib.hid hW1
  clear hb hb1 hW1 hr hn hr2 hm hf
  go_enter Try.func8, Try.ntmps8
  go_wp2_with fail
  rw [HW1.out]
  refine HIB.out.mono ?_
  rintro r w1 ⟨rfl, rfl⟩
  go_wp2_with fail
  refine HFT.out.mono ?_
  rintro r w1 ⟨t, rfl, ht, rfl⟩
  have HT := Lib.hid ht
  clear ht
  cases t with
  | true => exact absurd (HT.out.1 rfl) HF.out
  | false =>
    clear cL
    go_wp2_with fail
    go_ret2
    exact ⟨HB1.out, fun h => absurd h HN.out, fun _ => rfl⟩
end Go.Proofs.Yticiofpbijahbaa
end
