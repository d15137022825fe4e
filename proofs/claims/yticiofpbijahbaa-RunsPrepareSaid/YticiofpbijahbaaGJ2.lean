/- Rows of rows of places in memory; and the document's level runs as a plain function. No function of the program is walked here. -/
import Derived.Test.YticiofpbijahbaaGJ
section
namespace Go.Proofs.Yticiofpbijahbaa
open Go.RowKit
set_option maxRecDepth 100000

/-- The document's level runs, one place after the other: what is begun so far, the last level, and what is left. -/
def M.lrF : Nat → List (List Int) → Int → List Int → List (List Int)
  | _, rows, _, [] => rows
  | i, rows, last, x :: r => if x = -1 then M.lrF (i + 1) rows last r
    else if x = last then M.lrF (i + 1) (rows.set (rows.length - 1) (rows.getLastD [] ++ [(i : Int)])) x r
    else M.lrF (i + 1) (rows ++ [[(i : Int)]]) x r
theorem M.lrF_cut (b : Int) : ∀ (r : List Int) (i : Nat) (c : M.Rn) (D : List (List Int)) (last : Int), (∀ x ∈ r, -1 ≤ x) → (c.pl ≠ [] → last = c.lv) → (c.pl = [] → last = -2) →
    M.lrF i (D ++ (if c.pl = [] then [] else [c.pl])) last r = D ++ (M.cutR b i c r).map (·.pl) := by
  intro r
  induction r with
  | nil =>
    intro i c D last _ _ _
    unfold M.lrF M.cutR
    split <;> simp
  | cons x r ih =>
    intro i c D last hge h1 h2
    have hx := hge x (by simp)
    have hr : ∀ y ∈ r, -1 ≤ y := fun y hy => hge y (by simp [hy])
    unfold M.lrF M.cutR
    by_cases hxm : x = -1
    · rw [if_pos hxm, if_pos hxm]
      exact ih (i + 1) c D last hr h1 h2
    · rw [if_neg hxm, if_neg hxm]
      by_cases hc : c.pl = []
      · have hl := h2 hc
        rw [if_neg (show ¬ x = last by omega), if_neg (show ¬ (c.pl ≠ [] ∧ x ≠ c.lv) from fun h => h.1 hc), if_pos hc, List.append_nil]
        have := ih (i + 1) ⟨c.pl ++ [(i : Int)], x, c.ah, c.be⟩ D x hr (fun _ => rfl) (fun h => by simp at h)
        rw [if_neg (by simp)] at this
        rw [← this, hc]
        rfl
      · have hl := h1 hc
        rw [if_neg hc]
        by_cases hxl : x = last
        · rw [if_pos hxl, if_neg (show ¬ (c.pl ≠ [] ∧ x ≠ c.lv) from fun h => h.2 (by omega))]
          have := ih (i + 1) ⟨c.pl ++ [(i : Int)], x, c.ah, c.be⟩ D x hr (fun _ => rfl) (fun h => by simp at h)
          rw [if_neg (by simp)] at this
          rw [← this]
          congr 1
          simp
        · rw [if_neg hxl, if_pos ⟨hc, by omega⟩]
          have := ih (i + 1) ⟨[(i : Int)], x, c.lv, 0⟩ (D ++ [c.pl]) x hr (fun _ => rfl) (fun h => by simp at h)
          rw [if_neg (by simp)] at this
          rw [this]
          simp
theorem M.lrF_runs (lv : List Int) (b : Int) (hge : ∀ x ∈ lv, -1 ≤ x) : M.lrF 0 [] (-2) lv = (M.runs lv b).map (·.pl) := by
  have := M.lrF_cut b lv 0 ⟨[], 0, b, 0⟩ [] (-2) hge (fun h => absurd rfl h) (fun _ => rfl)
  simpa [M.runs] using this

def rowCells : List Sv → List (List Int) → List Value
  | v :: vs, l :: ls => .slice v.1 l.length v.2 :: rowCells vs ls
  | _, _ => []
theorem rowCells_at : ∀ {vs : List Sv} {ls : List (List Int)} {k : Nat} {v : Sv} {l : List Int}, vs[k]? = some v → ls[k]? = some l → (rowCells vs ls)[k]? = some (.slice v.1 l.length v.2) := by
  intro vs
  induction vs with
  | nil => intro ls k v l h; simp at h
  | cons v0 vs ih =>
    intro ls k v l h1 h2
    cases ls with
    | nil => simp at h2
    | cons l0 ls =>
      cases k with
      | zero => simp at h1 h2; subst h1 h2; rfl
      | succ k => simp at h1 h2; exact ih h1 h2
theorem rowCells_set : ∀ {vs : List Sv} {ls : List (List Int)} {k : Nat} (v' : Sv) (l' : List Int), k < vs.length → k < ls.length → (rowCells vs ls).set k (.slice v'.1 l'.length v'.2) = rowCells (vs.set k v') (ls.set k l') := by
  intro vs
  induction vs with
  | nil => intro ls k v l h; simp at h
  | cons v0 vs ih =>
    intro ls k v l h1 h2
    cases ls with
    | nil => simp at h2
    | cons l0 ls =>
      cases k with
      | zero => simp [rowCells]
      | succ k => simp at h1 h2; simp [rowCells, ih v l h1 h2]
theorem rowCells_snoc : ∀ {vs : List Sv} {ls : List (List Int)} (v : Sv) (l : List Int), vs.length = ls.length → rowCells vs ls ++ [.slice v.1 l.length v.2] = rowCells (vs ++ [v]) (ls ++ [l]) := by
  intro vs
  induction vs with
  | nil => intro ls v l h; cases ls with
    | nil => rfl
    | cons l0 ls => simp at h
  | cons v0 vs ih => intro ls v l h; cases ls with
    | nil => simp at h
    | cons l0 ls =>
      simp only [rowCells, List.cons_append]
      rw [ih v l (by simpa using h)]
/-- A row of rows of places, all one's own. -/
structure RwR (base : Nat) (W : World) (ls : List (List Int)) (vs : List Sv) (va : Value) : Prop where
  row : W.ownsRow base 23 1 va ls.length (rowCells vs ls)
  rws : Rws W base vs ls
section
variable {base : Nat} {W W' W1 : World} {ls : List (List Int)} {vs : List Sv} {va : Value}
theorem RwR.later (h : RwR base W ls vs va) (hb : Below W.heap.size W W') : RwR base W' ls vs va := by
  refine ⟨⟨h.row.1, ?_⟩, h.rws.below hb⟩
  rcases h.row.2 with h0 | ⟨g, cap, cur, hv, hbg, hg, rest⟩
  · exact .inl h0
  · exact .inr ⟨g, cap, cur, hv, hbg, by rw [hb.block g (lt_of_block hg)]; exact hg, rest⟩
theorem RwR.pushed {va' : Value} {tmp : Obj} (h : RwR base W ls vs va) (hg : (W.alloc tmp).grownBy W1 va.ownBlock) (ho : W1.ownsRow base 23 1 va' (ls.length + 1) (rowCells vs ls ++ [.slice none 0 0])) :
    RwR base W1 (ls ++ [[]]) (vs ++ [(none, 0)]) va' := by
  have hal : Below W.heap.size W (W.alloc tmp) := (Below.refl _ _).alloc (Nat.le_refl _) _
  have ha := h.later hal
  have hrw1 : Rws W1 base vs ls := ha.rws.growOther ha.row (by decide) hg
  refine ⟨?_, hrw1.snoc⟩
  rw [List.length_append, ← rowCells_snoc (none, 0) [] h.rws.len]
  exact ho
theorem RwR.cells {k : Nat} {l : List Int} {v : Sv} (h : RwR base W ls vs va) (hs : ls[k]? = some l) (hv : vs[k]? = some v) : ∃ G c, va = .slice (some ⟨G, 0, none⟩) ls.length c ∧ base ≤ G ∧ (∃ cs, W.heap[G]? = some (.cells cs 23 (0, 0))) ∧
    W.cell? ⟨G, k, none⟩ = some (.slice v.1 l.length v.2) ∧ (∀ j, W.frozen? ⟨G, j, none⟩ = false) := by
  have hk := (List.getElem?_eq_some_iff.1 hs).1
  rcases h.row.2 with ⟨_, h0⟩ | ⟨g, cap, cur, hv', hbg, hg, hn, hm, _, _⟩
  · omega
  · have hr := h.row
    rw [hv'] at hr
    exact ⟨g, cap, hv', hbg, ⟨cur, hg⟩, (World.ownsRow.cellAt (size := 1) hr _ (by omega)).trans (rowCells_at hv hs), fun j => hr.frozenAt j⟩
theorem RwR.placed {k G c g cap : Nat} {l : List Int} {v : Sv} {new : List Int} (h : RwR base W ls vs va) (hs : ls[k]? = some l) (hv : vs[k]? = some v) (hva : va = .slice (some ⟨G, 0, none⟩) ls.length c)
    (hg : W.grownBy W1 (Value.slice v.1 l.length v.2).ownBlock) (ho : W1.ownsRow base 3 1 (.slice (some ⟨g, 0, none⟩) (l.length + new.length) cap) (l.length + new.length) (l.map (Value.int .i64) ++ new.map (Value.int .i64)))
    (hat : (Value.slice v.1 l.length v.2).ownBlock = some g ∨ g = W.heap.size) :
    RwR base (W1.setCell ⟨G, k, none⟩ (.slice (some ⟨g, 0, none⟩) (l.length + new.length) cap)) (ls.set k (l ++ new)) (vs.set k (some ⟨g, 0, none⟩, cap)) va ∧ W1.cell? ⟨G, k, none⟩ = some (.slice v.1 l.length v.2) ∧ W1.frozen? ⟨G, k, none⟩ = false ∧ base ≤ G := by
  have hk := (List.getElem?_eq_some_iff.1 hs).1
  have hown := h.rws.own k v l hv hs
  rw [own_blk] at hg hat
  have hrw1 := h.rws.grow hv hs rfl hg (by rw [List.map_append]; exact ho) (by simp) (hat.imp_right (fun e => by omega))
  obtain ⟨G', c', hva', hG', ⟨cs, hcs⟩, _⟩ := h.cells hs hv
  obtain rfl : G = G' := by rw [hva] at hva'; injection hva' with e; injection e with e; injection e
  have hGne : v.1.map (·.block) ≠ some G := fun e => by
    rcases hown.2 with ⟨hv0, _⟩ | ⟨g2, _, _, hv2, _, hg2, _⟩
    · injection hv0 with e1
      rw [e1] at e
      cases e
    · injection hv2 with e1
      rw [e1] at e
      have e3 : g2 = G := by simpa using e
      rw [e3, hcs] at hg2
      injection hg2 with hg2
      injection hg2 with _ hg2 _
      revert hg2
      decide
  have hG1 : W1.heap[G]? = some (.cells cs 23 (0, 0)) := (hg.block G (Array.getElem?_eq_some_iff.1 hcs).1 (fun e => hGne e.symm)).trans hcs
  have hrow1 : W1.ownsRow base 23 1 va ls.length (rowCells vs ls) := h.row.kept hg (.inr (by rw [hva]; exact fun e => hGne e.symm))
  subst hva
  refine ⟨⟨?_, hrw1.setOther hG1 (by decide) _⟩, (World.ownsRow.cellAt (size := 1) hrow1 k (by omega)).trans (rowCells_at hv hs), World.ownsRow.frozenAt hrow1 k, hG'⟩
  rw [List.length_set]
  have := (World.ownsRow.stored hrow1 k (.slice (some ⟨g, 0, none⟩) (l.length + new.length) cap)).1
  rw [← rowCells_set (some ⟨g, 0, none⟩, cap) (l ++ new) (by rw [h.rws.len]; exact hk) hk]
  simpa using this
end
end Go.Proofs.Yticiofpbijahbaa
end
