/- Lists of words in the document's order, stably: a sorted list that is stably like another is fixed. No program is read here. -/
import Derived.Test.YtdjdgpfoakkamaaAlive
namespace Go.Proofs.Ytdjdgpfoakkamaa
open Go.RowKit

/-- A word's place. -/
def M.rk (x : Int) : Int := F.rank x.toNat
/-- A list that rises. -/
def M.Sor (l : List Int) : Prop := l.Pairwise fun x y => M.rk x ≤ M.rk y
/-- Stably alike: those of each place stand in one order in both. -/
def M.St (l t : List Int) : Prop := l.Perm t ∧ ∀ c : Int, l.filter (fun x => decide (M.rk x = c)) = t.filter (fun x => decide (M.rk x = c))
/-- All words of a list are of eight bytes. -/
def M.Wd (l : List Int) : Prop := ∀ x ∈ l, 0 ≤ x ∧ x ≤ 18446744073709551615

namespace M
theorem St.refl (l : List Int) : St l l := ⟨.refl _, fun _ => rfl⟩
theorem St.trans {l t u : List Int} (h : St l t) (g : St t u) : St l u := ⟨h.1.trans g.1, fun c => (h.2 c).trans (g.2 c)⟩
theorem St.symm {l t : List Int} (h : St l t) : St t l := ⟨h.1.symm, fun c => (h.2 c).symm⟩
theorem St.app {l t u v : List Int} (h : St l t) (g : St u v) : St (l ++ u) (t ++ v) := ⟨h.1.append g.1, fun c => by
  rw [List.filter_append, List.filter_append, h.2 c, g.2 c]⟩
theorem St.turn {u v : List Int} (h : ∀ x ∈ u, ∀ y ∈ v, rk x ≠ rk y) : St (u ++ v) (v ++ u) := ⟨List.perm_append_comm, fun c => by
  rw [List.filter_append, List.filter_append]
  by_cases hu : ∃ x ∈ u, rk x = c
  · obtain ⟨x, hx, hc⟩ := hu
    have : v.filter (fun x => decide (rk x = c)) = [] := by
      rw [List.filter_eq_nil_iff]
      intro y hy
      rw [decide_eq_true_iff]
      intro e
      exact h x hx y hy (hc.trans e.symm)
    rw [this, List.append_nil, List.nil_append]
  · have : u.filter (fun x => decide (rk x = c)) = [] := by
      rw [List.filter_eq_nil_iff]
      intro y hy
      rw [decide_eq_true_iff]
      intro e
      exact hu ⟨y, hy, e⟩
    rw [this, List.append_nil, List.nil_append]⟩
theorem St.mem {l t : List Int} (h : St l t) {x : Int} : x ∈ l ↔ x ∈ t := h.1.mem_iff
theorem Sor.at {l : List Int} (h : Sor l) {i j : Nat} {x y : Int} (hij : i ≤ j) (hx : l[i]? = some x) (hy : l[j]? = some y) : rk x ≤ rk y := by
  obtain ⟨hi, rfl⟩ := List.getElem?_eq_some_iff.1 hx
  obtain ⟨hj, rfl⟩ := List.getElem?_eq_some_iff.1 hy
  rcases Nat.lt_or_ge i j with hlt | hge
  · exact List.pairwise_iff_getElem.1 h i j hi hj hlt
  · obtain rfl : i = j := by omega
    exact Int.le_refl _
theorem Sor.app {l t : List Int} : Sor (l ++ t) ↔ Sor l ∧ Sor t ∧ ∀ x ∈ l, ∀ y ∈ t, rk x ≤ rk y := List.pairwise_append
theorem Sor.cons {x : Int} {l : List Int} : Sor (x :: l) ↔ (∀ y ∈ l, rk x ≤ rk y) ∧ Sor l := List.pairwise_cons
theorem Sor.nil : Sor [] := List.Pairwise.nil
theorem Sor.one (x : Int) : Sor [x] := List.pairwise_singleton _ _
/-- A stable order is one. -/
theorem stable_one : ∀ {l t : List Int}, Sor l → Sor t → St l t → l = t
  | [], [], _, _, _ => rfl
  | [], y :: t, _, _, h => by have := (h.mem (x := y)).2 (by simp); simp at this
  | x :: l, [], _, _, h => by have := (h.mem (x := x)).1 (by simp); simp at this
  | x :: l, y :: t, hl, ht, h => by
    obtain ⟨h1, h2⟩ := Sor.cons.1 hl
    obtain ⟨g1, g2⟩ := Sor.cons.1 ht
    have e : rk x = rk y := by
      have a : rk x ≤ rk y := by
        rcases List.mem_cons.1 ((h.mem (x := y)).2 (by simp)) with k | k
        · rw [k]; exact Int.le_refl _
        · exact h1 y k
      have b : rk y ≤ rk x := by
        rcases List.mem_cons.1 ((h.mem (x := x)).1 (by simp)) with k | k
        · rw [k]; exact Int.le_refl _
        · exact g1 x k
      omega
    have hx := h.2 (rk x)
    rw [List.filter_cons, List.filter_cons, decide_eq_true rfl, decide_eq_true e.symm, if_pos rfl, if_pos rfl] at hx
    injection hx with hxy hr
    subst hxy
    congr 1
    refine stable_one h2 g2 ⟨h.1.cons_inv, fun c => ?_⟩
    by_cases hc : rk x = c
    · subst hc; exact hr
    · have := h.2 c
      rw [List.filter_cons, List.filter_cons, decide_eq_false hc, if_neg (by decide), if_neg (by decide)] at this
      exact this
theorem St.len {l t : List Int} (h : St l t) : l.length = t.length := h.1.length_eq
theorem Wd.st {l t : List Int} (h : Wd l) (g : St l t) : Wd t := fun x hx => h x (g.mem.2 hx)
end M
end Go.Proofs.Ytdjdgpfoakkamaa
