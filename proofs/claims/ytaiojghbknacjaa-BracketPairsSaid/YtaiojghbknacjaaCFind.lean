/- What of those that wait comes from the end on, found: as plain lists. And a scope in a fence as wide as all. No function of the program is walked here. -/
import Derived.Test.YtaiojghbknacjaaCSort
import Derived.Test.YtaiojghbknacjaaRound
import Derived.StillTailTactics
import Derived.WalkMore
namespace Go.Proofs.Ytaiojghbknacjaa
open Go.RowKit

theorem M.bks_app (l : List Int) (x : Int) {k : Nat} (hk : k ≤ l.length) : M.bks (l ++ [x]) k = M.bks l k := by
  induction k with
  | zero => rfl
  | succ k ih =>
    unfold M.bks
    rw [ih (by omega), List.getD_eq_getElem?_getD, List.getD_eq_getElem?_getD, List.getElem?_append_left (by omega)]
/-- Those that wait, as a row reads. -/
def M.ints (st : List Nat) : List Int := st.reverse.map fun o : Nat => (o : Int)
theorem M.ints_len (st : List Nat) : (M.ints st).length = st.length := by unfold M.ints; simp
theorem M.bks_st (s : Nat) (st : List Nat) : M.bks (M.ints (s :: st)) (st.length + 1) = (st.length, (s : Int)) :: M.bks (M.ints st) st.length := by
  have e : M.ints (s :: st) = M.ints st ++ [(s : Int)] := by unfold M.ints; simp
  rw [e]
  show (st.length, (M.ints st ++ [(s : Int)]).getD st.length 0) :: M.bks (M.ints st ++ [(s : Int)]) st.length = _
  rw [M.bks_app _ _ (by rw [M.ints_len]; exact Nat.le_refl _), List.getD_eq_getElem?_getD, List.getElem?_append_right (by rw [M.ints_len]; exact Nat.le_refl _), M.ints_len, Nat.sub_self]
  rfl
theorem M.bks_find {st : List Nat} {q rest : List (Nat × Int)} {x : Nat × Int} (h : (q ++ [x]) ++ rest = M.bks (M.ints st) st.length) : ∃ (a : List Nat) (p : Nat) (r : List Nat), st = a ++ p :: r ∧ r.length = x.1 ∧ x.2 = p ∧ ∀ z ∈ a, ∃ e ∈ q, e.2 = (z : Int) := by
  induction st generalizing q with
  | nil => simp [M.bks] at h
  | cons s st ih =>
    rw [show (s :: st).length = st.length + 1 from rfl, M.bks_st] at h
    cases q with
    | nil =>
      injection h with h1 _
      subst h1
      exact ⟨[], s, st, rfl, rfl, rfl, fun z hz => by cases hz⟩
    | cons e q =>
      injection h with h1 h2
      obtain ⟨a, p, r, g1, g2, g3, g4⟩ := ih h2
      refine ⟨s :: a, p, r, by rw [g1]; rfl, g2, g3, fun z hz => ?_⟩
      rcases List.mem_cons.1 hz with rfl | hz
      · exact ⟨e, by simp, by rw [h1]⟩
      · obtain ⟨e', h4, h5⟩ := g4 z hz
        exact ⟨e', by simp [h4], h5⟩
theorem M.bks_all {st : List Nat} {z : Nat} (hz : z ∈ st) : ∃ e ∈ M.bks (M.ints st) st.length, e.2 = (z : Int) := by
  induction st with
  | nil => cases hz
  | cons s st ih =>
    rw [show (s :: st).length = st.length + 1 from rfl, M.bks_st]
    rcases List.mem_cons.1 hz with rfl | hz
    · exact ⟨_, List.mem_cons_self, rfl⟩
    · obtain ⟨e, h1, h2⟩ := ih hz
      exact ⟨e, by simp [h1], h2⟩
theorem M.drop_none {st : List Nat} {mid : Nat → Int} {y : Int} (h : ∀ z ∈ st, mid z ≠ y) : st.dropWhile (fun p => decide (mid p ≠ y)) = [] := by
  induction st with
  | nil => rfl
  | cons s st ih =>
    rw [List.dropWhile_cons, if_pos (by simpa using h s (by simp))]
    exact ih fun z hz => h z (by simp [hz])
theorem M.drop_some {a r : List Nat} {p : Nat} {mid : Nat → Int} {y : Int} (h : ∀ z ∈ a, mid z ≠ y) (hp : mid p = y) : (a ++ p :: r).dropWhile (fun p => decide (mid p ≠ y)) = p :: r := by
  induction a with
  | nil =>
    show (p :: r).dropWhile _ = _
    rw [List.dropWhile_cons, if_neg (by simp [hp])]
  | cons s a ih =>
    show (s :: (a ++ p :: r)).dropWhile _ = _
    rw [List.dropWhile_cons, if_pos (by simpa using h s (by simp))]
    exact ih fun z hz => h z (by simp [hz])
theorem wpIn_scope_wide {n : Nat} {P : Program} {c : Code} {Q : Exit → Act → World → Prop} {a : Act} {w : World} (h : c.wpIn Fence.wide n P (Exit.noGoto Q) a w) : (Code.scope c).wpIn Fence.wide n P Q a w :=
  wpIn_wide.2 (wp_scope_straight (wpIn_wide.1 h))
/-- Of what was there in cells nothing has turned but what is told of; what is no cells lies as it lay. -/
def Nc (W0 W : World) : Prop := ∀ (k : Nat) (o : Obj), W0.heap[k]? = some o → o.isCells = false → W.heap[k]? = some o
theorem Nc.still {W0 W W' : World} {B : Nat} (h : Nc W0 W) (hs : Still (ours mineN) B W W') (hB : W0.heap.size ≤ B) : Nc W0 W' := fun k o hk ho => by
  have hlt := (Array.getElem?_eq_some_iff.1 hk).1
  exact (hs.below.block k (by omega)).trans (h k o hk ho)
theorem Nc.of_below {W0 W : World} (h : Below W0.heap.size W0 W) : Nc W0 W := fun k _ hk _ => (h.block k (Array.getElem?_eq_some_iff.1 hk).1).trans hk
theorem Nc.others {W0 W W' : World} (h : Nc W0 W) (k : KeepsOthers W W') : Nc W0 W' := fun i o hi ho => k.same i o (h i o hi ho) ho
theorem nc_append {W w1 : World} {tmp : Obj} {B base size n : Nat} {e : TypeId} {u v : Value} {xs : List Value} {cs : Array Value} {t : TypeId} {mm : Nat × Nat} (hrow : W.ownsRow base e size v n xs) (hg : (W.alloc tmp).grownBy w1 v.ownBlock) (hB : W.heap[B]? = some (.cells cs t mm)) : Nc W (w1.setCell ⟨B, 0, none⟩ u) := fun k o hk ho => by
  have hne : k ≠ B := fun e => by
    rw [e, hB] at hk
    injection hk with hk
    rw [← hk] at ho
    cases ho
  rw [Below.heap_setCell _ _ _ k hne]
  refine grown_block hg hk fun e => ?_
  obtain ⟨-, cs', m', h⟩ := own_type hrow e
  rw [h] at hk
  injection hk with hk
  rw [← hk] at ho
  cases ho
theorem nc_set {W : World} {B : Nat} {u : Value} {cs : Array Value} {t : TypeId} {mm : Nat × Nat} (hB : W.heap[B]? = some (.cells cs t mm)) : Nc W (W.setCell ⟨B, 0, none⟩ u) := fun k o hk ho => by
  have hne : k ≠ B := fun e => by
    rw [e, hB] at hk
    injection hk with hk
    rw [← hk] at ho
    cases ho
  rw [Below.heap_setCell _ _ _ k hne]
  exact hk
theorem Nc.trans {A B C : World} (h : Nc A B) (k : Nc B C) : Nc A C := fun i o hi ho => k i o (h i o hi ho) ho
theorem Nc.keeps {W W' : World} (h : Nc W W') (hs : W.heap.size ≤ W'.heap.size) : KeepsOthers W W' := ⟨hs, fun k o hk ho => h k o hk ho⟩
end Go.Proofs.Ytaiojghbknacjaa
