/- The state of the walk over isolates in memory: the row of what is told of all, and the row of what stands open. No function of the program is walked here. -/
import Derived.Test.YtdipaiflfhdpoaaCLeaf
import Derived.Laws.OwnMore
namespace Go.Proofs.Ytdipaiflfhdpoaa
open Go.RowKit

def isoCells (l : List (Int × Int)) : List Value := l.flatMap fun x => [.int .i64 x.1, .int .i64 x.2]
theorem isoCells_cons (x : Int × Int) (r : List (Int × Int)) : isoCells (x :: r) = .int .i64 x.1 :: .int .i64 x.2 :: isoCells r := rfl
theorem isoCells_length (l : List (Int × Int)) : (isoCells l).length = l.length * 2 := by
  induction l with
  | nil => rfl
  | cons x r ih => rw [isoCells_cons]; simp [ih]; omega
theorem isoCells_at {l : List (Int × Int)} {j : Nat} {x : Int × Int} (h : l[j]? = some x) : (isoCells l)[j * 2]? = some (.int .i64 x.1) ∧ (isoCells l)[j * 2 + 1]? = some (.int .i64 x.2) := by
  induction l generalizing j with
  | nil => simp at h
  | cons y r ih =>
    rw [isoCells_cons]
    cases j with
    | zero => simp at h; subst h; exact ⟨rfl, rfl⟩
    | succ j =>
      simp at h
      obtain ⟨a, b⟩ := ih h
      rw [show (j + 1) * 2 = j * 2 + 1 + 1 by omega]
      exact ⟨a, b⟩
theorem isoCells_set0 {l : List (Int × Int)} {j : Nat} {e f : Int} (h : l[j]? = some (e, f)) (a : Int) : (isoCells l).set (j * 2) (.int .i64 a) = isoCells (l.set j (a, f)) := by
  induction l generalizing j with
  | nil => simp at h
  | cons y r ih =>
    cases j with
    | zero => simp at h; subst h; rfl
    | succ j =>
      simp at h
      rw [List.set_cons_succ, isoCells_cons, isoCells_cons, ← ih h, show (j + 1) * 2 = j * 2 + 1 + 1 by omega]
      rfl
theorem isoCells_set1 {l : List (Int × Int)} {j : Nat} {e f : Int} (h : l[j]? = some (e, f)) (a : Int) : (isoCells l).set (j * 2 + 1) (.int .i64 a) = isoCells (l.set j (e, a)) := by
  induction l generalizing j with
  | nil => simp at h
  | cons y r ih =>
    cases j with
    | zero => simp at h; subst h; rfl
    | succ j =>
      simp at h
      rw [List.set_cons_succ, isoCells_cons, isoCells_cons, ← ih h, show (j + 1) * 2 + 1 = j * 2 + 1 + 1 + 1 by omega]
      rfl
theorem isoCells_zero (n : Nat) : (madeCells #[.int .i64 0, .int .i64 0] (n * 2)).toList = isoCells (List.replicate n (0, 0)) := by
  apply List.ext_getElem?
  intro j
  by_cases hj : j < n * 2
  · have h1 : (List.replicate n ((0 : Int), (0 : Int)))[j / 2]? = some (0, 0) := by rw [List.getElem?_replicate, if_pos (by omega)]
    obtain ⟨a, b⟩ := isoCells_at h1
    rcases Nat.mod_two_eq_zero_or_one j with h | h
    · rw [show j / 2 * 2 = j by omega] at a
      rw [a]
      simp [madeCells, hj, h]
    · rw [show j / 2 * 2 + 1 = j by omega] at b
      rw [b]
      simp [madeCells, hj, h]
  · rw [List.getElem?_eq_none (by simp [madeCells]; omega), List.getElem?_eq_none (by rw [isoCells_length, List.length_replicate]; omega)]
structure IsoAt (B : Nat) (w wr : World) (G n : Nat) (all : List (Int × Int)) (vo : Value) (O : List Nat) : Prop where
  below : Below B w wr
  ra : wr.ownsRow B 46 2 (.slice (some ⟨G, 0, none⟩) n n) n (isoCells all)
  ro : wr.ownsRow B 3 1 vo O.length (O.reverse.map fun o : Nat => Value.int .i64 (o : Int))
  ap : vo.ownBlock ≠ some G
section
variable {B : Nat} {w wr w3 : World} {G n : Nat} {all : List (Int × Int)} {vo : Value} {O : List Nat}
theorem IsoAt.len (h : IsoAt B w wr G n all vo O) : all.length = n := by
  have := h.ra.1
  rw [isoCells_length] at this
  omega
theorem IsoAt.glo (h : IsoAt B w wr G n all vo O) : B ≤ G ∧ G < wr.heap.size := World.ownsRow.lt h.ra G rfl
theorem IsoAt.cells (h : IsoAt B w wr G n all vo O) {j : Nat} {e f : Int} (hj : all[j]? = some (e, f)) : wr.cell? ⟨G, j * 2, none⟩ = some (.int .i64 e) ∧ wr.cell? ⟨G, j * 2 + 1, none⟩ = some (.int .i64 f) := by
  obtain ⟨a, b⟩ := isoCells_at hj
  have hl := (List.getElem?_eq_some_iff.1 hj).1
  rw [h.len] at hl
  exact ⟨(h.ra.cellAt _ (by omega)).trans a, (h.ra.cellAt _ (by omega)).trans b⟩
theorem IsoAt.frozen (h : IsoAt B w wr G n all vo O) (j : Nat) : wr.frozen? ⟨G, j, none⟩ = false := h.ra.frozenAt j
theorem IsoAt.end_ (h : IsoAt B w wr G n all vo O) {j : Nat} {e f : Int} (hj : all[j]? = some (e, f)) (a : Int) : IsoAt B w (wr.setCell ⟨G, j * 2, none⟩ (.int .i64 a)) G n (all.set j (a, f)) vo O :=
  ⟨h.below.setCell (p := ⟨G, j * 2, none⟩) h.glo.1 _, by rw [← isoCells_set0 hj]; exact (h.ra.stored _ _).1, ownsRow_setCell_other h.ro h.ap _, h.ap⟩
theorem IsoAt.first (h : IsoAt B w wr G n all vo O) {j : Nat} {e f : Int} (hj : all[j]? = some (e, f)) (a : Int) : IsoAt B w (wr.setCell ⟨G, j * 2 + 1, none⟩ (.int .i64 a)) G n (all.set j (e, a)) vo O :=
  ⟨h.below.setCell (p := ⟨G, j * 2 + 1, none⟩) h.glo.1 _, by rw [← isoCells_set1 hj]; exact (h.ra.stored _ _).1, ownsRow_setCell_other h.ro h.ap _, h.ap⟩
theorem IsoAt.told (h : IsoAt B w wr G n all vo O) {j : Nat} {e f : Int} (hj : all[j]? = some (e, f)) (a b : Int) : IsoAt B w ((wr.setCell ⟨G, j * 2, none⟩ (.int .i64 a)).setCell ⟨G, j * 2 + 1, none⟩ (.int .i64 b)) G n (all.set j (a, b)) vo O := by
  have hl := (List.getElem?_eq_some_iff.1 hj).1
  have q := (h.end_ hj a).first (j := j) (e := a) (f := f) (by rw [List.getElem?_set_self hl]) b
  rwa [List.set_set] at q
theorem IsoAt.none_ (h : IsoAt B w wr G n all vo O) : IsoAt B w wr G n all (.slice none 0 0) [] := ⟨h.below, h.ra, World.ownsRow_nil _ _ _ _, by simp [Value.ownBlock]⟩
/-- The last one that stands open. -/
theorem IsoAt.last {o : Nat} (h : IsoAt B w wr G n all vo (o :: O)) {m : Nat} (hm : O.length = m) : ∃ g cap, vo = .slice (some ⟨g, 0, none⟩) (m + 1) cap ∧ wr.cell? ⟨g, m, none⟩ = some (.int .i64 (o : Int)) ∧ m + 1 ≤ cap ∧ cap ≤ maxLen ∧
    IsoAt B w wr G n all (.slice (some ⟨g, 0, none⟩) m cap) O := by
  subst hm
  have ro := h.ro
  rcases ro.2 with ⟨h0, _⟩ | ⟨g, cap, cur, hv, _, _, hn, hc, _, _⟩
  · have e := ro.1
    subst h0
    simp at *
  · subst hv
    rw [List.length_cons] at ro hn ⊢
    refine ⟨g, cap, rfl, ?_, hn, hc, h.below, h.ra, ?_, h.ap⟩
    · rw [World.ownsRow.cellAt (size := 1) ro O.length (by omega)]
      simp
    · rw [List.reverse_cons, List.map_append] at ro
      exact ownsRow_pop (by simp) ro
/-- One more stands open. -/
theorem IsoAt.push (h : IsoAt B w wr G n all vo O) {o : Nat} {q c : Nat} {x : Obj} (hown : w3.ownsRow B 3 1 (.slice (some ⟨q, 0, none⟩) (O.length + 1) c) (O.length + 1) ((O.reverse.map fun o : Nat => Value.int .i64 (o : Int)) ++ [.int .i64 (o : Int)]))
    (hg : (wr.alloc x).grownBy w3 vo.ownBlock) (hat : vo.ownBlock = some q ∨ q = wr.heap.size + 1) : IsoAt B w w3 G n all (.slice (some ⟨q, 0, none⟩) (O.length + 1) c) (o :: O) := by
  have hG := h.glo
  refine ⟨(h.below.alloc (by omega) x).grown hg (by simp; omega) (fun k hk => (World.ownsRow.lt h.ro k hk).1), World.ownsRow.kept (h.ra.alloc x) hg (.inr (by simp [Value.ownBlock]; exact fun e => h.ap e.symm)), ?_, ?_⟩
  · rw [List.reverse_cons, List.map_append]
    exact hown
  · intro e
    have e2 : q = G := by simpa [Value.ownBlock] using e
    rcases hat with h1 | h1
    · exact h.ap (by rw [h1, e2])
    · omega
end
theorem Try.infoIso : (Try.prog.info? 46).map (fun i => (i.zero, i.size, i.bytes)) = some (some (.agg #[.int .i64 0, .int .i64 0]), 2, 16) := by kernel_rfl
end Go.Proofs.Ytdipaiflfhdpoaa
