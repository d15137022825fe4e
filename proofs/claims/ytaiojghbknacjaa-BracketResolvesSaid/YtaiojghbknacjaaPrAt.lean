/- The document's Pairs in memory: the row of partners, and the row of what stands open. No function of the program is walked here. -/
import Derived.Test.YtaiojghbknacjaaRBec
import Derived.WalkSmall
import Derived.StillTailTactics
namespace Go.Proofs.Ytaiojghbknacjaa
open Go.RowKit
set_option maxRecDepth 100000

theorem rep_cells2 (n : Nat) : (madeCells (Value.int IntKind.i64 0).cells (n * 1)).toList = (List.replicate n (0 : Int)).map (Value.int .i64) := by
  rw [Nat.mul_one, List.map_replicate]
  exact toList_madeCells_one _ _
structure PrAt (B : Nat) (w wr : World) (G n : Nat) (pa : List Int) (vo : Value) (O : List Nat) : Prop where
  below : Below B w wr
  ra : wr.ownsRow B 3 1 (.slice (some ⟨G, 0, none⟩) n n) n (pa.map (Value.int .i64))
  ro : wr.ownsRow B 3 1 vo O.length (O.reverse.map fun o : Nat => Value.int .i64 (o : Int))
  ap : vo.ownBlock ≠ some G
section
variable {B : Nat} {w wr w3 : World} {G n : Nat} {pa : List Int} {vo : Value} {O : List Nat}
theorem PrAt.len (h : PrAt B w wr G n pa vo O) : pa.length = n := by
  have := h.ra.1
  rw [List.length_map] at this
  omega
theorem PrAt.glo (h : PrAt B w wr G n pa vo O) : B ≤ G ∧ G < wr.heap.size := World.ownsRow.lt h.ra G rfl
theorem PrAt.form (h : PrAt B w wr G n pa vo O) : ∃ A c, vo = .slice A O.length c ∧ O.length ≤ c ∧ c ≤ maxLen ∧ (A = none → c = 0 ∧ O.length = 0) := by
  rcases h.ro.2 with ⟨h0, h1⟩ | ⟨g, cap, cur, hv, _, _, hn, hc, _, _⟩
  · exact ⟨none, 0, by rw [h0, h1], by omega, Nat.zero_le _, fun _ => ⟨rfl, h1⟩⟩
  · exact ⟨_, cap, hv, hn, hc, fun h => by cases h⟩
theorem PrAt.cell (h : PrAt B w wr G n pa vo O) {j : Nat} {x : Int} (hj : pa[j]? = some x) : wr.cell? ⟨G, j, none⟩ = some (.int .i64 x) := by
  have hl := (List.getElem?_eq_some_iff.1 hj).1
  rw [h.len] at hl
  rw [World.ownsRow.cellAt h.ra j (by omega), List.getElem?_map, hj]
  rfl
theorem PrAt.frozen (h : PrAt B w wr G n pa vo O) (j : Nat) : wr.frozen? ⟨G, j, none⟩ = false := h.ra.frozenAt j
theorem PrAt.set (h : PrAt B w wr G n pa vo O) (j : Nat) (a : Int) : PrAt B w (wr.setCell ⟨G, j, none⟩ (.int .i64 a)) G n (pa.set j a) vo O :=
  ⟨h.below.setCell (p := ⟨G, j, none⟩) h.glo.1 _, by rw [List.map_set]; exact (h.ra.stored _ _).1, ownsRow_setCell_other h.ro h.ap _, h.ap⟩
theorem PrAt.later (h : PrAt B w wr G n pa vo O) (hb : Below wr.heap.size wr w3) (hB : B ≤ wr.heap.size) : PrAt B w w3 G n pa vo O :=
  ⟨h.below.trans (hb.mono hB), own_below h.ra hb, own_below h.ro hb, h.ap⟩
/-- A cell of the stack: one that so many stand below. -/
theorem PrAt.at_ (h : PrAt B w wr G n pa vo O) {a O2 : List Nat} {o : Nat} (e : O = a ++ o :: O2) {g c : Nat} (hv : vo = .slice (some ⟨g, 0, none⟩) O.length c) : wr.cell? ⟨g, O2.length, none⟩ = some (.int .i64 (o : Int)) := by
  have ro := h.ro
  rw [hv] at ro
  rw [World.ownsRow.cellAt ro O2.length (by rw [e]; simp; omega), List.getElem?_map, e, List.reverse_append, List.reverse_cons, List.append_assoc, List.getElem?_append_right (by simp)]
  simp
theorem PrAt.last {o : Nat} (h : PrAt B w wr G n pa vo (o :: O)) : ∃ g cap, vo = .slice (some ⟨g, 0, none⟩) (O.length + 1) cap ∧ PrAt B w wr G n pa (.slice (some ⟨g, 0, none⟩) O.length cap) O := by
  have ro := h.ro
  rcases ro.2 with ⟨h0, h1⟩ | ⟨g, cap, cur, hv, _, _, hn, hc, _, _⟩
  · simp at h1
  · subst hv
    rw [List.length_cons] at ro ⊢
    refine ⟨g, cap, rfl, h.below, h.ra, ?_, h.ap⟩
    rw [List.reverse_cons, List.map_append] at ro
    exact ownsRow_pop (by simp) ro
/-- Some are taken off. -/
theorem PrAt.cut {a : List Nat} (ha : a ≠ []) (h : PrAt B w wr G n pa vo (a ++ O)) : ∃ g cap, vo = .slice (some ⟨g, 0, none⟩) (a ++ O).length cap ∧ PrAt B w wr G n pa (.slice (some ⟨g, 0, none⟩) O.length cap) O := by
  induction a generalizing vo with
  | nil => exact absurd rfl ha
  | cons x a ih =>
    obtain ⟨g, cap, rfl, h1⟩ := PrAt.last h
    cases a with
    | nil => exact ⟨g, cap, rfl, h1⟩
    | cons y a =>
      obtain ⟨g', cap', e, h2⟩ := ih (by simp) h1
      injection e with e1 _ e3
      injection e1 with e1
      injection e1 with e1
      subst e1 e3
      exact ⟨g, cap, rfl, h2⟩
/-- One more stands open. -/
theorem PrAt.push (h : PrAt B w wr G n pa vo O) {o : Nat} {q c : Nat} {x : Obj} (hown : w3.ownsRow B 3 1 (.slice (some ⟨q, 0, none⟩) (O.length + 1) c) (O.length + 1) ((O.reverse.map fun o : Nat => Value.int .i64 (o : Int)) ++ [.int .i64 (o : Int)]))
    (hg : (wr.alloc x).grownBy w3 vo.ownBlock) (hat : vo.ownBlock = some q ∨ q = wr.heap.size + 1) : PrAt B w w3 G n pa (.slice (some ⟨q, 0, none⟩) (O.length + 1) c) (o :: O) := by
  have hG := h.glo
  refine ⟨(h.below.alloc (by omega) x).grown hg (by simp; omega) (fun k hk => (World.ownsRow.lt h.ro k hk).1), World.ownsRow.kept (h.ra.alloc x) hg (.inr (by simp [Value.ownBlock]; exact fun e => h.ap e.symm)), ?_, ?_⟩
  · rw [List.reverse_cons, List.map_append]
    exact hown
  · intro e
    have e2 : q = G := by simpa [Value.ownBlock] using e
    rcases hat with h1 | h1
    · exact h.ap (by rw [h1, e2])
    · omega
/-- The row of partners reads as their list. -/
theorem PrAt.reads (h : PrAt B w wr G n pa vo O) : RdS .i64 wr wr.heap.size (some ⟨G, 0, none⟩) pa := fun j x hx => by
  refine ⟨_, rfl, h.glo.2, ?_⟩
  have e : (⟨G, 0, none⟩ : Addr).add j = ⟨G, j, none⟩ := addr0_add2 G j
  rw [e]
  exact h.cell hx
end
end Go.Proofs.Ytaiojghbknacjaa
