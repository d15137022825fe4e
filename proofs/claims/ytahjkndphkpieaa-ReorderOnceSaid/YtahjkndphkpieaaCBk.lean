/- A block of one's own that holds whole numbers, and one block alone that turns. No function of the program is walked here. -/
import Derived.Test.YtahjkndphkpieaaRTurn
import Derived.Test.YtahjkndphkpieaaROrd
namespace Go.Proofs.Ytahjkndphkpieaa
open Go.RowKit
set_option maxRecDepth 100000

/-- A block that holds a list of whole numbers. -/
def BlockAt (w : World) (G : Nat) (ty : TypeId) (l : List Int) : Prop := w.heap[G]? = some (.cells (l.map (Value.int .i64)).toArray ty (0, 0))
theorem BlockAt.lt {w : World} {G : Nat} {ty : TypeId} {l : List Int} (h : BlockAt w G ty l) : G < w.heap.size := (Array.getElem?_eq_some_iff.1 h).1
theorem BlockAt.cell {w : World} {G j : Nat} {ty : TypeId} {l : List Int} {x : Int} (h : BlockAt w G ty l) (hj : l[j]? = some x) : w.cell? ⟨G, j, none⟩ = some (.int .i64 x) := by
  unfold World.cell?
  rw [show w.heap[G]? = _ from h]
  simp [hj]
theorem BlockAt.frozen {w : World} {G j : Nat} {ty : TypeId} {l : List Int} (h : BlockAt w G ty l) : w.frozen? ⟨G, j, none⟩ = false := by
  unfold World.frozen?
  rw [show w.heap[G]? = _ from h]
  simp
theorem BlockAt.below {w w' : World} {G n : Nat} {ty : TypeId} {l : List Int} (h : BlockAt w G ty l) (hb : Below n w w') (hG : G < n) : BlockAt w' G ty l := (hb.block G hG).trans h
theorem BlockAt.set {w : World} {G k : Nat} {ty : TypeId} {l : List Int} (h : BlockAt w G ty l) (x : Int) : BlockAt (w.setCell ⟨G, k, none⟩ (.int .i64 x)) G ty (l.set k x) := by
  obtain ⟨hlt, hk⟩ := Array.getElem?_eq_some_iff.1 h
  show (w.heap.modify G _)[G]? = _
  rw [Array.getElem?_eq_getElem (by rw [Array.size_modify]; exact hlt), Array.getElem_modify_self, hk]
  show some (Obj.cells ((l.map (Value.int .i64)).toArray.setIfInBounds k (.int .i64 x)) ty (0, 0)) = _
  rw [List.setIfInBounds_toArray, List.map_set]
/-- A block of one's own is a row of one's own. -/
theorem BlockAt.own {w : World} {G n base : Nat} {ty : TypeId} {l : List Int} (h : BlockAt w G ty l) (hn : l.length = n) (hm : n ≤ maxLen) (hG : base ≤ G) : w.ownsRow base ty 1 (.slice (some ⟨G, 0, none⟩) n n) n (l.map (Value.int .i64)) :=
  ⟨by simp [hn], .inr ⟨G, n, _, rfl, hG, h, Nat.le_refl _, hm, by simpa using hn, by rw [Nat.mul_one]; exact List.take_of_length_le (by simp [hn])⟩⟩
/-- Blocks below n are as they were, but for one. -/
structure KpG (n G : Nat) (A B : World) : Prop where
  os : B.os = A.os
  tape : B.tape = A.tape
  output : B.output = A.output
  size : A.heap.size ≤ B.heap.size
  block : ∀ k, k < n → k ≠ G → B.heap[k]? = A.heap[k]?
theorem KpG.refl (n G : Nat) (A : World) : KpG n G A A := ⟨rfl, rfl, rfl, Nat.le_refl _, fun _ _ _ => rfl⟩
theorem KpG.trans {n m G : Nat} {A B C : World} (h : KpG n G A B) (k : KpG m G B C) (hm : n ≤ m) : KpG n G A C :=
  ⟨k.os.trans h.os, k.tape.trans h.tape, k.output.trans h.output, Nat.le_trans h.size k.size, fun b hb hg => (k.block b (by omega) hg).trans (h.block b hb hg)⟩
theorem KpG.of_below {n m G : Nat} {A B : World} (h : Below m A B) (hm : n ≤ m) : KpG n G A B := ⟨h.os, h.tape, h.output, h.size, fun k hk _ => h.block k (by omega)⟩
theorem KpG.of_turned {n G : Nat} {A B : World} (h : Turned A B G) : KpG n G A B := ⟨h.os, h.tape, h.output, Nat.le_of_eq h.size.symm, fun k _ hg => h.block k hg⟩
theorem KpG.below {n m G : Nat} {A B : World} (h : KpG n G A B) (hm : m ≤ n) (hG : m ≤ G) : Below m A B := ⟨h.os, h.tape, h.output, h.size, fun k hk => h.block k (by omega) (by omega)⟩
theorem KpG.cell {n G : Nat} {A B : World} (h : KpG n G A B) {p : Addr} (hp : p.block < n) (hg : p.block ≠ G) : B.cell? p = A.cell? p := World.cell?_of_block (h.block _ hp hg)
end Go.Proofs.Ytahjkndphkpieaa
