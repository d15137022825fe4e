/- A block of one's own that holds whole numbers, and is turned in its places: read, copied into, and one block alone that turns. No function of the program is walked here. -/
import Derived.Test.YtjoiinpkkaigdaaRRaise
import Derived.Laws.CopyOwn
namespace Go.Proofs.Ytjoiinpkkaigdaa
open Go.RowKit
set_option maxRecDepth 100000

/-- A block that holds a list of whole numbers. -/
def BlockAt (w : World) (G : Nat) (ty : TypeId) (l : List Int) : Prop := w.heap[G]? = some (.cells (l.map (Value.int .i64)).toArray ty (0, 0))
theorem BlockAt.lt {w : World} {G : Nat} {ty : TypeId} {l : List Int} (h : BlockAt w G ty l) : G < w.heap.size := (Array.getElem?_eq_some_iff.1 h).1
theorem BlockAt.cell {w : World} {G j : Nat} {ty : TypeId} {l : List Int} {x : Int} (h : BlockAt w G ty l) (hj : l[j]? = some x) : w.cell? ⟨G, j, none⟩ = some (.int .i64 x) := by
  unfold World.cell?
  rw [show w.heap[G]? = _ from h]
  simp [hj]
theorem BlockAt.frozen {w : World} {G j : Nat} {ty : TypeId} {l : List Int} (h : BlockAt w G ty l) : w.frozen? ⟨G, j, none⟩ = false := by
  unfold World.frozen?
  rw [show w.heap[G]? = _ from h]
  simp
theorem BlockAt.reads {w : World} {G : Nat} {ty : TypeId} {l : List Int} (h : BlockAt w G ty l) : RdS .i64 w w.heap.size (some ⟨G, 0, none⟩) l := fun j x hx => by
  refine ⟨_, rfl, h.lt, ?_⟩
  have : (⟨G, 0, none⟩ : Addr).add j = ⟨G, j, none⟩ := by unfold Addr.add; split <;> simp_all
  rw [this]
  exact h.cell hx
theorem BlockAt.below {w w' : World} {G n : Nat} {ty : TypeId} {l : List Int} (h : BlockAt w G ty l) (hb : Below n w w') (hG : G < n) : BlockAt w' G ty l := (hb.block G hG).trans h
theorem BlockAt.set {w : World} {G k : Nat} {ty : TypeId} {l : List Int} (h : BlockAt w G ty l) (x : Int) : BlockAt (w.setCell ⟨G, k, none⟩ (.int .i64 x)) G ty (l.set k x) := by
  obtain ⟨hlt, hk⟩ := Array.getElem?_eq_some_iff.1 h
  show (w.heap.modify G _)[G]? = _
  rw [Array.getElem?_eq_getElem (by rw [Array.size_modify]; exact hlt), Array.getElem_modify_self, hk]
  show some (Obj.cells ((l.map (Value.int .i64)).toArray.setIfInBounds k (.int .i64 x)) ty (0, 0)) = _
  rw [List.setIfInBounds_toArray, List.map_set]
/-- One block alone has turned. -/
structure Turned (w w' : World) (G : Nat) : Prop where
  os : w'.os = w.os
  tape : w'.tape = w.tape
  output : w'.output = w.output
  size : w'.heap.size = w.heap.size
  block : ∀ b, b ≠ G → w'.heap[b]? = w.heap[b]?
theorem Turned.refl (w : World) (G : Nat) : Turned w w G := ⟨rfl, rfl, rfl, rfl, fun _ _ => rfl⟩
theorem Turned.trans {w w1 w2 : World} {G : Nat} (h : Turned w w1 G) (k : Turned w1 w2 G) : Turned w w2 G :=
  ⟨k.os.trans h.os, k.tape.trans h.tape, k.output.trans h.output, k.size.trans h.size, fun b hb => (k.block b hb).trans (h.block b hb)⟩
theorem Turned.setCell {w w' : World} {G : Nat} (h : Turned w w' G) (k : Nat) (u : Value) : Turned w (w'.setCell ⟨G, k, none⟩ u) G :=
  ⟨h.os, h.tape, h.output, by simpa [World.setCell] using h.size, fun b hb => (Below.heap_setCell _ _ _ _ hb).trans (h.block b hb)⟩
theorem Turned.below {w w' : World} {G base : Nat} (h : Turned w w' G) (hb : base ≤ G) : Below base w w' :=
  ⟨h.os, h.tape, h.output, by rw [h.size]; exact Nat.le_refl _, fun b hlt => h.block b (by omega)⟩
theorem Turned.cell {w w' : World} {G : Nat} (h : Turned w w' G) {p : Addr} (hp : p.block ≠ G) : w'.cell? p = w.cell? p := World.cell?_of_block (h.block _ hp)
theorem below_row {w W1 : World} {G n : Nat} {cs : Array Value} (h : Below n w W1) (hG : n ≤ G) : Below n w (W1.setRow G cs) := ⟨h.os, h.tape, h.output, by simpa [World.setRow] using h.size, fun k hk => by
  rw [← h.block k hk]
  unfold World.setRow
  simp only
  rw [Array.getElem?_modify, if_neg (by omega)]⟩
theorem turned_row (w : World) (G : Nat) (cs : Array Value) : Turned w (w.setRow G cs) G := ⟨rfl, rfl, rfl, by simp [World.setRow], fun b hb => by
  unfold World.setRow
  simp only
  rw [Array.getElem?_modify, if_neg (Ne.symm hb)]⟩
theorem copy_any (A : Option Addr) (ca n G : Nat) (l : List Int) (w W1 : World) (Z : Array Value) (hr : RdS .i64 W1 w.heap.size A l) (hn : l.length = n) (hG : w.heap.size ≤ G) (hg : W1.heap[G]? = some (.cells Z 23 (0, 0))) (hZ : Z.size = n) (hZ0 : n = 0 → Z = #[]) (hb : Below w.heap.size w W1) :
    ∃ v W2, (Builtin.copy_ #[22, 22] 3 #[.slice (some ⟨G, 0, none⟩) n n, .slice A n ca]).run Try.prog W1 = .ok v W2 ∧ BlockAt W2 G 23 l ∧ Below w.heap.size w W2 ∧ Turned W1 W2 G := by
  by_cases h0 : n = 0
  · subst h0
    obtain rfl : l = [] := List.eq_nil_of_length_eq_zero hn
    refine ⟨_, W1, run_copy_none (P := Try.prog) W1 22 22 3 23 (some ⟨G, 0, none⟩) A 0 0 0 ca Try.underlying22 (by kernel_rfl) rfl, ?_, hb, Turned.refl _ _⟩
    unfold BlockAt
    rw [hg, hZ0 rfl]
    rfl
  · obtain ⟨ad, rfl, _⟩ := hr 0 l[0] (List.getElem?_eq_getElem (by omega))
    have hcl : (l.map (Value.int IntKind.i64)).length = n := by simpa using hn
    refine ⟨_, _, run_copy_row (P := Try.prog) W1 22 22 3 23 G 0 n n ad n ca Z 23 (l.map (Value.int .i64)) Try.underlying22 (by kernel_rfl) hg (by rw [hcl]; exact (Nat.min_self n).symm) (fun j v hj => ?_) (by omega) (fun v hv => ?_), ?_, below_row hb hG, turned_row _ _ _⟩
    · rw [List.getElem?_map] at hj
      cases hx : l[j]? with
      | none => rw [hx] at hj; cases hj
      | some y =>
        rw [hx] at hj
        cases hj
        obtain ⟨ad', hA', _, hc'⟩ := hr j y hx
        injection hA' with e
        rw [e]
        exact hc'
    · simp only [List.mem_map] at hv
      obtain ⟨y, _, rfl⟩ := hv
      rfl
    · have := setRow_heap W1 G Z (Z.toList.take 0 ++ l.map (Value.int .i64) ++ Z.toList.drop (0 + (l.map (Value.int IntKind.i64)).length)).toArray 23 _ hg
      unfold BlockAt
      rw [this]
      have hz : Z.toList.length = n := by simpa using hZ
      rw [hcl, List.take_zero, List.nil_append, List.drop_of_length_le (by omega), List.append_nil]
/-- A block of one's own is a row of one's own. -/
theorem BlockAt.own {w : World} {G n base : Nat} {ty : TypeId} {l : List Int} (h : BlockAt w G ty l) (hn : l.length = n) (hm : n ≤ maxLen) (hG : base ≤ G) : w.ownsRow base ty 1 (.slice (some ⟨G, 0, none⟩) n n) n (l.map (Value.int .i64)) :=
  ⟨by simp [hn], .inr ⟨G, n, _, rfl, hG, h, Nat.le_refl _, hm, by simpa using hn, by rw [Nat.mul_one]; exact List.take_of_length_le (by simp [hn])⟩⟩
/-- Blocks below n are as they were, but for one. -/
structure KpG (n G : Nat) (A B : World) : Prop where
  os : B.os = A.os
  tape : B.tape = A.tape
  output : B.output = A.output
  size : A.heap.size ≤ B.heap.size
  block : ∀ k, k < n → k ≠ G → B.heap[k]? = A.heap[k]?
theorem KpG.refl (n G : Nat) (A : World) : KpG n G A A := ⟨rfl, rfl, rfl, Nat.le_refl _, fun _ _ _ => rfl⟩
theorem KpG.trans {n G : Nat} {A B C : World} (h : KpG n G A B) (k : KpG n G B C) : KpG n G A C :=
  ⟨k.os.trans h.os, k.tape.trans h.tape, k.output.trans h.output, Nat.le_trans h.size k.size, fun b hb hg => (k.block b hb hg).trans (h.block b hb hg)⟩
theorem KpG.of_below {n m G : Nat} {A B : World} (h : Below m A B) (hm : n ≤ m) : KpG n G A B := ⟨h.os, h.tape, h.output, h.size, fun k hk _ => h.block k (by omega)⟩
theorem KpG.of_turned {n G : Nat} {A B : World} (h : Turned A B G) : KpG n G A B := ⟨h.os, h.tape, h.output, Nat.le_of_eq h.size.symm, fun k _ hg => h.block k hg⟩
theorem KpG.below {n m G : Nat} {A B : World} (h : KpG n G A B) (hm : m ≤ n) (hG : m ≤ G) : Below m A B := ⟨h.os, h.tape, h.output, h.size, fun k hk => h.block k (by omega) (by omega)⟩
theorem KpG.cell {n G : Nat} {A B : World} (h : KpG n G A B) {p : Addr} (hp : p.block < n) (hg : p.block ≠ G) : B.cell? p = A.cell? p := World.cell?_of_block (h.block _ hp hg)
end Go.Proofs.Ytjoiinpkkaigdaa
