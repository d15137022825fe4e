/- Stores into the document's machine: a count, and the stack's slice. No function of the program is walked here. -/
import Derived.Test.YtdipaiflfhdpoaaNext
namespace Go.Proofs.Ytdipaiflfhdpoaa
open Go.RowKit

/-- Of what was there nothing has turned but the machine's block, and its row; and so the machine stands. -/
def MachOut (base mb g : Nat) (m : M.Mc) (w : World) (w' : World) : Prop := ∃ g' cap', MachAt w' base mb g' cap' m ∧ Spun w w' mb g g'
theorem Spun.refl (w : World) (mb g : Nat) : Spun w w mb g g := ⟨rfl, rfl, rfl, Nat.le_refl _, fun _ _ _ _ => rfl, .inl rfl⟩
theorem Spun.of_below {w w' : World} (h : Below w.heap.size w w') (mb g : Nat) : Spun w w' mb g g := ⟨h.os, h.tape, h.output, h.size, fun b hb _ _ => h.block b hb, .inl rfl⟩
theorem Spun.trans {w w1 w2 : World} {mb g g1 g2 : Nat} (h : Spun w w1 mb g g1) (k : Spun w1 w2 mb g1 g2) : Spun w w2 mb g g2 := by
  refine ⟨k.os.trans h.os, k.tape.trans h.tape, k.output.trans h.output, Nat.le_trans h.size k.size, fun b hb h1 h2 => ?_, ?_⟩
  · refine (k.block b (Nat.lt_of_lt_of_le hb h.size) h1 (fun e => ?_)).trans (h.block b hb h1 h2)
    subst e
    rcases h.new with h3 | h3
    · exact h2 h3
    · omega
  · have := h.size
    rcases k.new with rfl | h4
    · exact h.new
    · exact .inr (by omega)
theorem Spun.setCell {w w' : World} {mb g g' : Nat} (h : Spun w w' mb g g') (k : Nat) (u : Value) : Spun w (w'.setCell ⟨mb, k, none⟩ u) mb g g' :=
  ⟨h.os, h.tape, h.output, by simpa [World.setCell] using h.size, fun b hb h1 h2 => (Below.heap_setCell _ _ _ _ h1).trans (h.block b hb h1 h2), h.new⟩
theorem off_ne {b i j : Nat} (h : i ≠ j) : (⟨b, i, none⟩ : Addr) ≠ ⟨b, j, none⟩ := fun e => h (by injection e)
theorem row_set {w : World} {base mb g cap n k : Nat} {l : List M.Ent} (h : OwnN w base g n cap l) (hne : mb ≠ g) (u : Value) : OwnN (w.setCell ⟨mb, k, none⟩ u) base g n cap l :=
  ownsRow_setCell_other h (by simp [Value.ownBlock]; exact fun e => hne e.symm) u
theorem MachAt.setO {w : World} {base mb g cap : Nat} {m : M.Mc} (h : MachAt w base mb g cap m) (x : Int) : MachAt (w.setCell ⟨mb, 1, none⟩ (.int .i64 x)) base mb g cap { m with o := x } := by
  obtain ⟨c0, c1, c2, c3, f0, f1, f2, f3, row, lo, lt, ne⟩ := h
  refine ⟨?_, World.cell?_setCell_same _ _ _ c1, ?_, ?_, ?_, ?_, ?_, ?_, row_set row ne _, lo, by simpa [World.setCell] using lt, ne⟩
  · rw [World.cell?_setCell_other _ _ _ _ (off_ne (by omega))]; exact c0
  · rw [World.cell?_setCell_other _ _ _ _ (off_ne (by omega))]; exact c2
  · rw [World.cell?_setCell_other _ _ _ _ (off_ne (by omega))]; exact c3
  all_goals (rw [World.frozen?_setCell]; assumption)
theorem MachAt.setE {w : World} {base mb g cap : Nat} {m : M.Mc} (h : MachAt w base mb g cap m) (x : Int) : MachAt (w.setCell ⟨mb, 2, none⟩ (.int .i64 x)) base mb g cap { m with e := x } := by
  obtain ⟨c0, c1, c2, c3, f0, f1, f2, f3, row, lo, lt, ne⟩ := h
  refine ⟨?_, ?_, World.cell?_setCell_same _ _ _ c2, ?_, ?_, ?_, ?_, ?_, row_set row ne _, lo, by simpa [World.setCell] using lt, ne⟩
  · rw [World.cell?_setCell_other _ _ _ _ (off_ne (by omega))]; exact c0
  · rw [World.cell?_setCell_other _ _ _ _ (off_ne (by omega))]; exact c1
  · rw [World.cell?_setCell_other _ _ _ _ (off_ne (by omega))]; exact c3
  all_goals (rw [World.frozen?_setCell]; assumption)
theorem MachAt.setV {w : World} {base mb g cap : Nat} {m : M.Mc} (h : MachAt w base mb g cap m) (x : Int) : MachAt (w.setCell ⟨mb, 3, none⟩ (.int .i64 x)) base mb g cap { m with v := x } := by
  obtain ⟨c0, c1, c2, c3, f0, f1, f2, f3, row, lo, lt, ne⟩ := h
  refine ⟨?_, ?_, ?_, World.cell?_setCell_same _ _ _ c3, ?_, ?_, ?_, ?_, row_set row ne _, lo, by simpa [World.setCell] using lt, ne⟩
  · rw [World.cell?_setCell_other _ _ _ _ (off_ne (by omega))]; exact c0
  · rw [World.cell?_setCell_other _ _ _ _ (off_ne (by omega))]; exact c1
  · rw [World.cell?_setCell_other _ _ _ _ (off_ne (by omega))]; exact c2
  all_goals (rw [World.frozen?_setCell]; assumption)
/-- The stack's slice is set to another row. -/
theorem MachAt.setS {w : World} {base mb g cap g' cap' n : Nat} {m : M.Mc} {s' : List M.Ent} (h : MachAt w base mb g cap m) (hn : s'.length = n) (hrow : OwnN w base g' n cap' s'.reverse) (hne : mb ≠ g') :
    MachAt (w.setCell ⟨mb, 0, none⟩ (.slice (some ⟨g', 0, none⟩) n cap')) base mb g' cap' { m with s := s' } := by
  subst hn
  obtain ⟨c0, c1, c2, c3, f0, f1, f2, f3, row, lo, lt, ne⟩ := h
  refine ⟨World.cell?_setCell_same _ _ _ c0, ?_, ?_, ?_, ?_, ?_, ?_, ?_, row_set hrow hne _, lo, by simpa [World.setCell] using lt, hne⟩
  · rw [World.cell?_setCell_other _ _ _ _ (off_ne (by omega))]; exact c1
  · rw [World.cell?_setCell_other _ _ _ _ (off_ne (by omega))]; exact c2
  · rw [World.cell?_setCell_other _ _ _ _ (off_ne (by omega))]; exact c3
  all_goals (rw [World.frozen?_setCell]; assumption)
theorem MachAt.drew {w : World} {base mb g cap : Nat} {m : M.Mc} (h : MachAt w base mb g cap m) : MachAt w.drew base mb g cap m :=
  ⟨h.c0, h.c1, h.c2, h.c3, h.f0, h.f1, h.f2, h.f3, h.row, h.lo, h.lt, h.ne⟩
theorem Spun.drew {w w' : World} {mb g g' : Nat} (h : Spun w w' mb g g') : Spun w w'.drew mb g g' := ⟨h.os, h.tape, h.output, h.size, h.block, h.new⟩
end Go.Proofs.Ytdipaiflfhdpoaa
