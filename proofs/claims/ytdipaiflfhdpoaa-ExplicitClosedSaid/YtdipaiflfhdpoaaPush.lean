/- An entry put onto the document's machine: what stands behind the append, and behind the store. No function of the program is walked here. -/
import Derived.Test.YtdipaiflfhdpoaaStores
namespace Go.Proofs.Ytdipaiflfhdpoaa
open Go.RowKit

/-- The machine's block behind an append onto its row. -/
theorem pushed_block {w w3 : World} {base mb g cap : Nat} {m : M.Mc} {o : Obj} (h : MachAt w base mb g cap m) (hg : (w.alloc o).grownBy w3 (some g)) : w3.heap[mb]? = w.heap[mb]? := by
  have hlt := h.lt
  have hne := h.ne
  exact (hg.block mb (by simp; omega) (fun e => hne (Option.some.inj e))).trans (Below.heap_alloc _ _ _ hlt)
/-- The machine behind it, its row another. -/
theorem MachAt.pushed {w w3 : World} {base mb g cap g2 cap2 n : Nat} {m : M.Mc} {o : Obj} {s' : List M.Ent} (h : MachAt w base mb g cap m) (hg : (w.alloc o).grownBy w3 (some g)) (hn : s'.length = n)
    (hrow : OwnN w3 base g2 n cap2 s'.reverse) (hat : some g = some g2 ∨ g2 = w.heap.size + 1) :
    MachAt (w3.setCell ⟨mb, 0, none⟩ (.slice (some ⟨g2, 0, none⟩) n cap2)) base mb g2 cap2 { m with s := s' } ∧ Spun w (w3.setCell ⟨mb, 0, none⟩ (.slice (some ⟨g2, 0, none⟩) n cap2)) mb g g2 := by
  subst hn
  have hb := pushed_block h hg
  obtain ⟨c0, c1, c2, c3, f0, f1, f2, f3, row, lo, lt, ne⟩ := h
  have hsz : w.heap.size + 1 ≤ w3.heap.size := by simpa using hg.size
  have hne2 : mb ≠ g2 := by
    rcases hat with h1 | h1
    · injection h1 with h1; omega
    · omega
  have C := fun (k : Nat) => World.cell?_of_block (a := ⟨mb, k, none⟩) hb
  have F := fun (k : Nat) => World.frozen?_of_block (a := ⟨mb, k, none⟩) hb
  refine ⟨⟨World.cell?_setCell_same _ _ _ ((C 0).trans c0), ?_, ?_, ?_, ?_, ?_, ?_, ?_, row_set hrow hne2 _, lo, by simp [World.setCell]; omega, hne2⟩, ?_⟩
  · rw [World.cell?_setCell_other _ _ _ _ (off_ne (by omega))]; exact (C 1).trans c1
  · rw [World.cell?_setCell_other _ _ _ _ (off_ne (by omega))]; exact (C 2).trans c2
  · rw [World.cell?_setCell_other _ _ _ _ (off_ne (by omega))]; exact (C 3).trans c3
  · rw [World.frozen?_setCell]; exact (F 0).trans f0
  · rw [World.frozen?_setCell]; exact (F 1).trans f1
  · rw [World.frozen?_setCell]; exact (F 2).trans f2
  · rw [World.frozen?_setCell]; exact (F 3).trans f3
  · refine Spun.setCell (w := w) (w' := w3) ⟨hg.os, hg.tape, hg.output, by omega, fun b hb1 _ h2 => ?_, ?_⟩ 0 _
    · exact (hg.block b (by simp; omega) (fun e => h2 (Option.some.inj e))).trans (Below.heap_alloc _ _ _ hb1)
    · rcases hat with h1 | h1
      · injection h1 with h1; exact .inl h1.symm
      · exact .inr (by omega)
end Go.Proofs.Ytdipaiflfhdpoaa
