/- The state of the document's Levels in memory: two rows and a machine, each apart from the others, and the steps that keep it. No function of the program is walked here. -/
import Derived.Test.YtdipaiflfhdpoaaDoes
namespace Go.Proofs.Ytdipaiflfhdpoaa
open Go.RowKit

structure LvAt (B : Nat) (w wr : World) (ta tb : TypeId) (va vb : Value) (ja jb : Nat) (la lb : List Int) (mb g cap : Nat) (m : M.Mc) : Prop where
  below : Below B w wr
  ra : wr.ownsRow B ta 1 va ja (la.map (Value.int .i64))
  rb : wr.ownsRow B tb 1 vb jb (lb.map (Value.int .i64))
  mach : MachAt wr B mb g cap m
  am : va.ownBlock ≠ some mb
  ag : va.ownBlock ≠ some g
  bm : vb.ownBlock ≠ some mb
  bg : vb.ownBlock ≠ some g
  ab : ∀ q, va.ownBlock = some q → vb.ownBlock ≠ some q
theorem row_same {w w' : World} {base size k : Nat} {e : TypeId} {v : Value} {xs : List Value} (h : w.ownsRow base e size v k xs) (hb : ∀ q, v.ownBlock = some q → w'.heap[q]? = w.heap[q]?) : w'.ownsRow base e size v k xs := by
  refine ⟨h.1, ?_⟩
  rcases h.2 with h1 | ⟨g, cap, cur, hv, hbg, hg, rest⟩
  · exact .inl h1
  · exact .inr ⟨g, cap, cur, hv, hbg, by rw [hb g (by rw [hv]; rfl)]; exact hg, rest⟩
theorem MachAt.same {w w' : World} {base mb g cap : Nat} {m : M.Mc} (h : MachAt w base mb g cap m) (hs : w.heap.size ≤ w'.heap.size) (h1 : w'.heap[mb]? = w.heap[mb]?) (h2 : w'.heap[g]? = w.heap[g]?) : MachAt w' base mb g cap m := by
  obtain ⟨c0, c1, c2, c3, f0, f1, f2, f3, row, lo, lt, ne⟩ := h
  have C := fun (k : Nat) => World.cell?_of_block (a := ⟨mb, k, none⟩) h1
  have F := fun (k : Nat) => World.frozen?_of_block (a := ⟨mb, k, none⟩) h1
  exact ⟨(C 0).trans c0, (C 1).trans c1, (C 2).trans c2, (C 3).trans c3, (F 0).trans f0, (F 1).trans f1, (F 2).trans f2, (F 3).trans f3,
    row_same row (fun q hq => by simp [Value.ownBlock] at hq; subst hq; exact h2), lo, Nat.lt_of_lt_of_le lt hs, ne⟩
section
variable {B : Nat} {w wr w3 : World} {ta tb : TypeId} {va vb : Value} {ja jb : Nat} {la lb : List Int} {mb g cap : Nat} {m : M.Mc}
theorem LvAt.le (h : LvAt B w wr ta tb va vb ja jb la lb mb g cap m) : B ≤ wr.heap.size := by
  have := h.mach.lo
  have := h.mach.lt
  omega
/-- Blocks are laid behind. -/
theorem LvAt.later (h : LvAt B w wr ta tb va vb ja jb la lb mb g cap m) (hb : Below wr.heap.size wr w3) : LvAt B w w3 ta tb va vb ja jb la lb mb g cap m :=
  ⟨h.below.trans (hb.mono h.le), own_below h.ra hb, own_below h.rb hb, h.mach.below hb, h.am, h.ag, h.bm, h.bg, h.ab⟩
/-- The machine turns. -/
theorem LvAt.turn (h : LvAt B w wr ta tb va vb ja jb la lb mb g cap m) {g' cap' : Nat} {m' : M.Mc} (hm : MachAt w3 B mb g' cap' m') (hs : Spun wr w3 mb g g') : LvAt B w w3 ta tb va vb ja jb la lb mb g' cap' m' := by
  have ka : ∀ q, va.ownBlock = some q → q < wr.heap.size ∧ q ≠ mb ∧ q ≠ g := fun q hq => ⟨(World.ownsRow.lt h.ra q hq).2, fun e => h.am (by rw [hq, e]), fun e => h.ag (by rw [hq, e])⟩
  have kb : ∀ q, vb.ownBlock = some q → q < wr.heap.size ∧ q ≠ mb ∧ q ≠ g := fun q hq => ⟨(World.ownsRow.lt h.rb q hq).2, fun e => h.bm (by rw [hq, e]), fun e => h.bg (by rw [hq, e])⟩
  refine ⟨h.below.trans (hs.below h.mach.lo h.mach.glo.1 h.le), row_same h.ra (fun q hq => hs.block q (ka q hq).1 (ka q hq).2.1 (ka q hq).2.2), row_same h.rb (fun q hq => hs.block q (kb q hq).1 (kb q hq).2.1 (kb q hq).2.2), hm, h.am, ?_, h.bm, ?_, h.ab⟩
  · intro e
    have := ka g' e
    rcases hs.new with h1 | h1 <;> omega
  · intro e
    have := kb g' e
    rcases hs.new with h1 | h1 <;> omega
/-- A new machine. -/
theorem LvAt.anew (h : LvAt B w wr ta tb va vb ja jb la lb mb g cap m) {mb' g' cap' : Nat} {m' : M.Mc} (hm : MachAt w3 wr.heap.size mb' g' cap' m') (hb : Below wr.heap.size wr w3) : LvAt B w w3 ta tb va vb ja jb la lb mb' g' cap' m' := by
  have ka : ∀ q, va.ownBlock = some q → q < wr.heap.size := fun q hq => (World.ownsRow.lt h.ra q hq).2
  have kb : ∀ q, vb.ownBlock = some q → q < wr.heap.size := fun q hq => (World.ownsRow.lt h.rb q hq).2
  have hl := h.le
  have h1 := hm.lo
  have h2 := hm.glo.1
  obtain ⟨c0, c1, c2, c3, f0, f1, f2, f3, row, lo, lt, ne⟩ := hm
  refine ⟨h.below.trans (hb.mono hl), own_below h.ra hb, own_below h.rb hb, ⟨c0, c1, c2, c3, f0, f1, f2, f3, own_base row hl, by omega, lt, ne⟩, ?_, ?_, ?_, ?_, h.ab⟩
  · intro e; have := ka _ e; omega
  · intro e; have := ka _ e; omega
  · intro e; have := kb _ e; omega
  · intro e; have := kb _ e; omega
/-- One more in the first row. -/
theorem LvAt.pushA (h : LvAt B w wr ta tb va vb ja jb la lb mb g cap m) {x : Int} {q c : Nat} {o : Obj} (hown : w3.ownsRow B ta 1 (.slice (some ⟨q, 0, none⟩) (ja + 1) c) (ja + 1) (la.map (Value.int .i64) ++ [.int .i64 x]))
    (hg : (wr.alloc o).grownBy w3 va.ownBlock) (hat : va.ownBlock = some q ∨ q = wr.heap.size + 1) : LvAt B w w3 ta tb (.slice (some ⟨q, 0, none⟩) (ja + 1) c) vb (ja + 1) jb (la ++ [x]) lb mb g cap m := by
  have hl := h.le
  have kb : ∀ q, vb.ownBlock = some q → q < wr.heap.size := fun q hq => (World.ownsRow.lt h.rb q hq).2
  have hm1 := h.mach.lt
  have hm2 := h.mach.glo.2
  have hsz : wr.heap.size + 1 ≤ w3.heap.size := by simpa using hg.size
  have K : ∀ b, b < wr.heap.size → va.ownBlock ≠ some b → w3.heap[b]? = wr.heap[b]? := fun b hb hne => (hg.block b (by simp; omega) (fun e => hne e.symm)).trans (Below.heap_alloc _ _ _ hb)
  refine ⟨(h.below.alloc hl o).grown hg (by simp; omega) (fun k hk => (World.ownsRow.lt h.ra k hk).1), by rw [List.map_append]; exact hown, row_same h.rb (fun b hb => K b (kb b hb) (fun e => h.ab b e hb)), h.mach.same (by omega) (K mb hm1 h.am) (K g hm2 h.ag), ?_, ?_, h.bm, h.bg, ?_⟩
  · intro e
    have e2 : q = mb := by simpa [Value.ownBlock] using e
    rcases hat with h1 | h1
    · exact h.am (by rw [h1, e2])
    · omega
  · intro e
    have e2 : q = g := by simpa [Value.ownBlock] using e
    rcases hat with h1 | h1
    · exact h.ag (by rw [h1, e2])
    · omega
  · intro b e e3
    have e2 : q = b := by simpa [Value.ownBlock] using e
    rcases hat with h1 | h1
    · exact h.ab b (by rw [h1, e2]) e3
    · have := kb b e3; omega
/-- One more in the second row. -/
theorem LvAt.pushB (h : LvAt B w wr ta tb va vb ja jb la lb mb g cap m) {x : Int} {q c : Nat} {o : Obj} (hown : w3.ownsRow B tb 1 (.slice (some ⟨q, 0, none⟩) (jb + 1) c) (jb + 1) (lb.map (Value.int .i64) ++ [.int .i64 x]))
    (hg : (wr.alloc o).grownBy w3 vb.ownBlock) (hat : vb.ownBlock = some q ∨ q = wr.heap.size + 1) : LvAt B w w3 ta tb va (.slice (some ⟨q, 0, none⟩) (jb + 1) c) ja (jb + 1) la (lb ++ [x]) mb g cap m := by
  have hl := h.le
  have ka : ∀ q, va.ownBlock = some q → q < wr.heap.size := fun q hq => (World.ownsRow.lt h.ra q hq).2
  have hm1 := h.mach.lt
  have hm2 := h.mach.glo.2
  have hsz : wr.heap.size + 1 ≤ w3.heap.size := by simpa using hg.size
  have K : ∀ b, b < wr.heap.size → vb.ownBlock ≠ some b → w3.heap[b]? = wr.heap[b]? := fun b hb hne => (hg.block b (by simp; omega) (fun e => hne e.symm)).trans (Below.heap_alloc _ _ _ hb)
  refine ⟨(h.below.alloc hl o).grown hg (by simp; omega) (fun k hk => (World.ownsRow.lt h.rb k hk).1), row_same h.ra (fun b hb => K b (ka b hb) (fun e => h.ab b hb e)), by rw [List.map_append]; exact hown, h.mach.same (by omega) (K mb hm1 h.bm) (K g hm2 h.bg), h.am, h.ag, ?_, ?_, ?_⟩
  · intro e
    have e2 : q = mb := by simpa [Value.ownBlock] using e
    rcases hat with h1 | h1
    · exact h.bm (by rw [h1, e2])
    · omega
  · intro e
    have e2 : q = g := by simpa [Value.ownBlock] using e
    rcases hat with h1 | h1
    · exact h.bg (by rw [h1, e2])
    · omega
  · intro b e3 e
    have e2 : q = b := by simpa [Value.ownBlock] using e
    rcases hat with h1 | h1
    · exact h.ab b e3 (by rw [h1, e2])
    · have := ka b e3; omega
end
end Go.Proofs.Ytdipaiflfhdpoaa
