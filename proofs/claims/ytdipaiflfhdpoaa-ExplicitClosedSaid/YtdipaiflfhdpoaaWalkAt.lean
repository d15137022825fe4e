/- The program's walk in memory: its block, its row of entries, what keeps others, and the steps that turn it. No function of the program is walked here. -/
import Derived.Test.YtdipaiflfhdpoaaCMatch
import Derived.Test.YtdipaiflfhdpoaaLvAt
namespace Go.Proofs.Ytdipaiflfhdpoaa
open Go.RowKit

/-- An override as the program has it: -1 for none. -/
def M.ovc (x : Int) : Int := if x = 13 then -1 else x
def M.Ent.cellsC (e : M.Ent) : List Value := [.int .i64 e.lv, .int .i64 (M.ovc e.ov), .bool e.iso]
def cellsC (l : List M.Ent) : List Value := l.flatMap M.Ent.cellsC
theorem cellsC_snoc (l : List M.Ent) (e : M.Ent) : cellsC (l ++ [e]) = cellsC l ++ e.cellsC := by simp [cellsC]
theorem cellsC_length (l : List M.Ent) : (cellsC l).length = l.length * 3 := by
  induction l with
  | nil => rfl
  | cons e r ih => simp [cellsC, M.Ent.cellsC] at ih ⊢; omega
theorem Try.infoEntC : (Try.prog.info? 70).map (fun i => (i.zero, i.size, i.bytes)) = some (some (.agg #[.int .i64 0, .int .i64 0, .bool false]), 3, 24) := by kernel_rfl
theorem cellsC_at {l : List M.Ent} {j : Nat} {e : M.Ent} (h : l[j]? = some e) (k : Nat) (hk : k < 3) : (cellsC l)[j * 3 + k]? = e.cellsC[k]? := by
  induction l generalizing j with
  | nil => simp at h
  | cons x r ih =>
    have hx : x.cellsC.length = 3 := rfl
    show (x.cellsC ++ cellsC r)[j * 3 + k]? = _
    cases j with
    | zero =>
      simp at h
      subst h
      rw [List.getElem?_append_left (by rw [hx]; omega)]
      simp
    | succ j =>
      simp at h
      rw [List.getElem?_append_right (by rw [hx]; omega), hx, ← ih h]
      congr 1
      omega
def OwnC (w : World) (base g n cap : Nat) (l : List M.Ent) : Prop := w.ownsRow base 70 3 (.slice (some ⟨g, 0, none⟩) n cap) n (cellsC l)
/-- A walk in memory. -/
structure WalkAt (w : World) (base mb g cap : Nat) (b : Int) (m : M.Mc) : Prop where
  c0 : w.cell? ⟨mb, 0, none⟩ = some (.int .i64 b)
  c1 : w.cell? ⟨mb, 1, none⟩ = some (.slice (some ⟨g, 0, none⟩) m.s.length cap)
  c2 : w.cell? ⟨mb, 2, none⟩ = some (.int .i64 m.v)
  c3 : w.cell? ⟨mb, 3, none⟩ = some (.int .i64 m.o)
  c4 : w.cell? ⟨mb, 4, none⟩ = some (.int .i64 m.e)
  f : ∀ k, k < 5 → w.frozen? ⟨mb, k, none⟩ = false
  row : OwnC w base g m.s.length cap m.s.reverse
  lo : base ≤ mb
  lt : mb < w.heap.size
  ne : mb ≠ g
section
variable {w w' w3 : World} {base mb g cap : Nat} {b : Int} {m : M.Mc}
theorem WalkAt.glo (h : WalkAt w base mb g cap b m) : base ≤ g ∧ g < w.heap.size := World.ownsRow.lt h.row g rfl
theorem WalkAt.room (h : WalkAt w base mb g cap b m) : m.s.length ≤ cap ∧ cap ≤ maxLen := by
  rcases h.row.2 with ⟨h0, _⟩ | ⟨g', cap', cur, hv, _, _, hn, hm, _⟩
  · cases h0
  · cases hv
    exact ⟨hn, hm⟩
theorem WalkAt.same (h : WalkAt w base mb g cap b m) (hs : w.heap.size ≤ w'.heap.size) (h1 : w'.heap[mb]? = w.heap[mb]?) (h2 : w'.heap[g]? = w.heap[g]?) : WalkAt w' base mb g cap b m := by
  obtain ⟨c0, c1, c2, c3, c4, f, row, lo, lt, ne⟩ := h
  have C := fun (k : Nat) => World.cell?_of_block (a := ⟨mb, k, none⟩) h1
  have F := fun (k : Nat) => World.frozen?_of_block (a := ⟨mb, k, none⟩) h1
  exact ⟨(C 0).trans c0, (C 1).trans c1, (C 2).trans c2, (C 3).trans c3, (C 4).trans c4, fun k hk => (F k).trans (f k hk),
    row_same row (fun q hq => by simp [Value.ownBlock] at hq; subst hq; exact h2), lo, Nat.lt_of_lt_of_le lt hs, ne⟩
theorem WalkAt.below (h : WalkAt w base mb g cap b m) (hb : Below w.heap.size w w') : WalkAt w' base mb g cap b m :=
  h.same hb.size (hb.block mb h.lt) (hb.block g h.glo.2)
/-- The top's cells. -/
theorem WalkAt.top (h : WalkAt w base mb g cap b m) {n : Nat} (hn : m.s.length = n + 1) :
    w.cell? ⟨g, n * 3, none⟩ = some (.int .i64 m.top.lv) ∧ w.cell? ⟨g, n * 3 + 1, none⟩ = some (.int .i64 (M.ovc m.top.ov)) ∧ w.cell? ⟨g, n * 3 + 2, none⟩ = some (.bool m.top.iso) := by
  have hrow := h.row
  have hj : m.s.reverse[n]? = some m.top := by
    cases hs : m.s with
    | nil => rw [hs] at hn; simp at hn
    | cons t r =>
      rw [hs] at hn
      simp at hn
      subst hn
      unfold M.Mc.top
      rw [hs]
      simp
  have c := fun k (hk : k < 3) u (hu : m.top.cellsC[k]? = some u) => World.ownsRow.cells hrow rfl (n * 3 + k) u (by rw [cellsC_at hj k hk]; exact hu)
  simp only [addr0_add] at c
  exact ⟨c 0 (by omega) _ rfl, c 1 (by omega) _ rfl, c 2 (by omega) _ rfl⟩
def WalkOut (base mb g : Nat) (b : Int) (m : M.Mc) (w : World) (w' : World) : Prop := ∃ g' cap', WalkAt w' base mb g' cap' b m ∧ Spun w w' mb g g'
theorem rowC_set {n k : Nat} {l : List M.Ent} (h : OwnC w base g n cap l) (hne : mb ≠ g) (u : Value) : OwnC (w.setCell ⟨mb, k, none⟩ u) base g n cap l :=
  ownsRow_setCell_other h (by simp [Value.ownBlock]; exact fun e => hne e.symm) u
theorem WalkAt.setV (h : WalkAt w base mb g cap b m) (x : Int) : WalkAt (w.setCell ⟨mb, 2, none⟩ (.int .i64 x)) base mb g cap b { m with v := x } := by
  obtain ⟨c0, c1, c2, c3, c4, f, row, lo, lt, ne⟩ := h
  refine ⟨?_, ?_, World.cell?_setCell_same _ _ _ c2, ?_, ?_, fun k hk => by rw [World.frozen?_setCell]; exact f k hk, rowC_set row ne _, lo, by simpa [World.setCell] using lt, ne⟩
  all_goals (rw [World.cell?_setCell_other _ _ _ _ (off_ne (by omega))]; assumption)
theorem WalkAt.setO (h : WalkAt w base mb g cap b m) (x : Int) : WalkAt (w.setCell ⟨mb, 3, none⟩ (.int .i64 x)) base mb g cap b { m with o := x } := by
  obtain ⟨c0, c1, c2, c3, c4, f, row, lo, lt, ne⟩ := h
  refine ⟨?_, ?_, ?_, World.cell?_setCell_same _ _ _ c3, ?_, fun k hk => by rw [World.frozen?_setCell]; exact f k hk, rowC_set row ne _, lo, by simpa [World.setCell] using lt, ne⟩
  all_goals (rw [World.cell?_setCell_other _ _ _ _ (off_ne (by omega))]; assumption)
theorem WalkAt.setE (h : WalkAt w base mb g cap b m) (x : Int) : WalkAt (w.setCell ⟨mb, 4, none⟩ (.int .i64 x)) base mb g cap b { m with e := x } := by
  obtain ⟨c0, c1, c2, c3, c4, f, row, lo, lt, ne⟩ := h
  refine ⟨?_, ?_, ?_, ?_, World.cell?_setCell_same _ _ _ c4, fun k hk => by rw [World.frozen?_setCell]; exact f k hk, rowC_set row ne _, lo, by simpa [World.setCell] using lt, ne⟩
  all_goals (rw [World.cell?_setCell_other _ _ _ _ (off_ne (by omega))]; assumption)
/-- The stack's slice is set to another row. -/
theorem WalkAt.setS {g' cap' n : Nat} {s' : List M.Ent} (h : WalkAt w base mb g cap b m) (hn : s'.length = n) (hrow : OwnC w base g' n cap' s'.reverse) (hne : mb ≠ g') :
    WalkAt (w.setCell ⟨mb, 1, none⟩ (.slice (some ⟨g', 0, none⟩) n cap')) base mb g' cap' b { m with s := s' } := by
  subst hn
  obtain ⟨c0, c1, c2, c3, c4, f, row, lo, lt, ne⟩ := h
  refine ⟨?_, World.cell?_setCell_same _ _ _ c1, ?_, ?_, ?_, fun k hk => by rw [World.frozen?_setCell]; exact f k hk, rowC_set hrow hne _, lo, by simpa [World.setCell] using lt, hne⟩
  all_goals (rw [World.cell?_setCell_other _ _ _ _ (off_ne (by omega))]; assumption)
theorem WalkAt.drew (h : WalkAt w base mb g cap b m) : WalkAt w.drew base mb g cap b m := ⟨h.c0, h.c1, h.c2, h.c3, h.c4, h.f, h.row, h.lo, h.lt, h.ne⟩
/-- The stack's top is taken off. -/
theorem WalkAt.popped {n : Nat} (h : WalkAt w base mb g cap b m) (hn : m.s.length = n + 1) :
    WalkAt (w.setCell ⟨mb, 1, none⟩ (.slice (some ⟨g, 0, none⟩) n cap)) base mb g cap b { m with s := m.s.tail } := by
  obtain ⟨s, o, e, v⟩ := m
  cases s with
  | nil => cases hn
  | cons t r =>
    have hn' : r.length = n := by simpa using hn
    subst hn'
    refine h.setS (s' := r) rfl ?_ h.ne
    have q : OwnC w base g (r.length + 1) cap (t :: r).reverse := h.row
    rw [List.reverse_cons] at q
    unfold OwnC at q ⊢
    rw [cellsC_snoc] at q
    exact ownsRow_pop (by rw [cellsC_length, List.length_reverse]) q
/-- The walk's block behind an append onto its row. -/
theorem pushedC_block {o : Obj} (h : WalkAt w base mb g cap b m) (hg : (w.alloc o).grownBy w3 (some g)) : w3.heap[mb]? = w.heap[mb]? := by
  have hlt := h.lt
  have hne := h.ne
  exact (hg.block mb (by simp; omega) (fun e => hne (Option.some.inj e))).trans (Below.heap_alloc _ _ _ hlt)
/-- The walk behind it, its row another. -/
theorem WalkAt.pushed {g2 cap2 n : Nat} {o : Obj} {s' : List M.Ent} (h : WalkAt w base mb g cap b m) (hg : (w.alloc o).grownBy w3 (some g)) (hn : s'.length = n)
    (hrow : OwnC w3 base g2 n cap2 s'.reverse) (hat : some g = some g2 ∨ g2 = w.heap.size + 1) :
    WalkAt (w3.setCell ⟨mb, 1, none⟩ (.slice (some ⟨g2, 0, none⟩) n cap2)) base mb g2 cap2 b { m with s := s' } ∧ Spun w (w3.setCell ⟨mb, 1, none⟩ (.slice (some ⟨g2, 0, none⟩) n cap2)) mb g g2 := by
  subst hn
  have hb := pushedC_block h hg
  obtain ⟨c0, c1, c2, c3, c4, f, row, lo, lt, ne⟩ := h
  have hsz : w.heap.size + 1 ≤ w3.heap.size := by simpa using hg.size
  have hne2 : mb ≠ g2 := by
    rcases hat with h1 | h1
    · injection h1 with h1; omega
    · omega
  have C := fun (k : Nat) => World.cell?_of_block (a := ⟨mb, k, none⟩) hb
  have F := fun (k : Nat) => World.frozen?_of_block (a := ⟨mb, k, none⟩) hb
  refine ⟨⟨?_, World.cell?_setCell_same _ _ _ ((C 1).trans c1), ?_, ?_, ?_, fun k hk => by rw [World.frozen?_setCell]; exact (F k).trans (f k hk), rowC_set hrow hne2 _, lo, by simp [World.setCell]; omega, hne2⟩, ?_⟩
  · rw [World.cell?_setCell_other _ _ _ _ (off_ne (by omega))]; exact (C 0).trans c0
  · rw [World.cell?_setCell_other _ _ _ _ (off_ne (by omega))]; exact (C 2).trans c2
  · rw [World.cell?_setCell_other _ _ _ _ (off_ne (by omega))]; exact (C 3).trans c3
  · rw [World.cell?_setCell_other _ _ _ _ (off_ne (by omega))]; exact (C 4).trans c4
  · refine Spun.setCell (w := w) (w' := w3) ⟨hg.os, hg.tape, hg.output, by omega, fun b hb1 _ h2 => ?_, ?_⟩ 1 _
    · exact (hg.block b (by simp; omega) (fun e => h2 (Option.some.inj e))).trans (Below.heap_alloc _ _ _ hb1)
    · rcases hat with h1 | h1
      · injection h1 with h1; exact .inl h1.symm
      · exact .inr (by omega)
end
theorem entC_cells (w : World) (lv ov : Int) (iso : Bool) (e : M.Ent) (he : e.cellsC = [.int .i64 lv, .int .i64 ov, .bool iso]) (t : TypeId) : ∀ j u, e.cellsC[j]? = some u → (w.alloc (.cells #[.int .i64 lv, .int .i64 ov, .bool iso] t)).cell? ((⟨w.heap.size, 0, none⟩ : Addr).add j) = some u := by
  intro j u hj
  rw [he] at hj
  match j, hj with
  | 0, hj => simp at hj; subst hj; simp [Addr.add, go_sem]
  | 1, hj => simp at hj; subst hj; simp [Addr.add, go_sem]
  | 2, hj => simp at hj; subst hj; simp [Addr.add, go_sem]
theorem entC_one (e : M.Ent) : ∀ u ∈ e.cellsC, u.oneCell' = true := by
  intro u hu
  simp [M.Ent.cellsC] at hu
  rcases hu with rfl | rfl | rfl <;> rfl
end Go.Proofs.Ytdipaiflfhdpoaa
