/- The document's machine in memory: its block, its row of entries, and what keeps others. The contracts of fresh, top and next. Condition: the machine is right. -/
import Derived.Test.YtdipaiflfhdpoaaBase
import Derived.Test.YtdipaiflfhdpoaaExpl
import Derived.StillTailTactics
import Derived.WalkSmall
namespace Go.Proofs.Ytdipaiflfhdpoaa
open Go.RowKit

def M.Ent.cells (e : M.Ent) : List Value := [.int .i64 e.lv, .int .i64 e.ov, .bool e.iso]
def M.Ent.val (e : M.Ent) : Value := .agg #[.int .i64 e.lv, .int .i64 e.ov, .bool e.iso]
def cellsN (l : List M.Ent) : List Value := l.flatMap M.Ent.cells
theorem cellsN_snoc (l : List M.Ent) (e : M.Ent) : cellsN (l ++ [e]) = cellsN l ++ e.cells := by simp [cellsN]
theorem cellsN_length (l : List M.Ent) : (cellsN l).length = l.length * 3 := by
  induction l with
  | nil => rfl
  | cons e r ih => simp [cellsN, M.Ent.cells] at ih ⊢; omega
theorem Try.infoEnt : (Try.prog.info? 65).map (fun i => (i.zero, i.size, i.bytes)) = some (some (.agg #[.int .i64 0, .int .i64 0, .bool false]), 3, 24) := by kernel_rfl
theorem addr0_add (g k : Nat) : (⟨g, 0, none⟩ : Addr).add k = ⟨g, k, none⟩ := by
  unfold Addr.add
  split
  · rename_i h; subst h; rfl
  · simp
theorem cellsN_at {l : List M.Ent} {j : Nat} {e : M.Ent} (h : l[j]? = some e) (k : Nat) (hk : k < 3) : (cellsN l)[j * 3 + k]? = e.cells[k]? := by
  induction l generalizing j with
  | nil => simp at h
  | cons x r ih =>
    have hx : x.cells.length = 3 := rfl
    show (x.cells ++ cellsN r)[j * 3 + k]? = _
    cases j with
    | zero =>
      simp at h
      subst h
      rw [List.getElem?_append_left (by rw [hx]; omega)]
      simp
    | succ j =>
      simp at h
      rw [List.getElem?_append_right (by rw [hx]; omega), hx, ← ih h]
      congr 1
      omega
theorem ent_cells (w : World) (e : M.Ent) (t : TypeId) : ∀ j u, e.cells[j]? = some u → (w.alloc (.cells #[.int .i64 e.lv, .int .i64 e.ov, .bool e.iso] t)).cell? ((⟨w.heap.size, 0, none⟩ : Addr).add j) = some u := by
  intro j u hj
  match j, hj with
  | 0, hj => simp [M.Ent.cells] at hj; subst hj; simp [Addr.add, go_sem]
  | 1, hj => simp [M.Ent.cells] at hj; subst hj; simp [Addr.add, go_sem]
  | 2, hj => simp [M.Ent.cells] at hj; subst hj; simp [Addr.add, go_sem]
theorem ent_one (e : M.Ent) : ∀ u ∈ e.cells, u.oneCell' = true := by
  intro u hu
  simp [M.Ent.cells] at hu
  rcases hu with rfl | rfl | rfl <;> rfl
/-- The caller's own row of entries; the stack's bottom first. -/
def OwnN (w : World) (base g n cap : Nat) (l : List M.Ent) : Prop := w.ownsRow base 65 3 (.slice (some ⟨g, 0, none⟩) n cap) n (cellsN l)
/-- A machine in memory. -/
structure MachAt (w : World) (base mb g cap : Nat) (m : M.Mc) : Prop where
  c0 : w.cell? ⟨mb, 0, none⟩ = some (.slice (some ⟨g, 0, none⟩) m.s.length cap)
  c1 : w.cell? ⟨mb, 1, none⟩ = some (.int .i64 m.o)
  c2 : w.cell? ⟨mb, 2, none⟩ = some (.int .i64 m.e)
  c3 : w.cell? ⟨mb, 3, none⟩ = some (.int .i64 m.v)
  f0 : w.frozen? ⟨mb, 0, none⟩ = false
  f1 : w.frozen? ⟨mb, 1, none⟩ = false
  f2 : w.frozen? ⟨mb, 2, none⟩ = false
  f3 : w.frozen? ⟨mb, 3, none⟩ = false
  row : OwnN w base g m.s.length cap m.s.reverse
  lo : base ≤ mb
  lt : mb < w.heap.size
  ne : mb ≠ g
/-- Of what was there nothing has turned but the machine's block, and its row. -/
structure Spun (w w' : World) (mb g g' : Nat) : Prop where
  os : w'.os = w.os
  tape : w'.tape = w.tape
  output : w'.output = w.output
  size : w.heap.size ≤ w'.heap.size
  block : ∀ b, b < w.heap.size → b ≠ mb → b ≠ g → w'.heap[b]? = w.heap[b]?
  new : g' = g ∨ w.heap.size ≤ g'
theorem Spun.below {w w' : World} {mb g g' base : Nat} (h : Spun w w' mb g g') (h1 : base ≤ mb) (h2 : base ≤ g) (h3 : base ≤ w.heap.size) : Below base w w' :=
  ⟨h.os, h.tape, h.output, h.size, fun b hb => h.block b (by omega) (by omega) (by omega)⟩
theorem MachAt.glo {w : World} {base mb g cap : Nat} {m : M.Mc} (h : MachAt w base mb g cap m) : base ≤ g ∧ g < w.heap.size := World.ownsRow.lt h.row g rfl
theorem MachAt.below {w w' : World} {base mb g cap : Nat} {m : M.Mc} (h : MachAt w base mb g cap m) (hb : Below w.heap.size w w') : MachAt w' base mb g cap m := by
  obtain ⟨c0, c1, c2, c3, f0, f1, f2, f3, row, lo, lt, ne⟩ := h
  refine ⟨(hb.cell lt).trans c0, (hb.cell lt).trans c1, (hb.cell lt).trans c2, (hb.cell lt).trans c3, (hb.frozen lt).trans f0, (hb.frozen lt).trans f1, (hb.frozen lt).trans f2, (hb.frozen lt).trans f3, ?_, lo, Nat.lt_of_lt_of_le lt hb.size, ne⟩
  exact World.ownsRow.kept row (row := none) ⟨hb.os, hb.tape, hb.output, hb.size, fun k hk _ => hb.block k hk⟩ (by simp [Value.ownBlock])
/-- The top's cells. -/
theorem MachAt.top {w : World} {base mb g cap : Nat} {m : M.Mc} (h : MachAt w base mb g cap m) {n : Nat} (hn : m.s.length = n + 1) :
    w.cell? ⟨g, n * 3, none⟩ = some (.int .i64 m.top.lv) ∧ w.cell? ⟨g, n * 3 + 1, none⟩ = some (.int .i64 m.top.ov) ∧ w.cell? ⟨g, n * 3 + 2, none⟩ = some (.bool m.top.iso) := by
  have hrow := h.row
  have hj : m.s.reverse[n]? = some m.top := by
    cases hs : m.s with
    | nil => rw [hs] at hn; simp at hn
    | cons t r =>
      rw [hs] at hn
      simp at hn
      subst hn
      unfold M.Mc.top
      rw [hs]
      simp
  have c := fun k (hk : k < 3) u (hu : m.top.cells[k]? = some u) => World.ownsRow.cells hrow rfl (n * 3 + k) u (by rw [cellsN_at hj k hk]; exact hu)
  simp only [addr0_add] at c
  exact ⟨c 0 (by omega) _ rfl, c 1 (by omega) _ rfl, c 2 (by omega) _ rfl⟩

set_option maxHeartbeats 2000000 in
theorem top_any (base mb g cap n : Nat) (m : M.Mc) (w : World) (h : MachAt w base mb g cap m) (hn : m.s.length = n + 1) (hl : n ≤ 10000) :
    Calls Try.prog 33 #[.pointer (some ⟨mb, 0, none⟩)] w fun r w' => r = .returned m.top.val ∧ Below w.heap.size w w' := by
  obtain ⟨t0, t1, t2⟩ := h.top hn
  have c0 := h.c0
  rw [hn] at c0
  have hlt := h.lt
  have hgl := h.glo.2
  obtain ⟨W, hW⟩ : ∃ W, w.alloc (.cells #[.int .i64 0, .int .i64 0, .bool false] 65) = W := ⟨_, rfl⟩
  have hb : Below w.heap.size w W := by rw [← hW]; exact (Below.refl _ _).alloc (Nat.le_refl _) _
  have k0 := (hb.cell (p := ⟨mb, 0, none⟩) hlt).trans c0
  have k1 := (hb.cell (p := ⟨g, n * 3, none⟩) hgl).trans t0
  have k2 := (hb.cell (p := ⟨g, n * 3 + 1, none⟩) hgl).trans t1
  have k3 := (hb.cell (p := ⟨g, n * 3 + 2, none⟩) hgl).trans t2
  have z0 : W.cell? ⟨w.heap.size, 0, none⟩ = some (.int .i64 0) := by rw [← hW]; simp [go_sem]
  have z1 : W.cell? ⟨w.heap.size, 1, none⟩ = some (.int .i64 0) := by rw [← hW]; simp [go_sem]
  have z2 : W.cell? ⟨w.heap.size, 2, none⟩ = some (.bool false) := by rw [← hW]; simp [go_sem]
  have y0 : W.frozen? ⟨w.heap.size, 0, none⟩ = false := by rw [← hW]; simp [go_sem]
  have y1 : W.frozen? ⟨w.heap.size, 1, none⟩ = false := by rw [← hW]; simp [go_sem]
  have y2 : W.frozen? ⟨w.heap.size, 2, none⟩ = false := by rw [← hW]; simp [go_sem]
  have HB := Lib.hid hb
  have hn0 : (0 : Int) ≤ (n : Int) := by omega
  have hn1 : (n : Int) ≤ 10000 := by omega
  have hn2 : (n : Int) < (n : Int) + 1 := by omega
  have hn3 : n < n + 1 := by omega
  have hw1 : IntKind.i64.wrap ((n : Int) + 1 - 1) = (n : Int) := by rw [IntKind.wrap_i64]; omega
  have hw2 : IntKind.i64.wrap (n : Int) = (n : Int) := by rw [IntKind.wrap_i64]; omega
  clear h hn c0 t0 t1 t2 hb hlt hgl
  go_enter Try.func33, Try.ntmps33
  go_wp2_with fail
  go_still_tail 12, (by kernel_rfl)
  change wpList _ _ _ _ _ W.drew
  have HB1 := Lib.hid HB.out.drew
  go_wp2_with fail
  refine bodyPost_ret (v := m.top.val) (by simp [results, Try.results33, go_sem, M.Ent.val, z0, z1, z2]) rfl ⟨rfl, ?_⟩
  exact (((HB.out.setCell (p := ⟨w.heap.size, 0, none⟩) (Nat.le_refl _) _).setCell (p := ⟨w.heap.size, 1, none⟩) (Nat.le_refl _) _).setCell (p := ⟨w.heap.size, 2, none⟩) (Nat.le_refl _) _).drew
end Go.Proofs.Ytdipaiflfhdpoaa
