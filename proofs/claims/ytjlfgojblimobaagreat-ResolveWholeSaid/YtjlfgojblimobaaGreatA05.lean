/- The program's walk in memory: its block, its row of entries, what keeps others, and the steps that turn it. No function of the program is walked here. -/
/- The contracts of the walk's top, next and pop, and of a scalar's sided. Condition: the walk is right, its top's level from 0 to 125. -/
/- The contract of the walk's push: an entry is laid on, if there is room. Condition: the walk is right, its stack small. -/
/- The contract of the walk's asked: the entry that a class asks for. Condition: the walk is right, its top's level from 0 to 125. -/
import Derived.Test.YtjlfgojblimobaaGreatA03
import Derived.Test.YtjlfgojblimobaaGreatA04
import Derived.Deep.DrawnRows
import Derived.Deep.RegionLaw
import Derived.Deep.RegionHeld3
section
namespace Go.Proofs.YtjlfgojblimobaaGreat
open Go.RowKit

def M.ovc (x : Int) : Int := if x = 13 then -1 else x
def M.Ent.cellsC (e : M.Ent) : List Value := [.int .i64 e.lv, .int .i64 (M.ovc e.ov), .bool e.iso]
def cellsC (l : List M.Ent) : List Value := l.flatMap M.Ent.cellsC
theorem cellsC_snoc (l : List M.Ent) (e : M.Ent) : cellsC (l ++ [e]) = cellsC l ++ e.cellsC := by simp [cellsC]
theorem cellsC_length (l : List M.Ent) : (cellsC l).length = l.length * 3 := by
  induction l with
  | nil => rfl
  | cons e r ih => simp [cellsC, M.Ent.cellsC] at ih ⊢; omega
theorem Tryz.infoEntC : (Tryz.prog.info? 109).map (fun i => (i.zero, i.size, i.bytes)) = some (some (.agg #[.int .i64 0, .int .i64 0, .bool false]), 3, 24) := by kernel_rfl
theorem cellsC_at {l : List M.Ent} {j : Nat} {e : M.Ent} (h : l[j]? = some e) (k : Nat) (hk : k < 3) : (cellsC l)[j * 3 + k]? = e.cellsC[k]? := by
  induction l generalizing j with
  | nil => simp at h
  | cons x r ih =>
    have hx : x.cellsC.length = 3 := rfl
    show (x.cellsC ++ cellsC r)[j * 3 + k]? = _
    cases j with
    | zero =>
      simp at h
      subst h
      rw [List.getElem?_append_left (by rw [hx]; omega)]
      simp
    | succ j =>
      simp at h
      rw [List.getElem?_append_right (by rw [hx]; omega), hx, ← ih h]
      congr 1
      omega
def OwnC (w : World) (base g n cap : Nat) (l : List M.Ent) : Prop := w.ownsRow base 109 3 (.slice (some ⟨g, 0, none⟩) n cap) n (cellsC l)
structure WalkAt (w : World) (base mb g cap : Nat) (b : Int) (m : M.Mc) : Prop where
  c0 : w.cell? ⟨mb, 0, none⟩ = some (.int .i64 b)
  c1 : w.cell? ⟨mb, 1, none⟩ = some (.slice (some ⟨g, 0, none⟩) m.s.length cap)
  c2 : w.cell? ⟨mb, 2, none⟩ = some (.int .i64 m.v)
  c3 : w.cell? ⟨mb, 3, none⟩ = some (.int .i64 m.o)
  c4 : w.cell? ⟨mb, 4, none⟩ = some (.int .i64 m.e)
  f : ∀ k, k < 5 → w.frozen? ⟨mb, k, none⟩ = false
  row : OwnC w base g m.s.length cap m.s.reverse
  lo : base ≤ mb
  lt : mb < w.heap.size
  ne : mb ≠ g
section
variable {w w' w3 : World} {base mb g cap : Nat} {b : Int} {m : M.Mc}
theorem WalkAt.glo (h : WalkAt w base mb g cap b m) : base ≤ g ∧ g < w.heap.size := World.ownsRow.lt h.row g rfl
theorem WalkAt.room (h : WalkAt w base mb g cap b m) : m.s.length ≤ cap ∧ cap ≤ maxLen := by
  rcases h.row.2 with ⟨h0, _⟩ | ⟨g', cap', cur, hv, _, _, hn, hm, _⟩
  · cases h0
  · cases hv
    exact ⟨hn, hm⟩
theorem WalkAt.same (h : WalkAt w base mb g cap b m) (hs : w.heap.size ≤ w'.heap.size) (h1 : w'.heap[mb]? = w.heap[mb]?) (h2 : w'.heap[g]? = w.heap[g]?) : WalkAt w' base mb g cap b m := by
  obtain ⟨c0, c1, c2, c3, c4, f, row, lo, lt, ne⟩ := h
  have C := fun (k : Nat) => World.cell?_of_block (a := ⟨mb, k, none⟩) h1
  have F := fun (k : Nat) => World.frozen?_of_block (a := ⟨mb, k, none⟩) h1
  exact ⟨(C 0).trans c0, (C 1).trans c1, (C 2).trans c2, (C 3).trans c3, (C 4).trans c4, fun k hk => (F k).trans (f k hk),
    row_same row (fun q hq => by simp [Value.ownBlock] at hq; subst hq; exact h2), lo, Nat.lt_of_lt_of_le lt hs, ne⟩
theorem WalkAt.below (h : WalkAt w base mb g cap b m) (hb : Below w.heap.size w w') : WalkAt w' base mb g cap b m :=
  h.same hb.size (hb.block mb h.lt) (hb.block g h.glo.2)
theorem WalkAt.top (h : WalkAt w base mb g cap b m) {n : Nat} (hn : m.s.length = n + 1) :
    w.cell? ⟨g, n * 3, none⟩ = some (.int .i64 m.top.lv) ∧ w.cell? ⟨g, n * 3 + 1, none⟩ = some (.int .i64 (M.ovc m.top.ov)) ∧ w.cell? ⟨g, n * 3 + 2, none⟩ = some (.bool m.top.iso) := by
  have hrow := h.row
  have hj : m.s.reverse[n]? = some m.top := by
    cases hs : m.s with
    | nil => rw [hs] at hn; simp at hn
    | cons t r =>
      rw [hs] at hn
      simp at hn
      subst hn
      unfold M.Mc.top
      rw [hs]
      simp
  have c := fun k (hk : k < 3) u (hu : m.top.cellsC[k]? = some u) => World.ownsRow.cells hrow rfl (n * 3 + k) u (by rw [cellsC_at hj k hk]; exact hu)
  simp only [addr0_add] at c
  exact ⟨c 0 (by omega) _ rfl, c 1 (by omega) _ rfl, c 2 (by omega) _ rfl⟩
def WalkOut (base mb g : Nat) (b : Int) (m : M.Mc) (w : World) (w' : World) : Prop := ∃ g' cap', WalkAt w' base mb g' cap' b m ∧ Spun w w' mb g g'
theorem rowC_set {n k : Nat} {l : List M.Ent} (h : OwnC w base g n cap l) (hne : mb ≠ g) (u : Value) : OwnC (w.setCell ⟨mb, k, none⟩ u) base g n cap l :=
  ownsRow_setCell_other h (by simp [Value.ownBlock]; exact fun e => hne e.symm) u
theorem WalkAt.setV (h : WalkAt w base mb g cap b m) (x : Int) : WalkAt (w.setCell ⟨mb, 2, none⟩ (.int .i64 x)) base mb g cap b { m with v := x } := by
  obtain ⟨c0, c1, c2, c3, c4, f, row, lo, lt, ne⟩ := h
  refine ⟨?_, ?_, World.cell?_setCell_same _ _ _ c2, ?_, ?_, fun k hk => by rw [World.frozen?_setCell]; exact f k hk, rowC_set row ne _, lo, by simpa [World.setCell] using lt, ne⟩
  all_goals (rw [World.cell?_setCell_other _ _ _ _ (off_ne (by omega))]; assumption)
theorem WalkAt.setO (h : WalkAt w base mb g cap b m) (x : Int) : WalkAt (w.setCell ⟨mb, 3, none⟩ (.int .i64 x)) base mb g cap b { m with o := x } := by
  obtain ⟨c0, c1, c2, c3, c4, f, row, lo, lt, ne⟩ := h
  refine ⟨?_, ?_, ?_, World.cell?_setCell_same _ _ _ c3, ?_, fun k hk => by rw [World.frozen?_setCell]; exact f k hk, rowC_set row ne _, lo, by simpa [World.setCell] using lt, ne⟩
  all_goals (rw [World.cell?_setCell_other _ _ _ _ (off_ne (by omega))]; assumption)
theorem WalkAt.setE (h : WalkAt w base mb g cap b m) (x : Int) : WalkAt (w.setCell ⟨mb, 4, none⟩ (.int .i64 x)) base mb g cap b { m with e := x } := by
  obtain ⟨c0, c1, c2, c3, c4, f, row, lo, lt, ne⟩ := h
  refine ⟨?_, ?_, ?_, ?_, World.cell?_setCell_same _ _ _ c4, fun k hk => by rw [World.frozen?_setCell]; exact f k hk, rowC_set row ne _, lo, by simpa [World.setCell] using lt, ne⟩
  all_goals (rw [World.cell?_setCell_other _ _ _ _ (off_ne (by omega))]; assumption)
theorem WalkAt.setS {g' cap' n : Nat} {s' : List M.Ent} (h : WalkAt w base mb g cap b m) (hn : s'.length = n) (hrow : OwnC w base g' n cap' s'.reverse) (hne : mb ≠ g') :
    WalkAt (w.setCell ⟨mb, 1, none⟩ (.slice (some ⟨g', 0, none⟩) n cap')) base mb g' cap' b { m with s := s' } := by
  subst hn
  obtain ⟨c0, c1, c2, c3, c4, f, row, lo, lt, ne⟩ := h
  refine ⟨?_, World.cell?_setCell_same _ _ _ c1, ?_, ?_, ?_, fun k hk => by rw [World.frozen?_setCell]; exact f k hk, rowC_set hrow hne _, lo, by simpa [World.setCell] using lt, hne⟩
  all_goals (rw [World.cell?_setCell_other _ _ _ _ (off_ne (by omega))]; assumption)
theorem WalkAt.drew (h : WalkAt w base mb g cap b m) : WalkAt w.drew base mb g cap b m := ⟨h.c0, h.c1, h.c2, h.c3, h.c4, h.f, h.row, h.lo, h.lt, h.ne⟩
theorem WalkAt.popped {n : Nat} (h : WalkAt w base mb g cap b m) (hn : m.s.length = n + 1) :
    WalkAt (w.setCell ⟨mb, 1, none⟩ (.slice (some ⟨g, 0, none⟩) n cap)) base mb g cap b { m with s := m.s.tail } := by
  obtain ⟨s, o, e, v⟩ := m
  cases s with
  | nil => cases hn
  | cons t r =>
    have hn' : r.length = n := by simpa using hn
    subst hn'
    refine h.setS (s' := r) rfl ?_ h.ne
    have q : OwnC w base g (r.length + 1) cap (t :: r).reverse := h.row
    rw [List.reverse_cons] at q
    unfold OwnC at q ⊢
    rw [cellsC_snoc] at q
    exact ownsRow_pop (by rw [cellsC_length, List.length_reverse]) q
theorem pushedC_block {o : Obj} (h : WalkAt w base mb g cap b m) (hg : (w.alloc o).grownBy w3 (some g)) : w3.heap[mb]? = w.heap[mb]? := by
  have hlt := h.lt
  have hne := h.ne
  exact (hg.block mb (by simp; omega) (fun e => hne (Option.some.inj e))).trans (Below.heap_alloc _ _ _ hlt)
theorem WalkAt.pushed {g2 cap2 n : Nat} {o : Obj} {s' : List M.Ent} (h : WalkAt w base mb g cap b m) (hg : (w.alloc o).grownBy w3 (some g)) (hn : s'.length = n)
    (hrow : OwnC w3 base g2 n cap2 s'.reverse) (hat : some g = some g2 ∨ g2 = w.heap.size + 1) :
    WalkAt (w3.setCell ⟨mb, 1, none⟩ (.slice (some ⟨g2, 0, none⟩) n cap2)) base mb g2 cap2 b { m with s := s' } ∧ Spun w (w3.setCell ⟨mb, 1, none⟩ (.slice (some ⟨g2, 0, none⟩) n cap2)) mb g g2 := by
  subst hn
  have hb := pushedC_block h hg
  obtain ⟨c0, c1, c2, c3, c4, f, row, lo, lt, ne⟩ := h
  have hsz : w.heap.size + 1 ≤ w3.heap.size := by simpa using hg.size
  have hne2 : mb ≠ g2 := by
    rcases hat with h1 | h1
    · injection h1 with h1; omega
    · omega
  have C := fun (k : Nat) => World.cell?_of_block (a := ⟨mb, k, none⟩) hb
  have F := fun (k : Nat) => World.frozen?_of_block (a := ⟨mb, k, none⟩) hb
  refine ⟨⟨?_, World.cell?_setCell_same _ _ _ ((C 1).trans c1), ?_, ?_, ?_, fun k hk => by rw [World.frozen?_setCell]; exact (F k).trans (f k hk), rowC_set hrow hne2 _, lo, by simp [World.setCell]; omega, hne2⟩, ?_⟩
  · rw [World.cell?_setCell_other _ _ _ _ (off_ne (by omega))]; exact (C 0).trans c0
  · rw [World.cell?_setCell_other _ _ _ _ (off_ne (by omega))]; exact (C 2).trans c2
  · rw [World.cell?_setCell_other _ _ _ _ (off_ne (by omega))]; exact (C 3).trans c3
  · rw [World.cell?_setCell_other _ _ _ _ (off_ne (by omega))]; exact (C 4).trans c4
  · refine Spun.setCell (w := w) (w' := w3) ⟨hg.os, hg.tape, hg.output, by omega, fun b hb1 _ h2 => ?_, ?_⟩ 1 _
    · exact (hg.block b (by simp; omega) (fun e => h2 (Option.some.inj e))).trans (Below.heap_alloc _ _ _ hb1)
    · rcases hat with h1 | h1
      · injection h1 with h1; exact .inl h1.symm
      · exact .inr (by omega)
end
theorem entC_cells (w : World) (lv ov : Int) (iso : Bool) (e : M.Ent) (he : e.cellsC = [.int .i64 lv, .int .i64 ov, .bool iso]) (t : TypeId) : ∀ j u, e.cellsC[j]? = some u → (w.alloc (.cells #[.int .i64 lv, .int .i64 ov, .bool iso] t)).cell? ((⟨w.heap.size, 0, none⟩ : Addr).add j) = some u := by
  intro j u hj
  rw [he] at hj
  match j, hj with
  | 0, hj => simp at hj; subst hj; simp [Addr.add, go_sem]
  | 1, hj => simp at hj; subst hj; simp [Addr.add, go_sem]
  | 2, hj => simp at hj; subst hj; simp [Addr.add, go_sem]
theorem entC_one (e : M.Ent) : ∀ u ∈ e.cellsC, u.oneCell' = true := by
  intro u hu
  simp [M.Ent.cellsC] at hu
  rcases hu with rfl | rfl | rfl <;> rfl
end Go.Proofs.YtjlfgojblimobaaGreat
end

section
namespace Go.Proofs.YtjlfgojblimobaaGreat
open Go.RowKit
set_option maxRecDepth 100000

set_option maxHeartbeats 2000000 in
theorem ctop_any (base mb g cap n : Nat) (b : Int) (m : M.Mc) (w : World) (h : WalkAt w base mb g cap b m) (hn : m.s.length = n + 1) (hl : n ≤ 10000) :
    Calls Tryz.prog 67 #[.pointer (some ⟨mb, 0, none⟩)] w fun r w' => r = .returned (.agg #[.int .i64 m.top.lv, .int .i64 (M.ovc m.top.ov), .bool m.top.iso]) ∧ Below w.heap.size w w' := by
  obtain ⟨t0, t1, t2⟩ := h.top hn
  have c0 := h.c1
  rw [hn] at c0
  have hlt := h.lt
  have hgl := h.glo.2
  obtain ⟨W, hW⟩ : ∃ W, w.alloc (.cells #[.int .i64 0, .int .i64 0, .bool false] 109) = W := ⟨_, rfl⟩
  have hb : Below w.heap.size w W := by rw [← hW]; exact (Below.refl _ _).alloc (Nat.le_refl _) _
  have k0 := (hb.cell (p := ⟨mb, 1, none⟩) hlt).trans c0
  have k1 := (hb.cell (p := ⟨g, n * 3, none⟩) hgl).trans t0
  have k2 := (hb.cell (p := ⟨g, n * 3 + 1, none⟩) hgl).trans t1
  have k3 := (hb.cell (p := ⟨g, n * 3 + 2, none⟩) hgl).trans t2
  have z0 : W.cell? ⟨w.heap.size, 0, none⟩ = some (.int .i64 0) := by rw [← hW]; simp [go_sem]
  have z1 : W.cell? ⟨w.heap.size, 1, none⟩ = some (.int .i64 0) := by rw [← hW]; simp [go_sem]
  have z2 : W.cell? ⟨w.heap.size, 2, none⟩ = some (.bool false) := by rw [← hW]; simp [go_sem]
  have y0 : W.frozen? ⟨w.heap.size, 0, none⟩ = false := by rw [← hW]; simp [go_sem]
  have y1 : W.frozen? ⟨w.heap.size, 1, none⟩ = false := by rw [← hW]; simp [go_sem]
  have y2 : W.frozen? ⟨w.heap.size, 2, none⟩ = false := by rw [← hW]; simp [go_sem]
  have HB := Lib.hid hb
  have hn0 : (0 : Int) ≤ (n : Int) := by omega
  have hn1 : (n : Int) ≤ 10000 := by omega
  have hn2 : (n : Int) < (n : Int) + 1 := by omega
  have hn3 : n < n + 1 := by omega
  have hw1 : IntKind.i64.wrap ((n : Int) + 1 - 1) = (n : Int) := by rw [IntKind.wrap_i64]; omega
  have hw2 : IntKind.i64.wrap (n : Int) = (n : Int) := by rw [IntKind.wrap_i64]; omega
  obtain ⟨v1, hv1⟩ : ∃ v, M.ovc m.top.ov = v := ⟨_, rfl⟩
  rw [hv1] at k2 ⊢
  clear h hn c0 t0 t1 t2 hb hlt hgl hv1
  go_enter Tryz.func67, Tryz.ntmps67
  go_wp2_with fail
  go_still_tail 12, (by kernel_rfl)
  change wpList _ _ _ _ _ W.drew
  have HB1 := Lib.hid HB.out.drew
  go_wp2_with fail
  refine bodyPost_ret (v := .agg #[.int .i64 m.top.lv, .int .i64 v1, .bool m.top.iso]) (by simp [results, Tryz.results67, go_sem, z0, z1, z2]) rfl ⟨rfl, ?_⟩
  exact (((HB.out.setCell (p := ⟨w.heap.size, 0, none⟩) (Nat.le_refl _) _).setCell (p := ⟨w.heap.size, 1, none⟩) (Nat.le_refl _) _).setCell (p := ⟨w.heap.size, 2, none⟩) (Nat.le_refl _) _).drew

theorem next_two {a odd : Int} (_h0 : 0 ≤ a) (h1 : odd = 0 ∨ odd = 1) : (a + 1) + ((a + 1) + odd) % 2 = if (a + 1) % 2 ≠ odd then a + 1 + 1 else a + 1 := by
  split <;> omega
set_option maxHeartbeats 2000000 in
theorem cnext_any (base mb g cap n : Nat) (b : Int) (m : M.Mc) (odd : Int) (w : World) (h : WalkAt w base mb g cap b m) (hn : m.s.length = n + 1) (hl : n ≤ 10000) (h0 : 0 ≤ m.top.lv) (h1 : m.top.lv ≤ 125) (ho : odd = 0 ∨ odd = 1) :
    Calls Tryz.prog 131 #[.pointer (some ⟨mb, 0, none⟩), .int .i64 odd] w fun r w' => r = .returned (.int .i64 (m.next odd)) ∧ Below w.heap.size w w' := by
  have HT := Lib.hid (ctop_any base mb g cap n b m w h hn hl)
  obtain ⟨lv, hlv⟩ : ∃ x, m.top.lv = x := ⟨_, rfl⟩
  obtain ⟨ov, hov⟩ : ∃ x, M.ovc m.top.ov = x := ⟨_, rfl⟩
  obtain ⟨iso, hiso⟩ : ∃ x, m.top.iso = x := ⟨_, rfl⟩
  have HN := Lib.hid (show m.next odd = (lv + 1) + ((lv + 1) + odd) % 2 by rw [next_two (by omega) ho, ← hlv]; rfl)
  rw [hlv, hov, hiso] at HT
  rw [hlv] at h0 h1
  have ho1 : 0 ≤ odd ∧ odd ≤ 1 := by omega
  obtain ⟨ho1, ho2⟩ := ho1
  have hw1 : IntKind.i64.wrap (lv + 1) = lv + 1 := by rw [IntKind.wrap_i64]; omega
  have hw2 : IntKind.i64.wrap (lv + 1 + odd) = lv + 1 + odd := by rw [IntKind.wrap_i64]; omega
  have hw3 : IntKind.i64.wrap ((lv + 1 + odd).tmod 2) = (lv + 1 + odd) % 2 := by rw [Int.tmod_eq_emod_of_nonneg (by omega), IntKind.wrap_i64]; omega
  have hw4 : IntKind.i64.wrap (lv + 1 + (lv + 1 + odd) % 2) = lv + 1 + (lv + 1 + odd) % 2 := by rw [IntKind.wrap_i64]; omega
  have hf : ∀ w : World, (Instr.field 109 (.agg #[.int .i64 lv, .int .i64 ov, .bool iso]) 0).run Tryz.prog w = .ok (.int .i64 lv) w := fun w => by kernel_rfl
  clear h hn hlv hov hiso ho
  go_enter Tryz.func131, Tryz.ntmps131
  go_wp2_with fail
  refine HT.out.mono ?_
  rintro r w1 ⟨rfl, hb⟩
  have HB := Lib.hid hb
  clear hb
  go_wp2_with fail
  go_ret
  exact ⟨by rw [HN.out]; rfl, HB.out⟩

set_option maxHeartbeats 2000000 in
theorem cpop_any (base mb g cap n : Nat) (b : Int) (m : M.Mc) (w : World) (h : WalkAt w base mb g cap b m) (hn : m.s.length = n + 1) (hl : n ≤ 10000) :
    Calls Tryz.prog 106 #[.pointer (some ⟨mb, 0, none⟩)] w fun r w' => r = .returned (.tuple #[]) ∧ WalkAt w' base mb g cap b { m with s := m.s.tail } ∧ Spun w w' mb g g := by
  have k0 := h.c1
  have k4 := h.f 1 (by omega)
  have hroom := h.room
  rw [hn] at k0 hroom
  obtain ⟨hc1, hc2⟩ := hroom
  have hw1 : IntKind.i64.wrap ((n : Int) + 1 - 1) = (n : Int) := by rw [IntKind.wrap_i64]; omega
  have hw2 : IntKind.i64.wrap (n : Int) = (n : Int) := by rw [IntKind.wrap_i64]; omega
  have hc3 : (n : Int) ≤ (cap : Int) := by omega
  have hc4 : n ≤ cap := by omega
  have hn0 : (0 : Int) ≤ (n : Int) := by omega
  have HP := Lib.hid (h.drew.popped hn)
  have k0' : w.drew.cell? ⟨mb, 1, none⟩ = some (.slice (some ⟨g, 0, none⟩) (n + 1) cap) := k0
  clear h hn
  go_enter Tryz.func106, Tryz.ntmps106
  go_wp2_with fail
  go_still_tail 14, (by kernel_rfl)
  change wpList _ _ _ _ _ w.drew
  go_wp2_with fail
  go_returns
  exact ⟨rfl, HP.out, (Spun.refl _ _ _).drew.setCell 1 _⟩

def M.sidedC (c f : Int) : Int := if c ≠ 21 then c else if f = 1 then 20 else 19
theorem csided_any (c f : Int) (w : World) :
    Calls Tryz.prog 105 #[.agg #[.int .i64 c, .int .i64 f]] w fun r w' => r = .returned (.int .i64 (M.sidedC c f)) ∧ Below w.heap.size w w' := by
  have H := Lib.hid (show M.sidedC c f = if c ≠ 21 then c else if f = 1 then 20 else 19 from rfl)
  go_enter Tryz.func105, Tryz.ntmps105
  go_wp2_with fail
  all_goals
    go_ret
    exact ⟨ret_int (by rw [H.out]; simp_all), (Below.refl _ _).alloc (Nat.le_refl _) _⟩
end Go.Proofs.YtjlfgojblimobaaGreat
end

section
namespace Go.Proofs.YtjlfgojblimobaaGreat
open Go.RowKit
set_option maxRecDepth 100000
attribute [local go_sem ↓] Go.wp_at_zero Go.wp_at_succ

def M.Mc.roomE (m : M.Mc) (lv : Int) : Bool := !(decide (125 < lv) || (decide (0 < m.o) || decide (0 < m.e)))
def M.Mc.pushM (m : M.Mc) (e : M.Ent) : M.Mc := if m.roomE e.lv = true then { m with s := e :: m.s } else m
def PushOut (base mb g : Nat) (b : Int) (m : M.Mc) (e : M.Ent) (w : World) (r : Ending) (w' : World) : Prop := r = .returned (.bool (m.roomE e.lv)) ∧ WalkOut base mb g b (m.pushM e) w w'
set_option maxHeartbeats 4000000 in
theorem cpush_any (base mb g cap n : Nat) (b : Int) (m : M.Mc) (lv ov : Int) (iso : Bool) (e : M.Ent) (he : e.cellsC = [.int .i64 lv, .int .i64 ov, .bool iso]) (helv : e.lv = lv) (w : World) (h : WalkAt w base mb g cap b m) (hn : m.s.length = n + 1) (hl : n ≤ 10000) :
    Calls Tryz.prog 103 #[.pointer (some ⟨mb, 0, none⟩), .agg #[.int .i64 lv, .int .i64 ov, .bool iso]] w (PushOut base mb g b m e w) := by
  obtain ⟨i0, hi, hz0, hz1, hz2⟩ := info_parts Tryz.infoEntC
  obtain ⟨W, hW⟩ : ∃ W, w.alloc (.cells #[.int .i64 lv, .int .i64 ov, .bool iso] 109) = W := ⟨_, rfl⟩
  have hb : Below w.heap.size w W := by rw [← hW]; exact (Below.refl _ _).alloc (Nat.le_refl _) _
  have hWs : W.heap.size = w.heap.size + 1 := by rw [← hW]; simp
  have h1 := h.below hb
  obtain ⟨O, hO⟩ : ∃ O, m.o = O := ⟨_, rfl⟩
  obtain ⟨E, hE⟩ : ∃ E, m.e = E := ⟨_, rfl⟩
  have k0 := h1.c1
  have k3 := h1.c3
  have k4 := h1.c4
  have y1 := h1.f 1 (by omega)
  rw [hn] at k0
  rw [hO] at k3
  rw [hE] at k4
  have z0 : W.cell? ⟨w.heap.size, 0, none⟩ = some (.int .i64 lv) := by rw [← hW]; simp [go_sem]
  have z1 : W.cell? ⟨w.heap.size, 1, none⟩ = some (.int .i64 ov) := by rw [← hW]; simp [go_sem]
  have z2 : W.cell? ⟨w.heap.size, 2, none⟩ = some (.bool iso) := by rw [← hW]; simp [go_sem]
  have HR := Lib.hid (show m.roomE e.lv = !(decide (125 < lv) || (decide (0 < O) || decide (0 < E))) by rw [helv, ← hO, ← hE]; rfl)
  have HP := Lib.hid (show m.pushM e = if m.roomE e.lv = true then { m with s := e :: m.s } else m from rfl)
  have H1 := Lib.hid h1
  have HB := Lib.hid hb
  have HN := Lib.hid hn
  have HE := Lib.hid he
  have HWS := Lib.hid hWs
  have hbm : base ≤ w.heap.size := by have := h.lo; have := h.lt; omega
  have hmw : mb < w.heap.size := h.lt
  clear h h1 hn hO hE hb he helv hWs
  go_enter Tryz.func103, Tryz.ntmps103
  by_cases c1 : 125 < lv
  · have hr : m.roomE e.lv = false := by rw [HR.out]; simp [c1]
    rw [hr, if_neg (by simp)] at HP
    go_wp2_with fail
    go_ret
    exact ⟨by rw [hr]; rfl, by rw [HP.out]; exact ⟨g, cap, H1.out, Spun.of_below HB.out mb g⟩⟩
  · by_cases c2 : 0 < O
    · have hr : m.roomE e.lv = false := by rw [HR.out]; simp [c2]
      rw [hr, if_neg (by simp)] at HP
      go_wp2_with fail
      go_ret
      exact ⟨by rw [hr]; rfl, by rw [HP.out]; exact ⟨g, cap, H1.out, Spun.of_below HB.out mb g⟩⟩
    · by_cases c3 : 0 < E
      · have hr : m.roomE e.lv = false := by rw [HR.out]; simp [c3]
        rw [hr, if_neg (by simp)] at HP
        go_wp2_with fail
        go_ret
        exact ⟨by rw [hr]; rfl, by rw [HP.out]; exact ⟨g, cap, H1.out, Spun.of_below HB.out mb g⟩⟩
      · have hr : m.roomE e.lv = true := by rw [HR.out]; simp [c1, c2, c3]
        rw [hr, if_pos rfl] at HP
        have Hr := Lib.hid hr
        clear hr
        have H2 := Lib.hid H1.out.drew
        have hWb : base ≤ W.heap.size := by have := HWS.out; omega
        have hmW : mb < W.heap.size := by have := HWS.out; omega
        have hwW : w.heap.size < W.heap.size := by have := HWS.out; omega
        go_wp2_with fail
        go_region_law ((refine step_append_lies _ (by rfl) _ _ _ (by rfl) base 109 i0 _ 3 24 Tryz.underlying110 hi hz0 hz1 hz2 rfl (by decide) _ _ _ (by rfl) ((World.ownsRow.alloc (HN.out ▸ H1.out.row) _).drew) ⟨W.heap.size, 0, none⟩ 1 1 (M.Ent.cellsC e) (by rfl) (by rfl) (entC_cells _ lv ov iso e HE.out _) (entC_one e) (by omega) (by unfold maxLen; omega) (by omega) (by simp; omega) (W.heap.size + 1) (by simp) ?_; intro gg cap2 w3 hown hgrow hat hlt; have hp := pushedC_block (o := .cells #[.int .i64 lv, .int .i64 ov, .bool iso] 109) H2.out hgrow; have x0 := (World.cell?_of_block (a := ⟨mb, 1, none⟩) hp).trans k0; have x1 := (World.frozen?_of_block (a := ⟨mb, 1, none⟩) hp).trans y1))
        all_goals
          have HQ := Lib.hid (WalkAt.pushed (s' := e :: m.s) (o := .cells #[.int .i64 lv, .int .i64 ov, .bool iso] 109) H2.out hgrow (by rw [List.length_cons, HN.out]) (by rw [List.reverse_cons]; unfold OwnC; rw [cellsC_snoc]; exact hown) hat)
          clear hown hgrow hat hlt hp x0 x1 k0 k3 k4 y1 z0 z1 z2
          go_wp2_with fail
          go_ret
          refine ⟨by rw [Hr.out]; rfl, ?_⟩
          rw [HP.out]
          exact ⟨_, _, HQ.out.1, (Spun.of_below HB.out mb g).drew.trans HQ.out.2⟩
end Go.Proofs.YtjlfgojblimobaaGreat
end

section
namespace Go.Proofs.YtjlfgojblimobaaGreat
open Go.RowKit
set_option maxRecDepth 100000

theorem old_cells {W w1 : World} (hb : Below W.heap.size W w1) : (∀ b o, b < W.heap.size → w1.cell? ⟨b, o, none⟩ = W.cell? ⟨b, o, none⟩) ∧ (∀ b o, b < W.heap.size → w1.frozen? ⟨b, o, none⟩ = W.frozen? ⟨b, o, none⟩) :=
  ⟨fun b o h => hb.cell (p := ⟨b, o, none⟩) h, fun b o h => hb.frozen (p := ⟨b, o, none⟩) h⟩
def M.asks (c odd ov : Int) (iso : Bool) : Prop := (c = 17 ∧ odd = 1 ∧ ov = 1 ∧ iso = false) ∨ (c = 16 ∧ odd = 1 ∧ ov = -1 ∧ iso = false) ∨ (c = 15 ∧ odd = 0 ∧ ov = 0 ∧ iso = false) ∨ (c = 14 ∧ odd = 0 ∧ ov = -1 ∧ iso = false) ∨ (c = 20 ∧ odd = 1 ∧ ov = -1 ∧ iso = true) ∨ (c = 19 ∧ odd = 0 ∧ ov = -1 ∧ iso = true)
set_option maxHeartbeats 4000000 in
theorem casked_any (base mb g cap n : Nat) (b : Int) (m : M.Mc) (c odd ov : Int) (iso : Bool) (hc : M.asks c odd ov iso) (w : World) (h : WalkAt w base mb g cap b m) (hn : m.s.length = n + 1) (hl : n ≤ 10000) (h0 : 0 ≤ m.top.lv) (h1 : m.top.lv ≤ 125) :
    Calls Tryz.prog 104 #[.pointer (some ⟨mb, 0, none⟩), .int .i64 c] w fun r w' => r = .returned (.agg #[.int .i64 (m.next odd), .int .i64 ov, .bool iso]) ∧ Below w.heap.size w w' := by
  have HX := fun odd ho W h => Lib.hid (cnext_any base mb g cap n b m odd W h hn hl h0 h1 ho)
  have HBG := fun w => Lib.hid (cbegins_any c w)
  have HH := Lib.hid h
  clear h hn h0 h1
  rcases hc with ⟨rfl, rfl, rfl, rfl⟩ | ⟨rfl, rfl, rfl, rfl⟩ | ⟨rfl, rfl, rfl, rfl⟩ | ⟨rfl, rfl, rfl, rfl⟩ | ⟨rfl, rfl, rfl, rfl⟩ | ⟨rfl, rfl, rfl, rfl⟩
  · obtain ⟨N, hN⟩ : ∃ N, m.next 1 = N := ⟨_, rfl⟩
    have HY := fun W h => Lib.hid (show Calls Tryz.prog 131 #[.pointer (some ⟨mb, 0, none⟩), .int .i64 1] W fun r w' => r = .returned (.int .i64 N) ∧ Below W.heap.size W w' from by rw [← hN]; exact (HX 1 (by decide) W h).out)
    rw [show M.begins 17 = false from rfl] at HBG
    rw [hN]
    clear hN HX
    go_enter Tryz.func104, Tryz.ntmps104
    go_wp2_with fail
    refine (HBG _).out.mono ?_
    rintro r w0 ⟨rfl, rfl⟩
    go_wp2_with fail
    refine (HY _ (HH.out.below ?_)).out.mono ?_
    · exact ((Below.refl _ _).alloc (Nat.le_refl _) _).alloc (by simp) _
    rintro r w1 ⟨rfl, hb⟩
    have HB : Hid (Below w.heap.size w w1) := by
      refine Lib.hid (Below.trans ?_ (hb.mono ?_))
      · exact ((Below.refl _ _).alloc (Nat.le_refl _) _).alloc (by simp) _
      · simp; omega
    obtain ⟨hcc, hcf⟩ := old_cells hb
    have z0 : w1.cell? ⟨w.heap.size, 0, none⟩ = some (.int .i64 0) := by rw [hcc _ _ (by simp; omega)]; simp [go_sem]
    have y0 : w1.frozen? ⟨w.heap.size, 0, none⟩ = false := by rw [hcf _ _ (by simp; omega)]; simp [go_sem]
    have z1 : w1.cell? ⟨w.heap.size, 1, none⟩ = some (.int .i64 0) := by rw [hcc _ _ (by simp; omega)]; simp [go_sem]
    have y1 : w1.frozen? ⟨w.heap.size, 1, none⟩ = false := by rw [hcf _ _ (by simp; omega)]; simp [go_sem]
    have z2 : w1.cell? ⟨w.heap.size, 2, none⟩ = some (.bool false) := by rw [hcc _ _ (by simp; omega)]; simp [go_sem]
    have y2 : w1.frozen? ⟨w.heap.size, 2, none⟩ = false := by rw [hcf _ _ (by simp; omega)]; simp [go_sem]
    have q0 : w1.cell? ⟨w.heap.size + 1, 0, none⟩ = some (.int .i64 0) := by rw [hcc _ _ (by simp)]; simp [go_sem]
    have p0 : w1.frozen? ⟨w.heap.size + 1, 0, none⟩ = false := by rw [hcf _ _ (by simp)]; simp [go_sem]
    have q1 : w1.cell? ⟨w.heap.size + 1, 1, none⟩ = some (.int .i64 (1)) := by rw [hcc _ _ (by simp)]; simp [go_sem]
    have p1 : w1.frozen? ⟨w.heap.size + 1, 1, none⟩ = false := by rw [hcf _ _ (by simp)]; simp [go_sem]
    have q2 : w1.cell? ⟨w.heap.size + 1, 2, none⟩ = some (.bool false) := by rw [hcc _ _ (by simp)]; simp [go_sem]
    have p2 : w1.frozen? ⟨w.heap.size + 1, 2, none⟩ = false := by rw [hcf _ _ (by simp)]; simp [go_sem]
    clear hb hcc hcf
    go_wp2_with fail
    refine bodyPost_ret (v := .agg #[.int .i64 N, .int .i64 (1), .bool false]) (by simp [results, Tryz.results104, go_sem, z0, z1, z2]) rfl ⟨rfl, ?_⟩
    exact (((HB.out.setCell (p := ⟨w.heap.size + 1, 0, none⟩) (Nat.le_succ _) _).setCell (p := ⟨w.heap.size, 0, none⟩) (Nat.le_refl _) _).setCell (p := ⟨w.heap.size, 1, none⟩) (Nat.le_refl _) _).setCell (p := ⟨w.heap.size, 2, none⟩) (Nat.le_refl _) _
  · obtain ⟨N, hN⟩ : ∃ N, m.next 1 = N := ⟨_, rfl⟩
    have HY := fun W h => Lib.hid (show Calls Tryz.prog 131 #[.pointer (some ⟨mb, 0, none⟩), .int .i64 1] W fun r w' => r = .returned (.int .i64 N) ∧ Below W.heap.size W w' from by rw [← hN]; exact (HX 1 (by decide) W h).out)
    rw [show M.begins 16 = false from rfl] at HBG
    rw [hN]
    clear hN HX
    go_enter Tryz.func104, Tryz.ntmps104
    go_wp2_with fail
    refine (HBG _).out.mono ?_
    rintro r w0 ⟨rfl, rfl⟩
    go_wp2_with fail
    refine (HY _ (HH.out.below ?_)).out.mono ?_
    · exact ((Below.refl _ _).alloc (Nat.le_refl _) _).alloc (by simp) _
    rintro r w1 ⟨rfl, hb⟩
    have HB : Hid (Below w.heap.size w w1) := by
      refine Lib.hid (Below.trans ?_ (hb.mono ?_))
      · exact ((Below.refl _ _).alloc (Nat.le_refl _) _).alloc (by simp) _
      · simp; omega
    obtain ⟨hcc, hcf⟩ := old_cells hb
    have z0 : w1.cell? ⟨w.heap.size, 0, none⟩ = some (.int .i64 0) := by rw [hcc _ _ (by simp; omega)]; simp [go_sem]
    have y0 : w1.frozen? ⟨w.heap.size, 0, none⟩ = false := by rw [hcf _ _ (by simp; omega)]; simp [go_sem]
    have z1 : w1.cell? ⟨w.heap.size, 1, none⟩ = some (.int .i64 0) := by rw [hcc _ _ (by simp; omega)]; simp [go_sem]
    have y1 : w1.frozen? ⟨w.heap.size, 1, none⟩ = false := by rw [hcf _ _ (by simp; omega)]; simp [go_sem]
    have z2 : w1.cell? ⟨w.heap.size, 2, none⟩ = some (.bool false) := by rw [hcc _ _ (by simp; omega)]; simp [go_sem]
    have y2 : w1.frozen? ⟨w.heap.size, 2, none⟩ = false := by rw [hcf _ _ (by simp; omega)]; simp [go_sem]
    have q0 : w1.cell? ⟨w.heap.size + 1, 0, none⟩ = some (.int .i64 0) := by rw [hcc _ _ (by simp)]; simp [go_sem]
    have p0 : w1.frozen? ⟨w.heap.size + 1, 0, none⟩ = false := by rw [hcf _ _ (by simp)]; simp [go_sem]
    have q1 : w1.cell? ⟨w.heap.size + 1, 1, none⟩ = some (.int .i64 (-1)) := by rw [hcc _ _ (by simp)]; simp [go_sem]
    have p1 : w1.frozen? ⟨w.heap.size + 1, 1, none⟩ = false := by rw [hcf _ _ (by simp)]; simp [go_sem]
    have q2 : w1.cell? ⟨w.heap.size + 1, 2, none⟩ = some (.bool false) := by rw [hcc _ _ (by simp)]; simp [go_sem]
    have p2 : w1.frozen? ⟨w.heap.size + 1, 2, none⟩ = false := by rw [hcf _ _ (by simp)]; simp [go_sem]
    clear hb hcc hcf
    go_wp2_with fail
    refine bodyPost_ret (v := .agg #[.int .i64 N, .int .i64 (-1), .bool false]) (by simp [results, Tryz.results104, go_sem, z0, z1, z2]) rfl ⟨rfl, ?_⟩
    exact (((HB.out.setCell (p := ⟨w.heap.size + 1, 0, none⟩) (Nat.le_succ _) _).setCell (p := ⟨w.heap.size, 0, none⟩) (Nat.le_refl _) _).setCell (p := ⟨w.heap.size, 1, none⟩) (Nat.le_refl _) _).setCell (p := ⟨w.heap.size, 2, none⟩) (Nat.le_refl _) _
  · obtain ⟨N, hN⟩ : ∃ N, m.next 0 = N := ⟨_, rfl⟩
    have HY := fun W h => Lib.hid (show Calls Tryz.prog 131 #[.pointer (some ⟨mb, 0, none⟩), .int .i64 0] W fun r w' => r = .returned (.int .i64 N) ∧ Below W.heap.size W w' from by rw [← hN]; exact (HX 0 (by decide) W h).out)
    rw [show M.begins 15 = false from rfl] at HBG
    rw [hN]
    clear hN HX
    go_enter Tryz.func104, Tryz.ntmps104
    go_wp2_with fail
    refine (HBG _).out.mono ?_
    rintro r w0 ⟨rfl, rfl⟩
    go_wp2_with fail
    refine (HY _ (HH.out.below ?_)).out.mono ?_
    · exact ((Below.refl _ _).alloc (Nat.le_refl _) _).alloc (by simp) _
    rintro r w1 ⟨rfl, hb⟩
    have HB : Hid (Below w.heap.size w w1) := by
      refine Lib.hid (Below.trans ?_ (hb.mono ?_))
      · exact ((Below.refl _ _).alloc (Nat.le_refl _) _).alloc (by simp) _
      · simp; omega
    obtain ⟨hcc, hcf⟩ := old_cells hb
    have z0 : w1.cell? ⟨w.heap.size, 0, none⟩ = some (.int .i64 0) := by rw [hcc _ _ (by simp; omega)]; simp [go_sem]
    have y0 : w1.frozen? ⟨w.heap.size, 0, none⟩ = false := by rw [hcf _ _ (by simp; omega)]; simp [go_sem]
    have z1 : w1.cell? ⟨w.heap.size, 1, none⟩ = some (.int .i64 0) := by rw [hcc _ _ (by simp; omega)]; simp [go_sem]
    have y1 : w1.frozen? ⟨w.heap.size, 1, none⟩ = false := by rw [hcf _ _ (by simp; omega)]; simp [go_sem]
    have z2 : w1.cell? ⟨w.heap.size, 2, none⟩ = some (.bool false) := by rw [hcc _ _ (by simp; omega)]; simp [go_sem]
    have y2 : w1.frozen? ⟨w.heap.size, 2, none⟩ = false := by rw [hcf _ _ (by simp; omega)]; simp [go_sem]
    have q0 : w1.cell? ⟨w.heap.size + 1, 0, none⟩ = some (.int .i64 0) := by rw [hcc _ _ (by simp)]; simp [go_sem]
    have p0 : w1.frozen? ⟨w.heap.size + 1, 0, none⟩ = false := by rw [hcf _ _ (by simp)]; simp [go_sem]
    have q1 : w1.cell? ⟨w.heap.size + 1, 1, none⟩ = some (.int .i64 (0)) := by rw [hcc _ _ (by simp)]; simp [go_sem]
    have p1 : w1.frozen? ⟨w.heap.size + 1, 1, none⟩ = false := by rw [hcf _ _ (by simp)]; simp [go_sem]
    have q2 : w1.cell? ⟨w.heap.size + 1, 2, none⟩ = some (.bool false) := by rw [hcc _ _ (by simp)]; simp [go_sem]
    have p2 : w1.frozen? ⟨w.heap.size + 1, 2, none⟩ = false := by rw [hcf _ _ (by simp)]; simp [go_sem]
    clear hb hcc hcf
    go_wp2_with fail
    refine bodyPost_ret (v := .agg #[.int .i64 N, .int .i64 (0), .bool false]) (by simp [results, Tryz.results104, go_sem, z0, z1, z2]) rfl ⟨rfl, ?_⟩
    exact (((HB.out.setCell (p := ⟨w.heap.size + 1, 0, none⟩) (Nat.le_succ _) _).setCell (p := ⟨w.heap.size, 0, none⟩) (Nat.le_refl _) _).setCell (p := ⟨w.heap.size, 1, none⟩) (Nat.le_refl _) _).setCell (p := ⟨w.heap.size, 2, none⟩) (Nat.le_refl _) _
  · obtain ⟨N, hN⟩ : ∃ N, m.next 0 = N := ⟨_, rfl⟩
    have HY := fun W h => Lib.hid (show Calls Tryz.prog 131 #[.pointer (some ⟨mb, 0, none⟩), .int .i64 0] W fun r w' => r = .returned (.int .i64 N) ∧ Below W.heap.size W w' from by rw [← hN]; exact (HX 0 (by decide) W h).out)
    rw [show M.begins 14 = false from rfl] at HBG
    rw [hN]
    clear hN HX
    go_enter Tryz.func104, Tryz.ntmps104
    go_wp2_with fail
    refine (HBG _).out.mono ?_
    rintro r w0 ⟨rfl, rfl⟩
    go_wp2_with fail
    refine (HY _ (HH.out.below ?_)).out.mono ?_
    · exact ((Below.refl _ _).alloc (Nat.le_refl _) _).alloc (by simp) _
    rintro r w1 ⟨rfl, hb⟩
    have HB : Hid (Below w.heap.size w w1) := by
      refine Lib.hid (Below.trans ?_ (hb.mono ?_))
      · exact ((Below.refl _ _).alloc (Nat.le_refl _) _).alloc (by simp) _
      · simp; omega
    obtain ⟨hcc, hcf⟩ := old_cells hb
    have z0 : w1.cell? ⟨w.heap.size, 0, none⟩ = some (.int .i64 0) := by rw [hcc _ _ (by simp; omega)]; simp [go_sem]
    have y0 : w1.frozen? ⟨w.heap.size, 0, none⟩ = false := by rw [hcf _ _ (by simp; omega)]; simp [go_sem]
    have z1 : w1.cell? ⟨w.heap.size, 1, none⟩ = some (.int .i64 0) := by rw [hcc _ _ (by simp; omega)]; simp [go_sem]
    have y1 : w1.frozen? ⟨w.heap.size, 1, none⟩ = false := by rw [hcf _ _ (by simp; omega)]; simp [go_sem]
    have z2 : w1.cell? ⟨w.heap.size, 2, none⟩ = some (.bool false) := by rw [hcc _ _ (by simp; omega)]; simp [go_sem]
    have y2 : w1.frozen? ⟨w.heap.size, 2, none⟩ = false := by rw [hcf _ _ (by simp; omega)]; simp [go_sem]
    have q0 : w1.cell? ⟨w.heap.size + 1, 0, none⟩ = some (.int .i64 0) := by rw [hcc _ _ (by simp)]; simp [go_sem]
    have p0 : w1.frozen? ⟨w.heap.size + 1, 0, none⟩ = false := by rw [hcf _ _ (by simp)]; simp [go_sem]
    have q1 : w1.cell? ⟨w.heap.size + 1, 1, none⟩ = some (.int .i64 (-1)) := by rw [hcc _ _ (by simp)]; simp [go_sem]
    have p1 : w1.frozen? ⟨w.heap.size + 1, 1, none⟩ = false := by rw [hcf _ _ (by simp)]; simp [go_sem]
    have q2 : w1.cell? ⟨w.heap.size + 1, 2, none⟩ = some (.bool false) := by rw [hcc _ _ (by simp)]; simp [go_sem]
    have p2 : w1.frozen? ⟨w.heap.size + 1, 2, none⟩ = false := by rw [hcf _ _ (by simp)]; simp [go_sem]
    clear hb hcc hcf
    go_wp2_with fail
    refine bodyPost_ret (v := .agg #[.int .i64 N, .int .i64 (-1), .bool false]) (by simp [results, Tryz.results104, go_sem, z0, z1, z2]) rfl ⟨rfl, ?_⟩
    exact (((HB.out.setCell (p := ⟨w.heap.size + 1, 0, none⟩) (Nat.le_succ _) _).setCell (p := ⟨w.heap.size, 0, none⟩) (Nat.le_refl _) _).setCell (p := ⟨w.heap.size, 1, none⟩) (Nat.le_refl _) _).setCell (p := ⟨w.heap.size, 2, none⟩) (Nat.le_refl _) _
  · obtain ⟨N, hN⟩ : ∃ N, m.next 1 = N := ⟨_, rfl⟩
    have HY := fun W h => Lib.hid (show Calls Tryz.prog 131 #[.pointer (some ⟨mb, 0, none⟩), .int .i64 1] W fun r w' => r = .returned (.int .i64 N) ∧ Below W.heap.size W w' from by rw [← hN]; exact (HX 1 (by decide) W h).out)
    rw [show M.begins 20 = true from rfl] at HBG
    rw [hN]
    clear hN HX
    go_enter Tryz.func104, Tryz.ntmps104
    go_wp2_with fail
    refine (HBG _).out.mono ?_
    rintro r w0 ⟨rfl, rfl⟩
    go_wp2_with fail
    refine (HY _ (HH.out.below ?_)).out.mono ?_
    · exact ((Below.refl _ _).alloc (Nat.le_refl _) _).alloc (by simp) _
    rintro r w1 ⟨rfl, hb⟩
    have HB : Hid (Below w.heap.size w w1) := by
      refine Lib.hid (Below.trans ?_ (hb.mono ?_))
      · exact ((Below.refl _ _).alloc (Nat.le_refl _) _).alloc (by simp) _
      · simp; omega
    obtain ⟨hcc, hcf⟩ := old_cells hb
    have z0 : w1.cell? ⟨w.heap.size, 0, none⟩ = some (.int .i64 0) := by rw [hcc _ _ (by simp; omega)]; simp [go_sem]
    have y0 : w1.frozen? ⟨w.heap.size, 0, none⟩ = false := by rw [hcf _ _ (by simp; omega)]; simp [go_sem]
    have z1 : w1.cell? ⟨w.heap.size, 1, none⟩ = some (.int .i64 0) := by rw [hcc _ _ (by simp; omega)]; simp [go_sem]
    have y1 : w1.frozen? ⟨w.heap.size, 1, none⟩ = false := by rw [hcf _ _ (by simp; omega)]; simp [go_sem]
    have z2 : w1.cell? ⟨w.heap.size, 2, none⟩ = some (.bool false) := by rw [hcc _ _ (by simp; omega)]; simp [go_sem]
    have y2 : w1.frozen? ⟨w.heap.size, 2, none⟩ = false := by rw [hcf _ _ (by simp; omega)]; simp [go_sem]
    have q0 : w1.cell? ⟨w.heap.size + 1, 0, none⟩ = some (.int .i64 0) := by rw [hcc _ _ (by simp)]; simp [go_sem]
    have p0 : w1.frozen? ⟨w.heap.size + 1, 0, none⟩ = false := by rw [hcf _ _ (by simp)]; simp [go_sem]
    have q1 : w1.cell? ⟨w.heap.size + 1, 1, none⟩ = some (.int .i64 (-1)) := by rw [hcc _ _ (by simp)]; simp [go_sem]
    have p1 : w1.frozen? ⟨w.heap.size + 1, 1, none⟩ = false := by rw [hcf _ _ (by simp)]; simp [go_sem]
    have q2 : w1.cell? ⟨w.heap.size + 1, 2, none⟩ = some (.bool true) := by rw [hcc _ _ (by simp)]; simp [go_sem]
    have p2 : w1.frozen? ⟨w.heap.size + 1, 2, none⟩ = false := by rw [hcf _ _ (by simp)]; simp [go_sem]
    clear hb hcc hcf
    go_wp2_with fail
    refine bodyPost_ret (v := .agg #[.int .i64 N, .int .i64 (-1), .bool true]) (by simp [results, Tryz.results104, go_sem, z0, z1, z2]) rfl ⟨rfl, ?_⟩
    exact (((HB.out.setCell (p := ⟨w.heap.size + 1, 0, none⟩) (Nat.le_succ _) _).setCell (p := ⟨w.heap.size, 0, none⟩) (Nat.le_refl _) _).setCell (p := ⟨w.heap.size, 1, none⟩) (Nat.le_refl _) _).setCell (p := ⟨w.heap.size, 2, none⟩) (Nat.le_refl _) _
  · obtain ⟨N, hN⟩ : ∃ N, m.next 0 = N := ⟨_, rfl⟩
    have HY := fun W h => Lib.hid (show Calls Tryz.prog 131 #[.pointer (some ⟨mb, 0, none⟩), .int .i64 0] W fun r w' => r = .returned (.int .i64 N) ∧ Below W.heap.size W w' from by rw [← hN]; exact (HX 0 (by decide) W h).out)
    rw [show M.begins 19 = true from rfl] at HBG
    rw [hN]
    clear hN HX
    go_enter Tryz.func104, Tryz.ntmps104
    go_wp2_with fail
    refine (HBG _).out.mono ?_
    rintro r w0 ⟨rfl, rfl⟩
    go_wp2_with fail
    refine (HY _ (HH.out.below ?_)).out.mono ?_
    · exact ((Below.refl _ _).alloc (Nat.le_refl _) _).alloc (by simp) _
    rintro r w1 ⟨rfl, hb⟩
    have HB : Hid (Below w.heap.size w w1) := by
      refine Lib.hid (Below.trans ?_ (hb.mono ?_))
      · exact ((Below.refl _ _).alloc (Nat.le_refl _) _).alloc (by simp) _
      · simp; omega
    obtain ⟨hcc, hcf⟩ := old_cells hb
    have z0 : w1.cell? ⟨w.heap.size, 0, none⟩ = some (.int .i64 0) := by rw [hcc _ _ (by simp; omega)]; simp [go_sem]
    have y0 : w1.frozen? ⟨w.heap.size, 0, none⟩ = false := by rw [hcf _ _ (by simp; omega)]; simp [go_sem]
    have z1 : w1.cell? ⟨w.heap.size, 1, none⟩ = some (.int .i64 0) := by rw [hcc _ _ (by simp; omega)]; simp [go_sem]
    have y1 : w1.frozen? ⟨w.heap.size, 1, none⟩ = false := by rw [hcf _ _ (by simp; omega)]; simp [go_sem]
    have z2 : w1.cell? ⟨w.heap.size, 2, none⟩ = some (.bool false) := by rw [hcc _ _ (by simp; omega)]; simp [go_sem]
    have y2 : w1.frozen? ⟨w.heap.size, 2, none⟩ = false := by rw [hcf _ _ (by simp; omega)]; simp [go_sem]
    have q0 : w1.cell? ⟨w.heap.size + 1, 0, none⟩ = some (.int .i64 0) := by rw [hcc _ _ (by simp)]; simp [go_sem]
    have p0 : w1.frozen? ⟨w.heap.size + 1, 0, none⟩ = false := by rw [hcf _ _ (by simp)]; simp [go_sem]
    have q1 : w1.cell? ⟨w.heap.size + 1, 1, none⟩ = some (.int .i64 (-1)) := by rw [hcc _ _ (by simp)]; simp [go_sem]
    have p1 : w1.frozen? ⟨w.heap.size + 1, 1, none⟩ = false := by rw [hcf _ _ (by simp)]; simp [go_sem]
    have q2 : w1.cell? ⟨w.heap.size + 1, 2, none⟩ = some (.bool true) := by rw [hcc _ _ (by simp)]; simp [go_sem]
    have p2 : w1.frozen? ⟨w.heap.size + 1, 2, none⟩ = false := by rw [hcf _ _ (by simp)]; simp [go_sem]
    clear hb hcc hcf
    go_wp2_with fail
    refine bodyPost_ret (v := .agg #[.int .i64 N, .int .i64 (-1), .bool true]) (by simp [results, Tryz.results104, go_sem, z0, z1, z2]) rfl ⟨rfl, ?_⟩
    exact (((HB.out.setCell (p := ⟨w.heap.size + 1, 0, none⟩) (Nat.le_succ _) _).setCell (p := ⟨w.heap.size, 0, none⟩) (Nat.le_refl _) _).setCell (p := ⟨w.heap.size, 1, none⟩) (Nat.le_refl _) _).setCell (p := ⟨w.heap.size, 2, none⟩) (Nat.le_refl _) _
end Go.Proofs.YtjlfgojblimobaaGreat
end
