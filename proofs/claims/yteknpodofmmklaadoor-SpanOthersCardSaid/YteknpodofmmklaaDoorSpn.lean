/- Spans in memory: slices and rows that read as lists of spans; two spans compared. No function of the program is walked here. -/
import Derived.Test.YteknpodofmmklaaDoorPure
import Derived.Test.YteknpodofmmklaaDoorBase
import Derived.Laws.StructEq
import Derived.RegionTactic
namespace Go.Proofs.YteknpodofmmklaaDoor
open Go.RowKit

/-- A span as a value; its cells. -/
def M.S.val (s : M.S) : Value := .agg #[.int .i64 s.f, .int .i64 s.t, .int .i64 s.p, .bool s.c, .string s.r, .int .u64 s.x]
def M.S.cells (s : M.S) : List Value := [.int .i64 s.f, .int .i64 s.t, .int .i64 s.p, .bool s.c, .string s.r, .int .u64 s.x]
def cellsP (l : List M.S) : List Value := l.flatMap M.S.cells
theorem cellsP_snoc (l : List M.S) (e : M.S) : cellsP (l ++ [e]) = cellsP l ++ e.cells := by simp [cellsP]
theorem cellsP_length (l : List M.S) : (cellsP l).length = l.length * 6 := by
  induction l with
  | nil => rfl
  | cons e r ih => simp [cellsP, M.S.cells] at ih ⊢; omega
theorem Tryd.infoSpan : (Tryd.prog.info? 27).map (fun i => (i.zero, i.size, i.bytes)) = some (some (.agg #[.int .i64 0, .int .i64 0, .int .i64 0, .bool false, .string ⟨#[]⟩, .int .u64 0]), 6, 56) := by kernel_rfl
/-- The six cells of a block, none of them frozen. -/
structure Six (w : World) (B : Nat) (s : M.S) : Prop where
  c0 : w.cell? ⟨B, 0, none⟩ = some (.int .i64 s.f)
  c1 : w.cell? ⟨B, 1, none⟩ = some (.int .i64 s.t)
  c2 : w.cell? ⟨B, 2, none⟩ = some (.int .i64 s.p)
  c3 : w.cell? ⟨B, 3, none⟩ = some (.bool s.c)
  c4 : w.cell? ⟨B, 4, none⟩ = some (.string s.r)
  c5 : w.cell? ⟨B, 5, none⟩ = some (.int .u64 s.x)
  f0 : w.frozen? ⟨B, 0, none⟩ = false
  f1 : w.frozen? ⟨B, 1, none⟩ = false
  f2 : w.frozen? ⟨B, 2, none⟩ = false
  f3 : w.frozen? ⟨B, 3, none⟩ = false
  f4 : w.frozen? ⟨B, 4, none⟩ = false
  f5 : w.frozen? ⟨B, 5, none⟩ = false
/-- A span as an object. -/
abbrev M.S.obj (s : M.S) : Obj := .cells #[.int .i64 s.f, .int .i64 s.t, .int .i64 s.p, .bool s.c, .string s.r, .int .u64 s.x] 27
theorem Six.new (w : World) (s : M.S) : Six (w.alloc s.obj) w.heap.size s := by
  constructor <;> simp [go_sem]
theorem Six.below {w w' : World} {B n : Nat} {s : M.S} (h : Six w B s) (hb : Below n w w') (hB : B < n) : Six w' B s := by
  obtain ⟨c0, c1, c2, c3, c4, c5, f0, f1, f2, f3, f4, f5⟩ := h
  constructor
  all_goals first | exact (hb.cell hB).trans (by assumption) | exact (hb.frozen hB).trans (by assumption)
/-- A new block with a span, under a name. -/
theorem new_span (w : World) (s : M.S) : ∃ W : World, w.alloc (.cells #[.int .i64 s.f, .int .i64 s.t, .int .i64 s.p, .bool s.c, .string s.r, .int .u64 s.x] 27) = W ∧ Below w.heap.size w W ∧ Six W w.heap.size s ∧ W.heap.size = w.heap.size + 1 :=
  ⟨_, rfl, (Below.refl _ _).alloc (Nat.le_refl _) _, Six.new w s, by simp⟩
theorem zero_span (w : World) : ∃ W : World, w.alloc (.cells #[.int .i64 0, .int .i64 0, .int .i64 0, .bool false, .string ⟨#[]⟩, .int .u64 0] 27) = W ∧ Below w.heap.size w W ∧ Six W w.heap.size M.zeroS ∧ W.heap.size = w.heap.size + 1 := new_span w M.zeroS
theorem below_six {n B : Nat} {w w' : World} {v0 v1 v2 v3 v4 v5 : Value} (h : Below n w w') (hB : n ≤ B) : Below n w ((((((w'.setCell ⟨B, 0, none⟩ v0).setCell ⟨B, 1, none⟩ v1).setCell ⟨B, 2, none⟩ v2).setCell ⟨B, 3, none⟩ v3).setCell ⟨B, 4, none⟩ v4).setCell ⟨B, 5, none⟩ v5) :=
  (((((h.setCell (p := ⟨B, 0, none⟩) hB _).setCell (p := ⟨B, 1, none⟩) hB _).setCell (p := ⟨B, 2, none⟩) hB _).setCell (p := ⟨B, 3, none⟩) hB _).setCell (p := ⟨B, 4, none⟩) hB _).setCell (p := ⟨B, 5, none⟩) hB _
/-- The slice that begins at A holds the spans l, in blocks below B. -/
def RdP (w : World) (B : Nat) (A : Option Addr) (l : List M.S) : Prop :=
  ∀ j s, l[j]? = some s → ∃ ad, A = some ad ∧ ad.block < B ∧ w.cell? (ad.add (j * 6)) = some (.int .i64 s.f) ∧ w.cell? ⟨(ad.add (j * 6)).block, (ad.add (j * 6)).off + 1, none⟩ = some (.int .i64 s.t) ∧
    w.cell? ⟨(ad.add (j * 6)).block, (ad.add (j * 6)).off + 2, none⟩ = some (.int .i64 s.p) ∧ w.cell? ⟨(ad.add (j * 6)).block, (ad.add (j * 6)).off + 3, none⟩ = some (.bool s.c) ∧
    w.cell? ⟨(ad.add (j * 6)).block, (ad.add (j * 6)).off + 4, none⟩ = some (.string s.r) ∧ w.cell? ⟨(ad.add (j * 6)).block, (ad.add (j * 6)).off + 5, none⟩ = some (.int .u64 s.x)
theorem RdP.keep {w w' : World} {B : Nat} {A : Option Addr} {l : List M.S} (h : RdP w B A l) (hk : ∀ p : Addr, p.block < B → w'.cell? p = w.cell? p) : RdP w' B A l := fun j e hj => by
  obtain ⟨ad, hA, hB, c0, c1, c2, c3, c4, c5⟩ := h j e hj
  have hbl : (ad.add (j * 6)).block = ad.block := addr_block _ _
  have k := fun o => hk ⟨(ad.add (j * 6)).block, o, none⟩ (by show (ad.add (j * 6)).block < B; rw [hbl]; exact hB)
  exact ⟨ad, hA, hB, (hk _ (by rw [hbl]; exact hB)).trans c0, (k _).trans c1, (k _).trans c2, (k _).trans c3, (k _).trans c4, (k _).trans c5⟩
theorem RdP.below {w w' : World} {B : Nat} {A : Option Addr} {l : List M.S} (h : RdP w B A l) (hb : Below B w w') : RdP w' B A l := h.keep fun _ hp => hb.cell hp
theorem RdP.more {w : World} {B B' : Nat} {A : Option Addr} {l : List M.S} (h : RdP w B A l) (hB : B ≤ B') : RdP w B' A l := fun j e hj => by
  obtain ⟨ad, hA, hb, c⟩ := h j e hj
  exact ⟨ad, hA, by omega, c⟩
theorem RdP.after {w w' : World} {A : Option Addr} {l : List M.S} (h : RdP w w.heap.size A l) (hb : Below w.heap.size w w') : RdP w' w'.heap.size A l := (h.below hb).more hb.size
theorem addr0_add (g k : Nat) : (⟨g, 0, none⟩ : Addr).add k = ⟨g, k, none⟩ := by
  unfold Addr.add
  split
  · rename_i h; subst h; rfl
  · simp
theorem cellsP_at {l : List M.S} {j : Nat} {e : M.S} (h : l[j]? = some e) (k : Nat) (hk : k < 6) : (cellsP l)[j * 6 + k]? = e.cells[k]? := by
  induction l generalizing j with
  | nil => simp at h
  | cons x r ih =>
    have hx : x.cells.length = 6 := rfl
    show (x.cells ++ cellsP r)[j * 6 + k]? = _
    cases j with
    | zero =>
      simp at h
      subst h
      rw [List.getElem?_append_left (by rw [hx]; omega)]
      simp
    | succ j =>
      simp at h
      rw [List.getElem?_append_right (by rw [hx]; omega), hx, ← ih h]
      congr 1
      omega
/-- The caller's own row of spans. -/
def OwnP (w : World) (base : Nat) (v : Value) (l : List M.S) : Prop := w.ownsRow base 27 6 v l.length (cellsP l)
/-- A row of spans reads as a list. -/
theorem OwnP.shape {w : World} {base : Nat} {v : Value} {l : List M.S} (h : OwnP w base v l) :
    ∃ A' c', v = .slice A' l.length c' ∧ RdP w w.heap.size A' l ∧ l.length ≤ c' ∧ c' ≤ maxLen ∧ (A' = none → c' = 0) := by
  rcases h.2 with ⟨rfl, h0⟩ | ⟨g, cap, cur, rfl, _, hg, hn, hm, _, _⟩
  · have : l = [] := List.eq_nil_of_length_eq_zero h0
    subst this
    exact ⟨none, 0, rfl, (fun j e hj => by simp at hj), Nat.le_refl _, Nat.zero_le _, fun _ => rfl⟩
  · refine ⟨_, cap, rfl, fun j e hj => ?_, hn, hm, fun h => by cases h⟩
    have c := fun k (hk : k < 6) u (hu : e.cells[k]? = some u) => World.ownsRow.cells h rfl (j * 6 + k) u (by rw [cellsP_at hj k hk]; exact hu)
    simp only [addr0_add] at c ⊢
    exact ⟨_, rfl, lt_of_block hg, by rw [addr0_add]; exact c 0 (by omega) _ rfl, by rw [addr0_add]; exact c 1 (by omega) _ rfl, by rw [addr0_add]; exact c 2 (by omega) _ rfl, by rw [addr0_add]; exact c 3 (by omega) _ rfl, by rw [addr0_add]; exact c 4 (by omega) _ rfl, by rw [addr0_add]; exact c 5 (by omega) _ rfl⟩
theorem OwnP.nil (w : World) (base : Nat) : OwnP w base (.slice none 0 0) [] := ⟨rfl, .inl ⟨rfl, rfl⟩⟩
theorem OwnP.below {w w1 : World} {base : Nat} {v : Value} {l : List M.S} (h : OwnP w base v l) (hb : Below w.heap.size w w1) : OwnP w1 base v l :=
  World.ownsRow.kept h (row := none) ⟨hb.os, hb.tape, hb.output, hb.size, fun k hk _ => hb.block k hk⟩ (by cases v.ownBlock <;> simp)
theorem OwnP.snoc {w : World} {base : Nat} {v : Value} {l : List M.S} {e : M.S} (h : w.ownsRow base 27 6 v (l.length + 1) (cellsP l ++ e.cells)) : OwnP w base v (l ++ [e]) := by
  unfold OwnP
  rw [List.length_append, cellsP_snoc]
  exact h
theorem OwnP.less {w : World} {base base' : Nat} {v : Value} {l : List M.S} (h : OwnP w base v l) (hb : base' ≤ base) : OwnP w base' v l := own_base h hb
theorem news_cells (w : World) (e : M.S) (t : TypeId) : ∀ j u, e.cells[j]? = some u → (w.alloc (.cells #[.int .i64 e.f, .int .i64 e.t, .int .i64 e.p, .bool e.c, .string e.r, .int .u64 e.x] t)).cell? ((⟨w.heap.size, 0, none⟩ : Addr).add j) = some u := by
  intro j u hj
  match j, hj with
  | 0, hj => simp [M.S.cells] at hj; subst hj; simp [Addr.add, go_sem]
  | 1, hj => simp [M.S.cells] at hj; subst hj; simp [Addr.add, go_sem]
  | 2, hj => simp [M.S.cells] at hj; subst hj; simp [Addr.add, go_sem]
  | 3, hj => simp [M.S.cells] at hj; subst hj; simp [Addr.add, go_sem]
  | 4, hj => simp [M.S.cells] at hj; subst hj; simp [Addr.add, go_sem]
  | 5, hj => simp [M.S.cells] at hj; subst hj; simp [Addr.add, go_sem]
theorem news_one (e : M.S) : ∀ u ∈ e.cells, u.oneCell' = true := by
  intro u hu
  simp [M.S.cells] at hu
  rcases hu with rfl | rfl | rfl | rfl | rfl | rfl <;> rfl
theorem cells_one (l : List M.S) : ∀ u ∈ cellsP l, u.oneCell' = true := by
  intro u hu
  simp only [cellsP, List.mem_flatMap] at hu
  obtain ⟨e, _, hu⟩ := hu
  exact news_one e u hu
/-- All cells of a slice of spans. -/
theorem RdP.cellsAt {w : World} {B : Nat} {A : Option Addr} {l : List M.S} (h : RdP w B A l) {ad : Addr} (hA : A = some ad) : ∀ j u, (cellsP l)[j]? = some u → w.cell? (ad.add j) = some u := by
  intro j u hu
  have hj : j < l.length * 6 := by have := (List.getElem?_eq_some_iff.1 hu).1; rwa [cellsP_length] at this
  have hd := Nat.div_add_mod j 6
  have hm := Nat.mod_lt j (show 0 < 6 by omega)
  obtain ⟨q, hq⟩ : ∃ q, j / 6 = q := ⟨_, rfl⟩
  obtain ⟨r, hr⟩ : ∃ r, j % 6 = r := ⟨_, rfl⟩
  rw [hq, hr] at hd
  rw [hr] at hm
  have hql : q < l.length := by omega
  obtain ⟨e, he⟩ : ∃ e, l[q]? = some e := ⟨_, List.getElem?_eq_getElem hql⟩
  have hj2 : j = q * 6 + r := by omega
  subst hj2
  rw [cellsP_at he r hm] at hu
  obtain ⟨ad', hA', _, c0, c1, c2, c3, c4, c5⟩ := h q e he
  rw [hA] at hA'
  obtain rfl : ad = ad' := by injection hA'
  rw [← addr_add_add]
  match r, hm with
  | 0, _ => simp [M.S.cells] at hu; subst hu; simpa [Addr.add] using c0
  | 1, _ => simp [M.S.cells] at hu; subst hu; rw [addr_add_pos _ 1 (by omega)]; exact c1
  | 2, _ => simp [M.S.cells] at hu; subst hu; rw [addr_add_pos _ 2 (by omega)]; exact c2
  | 3, _ => simp [M.S.cells] at hu; subst hu; rw [addr_add_pos _ 3 (by omega)]; exact c3
  | 4, _ => simp [M.S.cells] at hu; subst hu; rw [addr_add_pos _ 4 (by omega)]; exact c4
  | 5, _ => simp [M.S.cells] at hu; subst hu; rw [addr_add_pos _ 5 (by omega)]; exact c5
/-- The cells of the last span of a row. -/
theorem OwnP.last {w : World} {base g cap : Nat} {l : List M.S} {z : M.S} (h : OwnP w base (.slice (some ⟨g, 0, none⟩) (l.length + 1) cap) (l ++ [z])) :
    (∀ k u, k < 6 → z.cells[k]? = some u → w.cell? ⟨g, l.length * 6 + k, none⟩ = some u) ∧ w.frozen? ⟨g, l.length * 6 + 1, none⟩ = false ∧ base ≤ g ∧ g < w.heap.size := by
  unfold OwnP at h
  rw [List.length_append] at h
  have hj : (l ++ [z])[l.length]? = some z := by simp
  have c := fun k (hk : k < 6) u (hu : z.cells[k]? = some u) => World.ownsRow.cells h rfl (l.length * 6 + k) u (by rw [cellsP_at hj k hk]; exact hu)
  simp only [addr0_add] at c
  exact ⟨fun k u hk hu => c k hk u hu, World.ownsRow.frozenAt h _, (World.ownsRow.lt h g rfl).1, (World.ownsRow.lt h g rfl).2⟩
theorem cellsP_set (l : List M.S) (z : M.S) (y : Int) : (cellsP (l ++ [z])).set (l.length * 6 + 1) (.int .i64 y) = cellsP (l ++ [{ z with t := y }]) := by
  rw [cellsP_snoc, cellsP_snoc, List.set_append_right _ _ (by rw [cellsP_length]; omega), cellsP_length]
  rw [show l.length * 6 + 1 - l.length * 6 = 1 by omega]
  rfl
theorem OwnP.setTo {w : World} {base g cap : Nat} {l : List M.S} {z : M.S} (y : Int) (h : OwnP w base (.slice (some ⟨g, 0, none⟩) (l.length + 1) cap) (l ++ [z])) :
    OwnP (w.setCell ⟨g, l.length * 6 + 1, none⟩ (.int .i64 y)) base (.slice (some ⟨g, 0, none⟩) (l.length + 1) cap) (l ++ [{ z with t := y }]) := by
  unfold OwnP at h ⊢
  rw [List.length_append] at h ⊢
  have := (World.ownsRow.stored h (l.length * 6 + 1) (.int .i64 y)).1
  rw [cellsP_set] at this
  exact this

theorem stood_span : Tryd.prog.stoodInHeld 27 = false := by kernel_rfl
theorem guard_span : Tryd.prog.eqGuardType Tryd.prog.depth 27 = false := by kernel_rfl
theorem equal_span (w : World) (f t p : Int) (c : Bool) (r : ByteArray) (x f' t' p' : Int) (c' : Bool) (r' : ByteArray) (x' : Int) :
    (Op.equalIn 10000 27 (.agg #[.int .i64 f, .int .i64 t, .int .i64 p, .bool c, .string r, .int .u64 x]) (.agg #[.int .i64 f', .int .i64 t', .int .i64 p', .bool c', .string r', .int .u64 x'])).run Tryd.prog w = .ok (M.eq6 f t p c r x f' t' p' c' r' x') w := by
  rw [run_equalIn_struct w 9999 27 _ _ (by kernel_rfl) stood_span]
  simp [Program.fieldsOf, Tryd.underlying27, Op.eqFields, go_sem]
  unfold M.eq6
  (repeat' split) <;> simp_all
theorem eql_span (w : World) (f t p : Int) (c : Bool) (r : ByteArray) (x f' t' p' : Int) (c' : Bool) (r' : ByteArray) (x' : Int) :
    (binOp .eql 27 (.agg #[.int .i64 f, .int .i64 t, .int .i64 p, .bool c, .string r, .int .u64 x]) (.agg #[.int .i64 f', .int .i64 t', .int .i64 p', .bool c', .string r', .int .u64 x'])).run Tryd.prog w = .ok (.bool (M.eq6 f t p c r x f' t' p' c' r' x')) w := by
  rw [run_eql_struct, equal_span]; rfl
theorem neq_span (w : World) (f t p : Int) (c : Bool) (r : ByteArray) (x f' t' p' : Int) (c' : Bool) (r' : ByteArray) (x' : Int) :
    (binOp .neq 27 (.agg #[.int .i64 f, .int .i64 t, .int .i64 p, .bool c, .string r, .int .u64 x]) (.agg #[.int .i64 f', .int .i64 t', .int .i64 p', .bool c', .string r', .int .u64 x'])).run Tryd.prog w = .ok (.bool (!M.eq6 f t p c r x f' t' p' c' r' x')) w := by
  rw [run_neq_struct, equal_span]; rfl
/-- What leaves a row of spans. -/
def OutP (l : List M.S) (w : World) (r : Ending) (w' : World) : Prop := ∃ v, r = .returned v ∧ OwnP w' w.heap.size v l ∧ Below w.heap.size w w'
end Go.Proofs.YteknpodofmmklaaDoor
