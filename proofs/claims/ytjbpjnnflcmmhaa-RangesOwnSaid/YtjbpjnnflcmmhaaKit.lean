/- Entries in memory: slices and rows that read as lists of entries; blocks of four cells. No function of the program is walked here. -/
import Derived.Test.YtjbpjnnflcmmhaaRows
import Derived.Test.YtjbpjnnflcmmhaaMath
import Derived.Test.YtjbpjnnflcmmhaaReads
import Derived.Lib.Hide
import Derived.WalkSpells
import Derived.OwnWalk
import Derived.Lib.Strings
import Derived.Deep.Draws
import Derived.Maps.AppendAt
namespace Go.Proofs.Ytjbpjnnflcmmhaa
open Go.RowKit

theorem bytes_size (l : List UInt8) : (M.bytes l).size = l.length := by show l.toArray.size = l.length; simp
theorem below_drewN {B : Nat} {w w' : World} (h : Below B w w') (n : Nat) : Below B w (w'.drewN n) := by
  induction n with
  | zero => exact h
  | succ n ih => exact ih.drew
theorem bcell {W w1 : World} (hb : Below W.heap.size W w1) : (∀ b o, b < W.heap.size → w1.cell? ⟨b, o, none⟩ = W.cell? ⟨b, o, none⟩) ∧ (∀ b o, b < W.heap.size → w1.frozen? ⟨b, o, none⟩ = W.frozen? ⟨b, o, none⟩) :=
  ⟨fun b o h => hb.cell (p := ⟨b, o, none⟩) h, fun b o h => hb.frozen (p := ⟨b, o, none⟩) h⟩
/-- An entry as a value. -/
def M.E.val (e : M.E) : Value := .agg #[.int .i64 e.a, .int .i64 e.b, .string e.v, .string e.x]
/-- Four cells of a block, none of them frozen. -/
structure Four (w : World) (B : Nat) (a b c d : Value) : Prop where
  c0 : w.cell? ⟨B, 0, none⟩ = some a
  c1 : w.cell? ⟨B, 1, none⟩ = some b
  c2 : w.cell? ⟨B, 2, none⟩ = some c
  c3 : w.cell? ⟨B, 3, none⟩ = some d
  f0 : w.frozen? ⟨B, 0, none⟩ = false
  f1 : w.frozen? ⟨B, 1, none⟩ = false
  f2 : w.frozen? ⟨B, 2, none⟩ = false
  f3 : w.frozen? ⟨B, 3, none⟩ = false
theorem Four.new (w : World) (a b c d : Value) (t : TypeId) : Four (w.alloc (.cells #[a, b, c, d] t)) w.heap.size a b c d := by
  constructor <;> simp [go_sem]
theorem Four.below {w w' : World} {B n : Nat} {a b c d : Value} (h : Four w B a b c d) (hb : Below n w w') (hB : B < n) : Four w' B a b c d :=
  ⟨(hb.cell (p := ⟨B, 0, none⟩) hB).trans h.c0, (hb.cell (p := ⟨B, 1, none⟩) hB).trans h.c1, (hb.cell (p := ⟨B, 2, none⟩) hB).trans h.c2, (hb.cell (p := ⟨B, 3, none⟩) hB).trans h.c3,
   (hb.frozen (p := ⟨B, 0, none⟩) hB).trans h.f0, (hb.frozen (p := ⟨B, 1, none⟩) hB).trans h.f1, (hb.frozen (p := ⟨B, 2, none⟩) hB).trans h.f2, (hb.frozen (p := ⟨B, 3, none⟩) hB).trans h.f3⟩
theorem Four.set3 {w : World} {B : Nat} {a b c d : Value} (h : Four w B a b c d) (x : Value) : Four (w.setCell ⟨B, 3, none⟩ x) B a b c x := by
  obtain ⟨c0, c1, c2, c3, f0, f1, f2, f3⟩ := h
  constructor <;> simp [go_sem, c0, c1, c2, c3, f0, f1, f2, f3]
theorem Four.set3_other {w : World} {B G : Nat} {a b c d : Value} (h : Four w B a b c d) (hne : B ≠ G) (x : Value) : Four (w.setCell ⟨G, 3, none⟩ x) B a b c d := by
  obtain ⟨c0, c1, c2, c3, f0, f1, f2, f3⟩ := h
  constructor <;> simp [go_sem, c0, c1, c2, c3, f0, f1, f2, f3]
/-- The zero entry. -/
abbrev zeroE : Obj := .cells #[.int .i64 0, .int .i64 0, .string ⟨#[]⟩, .string ⟨#[]⟩] 36
theorem Try.infoEntry : (Try.prog.info? 36).map (fun i => (i.zero, i.size, i.bytes)) = some (some (.agg #[.int .i64 0, .int .i64 0, .string ⟨#[]⟩, .string ⟨#[]⟩]), 4, 48) := by kernel_rfl
theorem Try.mixed : Try.prog.follows .mixedOrders = true := by kernel_rfl
/-- An entry's cells; a list's. -/
def M.E.cells (e : M.E) : List Value := [.int .i64 e.a, .int .i64 e.b, .string e.v, .string e.x]
def cellsE (l : List M.E) : List Value := l.flatMap M.E.cells
theorem cellsE_snoc (l : List M.E) (e : M.E) : cellsE (l ++ [e]) = cellsE l ++ e.cells := by simp [cellsE]
theorem cellsE_length (l : List M.E) : (cellsE l).length = l.length * 4 := by
  induction l with
  | nil => rfl
  | cons e r ih => simp [cellsE, M.E.cells] at ih ⊢; omega
/-- The caller's own row of entries. -/
def OwnE (w : World) (base : Nat) (v : Value) (l : List M.E) : Prop := w.ownsRow base 36 4 v l.length (cellsE l)
/-- The slice that begins at A holds the entries l, in blocks below B. -/
def RdE (w : World) (B : Nat) (A : Option Addr) (l : List M.E) : Prop :=
  ∀ j e, l[j]? = some e → ∃ ad, A = some ad ∧ ad.block < B ∧ w.cell? (ad.add (j * 4)) = some (.int .i64 e.a) ∧ w.cell? ⟨(ad.add (j * 4)).block, (ad.add (j * 4)).off + 1, none⟩ = some (.int .i64 e.b) ∧
    w.cell? ⟨(ad.add (j * 4)).block, (ad.add (j * 4)).off + 2, none⟩ = some (.string e.v) ∧ w.cell? ⟨(ad.add (j * 4)).block, (ad.add (j * 4)).off + 3, none⟩ = some (.string e.x)
theorem RdE.below {w w' : World} {B : Nat} {A : Option Addr} {l : List M.E} (h : RdE w B A l) (hb : Below B w w') : RdE w' B A l := fun j e hj => by
  obtain ⟨ad, hA, hB, c0, c1, c2, c3⟩ := h j e hj
  have hbl : (ad.add (j * 4)).block = ad.block := addr_block _ _
  exact ⟨ad, hA, hB, (hb.cell (by rw [hbl]; exact hB)).trans c0, (hb.cell (by show (ad.add (j * 4)).block < B; rw [hbl]; exact hB)).trans c1, (hb.cell (by show (ad.add (j * 4)).block < B; rw [hbl]; exact hB)).trans c2, (hb.cell (by show (ad.add (j * 4)).block < B; rw [hbl]; exact hB)).trans c3⟩
theorem RdE.more {w : World} {B B' : Nat} {A : Option Addr} {l : List M.E} (h : RdE w B A l) (hB : B ≤ B') : RdE w B' A l := fun j e hj => by
  obtain ⟨ad, hA, hb, c⟩ := h j e hj
  exact ⟨ad, hA, by omega, c⟩
theorem one_new (w : World) (x : Value) (ty : TypeId) : ∀ j u, [x][j]? = some u → (w.alloc (.cells #[x] ty)).cell? ((⟨w.heap.size, 0, none⟩ : Addr).add j) = some u := by
  intro j u hj
  match j, hj with
  | 0, hj => simp at hj; subst hj; simp [Addr.add]
theorem one_cell {k : IntKind} {x : Int} : ∀ u ∈ [Value.int k x], u.oneCell' = true := by
  intro u hu; simp at hu; subst hu; rfl
theorem addr0_add (g k : Nat) : (⟨g, 0, none⟩ : Addr).add k = ⟨g, k, none⟩ := by
  unfold Addr.add
  split
  · rename_i h; subst h; rfl
  · simp
theorem cellsE_at {l : List M.E} {j : Nat} {e : M.E} (h : l[j]? = some e) (k : Nat) (hk : k < 4) : (cellsE l)[j * 4 + k]? = e.cells[k]? := by
  induction l generalizing j with
  | nil => simp at h
  | cons x r ih =>
    have hx : x.cells.length = 4 := rfl
    show (x.cells ++ cellsE r)[j * 4 + k]? = _
    cases j with
    | zero =>
      simp at h
      subst h
      rw [List.getElem?_append_left (by rw [hx]; omega)]
      simp
    | succ j =>
      simp at h
      rw [List.getElem?_append_right (by rw [hx]; omega), hx, ← ih h]
      congr 1
      omega
/-- A row of entries reads as a list. -/
theorem reads_own {w : World} {base : Nat} {v : Value} {l : List M.E} (h : OwnE w base v l) :
    ∃ A' c', v = .slice A' l.length c' ∧ RdE w w.heap.size A' l ∧ l.length ≤ c' ∧ c' ≤ maxLen ∧ (l ≠ [] → ∃ g, A' = some ⟨g, 0, none⟩) := by
  rcases h.2 with ⟨rfl, h0⟩ | ⟨g, cap, cur, rfl, _, hg, hn, hm, _, _⟩
  · have : l = [] := List.eq_nil_of_length_eq_zero h0
    subst this
    exact ⟨none, 0, rfl, (fun j e hj => by simp at hj), Nat.le_refl _, Nat.zero_le _, fun h => absurd rfl h⟩
  · refine ⟨_, cap, rfl, fun j e hj => ?_, hn, hm, fun _ => ⟨g, rfl⟩⟩
    have c := fun k (hk : k < 4) u (hu : e.cells[k]? = some u) => World.ownsRow.cells h rfl (j * 4 + k) u (by rw [cellsE_at hj k hk]; exact hu)
    simp only [addr0_add] at c ⊢
    exact ⟨_, rfl, lt_of_block hg, by rw [addr0_add]; exact c 0 (by omega) _ rfl, by rw [addr0_add]; exact c 1 (by omega) _ rfl, by rw [addr0_add]; exact c 2 (by omega) _ rfl, by rw [addr0_add]; exact c 3 (by omega) _ rfl⟩
theorem toList_nil (x : ByteArray) : (x.toList = []) ↔ (x.data.toList = []) := by rw [ByteArray.toList_eq]
/-- Right sizes of the strings of entries. -/
def Sized (l : List M.E) : Prop := ∀ e ∈ l, e.v.size ≤ maxLen ∧ e.x.size ≤ maxLen
end Go.Proofs.Ytjbpjnnflcmmhaa
