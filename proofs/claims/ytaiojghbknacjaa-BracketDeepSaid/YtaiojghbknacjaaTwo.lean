/- Things of two whole numbers in memory (marks, pairs): slices and rows that read as lists of them. No function of the program is walked here. -/
import Derived.Test.YtaiojghbknacjaaBase
import Derived.RegionTactic
import Derived.DeepKeys
import Derived.Laws.StructEq
namespace Go.Proofs.Ytaiojghbknacjaa
open Go.RowKit
set_option maxRecDepth 100000

abbrev M.P2 := Int × Int
def cells2 (l : List (Int × Int)) : List Value := l.flatMap fun a => [Value.int .i64 a.1, .int .i64 a.2]
theorem cells2_snoc (l : List (Int × Int)) (e : Int × Int) : cells2 (l ++ [e]) = cells2 l ++ [.int .i64 e.1, .int .i64 e.2] := by simp [cells2]
theorem cells2_length (l : List (Int × Int)) : (cells2 l).length = l.length * 2 := by
  induction l with
  | nil => rfl
  | cons e r ih => simp [cells2] at ih ⊢; omega
theorem cells2_at {l : List (Int × Int)} {j : Nat} {e : Int × Int} (h : l[j]? = some e) : (cells2 l)[j * 2]? = some (.int .i64 e.1) ∧ (cells2 l)[j * 2 + 1]? = some (.int .i64 e.2) := by
  induction l generalizing j with
  | nil => simp at h
  | cons x r ih =>
    have hc : cells2 (x :: r) = [Value.int .i64 x.1, .int .i64 x.2] ++ cells2 r := rfl
    rw [hc]
    cases j with
    | zero =>
      simp at h
      subst h
      exact ⟨rfl, rfl⟩
    | succ j =>
      simp at h
      obtain ⟨h1, h2⟩ := ih h
      rw [List.getElem?_append_right (by simp; omega), List.getElem?_append_right (by simp; omega), ← h1, ← h2]
      exact ⟨by congr 1; simp; omega, by congr 1; simp; omega⟩
/-- The slice that begins at A holds the list l, in blocks below B. -/
def RdT (w : World) (B : Nat) (A : Option Addr) (l : List (Int × Int)) : Prop :=
  ∀ (j : Nat) (e : Int × Int), l[j]? = some e → ∃ ad, A = some ad ∧ ad.block < B ∧ w.cell? (ad.add (j * 2)) = some (.int .i64 e.1) ∧ w.cell? ⟨(ad.add (j * 2)).block, (ad.add (j * 2)).off + 1, none⟩ = some (.int .i64 e.2)
theorem RdT.nil {w : World} {B : Nat} {A : Option Addr} : RdT w B A [] := fun j e hj => by simp at hj
theorem RdT.keep {w w' : World} {B : Nat} {A : Option Addr} {l : List (Int × Int)} (h : RdT w B A l) (hk : ∀ p : Addr, p.block < B → w'.cell? p = w.cell? p) : RdT w' B A l := fun j e hj => by
  obtain ⟨ad, hA, hB, c0, c1⟩ := h j e hj
  have hbl : (ad.add (j * 2)).block = ad.block := addr_block _ _
  exact ⟨ad, hA, hB, (hk _ (by rw [hbl]; exact hB)).trans c0, (hk ⟨(ad.add (j * 2)).block, (ad.add (j * 2)).off + 1, none⟩ (by show (ad.add (j * 2)).block < B; rw [hbl]; exact hB)).trans c1⟩
theorem RdT.below {w w' : World} {B : Nat} {A : Option Addr} {l : List (Int × Int)} (h : RdT w B A l) (hb : Below B w w') : RdT w' B A l := h.keep fun _ hp => hb.cell hp
theorem RdT.more {w : World} {B B' : Nat} {A : Option Addr} {l : List (Int × Int)} (h : RdT w B A l) (hB : B ≤ B') : RdT w B' A l := fun j e hj => by
  obtain ⟨ad, hA, hb, c⟩ := h j e hj
  exact ⟨ad, hA, by omega, c⟩
theorem RdT.after {w w' : World} {A : Option Addr} {l : List (Int × Int)} (h : RdT w w.heap.size A l) (hb : Below w.heap.size w w') : RdT w' w'.heap.size A l := (h.below hb).more hb.size
/-- One of them. -/
theorem two_at {w w' : World} {n k : Nat} {A : Option Addr} {l : List (Int × Int)} (h : RdT w n A l) (hb : Below n w w') (hk : k < l.length) : ∃ ad a b, A = some ad ∧ w'.cell? (ad.add (k * 2)) = some (.int .i64 a) ∧ w'.cell? ⟨(ad.add (k * 2)).block, (ad.add (k * 2)).off + 1, none⟩ = some (.int .i64 b) ∧ l[k]? = some (a, b) ∧ ad.block < n := by
  obtain ⟨⟨a, b⟩, hx⟩ : ∃ x, l[k]? = some x := ⟨_, List.getElem?_eq_getElem hk⟩
  obtain ⟨ad, hA, hB, c0, c1⟩ := (h.below hb) k _ hx
  exact ⟨ad, a, b, hA, c0, c1, hx, hB⟩
/-- A row of one's own. -/
def OwnT (w : World) (base : Nat) (t : TypeId) (v : Value) (l : List (Int × Int)) : Prop := w.ownsRow base t 2 v l.length (cells2 l)
theorem OwnT.nil (w : World) (base : Nat) (t : TypeId) : OwnT w base t (.slice none 0 0) [] := ⟨rfl, .inl ⟨rfl, rfl⟩⟩
theorem addr0_add2 (g k : Nat) : (⟨g, 0, none⟩ : Addr).add k = ⟨g, k, none⟩ := by
  unfold Addr.add
  split
  · rename_i h; subst h; rfl
  · simp
theorem OwnT.shape {w : World} {base : Nat} {t : TypeId} {v : Value} {l : List (Int × Int)} (h : OwnT w base t v l) :
    ∃ A' c', v = .slice A' l.length c' ∧ RdT w w.heap.size A' l ∧ l.length ≤ c' ∧ c' ≤ maxLen ∧ (A' = none → c' = 0) := by
  rcases h.2 with ⟨rfl, h0⟩ | ⟨g, cap, cur, rfl, _, hg, hn, hm, _, _⟩
  · have : l = [] := List.eq_nil_of_length_eq_zero h0
    subst this
    exact ⟨none, 0, rfl, RdT.nil, Nat.le_refl _, Nat.zero_le _, fun _ => rfl⟩
  · refine ⟨_, cap, rfl, fun j e hj => ?_, hn, hm, fun h => by cases h⟩
    obtain ⟨c0, c1⟩ := cells2_at hj
    have d0 := World.ownsRow.cells h rfl (j * 2) _ c0
    have d1 := World.ownsRow.cells h rfl (j * 2 + 1) _ c1
    simp only [addr0_add2] at d0 d1
    exact ⟨_, rfl, lt_of_block hg, by rw [addr0_add2]; exact d0, by rw [addr0_add2]; exact d1⟩
theorem OwnT.below {w w1 : World} {base : Nat} {t : TypeId} {v : Value} {l : List (Int × Int)} (h : OwnT w base t v l) (hb : Below w.heap.size w w1) : OwnT w1 base t v l :=
  World.ownsRow.kept h (row := none) ⟨hb.os, hb.tape, hb.output, hb.size, fun k hk _ => hb.block k hk⟩ (by cases v.ownBlock <;> simp)
theorem OwnT.snoc {w : World} {base : Nat} {t : TypeId} {v : Value} {l : List (Int × Int)} {a b : Int} (h : w.ownsRow base t 2 v (l.length + 1) (cells2 l ++ [.int .i64 a, .int .i64 b])) : OwnT w base t v (l ++ [(a, b)]) := by
  unfold OwnT
  rw [List.length_append, cells2_snoc]
  exact h
theorem OwnT.less {w : World} {base base' : Nat} {t : TypeId} {v : Value} {l : List (Int × Int)} (h : OwnT w base t v l) (hb : base' ≤ base) : OwnT w base' t v l := own_base h hb
theorem two_new (w : World) (a b : Int) (t : TypeId) : ∀ j u, [Value.int .i64 a, .int .i64 b][j]? = some u → (w.alloc (.cells #[.int .i64 a, .int .i64 b] t)).cell? ((⟨w.heap.size, 0, none⟩ : Addr).add j) = some u := by
  intro j u hj
  match j, hj with
  | 0, hj => simp at hj; subst hj; simp [Addr.add, go_sem]
  | 1, hj => simp at hj; subst hj; simp [Addr.add, go_sem]
theorem two_one {a b : Int} : ∀ u ∈ [Value.int .i64 a, .int .i64 b], u.oneCell' = true := by
  intro u hu
  simp at hu
  rcases hu with rfl | rfl <;> rfl
/-- What leaves a row of them. -/
def OutT (t : TypeId) (l : List (Int × Int)) (w : World) (r : Ending) (w' : World) : Prop := ∃ v, r = .returned v ∧ OwnT w' w.heap.size t v l ∧ Below w.heap.size w w'
theorem Try.infoMark : (Try.prog.info? 45).map (fun i => (i.zero, i.size, i.bytes)) = some (some (.agg #[.int .i64 0, .int .i64 0]), 2, 16) := by kernel_rfl
theorem Try.infoArr2 : (Try.prog.info? 41).map (fun i => (i.zero, i.size, i.bytes)) = some (some (.agg #[.int .i64 0, .int .i64 0]), 2, 16) := by kernel_rfl
theorem Try.infoInt2 : (Try.prog.info? 3).map (fun i => (i.zero, i.size, i.bytes)) = some (some (.int .i64 0), 1, 8) := by kernel_rfl
theorem Try.infoCls2 : (Try.prog.info? 32).map (fun i => (i.zero, i.size, i.bytes)) = some (some (.int .i64 0), 1, 8) := by kernel_rfl
/-- An array of two numbers is itself. -/
theorem neq_arr2 (w : World) (a b : Int) : (binOp .neq 41 (.agg #[.int .i64 a, .int .i64 b]) (.agg #[.int .i64 a, .int .i64 b])).run Try.prog w = .ok (.bool false) w := by
  obtain ⟨i, hi⟩ : ∃ i, Try.prog.info? 3 = some i := by
    obtain ⟨i, hi, -⟩ := info_parts Try.infoInt2
    exact ⟨i, hi⟩
  rw [run_neq_struct, run_equalIn_array w 9999 _ _ Try.underlying41 hi]
  have h2 : List.range 2 = [0, 1] := rfl
  have ci : Try.prog.cellsOf 3 = 1 := by kernel_rfl
  simp [h2, Op.eqItems, ci, part, isAgg, go_sem]
theorem guard_arr2 : Try.prog.eqGuardType Try.prog.depth 41 = false := by kernel_rfl
end Go.Proofs.Ytaiojghbknacjaa
