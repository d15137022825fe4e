/- The code's Sorted, over the translation: a new slice that holds the words in order, stably. Conditions: the slice reads as a list of words, at most sixty of them. -/
import Derived.Test.YtdjdgpfoakkamaaReads
import Derived.Test.YtdjdgpfoakkamaaStable
import Derived.OwnWalk
import Derived.Laws.CopyOwn
import Derived.Laws.OwnMore
namespace Go.Proofs.Ytdjdgpfoakkamaa
open Go.RowKit

theorem Try.infoWord : (Try.prog.info? 22).map (fun i => (i.zero, i.size, i.bytes)) = some (some (.int .u64 0), 1, 8) := by kernel_rfl

/-- What a sorting leaves: a slice that reads as the list in order. -/
def SortedOut (l : List Int) (w : World) (r : Ending) (w' : World) : Prop :=
  ∃ A c t, r = .returned (.slice A l.length c) ∧ RdS .u64 w' w'.heap.size A t ∧ M.Sor t ∧ M.St l t ∧ Below w.heap.size w w'

theorem row_of_own {w : World} {base g n cap : Nat} {e : TypeId} {l : List Int} (h : w.ownsRow base e 1 (.slice (some ⟨g, 0, none⟩) n cap) n (l.map (Value.int .u64))) : Row w g l := by
  have hl : l.length = n := by have := h.1; simpa using this
  refine ⟨(World.ownsRow.lt h g rfl).2, fun j x hj => ?_, fun j _ => World.ownsRow.frozenAt h j⟩
  rw [World.ownsRow.cellAt h j (by have := (List.getElem?_eq_some_iff.1 hj).1; omega), List.getElem?_map, hj]
  rfl
theorem rd_of_row {w : World} {g : Nat} {l : List Int} (h : Row w g l) : RdS .u64 w w.heap.size (some ⟨g, 0, none⟩) l := fun j x hj =>
  ⟨_, rfl, h.b, by rw [addr0]; exact h.c j x hj⟩

theorem rd_ex {w : World} {n k : Nat} {A : Option Addr} {l : List Int} (h : RdS .u64 w n A l) (hk : k < l.length) : ∃ ad x, A = some ad ∧ w.cell? (ad.add k) = some (.int .u64 x) ∧ l[k]? = some x := by
  obtain ⟨x, hx⟩ : ∃ x, l[k]? = some x := ⟨_, List.getElem?_eq_getElem hk⟩
  obtain ⟨ad, hA, hB, hc⟩ := h k x hx
  exact ⟨ad, x, hA, hc, hx⟩

theorem row_of_block {w : World} {g : Nat} {l : List Int} {e : TypeId} (h : w.heap[g]? = some (.cells (l.map (Value.int .u64)).toArray e (0, 0))) : Row w g l :=
  ⟨lt_of_block h, fun j x hj => by
    unfold World.cell?
    rw [h]
    simp [hj], fun j _ => by
    unfold World.frozen?
    rw [h]
    simp⟩

/-- A copy of a slice's words into a new row. -/
theorem copy_any (A : Option Addr) (ca n G : Nat) (l : List Int) (w W1 : World) (Z : Array Value) (hr : RdS .u64 W1 w.heap.size A l) (hn : l.length = n) (hG : w.heap.size ≤ G) (hg : W1.heap[G]? = some (.cells Z 22 (0, 0))) (hZ : Z.size = n) (hb : Below w.heap.size w W1) :
    ∃ v W2, (Builtin.copy_ #[32, 32] 3 #[.slice (some ⟨G, 0, none⟩) n n, .slice A n ca]).run Try.prog W1 = .ok v W2 ∧ Row W2 G l ∧ Below w.heap.size w W2 := by
  by_cases h0 : n = 0
  · subst h0
    obtain rfl : l = [] := List.eq_nil_of_length_eq_zero hn
    refine ⟨_, W1, run_copy_none (P := Try.prog) W1 32 32 3 22 (some ⟨G, 0, none⟩) A 0 0 0 ca Try.underlying32 (by kernel_rfl) rfl, ?_, hb⟩
    exact ⟨lt_of_block hg, fun j x hj => by simp at hj, fun j hj => by simp at hj⟩
  · obtain ⟨ad, x, rfl, _⟩ := rd_ex hr (by omega : 0 < l.length)
    have hcl : (l.map (Value.int IntKind.u64)).length = n := by simpa using hn
    refine ⟨_, _, run_copy_row (P := Try.prog) W1 32 32 3 22 G 0 n n ad n ca Z 22 (l.map (Value.int .u64)) Try.underlying32 (by kernel_rfl) hg (by rw [hcl]; exact (Nat.min_self n).symm) (fun j v hj => ?_) (by omega) (fun v hv => ?_), ?_, below_setRow hb hG _⟩
    · rw [List.getElem?_map] at hj
      cases hx : l[j]? with
      | none => rw [hx] at hj; cases hj
      | some y =>
        rw [hx] at hj
        cases hj
        obtain ⟨ad', hA', _, hc'⟩ := hr j y hx
        injection hA' with e
        rw [e]
        exact hc'
    · simp only [List.mem_map] at hv
      obtain ⟨y, _, rfl⟩ := hv
      rfl
    · refine row_of_block (e := 22) ?_
      have := setRow_heap W1 G Z (Z.toList.take 0 ++ l.map (Value.int .u64) ++ Z.toList.drop (0 + (l.map (Value.int IntKind.u64)).length)).toArray 22 _ hg
      rw [this]
      have hz : Z.toList.length = n := by simpa using hZ
      rw [hcl, List.take_zero, List.nil_append, List.drop_of_length_le (by omega), List.append_nil]

set_option maxHeartbeats 4000000 in
theorem sorted_any (A : Option Addr) (ca n : Nat) (l : List Int) (w : World) (hr : RdS .u64 w w.heap.size A l) (hw : M.Wd l) (hn : l.length = n) (hl : n ≤ 60) :
    Calls Try.prog 20 #[.slice A n ca] w (SortedOut l w) := by
  obtain ⟨i0, hi, hz0, hz1, hz2⟩ := info_parts Try.infoWord
  have hmk0 := run_make (P := Try.prog) w 32 22 i0 (.int .u64 0) Try.underlying32 hi hz0 .i64 .i64 n n (by omega) (Int.le_refl _) (by rw [hz2]; omega) (by omega)
  rw [Int.toNat_natCast, hz1, Nat.mul_one] at hmk0
  obtain ⟨Z, hZ⟩ : ∃ Z, madeCells (Value.int IntKind.u64 0).cells n = Z := ⟨_, rfl⟩
  have hZs : Z.size = n := by rw [← hZ]; exact size_madeCells _ _
  rw [hZ] at hmk0
  obtain ⟨W1, hW1⟩ : ∃ W1, w.alloc (.cells Z 22) = W1 := ⟨_, rfl⟩
  have hg1 : W1.heap[w.heap.size]? = some (.cells Z 22 (0, 0)) := by
    rw [← hW1]
    show (w.heap.push _)[w.heap.size]? = _
    simp
  have hb1 : Below w.heap.size w W1 := by rw [← hW1]; exact (Below.refl _ _).alloc (Nat.le_refl _) _
  rw [hW1] at hmk0
  obtain ⟨G, hG⟩ : ∃ G, w.heap.size = G := ⟨_, rfl⟩
  rw [hG] at hmk0 hg1
  obtain ⟨v, W2, hcp, hrow, hb2⟩ := copy_any A ca n G l w W1 Z (hr.below hb1) hn (by omega) hg1 hZs hb1
  have HG := Lib.hid hG
  have HN := Lib.hid hn
  have hl1 : (n : Int) ≤ 60 := by omega
  have HC := Lib.hid (sortStable_any G n n l W2 hrow hn (by omega) hw)
  have HB2 := Lib.hid hb2
  clear hr hw hn hZ hZs hW1 hg1 hb1 hG hz0 hz1 hz2 hi hrow hb2
  go_enter Try.func20, Try.ntmps20
  go_wp2_with fail
  refine HC.out.mono ?_
  rintro r w3 ⟨rfl, t, h1, h2, h3, h4⟩
  have HF := Lib.hid (show RdS .u64 w3 w3.heap.size (some ⟨G, 0, none⟩) t ∧ M.Sor t ∧ M.St l t ∧ Below w.heap.size w w3 from ⟨rd_of_row h1, h2, h3, HB2.out.trans (by rw [HG.out]; exact h4)⟩)
  clear h1 h2 h3 h4
  go_wp2_with fail
  go_ret
  obtain ⟨f1, f2, f3, f4⟩ := HF.out
  exact ⟨some ⟨G, 0, none⟩, n, t, by rw [HN.out]; rfl, f1, f2, f3, f4⟩
end Go.Proofs.Ytdjdgpfoakkamaa
