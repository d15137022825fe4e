/- A slice of classes copied into a block of one's own, of whatever length; and what a pair becomes, told in two ways. No function of the program is walked here. -/
import Derived.Test.YtaiojghbknacjaaCPairs
import Derived.Laws.CopyOwn
namespace Go.Proofs.Ytaiojghbknacjaa
open Go.RowKit
set_option maxRecDepth 100000

/-- A block that holds classes. -/
def BlockC (w : World) (G : Nat) (l : List Int) : Prop := w.heap[G]? = some (.cells (l.map (Value.int .i64)).toArray 32 (0, 0))
theorem below_row {w W1 : World} {G n : Nat} {cs : Array Value} (h : Below n w W1) (hG : n ≤ G) : Below n w (W1.setRow G cs) := ⟨h.os, h.tape, h.output, by simpa [World.setRow] using h.size, fun k hk => by
  rw [← h.block k hk]
  unfold World.setRow
  simp only
  rw [Array.getElem?_modify, if_neg (by omega)]⟩
theorem copy_any (A : Option Addr) (ca n G : Nat) (l : List Int) (w W1 : World) (Z : Array Value) (hr : RdS .i64 W1 w.heap.size A l) (hn : l.length = n) (hG : w.heap.size ≤ G) (hg : W1.heap[G]? = some (.cells Z 32 (0, 0))) (hZ : Z.size = n) (hZ0 : n = 0 → Z = #[]) (hb : Below w.heap.size w W1) :
    ∃ v W2, (Builtin.copy_ #[22, 22] 3 #[.slice (some ⟨G, 0, none⟩) n n, .slice A n ca]).run Try.prog W1 = .ok v W2 ∧ BlockC W2 G l ∧ Below w.heap.size w W2 := by
  by_cases h0 : n = 0
  · subst h0
    obtain rfl : l = [] := List.eq_nil_of_length_eq_zero hn
    refine ⟨_, W1, run_copy_none (P := Try.prog) W1 22 22 3 32 (some ⟨G, 0, none⟩) A 0 0 0 ca Try.underlying22 (by kernel_rfl) rfl, ?_, hb⟩
    unfold BlockC
    rw [hg, hZ0 rfl]
    rfl
  · obtain ⟨ad, rfl, _⟩ := hr 0 l[0] (List.getElem?_eq_getElem (by omega))
    have hcl : (l.map (Value.int IntKind.i64)).length = n := by simpa using hn
    refine ⟨_, _, run_copy_row (P := Try.prog) W1 22 22 3 32 G 0 n n ad n ca Z 32 (l.map (Value.int .i64)) Try.underlying22 (by kernel_rfl) hg (by rw [hcl]; exact (Nat.min_self n).symm) (fun j v hj => ?_) (by omega) (fun v hv => ?_), ?_, below_row hb hG⟩
    · rw [List.getElem?_map] at hj
      cases hx : l[j]? with
      | none => rw [hx] at hj; cases hj
      | some y =>
        rw [hx] at hj
        cases hj
        obtain ⟨ad', hA', _, hc'⟩ := hr j y hx
        injection hA' with e
        rw [e]
        exact hc'
    · simp only [List.mem_map] at hv
      obtain ⟨y, _, rfl⟩ := hv
      rfl
    · have := setRow_heap W1 G Z (Z.toList.take 0 ++ l.map (Value.int .i64) ++ Z.toList.drop (0 + (l.map (Value.int IntKind.i64)).length)).toArray 32 _ hg
      unfold BlockC
      rw [this]
      have hz : Z.toList.length = n := by simpa using hZ
      rw [hcl, List.take_zero, List.nil_append, List.drop_of_length_le (by omega), List.append_nil]
/-- A block of one's own is a row of one's own. -/
theorem BlockC.own {w : World} {G n base : Nat} {l : List Int} (h : BlockC w G l) (hn : l.length = n) (hm : n ≤ maxLen) (hG : base ≤ G) : w.ownsRow base 32 1 (.slice (some ⟨G, 0, none⟩) n n) n (l.map (Value.int .i64)) :=
  ⟨by simp [hn], .inr ⟨G, n, _, rfl, hG, h, Nat.le_refl _, hm, by simpa using hn, by rw [Nat.mul_one]; exact List.take_of_length_le (by simp [hn])⟩⟩
section
variable {side other f : Int} {out : List Int} {p q : Nat}
theorem M.bec_none (hf : f = 0 ∨ f = 1) (hso : (side = 0 ∧ other = 1) ∨ (side = 1 ∧ other = 0)) (h : M.becB side out p q = false) : M.toOf side other f out p q = 13 := by
  unfold M.becB at h
  rw [Bool.or_eq_false_iff] at h
  have h3 := M.anyS_is hso h.1
  rw [M.toOf_is hf hso, h.1, ← h3, h.2]
  rfl
theorem M.bec_some (hf : f = 0 ∨ f = 1) (hso : (side = 0 ∧ other = 1) ∨ (side = 1 ∧ other = 0)) (h : M.becB side out p q = true) : M.toOf side other f out p q = M.becV side f out p q ∧ (M.becV side f out p q = 0 ∨ M.becV side f out p q = 1) := by
  unfold M.becB at h
  rw [M.toOf_is hf hso]
  unfold M.becV
  cases h1 : M.btw side out (q - (p + 1)) (p + 1) with
  | true => exact ⟨rfl, by rw [if_pos rfl]; omega⟩
  | false =>
    rw [h1, Bool.false_or] at h
    have h3 := M.anyS_is hso h1
    rw [h] at h3
    rw [h, ← h3]
    exact ⟨rfl, M.ahd_or hf _⟩
end
end Go.Proofs.Ytaiojghbknacjaa
