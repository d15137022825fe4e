/- Arguments that came in: a slice of whole numbers with its own reach, opened. No function of the program is walked here. -/
import Derived.Test.YtahjkndphkpieaaOpen
import Derived.Deep.Slices
import Derived.OpenShut
import Derived.SizedLaws
namespace Go.Proofs.Ytahjkndphkpieaa
open Go.ChangeShapes Go.WideShapes Go.ChangeAt Go.WideMaps Go.WideElems Go.RowKit
set_option maxRecDepth 100000

section
variable {H : Type} {enc : TypeId × Value → H} {W : World} {base : Nat}
theorem open_listS {v : Value} {d : DataW H} {p : List MemPlace} (hw : ∀ k ∈ d.weights Try.prog 22, k ≤ reachBytes) (hv : Value.okWide Try.prog W .any base 22 v) (h : DataW.Trod enc Try.prog W 0 (fun _ => true) true 22 v d p) :
    ∃ (A : Option Addr) (c : Nat) (l : List Int), v = .slice A l.length c ∧ RdS .i64 W W.heap.size A l ∧ l.length ≤ c ∧ c ≤ maxLen ∧ l.length * 8 ≤ 140737488351232 ∧ (A = none → c = 0) := by
  obtain ⟨A, c, l, rfl, hr, hle, hmx, _, hnn⟩ := open_list Try.underlying22 Try.underlying3 (by kernel_rfl) hv h
  refine ⟨A, c, l, rfl, hr, hle, hmx, ?_, hnn⟩
  obtain ⟨fuel, hf⟩ := h
  have bT : Try.prog.bytesOf 3 = 8 := by kernel_rfl
  rcases Deep.open_slice Try.underlying22 hf with ⟨hcs, _⟩ | ⟨a, len1, cap1, m, n, D, Pl, hcs, _, hl, hm, hmm, hx, hi⟩
  · simp [Value.cells] at hcs
    rw [hcs.2.1]
    decide
  · simp [Value.cells] at hcs
    obtain ⟨-, hll, -⟩ := hcs
    have hd : d = .slice ((List.range len1).map D) ((List.range (m - len1)).map fun j => D (len1 + j)) := by injection hx
    have h8 := hw ((((List.range len1).map D).length + ((List.range (m - len1)).map fun j => D (len1 + j)).length) * Try.prog.bytesOf 3) (by rw [hd]; simp [DataW.weights, Try.underlying22])
    rw [bT, List.length_map, List.length_range] at h8
    rw [hll]
    exact Nat.le_trans (Nat.mul_le_mul_right _ (Nat.le_add_right _ _)) h8
end
end Go.Proofs.Ytahjkndphkpieaa
