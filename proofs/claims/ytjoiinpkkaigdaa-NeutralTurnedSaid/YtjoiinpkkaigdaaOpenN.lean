/- Arguments that came in: a struct of three numbers, and a slice of classes with its own reach, opened. No function of the program is walked here. -/
import Derived.Test.YtjoiinpkkaigdaaOpen
import Derived.Deep.Slices
import Derived.OpenShut
import Derived.SizedLaws
namespace Go.Proofs.Ytjoiinpkkaigdaa
open Go.ChangeShapes Go.WideShapes Go.ChangeAt Go.WideMaps Go.WideElems Go.RowKit
set_option maxRecDepth 100000

section
variable {H : Type} {enc : TypeId × Value → H} {W : World} {base : Nat}
/-- A struct of a level and two sides. -/
theorem open_seq {v : Value} {d : DataW H} {p : List MemPlace} (hv : Value.okWide Try.prog W .any base 25 v) (h : DataW.Trod enc Try.prog W 0 (fun _ => true) true 25 v d p) :
    ∃ a b c : Int, v = .agg #[.int .i64 a, .int .i64 b, .int .i64 c] := by
  obtain ⟨cs0, rfl, hok, _⟩ : ∃ cs, v = .agg cs ∧ cs.size = Try.prog.cellsOf 25 ∧ Row.okWide Try.prog W .any base 25 cs := by
    simpa only [Value.okWide, Try.underlying25] using hv
  obtain ⟨fuel, hf⟩ := h
  obtain ⟨xs, n, _, _, hlen, hn3, hel⟩ := DataW.trod_struct Try.underlying25 hf
  have c3 : Try.prog.cellsOf 25 = 3 := by kernel_rfl
  have ci : Try.prog.cellsOf 3 = 1 := by kernel_rfl
  have cc : Try.prog.cellsOf 23 = 1 := by kernel_rfl
  rw [c3] at hlen
  obtain ⟨cl, rfl⟩ : ∃ cl : List Value, cs0 = cl.toArray := ⟨cs0.toList, by simp⟩
  simp only [Value.cells] at hlen hel
  match cl, hlen, xs, hn3, hel with
  | [k0, k1, k2], _, [x0, x1, x2], _, hel =>
    have f0 : DataW.trod enc Try.prog W 0 (fun _ => true) true n 3 (List.take (Try.prog.cellsOf 3) [k0, k1, k2]) = some x0 := hel 0 _ rfl
    have f1 : DataW.trod enc Try.prog W 0 (fun _ => true) true n 23 (List.take (Try.prog.cellsOf 23) [k1, k2]) = some x1 := hel 1 _ rfl
    have f2 : DataW.trod enc Try.prog W 0 (fun _ => true) true n 23 (List.take (Try.prog.cellsOf 23) [k2]) = some x2 := hel 2 _ rfl
    rw [ci] at f0
    rw [cc] at f1 f2
    obtain ⟨a, e0, _, _⟩ := DataW.trod_int Try.underlying3 f0
    obtain ⟨b, e1, _, _⟩ := DataW.trod_int Try.underlying23 f1
    obtain ⟨c, e2, _, _⟩ := DataW.trod_int Try.underlying23 f2
    simp at e0 e1 e2
    subst e0 e1 e2
    exact ⟨a, b, c, rfl⟩
theorem open_listS {v : Value} {d : DataW H} {p : List MemPlace} (hw : ∀ k ∈ d.weights Try.prog 22, k ≤ reachBytes) (hv : Value.okWide Try.prog W .any base 22 v) (h : DataW.Trod enc Try.prog W 0 (fun _ => true) true 22 v d p) :
    ∃ (A : Option Addr) (c : Nat) (l : List Int), v = .slice A l.length c ∧ RdS .i64 W W.heap.size A l ∧ l.length ≤ c ∧ c ≤ maxLen ∧ l.length * 8 ≤ 140737488351232 ∧ (A = none → c = 0) := by
  obtain ⟨A, c, l, rfl, hr, hle, hmx, _, hnn⟩ := open_list Try.underlying22 Try.underlying23 (by kernel_rfl) hv h
  refine ⟨A, c, l, rfl, hr, hle, hmx, ?_, hnn⟩
  obtain ⟨fuel, hf⟩ := h
  have bT : Try.prog.bytesOf 23 = 8 := by kernel_rfl
  rcases Deep.open_slice Try.underlying22 hf with ⟨hcs, _⟩ | ⟨a, len1, cap1, m, n, D, Pl, hcs, _, hl, hm, hmm, hx, hi⟩
  · simp [Value.cells] at hcs
    rw [hcs.2.1]
    decide
  · simp [Value.cells] at hcs
    obtain ⟨-, hll, -⟩ := hcs
    have hd : d = .slice ((List.range len1).map D) ((List.range (m - len1)).map fun j => D (len1 + j)) := by injection hx
    have h8 := hw ((((List.range len1).map D).length + ((List.range (m - len1)).map fun j => D (len1 + j)).length) * Try.prog.bytesOf 23) (by rw [hd]; simp [DataW.weights, Try.underlying22])
    rw [bT, List.length_map, List.length_range] at h8
    rw [hll]
    exact Nat.le_trans (Nat.mul_le_mul_right _ (Nat.le_add_right _ _)) h8
end
end Go.Proofs.Ytjoiinpkkaigdaa
