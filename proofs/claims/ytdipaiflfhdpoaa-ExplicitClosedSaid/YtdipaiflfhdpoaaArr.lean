/- Arguments that came in: an array of two whole numbers, and an array of three slices of whole numbers, opened. No function of the program is walked here. -/
import Derived.Test.YtdipaiflfhdpoaaOpen
import Derived.Deep.Slices
import Derived.OpenShut
import Derived.SizedLaws
namespace Go.Proofs.Ytdipaiflfhdpoaa
open Go.ChangeShapes Go.WideShapes Go.ChangeAt Go.WideMaps Go.WideElems Go.RowKit

section
variable {H : Type} {enc : TypeId × Value → H} {W : World} {base : Nat}
/-- An array of two whole numbers. -/
theorem open_arr2 {v : Value} {d : DataW H} {p : List MemPlace} (hv : Value.okWide Try.prog W .any base 35 v) (h : DataW.Trod enc Try.prog W 0 (fun _ => true) true 35 v d p) :
    ∃ a b : Int, v = .agg #[.int .i64 a, .int .i64 b] ∧ (Lit.int .i64 a).wf = true ∧ (Lit.int .i64 b).wf = true := by
  obtain ⟨cs0, rfl, hok, _⟩ : ∃ cs, v = .agg cs ∧ cs.size = Try.prog.cellsOf 35 ∧ Row.okWide Try.prog W .any base 35 cs := by
    simpa only [Value.okWide, Try.underlying35] using hv
  obtain ⟨fuel, hf⟩ := h
  obtain ⟨xs, n, _, _, hlen, hn3, hel⟩ := DataW.trod_array Try.underlying35 hf
  have c3 : Try.prog.cellsOf 35 = 2 := by kernel_rfl
  have c1 : Try.prog.cellsOf 3 = 1 := by kernel_rfl
  rw [c3] at hlen
  rw [c1] at hel
  obtain ⟨cl, rfl⟩ : ∃ cl : List Value, cs0 = cl.toArray := ⟨cs0.toList, by simp⟩
  simp only [Value.cells] at hlen hel
  match cl, hlen, xs, hn3, hel with
  | [k0, k1], _, [x0, x1], _, hel =>
    obtain ⟨a, e0, _, w0⟩ := DataW.trod_int Try.underlying3 (hel 0 (by decide))
    obtain ⟨b, e1, _, w1⟩ := DataW.trod_int Try.underlying3 (hel 1 (by decide))
    simp at e0 e1
    subst e0 e1
    exact ⟨a, b, rfl, w0, w1⟩
/-- A slice of whole numbers in one cell, that reads as a list. -/
def LstC (W : World) (v : Value) (A : Option Addr) (c : Nat) (l : List Int) : Prop :=
  v = .slice A l.length c ∧ RdS .i64 W W.heap.size A l ∧ l.length ≤ c ∧ l.length * 8 ≤ 140737488351232 ∧ (A = none → c = 0)
theorem list_cell {t e : TypeId} {fuel : Nat} {v : Value} {x : DataW H × List MemPlace} (ht : Try.prog.underlying t = some (.slice e)) (he : Try.prog.underlying e = some (.int .i64)) (hc : Try.prog.cellsOf e = 1) (hb : Try.prog.bytesOf e = 8)
    (hf : DataW.trod enc Try.prog W 0 (fun _ => true) true fuel t [v] = some x) (hw : ∀ k ∈ x.1.weights Try.prog t, k ≤ reachBytes) : ∃ A c l, LstC W v A c l := by
  rcases open_ints ht he hc hf with ⟨hcs, _⟩ | ⟨x, len0, cap0, zs, hcs, _, hl, hm, hz, hx, hcell, _⟩
  · simp at hcs
    subst hcs
    exact ⟨none, 0, [], rfl, RdS.nil, Nat.le_refl _, by simp, fun _ => rfl⟩
  · simp at hcs
    subst hcs
    have hz' : zs.length = cap0 := by simpa using hz
    have hlen : (zs.take len0).length = len0 := by rw [List.length_take]; omega
    refine ⟨some x, cap0, zs.take len0, by rw [hlen], fun j y hy => ?_, by rw [hlen]; exact hl, ?_, fun h => by cases h⟩
    rw [List.getElem?_take] at hy
    split at hy
    · rename_i hj
      have hj' : j < zs.length := by omega
      have hcj := hcell j hj'
      have hyy : zs.getD j 0 = y := by simp [List.getD, hy]
      rw [hyy] at hcj
      exact ⟨x, rfl, by have := World.block_lt_of_cell? W _ hcj; rwa [addr_block] at this, hcj⟩
    · cases hy
    · subst hx
      have h8 := hw (((lits IntKind.i64 (zs.take len0) : List (DataW H)).length + (lits IntKind.i64 (zs.drop len0) : List (DataW H)).length) * Try.prog.bytesOf e) (by simp [DataW.weights, ht])
      rw [hb] at h8
      have e1 : (lits IntKind.i64 (zs.take len0) : List (DataW H)).length = (zs.take len0).length := by simp [lits]
      rw [e1] at h8
      exact Nat.le_trans (Nat.mul_le_mul_right _ (Nat.le_add_right _ _)) h8
/-- An array of three slices of classes. -/
theorem open_arr3 {v : Value} {d : DataW H} {ds : List (DataW H)} {ts : List TypeId} {p : List MemPlace} (hsz : (DataW.weightsEach Try.prog (38 :: ts) (d :: ds)).all (· ≤ reachBytes) = true) (hv : Value.okWide Try.prog W .any base 38 v) (h : DataW.Trod enc Try.prog W 0 (fun _ => true) true 38 v d p) :
    ∃ v0 v1 v2 A0 c0 l0 A1 c1 l1 A2 c2 l2, v = .agg #[v0, v1, v2] ∧ LstC W v0 A0 c0 l0 ∧ LstC W v1 A1 c1 l1 ∧ LstC W v2 A2 c2 l2 := by
  obtain ⟨cs0, rfl, hok, _⟩ : ∃ cs, v = .agg cs ∧ cs.size = Try.prog.cellsOf 38 ∧ Row.okWide Try.prog W .any base 38 cs := by
    simpa only [Value.okWide, Try.underlying38] using hv
  obtain ⟨fuel, hf⟩ := h
  obtain ⟨xs, n, _, hd, hlen, hn3, hel⟩ := DataW.trod_array Try.underlying38 hf
  have c3 : Try.prog.cellsOf 38 = 3 := by kernel_rfl
  have c1 : Try.prog.cellsOf 22 = 1 := by kernel_rfl
  rw [c3] at hlen
  rw [c1] at hel
  obtain ⟨cl, rfl⟩ : ∃ cl : List Value, cs0 = cl.toArray := ⟨cs0.toList, by simp⟩
  simp only [Value.cells] at hlen hel
  match cl, hlen, xs, hn3, hel, hd with
  | [k0, k1, k2], _, [x0, x1, x2], _, hel, hd =>
    have hd1 : d = .agg [x0.1, x1.1, x2.1] := by injection hd
    subst hd1
    have hw := fun k (hk : k ∈ (DataW.agg [x0.1, x1.1, x2.1]).weights Try.prog 38) => (show k ≤ reachBytes by simpa using List.all_eq_true.1 hsz k (by simp only [DataW.weightsEach, List.mem_append]; exact .inl hk))
    have hu : (DataW.agg [x0.1, x1.1, x2.1]).weights Try.prog 38 = x0.1.weights Try.prog 22 ++ (x1.1.weights Try.prog 22 ++ (x2.1.weights Try.prog 22 ++ [])) := by
      simp only [DataW.weights, Try.underlying38, DataW.weightsAll]
    rw [hu] at hw
    have g0 : ∀ k ∈ x0.1.weights Try.prog 22, k ≤ reachBytes := fun k hk => hw k (by simp [hk])
    have g1 : ∀ k ∈ x1.1.weights Try.prog 22, k ≤ reachBytes := fun k hk => hw k (by simp [hk])
    have g2 : ∀ k ∈ x2.1.weights Try.prog 22, k ≤ reachBytes := fun k hk => hw k (by simp [hk])
    obtain ⟨A0, a0, l0, z0⟩ := list_cell Try.underlying22 Try.underlying34 (by kernel_rfl) (by kernel_rfl) (show DataW.trod enc Try.prog W 0 (fun _ => true) true n 22 [k0] = some x0 from hel 0 (by decide)) g0
    obtain ⟨A1, a1, l1, z1⟩ := list_cell Try.underlying22 Try.underlying34 (by kernel_rfl) (by kernel_rfl) (show DataW.trod enc Try.prog W 0 (fun _ => true) true n 22 [k1] = some x1 from hel 1 (by decide)) g1
    obtain ⟨A2, a2, l2, z2⟩ := list_cell Try.underlying22 Try.underlying34 (by kernel_rfl) (by kernel_rfl) (show DataW.trod enc Try.prog W 0 (fun _ => true) true n 22 [k2] = some x2 from hel 2 (by decide)) g2
    exact ⟨k0, k1, k2, A0, a0, l0, A1, a1, l1, A2, a2, l2, rfl, z0, z1, z2⟩
end
end Go.Proofs.Ytdipaiflfhdpoaa
