/- Arguments that came in: a slice of marks, and a struct of two slices of classes, a number and a class, opened. No function of the program is walked here. -/
import Derived.Test.YtaiojghbknacjaaOpen
import Derived.Test.YtaiojghbknacjaaTwo
import Derived.Deep.Slices
import Derived.OpenShut
import Derived.SizedLaws
namespace Go.Proofs.Ytaiojghbknacjaa
open Go.ChangeShapes Go.WideShapes Go.ChangeAt Go.WideMaps Go.WideElems Go.RowKit
set_option maxRecDepth 100000

section
variable {H : Type} {enc : TypeId × Value → H} {W : World} {base : Nat} {sp : Nat → Bool} {held : Bool}
/-- Two cells that read as a mark. -/
theorem open_mark {m : Nat} {cs : List Value} {x : DataW H × List MemPlace} (h : DataW.trod enc Try.prog W base sp held m 43 cs = some x) : ∃ a b : Int, cs = [.int .i64 a, .int .i64 b] := by
  obtain ⟨xs, n, _, _, hlen, hxl, hf⟩ := DataW.trod_struct Try.underlying43 h
  have ci : Try.prog.cellsOf 3 = 1 := by kernel_rfl
  have cT : Try.prog.cellsOf 43 = 2 := by kernel_rfl
  rw [cT] at hlen
  match cs, hlen, xs, hxl, hf with
  | [k0, k1], _, [x0, x1], _, hf =>
    have f0 : DataW.trod enc Try.prog W base sp held n 3 (List.take (Try.prog.cellsOf 3) [k0, k1]) = some x0 := hf 0 _ rfl
    have f1 : DataW.trod enc Try.prog W base sp held n 3 (List.take (Try.prog.cellsOf 3) [k1]) = some x1 := hf 1 _ rfl
    rw [ci] at f0 f1
    obtain ⟨a, e0, _, _⟩ := DataW.trod_int Try.underlying3 f0
    obtain ⟨b, e1, _, _⟩ := DataW.trod_int Try.underlying3 f1
    simp at e0 e1
    exact ⟨a, b, by rw [e0, e1]⟩
/-- A slice of marks. -/
theorem open_marks {v : Value} {d : DataW H} {p : List MemPlace} (hw : ∀ k ∈ d.weights Try.prog 23, k ≤ reachBytes) (hv : Value.okWide Try.prog W .any base 23 v) (h : DataW.Trod enc Try.prog W 0 (fun _ => true) true 23 v d p) :
    ∃ (A : Option Addr) (c : Nat) (l : List (Int × Int)), v = .slice A l.length c ∧ RdT W W.heap.size A l ∧ l.length ≤ c ∧ c ≤ maxLen ∧ l.length * 16 ≤ 140737488351232 ∧ (A = none → c = 0) := by
  obtain ⟨a0, len0, cap0, rfl⟩ := okWide_slice Try.underlying23 hv
  obtain ⟨fuel, hf⟩ := h
  rcases Deep.open_slice Try.underlying23 hf with ⟨hcs, _⟩ | ⟨a, len1, cap1, m, n, D, Pl, hcs, _, hl, hm, hmm, hx, hi⟩
  · simp [Value.cells] at hcs
    obtain ⟨rfl, rfl, rfl⟩ := hcs
    exact ⟨none, 0, [], rfl, RdT.nil, Nat.le_refl _, Nat.zero_le _, by simp, fun _ => rfl⟩
  · simp [Value.cells] at hcs
    obtain ⟨rfl, rfl, rfl⟩ := hcs
    have cT : Try.prog.cellsOf 43 = 2 := by kernel_rfl
    have bT : Try.prog.bytesOf 43 = 16 := by kernel_rfl
    rw [cT] at hi
    have hd : d = .slice ((List.range len0).map D) ((List.range (m - len0)).map fun j => D (len0 + j)) := by injection hx
    have h16 : len0 * 16 ≤ 140737488351232 := by
      have h8 := hw ((((List.range len0).map D).length + ((List.range (m - len0)).map fun j => D (len0 + j)).length) * Try.prog.bytesOf 43) (by rw [hd]; simp [DataW.weights, Try.underlying23])
      rw [bT, List.length_map, List.length_range] at h8
      exact Nat.le_trans (Nat.mul_le_mul_right _ (Nat.le_add_right _ _)) h8
    have key : ∀ i, i < len0 → ∃ e : Int × Int, W.cell? (a.add (i * 2)) = some (.int .i64 e.1) ∧ W.cell? ⟨(a.add (i * 2)).block, (a.add (i * 2)).off + 1, none⟩ = some (.int .i64 e.2) := fun i hlt => by
      obtain ⟨cs', hc, ht'⟩ := hi i (by rw [hmm]; split <;> omega)
      obtain ⟨_, _, hat⟩ := World.cells?_some hc
      obtain ⟨x, y, rfl⟩ := open_mark ht'
      have k0 := hat 0 (by omega)
      have k1 := hat 1 (by omega)
      rw [show (a.add (i * 2)).add 0 = a.add (i * 2) by simp [Addr.add]] at k0
      rw [addr_add_pos _ _ (by omega)] at k1
      exact ⟨(x, y), k0, k1⟩
    obtain ⟨F, hF⟩ : ∃ F : Nat → Int × Int, ∀ i, i < len0 → W.cell? (a.add (i * 2)) = some (.int .i64 (F i).1) ∧ W.cell? ⟨(a.add (i * 2)).block, (a.add (i * 2)).off + 1, none⟩ = some (.int .i64 (F i).2) :=
      ⟨fun i => if hlt : i < len0 then Classical.choose (key i hlt) else (0, 0), fun i hlt => by
        simp only [dif_pos hlt]
        exact Classical.choose_spec (key i hlt)⟩
    refine ⟨some a, cap0, (List.range len0).map F, by simp, fun j e hj => ?_, by simpa using hl, hm, by simpa using h16, fun h => by cases h⟩
    have hlt : j < len0 := by have := (List.getElem?_eq_some_iff.1 hj).1; simpa using this
    rw [List.getElem?_map, List.getElem?_range hlt] at hj
    obtain rfl : F j = e := by simpa using hj
    obtain ⟨k0, k1⟩ := hF j hlt
    exact ⟨a, rfl, by have := World.block_lt_of_cell? W _ k0; rwa [addr_block] at this, k0, k1⟩
/-- A slice of whole numbers in one cell, that reads as a list. -/
def LstC (W : World) (v : Value) (A : Option Addr) (c : Nat) (l : List Int) : Prop :=
  v = .slice A l.length c ∧ RdS .i64 W W.heap.size A l ∧ l.length ≤ c ∧ c ≤ maxLen ∧ l.length * 8 ≤ 140737488351232 ∧ (A = none → c = 0)
theorem list_cell {t e : TypeId} {fuel : Nat} {v : Value} {x : DataW H × List MemPlace} (ht : Try.prog.underlying t = some (.slice e)) (he : Try.prog.underlying e = some (.int .i64)) (hc : Try.prog.cellsOf e = 1) (hb : Try.prog.bytesOf e = 8)
    (hf : DataW.trod enc Try.prog W 0 (fun _ => true) true fuel t [v] = some x) (hw : ∀ k ∈ x.1.weights Try.prog t, k ≤ reachBytes) : ∃ A c l, LstC W v A c l := by
  rcases open_ints ht he hc hf with ⟨hcs, _⟩ | ⟨x, len0, cap0, zs, hcs, _, hl, hm, hz, hx, hcell, _⟩
  · simp at hcs
    subst hcs
    exact ⟨none, 0, [], rfl, RdS.nil, Nat.le_refl _, Nat.zero_le _, by simp, fun _ => rfl⟩
  · simp at hcs
    subst hcs
    have hz' : zs.length = cap0 := by simpa using hz
    have hlen : (zs.take len0).length = len0 := by rw [List.length_take]; omega
    refine ⟨some x, cap0, zs.take len0, by rw [hlen], fun j y hy => ?_, by rw [hlen]; exact hl, hm, ?_, fun h => by cases h⟩
    rw [List.getElem?_take] at hy
    split at hy
    · rename_i hj
      have hj' : j < zs.length := by omega
      have hcj := hcell j hj'
      have hyy : zs.getD j 0 = y := by simp [List.getD, hy]
      rw [hyy] at hcj
      exact ⟨x, rfl, by have := World.block_lt_of_cell? W _ hcj; rwa [addr_block] at this, hcj⟩
    · cases hy
    · subst hx
      have h8 := hw (((lits IntKind.i64 (zs.take len0) : List (DataW H)).length + (lits IntKind.i64 (zs.drop len0) : List (DataW H)).length) * Try.prog.bytesOf e) (by simp [DataW.weights, ht])
      rw [hb] at h8
      have e1 : (lits IntKind.i64 (zs.take len0) : List (DataW H)).length = (zs.take len0).length := by simp [lits]
      rw [e1] at h8
      exact Nat.le_trans (Nat.mul_le_mul_right _ (Nat.le_add_right _ _)) h8
/-- A struct of two slices of classes, a number and a class. -/
theorem open_two {v : Value} {d : DataW H} {p : List MemPlace} (hw : ∀ k ∈ d.weights Try.prog 34, k ≤ reachBytes) (hv : Value.okWide Try.prog W .any base 34 v) (h : DataW.Trod enc Try.prog W 0 (fun _ => true) true 34 v d p) :
    ∃ v0 v1 A0 c0 l0 A1 c1 l1, ∃ lv f : Int, v = .agg #[v0, v1, .int .i64 lv, .int .i64 f] ∧ LstC W v0 A0 c0 l0 ∧ LstC W v1 A1 c1 l1 := by
  obtain ⟨cs0, rfl, hok, _⟩ : ∃ cs, v = .agg cs ∧ cs.size = Try.prog.cellsOf 34 ∧ Row.okWide Try.prog W .any base 34 cs := by
    simpa only [Value.okWide, Try.underlying34] using hv
  obtain ⟨fuel, hf⟩ := h
  obtain ⟨xs, n, _, hd, hlen, hn3, hel⟩ := DataW.trod_struct Try.underlying34 hf
  have c4 : Try.prog.cellsOf 34 = 4 := by kernel_rfl
  have c1 : Try.prog.cellsOf 22 = 1 := by kernel_rfl
  have ci : Try.prog.cellsOf 3 = 1 := by kernel_rfl
  have cc : Try.prog.cellsOf 32 = 1 := by kernel_rfl
  rw [c4] at hlen
  obtain ⟨cl, rfl⟩ : ∃ cl : List Value, cs0 = cl.toArray := ⟨cs0.toList, by simp⟩
  simp only [Value.cells] at hlen hel
  match cl, hlen, xs, hn3, hel, hd with
  | [k0, k1, k2, k3], _, [x0, x1, x2, x3], _, hel, hd =>
    have hd1 : d = .agg [x0.1, x1.1, x2.1, x3.1] := by injection hd
    subst hd1
    have f0 : DataW.trod enc Try.prog W 0 (fun _ => true) true n 22 (List.take (Try.prog.cellsOf 22) [k0, k1, k2, k3]) = some x0 := hel 0 _ rfl
    have f1 : DataW.trod enc Try.prog W 0 (fun _ => true) true n 22 (List.take (Try.prog.cellsOf 22) [k1, k2, k3]) = some x1 := hel 1 _ rfl
    have f2 : DataW.trod enc Try.prog W 0 (fun _ => true) true n 3 (List.take (Try.prog.cellsOf 3) [k2, k3]) = some x2 := hel 2 _ rfl
    have f3 : DataW.trod enc Try.prog W 0 (fun _ => true) true n 32 (List.take (Try.prog.cellsOf 32) [k3]) = some x3 := hel 3 _ rfl
    rw [c1] at f0 f1
    rw [ci] at f2
    rw [cc] at f3
    have hu : ∀ k, (k ∈ x0.1.weights Try.prog 22 ∨ k ∈ x1.1.weights Try.prog 22) → k ∈ (DataW.agg [x0.1, x1.1, x2.1, x3.1]).weights Try.prog 34 := fun k hk => by
      simp only [DataW.weights, Try.underlying34, List.map_cons, List.map_nil, DataW.weightsEach, List.mem_append]
      rcases hk with hk | hk
      · exact .inl hk
      · exact .inr (.inl hk)
    obtain ⟨A0, a0, l0, z0⟩ := list_cell Try.underlying22 Try.underlying32 (by kernel_rfl) (by kernel_rfl) f0 (fun k hk => hw k (hu k (.inl hk)))
    obtain ⟨A1, a1, l1, z1⟩ := list_cell Try.underlying22 Try.underlying32 (by kernel_rfl) (by kernel_rfl) f1 (fun k hk => hw k (hu k (.inr hk)))
    obtain ⟨lv, e2, _, _⟩ := DataW.trod_int Try.underlying3 f2
    obtain ⟨f, e3, _, _⟩ := DataW.trod_int Try.underlying32 f3
    simp at e2 e3
    subst e2 e3
    exact ⟨k0, k1, A0, a0, l0, A1, a1, l1, lv, f, rfl, z0, z1⟩
end
end Go.Proofs.Ytaiojghbknacjaa
