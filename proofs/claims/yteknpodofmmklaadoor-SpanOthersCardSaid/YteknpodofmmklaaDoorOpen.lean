/- Arguments that came in: a slice of spans, and arrays of two and three whole numbers, opened. No function of the program is walked here. -/
import Derived.Test.YteknpodofmmklaaDoorLaid
import Derived.Test.YteknpodofmmklaaDoorSpn
import Derived.Deep.Slices
namespace Go.Proofs.YteknpodofmmklaaDoor
open Go.ChangeShapes Go.WideShapes Go.ChangeAt Go.WideMaps Go.WideElems Go.RowKit

/-- The fields of spans are of their types. -/
def Typed (l : List M.S) : Prop := ∀ s ∈ l, (Lit.int .i64 s.f).wf = true ∧ (Lit.int .i64 s.t).wf = true ∧ (Lit.int .u64 s.x).wf = true ∧ s.r.size ≤ maxLen
theorem i64_bounds {n : Int} (h : (Lit.int .i64 n).wf = true) : -9223372036854775808 ≤ n ∧ n ≤ 9223372036854775807 := by
  simp [Lit.wf, IntKind.min, IntKind.max, IntKind.signed, IntKind.bits] at h
  exact h
theorem u64_bounds {n : Int} (h : (Lit.int .u64 n).wf = true) : 0 ≤ n ∧ n ≤ 18446744073709551615 := by
  simp [Lit.wf, IntKind.min, IntKind.max, IntKind.signed, IntKind.bits] at h
  exact h
section
variable {H : Type} {enc : TypeId × Value → H} {W : World} {base : Nat} {sp : Nat → Bool} {held : Bool}
set_option maxRecDepth 100000 in
/-- Six cells that read as a span. -/
theorem open_span {m : Nat} {cs : List Value} {x : DataW H × List MemPlace} (h : DataW.trod enc Tryd.prog W base sp held m 27 cs = some x) :
    ∃ e : M.S, cs = e.cells ∧ (Lit.int .i64 e.f).wf = true ∧ (Lit.int .i64 e.t).wf = true ∧ (Lit.int .u64 e.x).wf = true ∧ e.r.size ≤ maxLen := by
  obtain ⟨xs, n, _, _, hlen, hxl, hf⟩ := DataW.trod_struct Tryd.underlying27 h
  have ci : Tryd.prog.cellsOf 3 = 1 := by kernel_rfl
  have cp : Tryd.prog.cellsOf 24 = 1 := by kernel_rfl
  have cb : Tryd.prog.cellsOf 4 = 1 := by kernel_rfl
  have cs9 : Tryd.prog.cellsOf 9 = 1 := by kernel_rfl
  have cu : Tryd.prog.cellsOf 25 = 1 := by kernel_rfl
  have cT : Tryd.prog.cellsOf 27 = 6 := by kernel_rfl
  rw [cT] at hlen
  match cs, hlen, xs, hxl, hf with
  | [k0, k1, k2, k3, k4, k5], _, [x0, x1, x2, x3, x4, x5], _, hf =>
    have f0 : DataW.trod enc Tryd.prog W base sp held n 3 (List.take (Tryd.prog.cellsOf 3) [k0, k1, k2, k3, k4, k5]) = some x0 := hf 0 _ rfl
    have f1 : DataW.trod enc Tryd.prog W base sp held n 3 (List.take (Tryd.prog.cellsOf 3) [k1, k2, k3, k4, k5]) = some x1 := hf 1 _ rfl
    have f2 : DataW.trod enc Tryd.prog W base sp held n 24 (List.take (Tryd.prog.cellsOf 24) [k2, k3, k4, k5]) = some x2 := hf 2 _ rfl
    have f3 : DataW.trod enc Tryd.prog W base sp held n 4 (List.take (Tryd.prog.cellsOf 4) [k3, k4, k5]) = some x3 := hf 3 _ rfl
    have f4 : DataW.trod enc Tryd.prog W base sp held n 9 (List.take (Tryd.prog.cellsOf 9) [k4, k5]) = some x4 := hf 4 _ rfl
    have f5 : DataW.trod enc Tryd.prog W base sp held n 25 (List.take (Tryd.prog.cellsOf 25) [k5]) = some x5 := hf 5 _ rfl
    rw [ci] at f0 f1
    rw [cp] at f2
    rw [cb] at f3
    rw [cs9] at f4
    rw [cu] at f5
    obtain ⟨a, e0, _, w0⟩ := DataW.trod_int Tryd.underlying3 f0
    obtain ⟨b, e1, _, w1⟩ := DataW.trod_int Tryd.underlying3 f1
    obtain ⟨p, e2, _, _⟩ := DataW.trod_int Tryd.underlying24 f2
    obtain ⟨c, e3, _⟩ := DataW.trod_bool Tryd.underlying4 f3
    obtain ⟨v, e4, _, z4⟩ := DataW.trod_string Tryd.underlying9 f4
    obtain ⟨y, e5, _, w5⟩ := DataW.trod_int Tryd.underlying25 f5
    simp at e0 e1 e2 e3 e4 e5
    exact ⟨⟨a, b, p, c, v, y⟩, by rw [e0, e1, e2, e3, e4, e5]; rfl, w0, w1, w5, z4⟩
set_option maxRecDepth 100000 in
/-- A slice of spans. -/
theorem open_spans {v : Value} {d : DataW H} {p : List MemPlace} (hv : Value.okWide Tryd.prog W .any base 22 v) (h : DataW.Trod enc Tryd.prog W 0 (fun _ => true) true 22 v d p) :
    ∃ (A : Option Addr) (c : Nat) (l : List M.S), v = .slice A l.length c ∧ RdP W W.heap.size A l ∧ l.length ≤ c ∧ c ≤ maxLen ∧ Typed l ∧ (A = none → c = 0) := by
  obtain ⟨a0, len0, cap0, rfl⟩ := okWide_slice Tryd.underlying22 hv
  obtain ⟨fuel, hf⟩ := h
  rcases Deep.open_slice Tryd.underlying22 hf with ⟨hcs, _⟩ | ⟨a, len1, cap1, m, n, D, Pl, hcs, _, hl, hm, hmm, _, hi⟩
  · simp [Value.cells] at hcs
    obtain ⟨rfl, rfl, rfl⟩ := hcs
    exact ⟨none, 0, [], rfl, (fun j e hj => by simp at hj), Nat.le_refl _, Nat.zero_le _, (fun e he => by cases he), fun _ => rfl⟩
  · simp [Value.cells] at hcs
    obtain ⟨rfl, rfl, rfl⟩ := hcs
    have cT : Tryd.prog.cellsOf 27 = 6 := by kernel_rfl
    rw [cT] at hi
    have key : ∀ i, i < len0 → ∃ e : M.S, ((Lit.int .i64 e.f).wf = true ∧ (Lit.int .i64 e.t).wf = true ∧ (Lit.int .u64 e.x).wf = true ∧ e.r.size ≤ maxLen) ∧ ∀ k, k < 6 → W.cell? ((a.add (i * 6)).add k) = e.cells[k]? := fun i hlt => by
      obtain ⟨cs', hc, ht'⟩ := hi i (by rw [hmm]; split <;> omega)
      obtain ⟨_, _, hat⟩ := World.cells?_some hc
      obtain ⟨e, rfl, z⟩ := open_span ht'
      exact ⟨e, z, hat⟩
    obtain ⟨F, hF⟩ : ∃ F : Nat → M.S, ∀ i, i < len0 → ((Lit.int .i64 (F i).f).wf = true ∧ (Lit.int .i64 (F i).t).wf = true ∧ (Lit.int .u64 (F i).x).wf = true ∧ (F i).r.size ≤ maxLen) ∧ ∀ k, k < 6 → W.cell? ((a.add (i * 6)).add k) = (F i).cells[k]? :=
      ⟨fun i => if hlt : i < len0 then Classical.choose (key i hlt) else M.zeroS, fun i hlt => by
        simp only [dif_pos hlt]
        exact Classical.choose_spec (key i hlt)⟩
    refine ⟨some a, cap0, (List.range len0).map F, by simp, fun j e hj => ?_, by simpa using hl, hm, fun e he => ?_, fun h => by cases h⟩
    · have hlt : j < len0 := by have := (List.getElem?_eq_some_iff.1 hj).1; simpa using this
      rw [List.getElem?_map, List.getElem?_range hlt] at hj
      obtain rfl : F j = e := by simpa using hj
      obtain ⟨_, hk⟩ := hF j hlt
      have k0 := hk 0 (by omega)
      have k1 := hk 1 (by omega)
      have k2 := hk 2 (by omega)
      have k3 := hk 3 (by omega)
      have k4 := hk 4 (by omega)
      have k5 := hk 5 (by omega)
      rw [show (a.add (j * 6)).add 0 = a.add (j * 6) by simp [Addr.add]] at k0
      rw [addr_add_pos _ _ (by omega)] at k1 k2 k3 k4 k5
      exact ⟨a, rfl, by have := World.block_lt_of_cell? W _ (k0.trans (by rfl : _ = some (Value.int .i64 (F j).f))); rwa [addr_block] at this, k0, k1, k2, k3, k4, k5⟩
    · rw [List.mem_map] at he
      obtain ⟨i, hi', rfl⟩ := he
      exact (hF i (List.mem_range.1 hi')).1
/-- An array of three whole numbers. -/
theorem open_arr3 {v : Value} {d : DataW H} {p : List MemPlace} (hv : Value.okWide Tryd.prog W .any base 35 v) (h : DataW.Trod enc Tryd.prog W 0 (fun _ => true) true 35 v d p) :
    ∃ a b c : Int, v = .agg #[.int .i64 a, .int .i64 b, .int .i64 c] ∧ (Lit.int .i64 a).wf = true ∧ (Lit.int .i64 b).wf = true ∧ (Lit.int .i64 c).wf = true := by
  obtain ⟨cs0, rfl, hok, _⟩ : ∃ cs, v = .agg cs ∧ cs.size = Tryd.prog.cellsOf 35 ∧ Row.okWide Tryd.prog W .any base 35 cs := by
    simpa only [Value.okWide, Tryd.underlying35] using hv
  obtain ⟨fuel, hf⟩ := h
  obtain ⟨xs, n, _, _, hlen, hn3, hel⟩ := DataW.trod_array Tryd.underlying35 hf
  have c3 : Tryd.prog.cellsOf 35 = 3 := by kernel_rfl
  have c1 : Tryd.prog.cellsOf 3 = 1 := by kernel_rfl
  rw [c3] at hlen
  rw [c1] at hel
  obtain ⟨cl, rfl⟩ : ∃ cl : List Value, cs0 = cl.toArray := ⟨cs0.toList, by simp⟩
  simp only [Value.cells] at hlen hel
  match cl, hlen, xs, hn3, hel with
  | [k0, k1, k2], _, [x0, x1, x2], _, hel =>
    obtain ⟨a, e0, _, w0⟩ := DataW.trod_int Tryd.underlying3 (hel 0 (by decide))
    obtain ⟨b, e1, _, w1⟩ := DataW.trod_int Tryd.underlying3 (hel 1 (by decide))
    obtain ⟨c, e2, _, w2⟩ := DataW.trod_int Tryd.underlying3 (hel 2 (by decide))
    simp at e0 e1 e2
    subst e0 e1 e2
    exact ⟨a, b, c, rfl, w0, w1, w2⟩
/-- An array of two whole numbers. -/
theorem open_arr2 {v : Value} {d : DataW H} {p : List MemPlace} (hv : Value.okWide Tryd.prog W .any base 38 v) (h : DataW.Trod enc Tryd.prog W 0 (fun _ => true) true 38 v d p) :
    ∃ a b : Int, v = .agg #[.int .i64 a, .int .i64 b] ∧ (Lit.int .i64 a).wf = true ∧ (Lit.int .i64 b).wf = true := by
  obtain ⟨cs0, rfl, hok, _⟩ : ∃ cs, v = .agg cs ∧ cs.size = Tryd.prog.cellsOf 38 ∧ Row.okWide Tryd.prog W .any base 38 cs := by
    simpa only [Value.okWide, Tryd.underlying38] using hv
  obtain ⟨fuel, hf⟩ := h
  obtain ⟨xs, n, _, _, hlen, hn3, hel⟩ := DataW.trod_array Tryd.underlying38 hf
  have c3 : Tryd.prog.cellsOf 38 = 2 := by kernel_rfl
  have c1 : Tryd.prog.cellsOf 3 = 1 := by kernel_rfl
  rw [c3] at hlen
  rw [c1] at hel
  obtain ⟨cl, rfl⟩ : ∃ cl : List Value, cs0 = cl.toArray := ⟨cs0.toList, by simp⟩
  simp only [Value.cells] at hlen hel
  match cl, hlen, xs, hn3, hel with
  | [k0, k1], _, [x0, x1], _, hel =>
    obtain ⟨a, e0, _, w0⟩ := DataW.trod_int Tryd.underlying3 (hel 0 (by decide))
    obtain ⟨b, e1, _, w1⟩ := DataW.trod_int Tryd.underlying3 (hel 1 (by decide))
    simp at e0 e1
    subst e0 e1
    exact ⟨a, b, rfl, w0, w1⟩
end
end Go.Proofs.YteknpodofmmklaaDoor
