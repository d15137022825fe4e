/- Arguments that came in: slices of entries, of strings, and the pair of them, opened. -/
import Derived.Test.YtjbpjnnflcmmhaaNil
import Derived.OpenShut
import Derived.ChangeOld
import Derived.Deep.Slices
namespace Go.Proofs.Ytjbpjnnflcmmhaa
open Go.ChangeShapes Go.WideShapes Go.ChangeAt Go.WideMaps Go.WideElems Go.RowKit

section
variable {H : Type} {enc : TypeId × Value → H} {W : World} {base : Nat} {sp : Nat → Bool} {held : Bool}
set_option maxRecDepth 100000 in
/-- Four cells that read as an entry. -/
theorem open_entry {m : Nat} {cs : List Value} {x : DataW H × List MemPlace} (h : DataW.trod enc Try.prog W base sp held m 36 cs = some x) :
    ∃ e : M.E, cs = e.cells ∧ e.v.size ≤ maxLen ∧ e.x.size ≤ maxLen := by
  obtain ⟨xs, n, _, _, hlen, hxl, hf⟩ := DataW.trod_struct Try.underlying36 h
  have c3 : Try.prog.cellsOf 3 = 1 := by kernel_rfl
  have c9 : Try.prog.cellsOf 9 = 1 := by kernel_rfl
  have cT : Try.prog.cellsOf 36 = 4 := by kernel_rfl
  rw [cT] at hlen
  match cs, hlen, xs, hxl, hf with
  | [k0, k1, k2, k3], _, [x0, x1, x2, x3], _, hf =>
    have f0 : DataW.trod enc Try.prog W base sp held n 3 (List.take (Try.prog.cellsOf 3) [k0, k1, k2, k3]) = some x0 := hf 0 _ rfl
    have f1 : DataW.trod enc Try.prog W base sp held n 3 (List.take (Try.prog.cellsOf 3) [k1, k2, k3]) = some x1 := hf 1 _ rfl
    have f2 : DataW.trod enc Try.prog W base sp held n 9 (List.take (Try.prog.cellsOf 9) [k2, k3]) = some x2 := hf 2 _ rfl
    have f3 : DataW.trod enc Try.prog W base sp held n 9 (List.take (Try.prog.cellsOf 9) [k3]) = some x3 := hf 3 _ rfl
    rw [c3] at f0 f1
    rw [c9] at f2 f3
    obtain ⟨a, e0, _, _⟩ := DataW.trod_int Try.underlying3 f0
    obtain ⟨b, e1, _, _⟩ := DataW.trod_int Try.underlying3 f1
    obtain ⟨v, e2, _, z2⟩ := DataW.trod_string Try.underlying9 f2
    obtain ⟨y, e3, _, z3⟩ := DataW.trod_string Try.underlying9 f3
    simp at e0 e1 e2 e3
    exact ⟨⟨a, b, v, y⟩, by rw [e0, e1, e2, e3]; rfl, z2, z3⟩

set_option maxRecDepth 100000 in
/-- A slice of entries. -/
theorem open_entries' {m : Nat} {v : Value} {x : DataW H × List MemPlace} {cs : List Value} (hcs0 : cs = [v]) (hf : DataW.trod enc Try.prog W 0 sp true m 22 cs = some x) :
    ∃ (A : Option Addr) (c : Nat) (l : List M.E), v = .slice A l.length c ∧ RdE W W.heap.size A l ∧ l.length ≤ c ∧ c ≤ maxLen ∧ Sized l ∧ (A = none → c = 0) := by
  subst hcs0
  rcases Deep.open_slice Try.underlying22 hf with ⟨hcs, _⟩ | ⟨a, len0, cap0, m, n, D, Pl, hcs, _, hl, hm, hmm, _, hi⟩
  · simp at hcs
    subst hcs
    exact ⟨none, 0, [], rfl, (fun j e hj => by simp at hj), Nat.le_refl _, Nat.zero_le _, (fun e he => by cases he), fun _ => rfl⟩
  · simp at hcs
    subst hcs
    have cT : Try.prog.cellsOf 36 = 4 := by kernel_rfl
    rw [cT] at hi
    have key : ∀ i, i < len0 → ∃ e : M.E, (e.v.size ≤ maxLen ∧ e.x.size ≤ maxLen) ∧ ∀ k, k < 4 → W.cell? ((a.add (i * 4)).add k) = e.cells[k]? := fun i hlt => by
      obtain ⟨cs', hc, ht'⟩ := hi i (by rw [hmm]; split <;> omega)
      obtain ⟨_, _, hat⟩ := World.cells?_some hc
      obtain ⟨e, rfl, z1, z2⟩ := open_entry ht'
      exact ⟨e, ⟨z1, z2⟩, hat⟩
    obtain ⟨F, hF⟩ : ∃ F : Nat → M.E, ∀ i, i < len0 → ((F i).v.size ≤ maxLen ∧ (F i).x.size ≤ maxLen) ∧ ∀ k, k < 4 → W.cell? ((a.add (i * 4)).add k) = (F i).cells[k]? :=
      ⟨fun i => if hlt : i < len0 then Classical.choose (key i hlt) else ⟨0, 0, ByteArray.empty, ByteArray.empty⟩, fun i hlt => by
        simp only [dif_pos hlt]
        exact Classical.choose_spec (key i hlt)⟩
    refine ⟨some a, cap0, (List.range len0).map F, by simp, fun j e hj => ?_, by simpa using hl, hm, fun e he => ?_, fun h => by cases h⟩
    · have hlt : j < len0 := by have := (List.getElem?_eq_some_iff.1 hj).1; simpa using this
      rw [List.getElem?_map, List.getElem?_range hlt] at hj
      obtain rfl : F j = e := by simpa using hj
      obtain ⟨_, hk⟩ := hF j hlt
      have k0 := hk 0 (by omega)
      have k1 := hk 1 (by omega)
      have k2 := hk 2 (by omega)
      have k3 := hk 3 (by omega)
      rw [show (a.add (j * 4)).add 0 = a.add (j * 4) by simp [Addr.add]] at k0
      rw [addr_add_pos _ _ (by omega)] at k1 k2 k3
      exact ⟨a, rfl, by have := World.block_lt_of_cell? W _ (k0.trans (by rfl : _ = some (Value.int .i64 (F j).a))); rwa [addr_block] at this, k0, k1, k2, k3⟩
    · rw [List.mem_map] at he
      obtain ⟨i, hi', rfl⟩ := he
      exact (hF i (List.mem_range.1 hi')).1

set_option maxRecDepth 100000 in
/-- A slice of strings. -/
theorem open_names' {m : Nat} {v : Value} {x : DataW H × List MemPlace} {cs : List Value} (hcs0 : cs = [v]) (hf : DataW.trod enc Try.prog W 0 sp true m 23 cs = some x) :
    ∃ (A : Option Addr) (c : Nat) (l : List ByteArray), v = .slice A l.length c ∧ RdN W W.heap.size A l ∧ l.length ≤ c ∧ c ≤ maxLen ∧ SizedN l ∧ (A = none → c = 0) := by
  subst hcs0
  rcases Deep.open_slice Try.underlying23 hf with ⟨hcs, _⟩ | ⟨a, len0, cap0, m, n, D, Pl, hcs, _, hl, hm, hmm, _, hi⟩
  · simp at hcs
    subst hcs
    exact ⟨none, 0, [], rfl, (fun j e hj => by simp at hj), Nat.le_refl _, Nat.zero_le _, (fun e he => by cases he), fun _ => rfl⟩
  · simp at hcs
    subst hcs
    have cT : Try.prog.cellsOf 9 = 1 := by kernel_rfl
    rw [cT] at hi
    have key : ∀ i, i < len0 → ∃ s : ByteArray, s.size ≤ maxLen ∧ W.cell? (a.add i) = some (.string s) := fun i hlt => by
      obtain ⟨cs', hc, ht'⟩ := hi i (by rw [hmm]; split <;> omega)
      obtain ⟨_, _, hat⟩ := World.cells?_some hc
      obtain ⟨s, rfl, _, z⟩ := DataW.trod_string Try.underlying9 ht'
      have h0 := hat 0 (by decide)
      rw [Nat.mul_one, addr_add_add] at h0
      exact ⟨s, z, h0⟩
    obtain ⟨F, hF⟩ : ∃ F : Nat → ByteArray, ∀ i, i < len0 → (F i).size ≤ maxLen ∧ W.cell? (a.add i) = some (.string (F i)) :=
      ⟨fun i => if hlt : i < len0 then Classical.choose (key i hlt) else ByteArray.empty, fun i hlt => by
        simp only [dif_pos hlt]
        exact Classical.choose_spec (key i hlt)⟩
    refine ⟨some a, cap0, (List.range len0).map F, by simp, fun j e hj => ?_, by simpa using hl, hm, fun e he => ?_, fun h => by cases h⟩
    · have hlt : j < len0 := by have := (List.getElem?_eq_some_iff.1 hj).1; simpa using this
      rw [List.getElem?_map, List.getElem?_range hlt] at hj
      obtain rfl : F j = e := by simpa using hj
      obtain ⟨_, hk⟩ := hF j hlt
      exact ⟨a, rfl, by have := World.block_lt_of_cell? W _ hk; rwa [addr_block] at this, hk⟩
    · rw [List.mem_map] at he
      obtain ⟨i, hi', rfl⟩ := he
      exact (hF i (List.mem_range.1 hi')).1

theorem open_entries {v : Value} {d : DataW H} {p : List MemPlace} (hv : Value.okWide Try.prog W .any base 22 v) (h : DataW.Trod enc Try.prog W 0 (fun _ => true) true 22 v d p) :
    ∃ (A : Option Addr) (c : Nat) (l : List M.E), v = .slice A l.length c ∧ RdE W W.heap.size A l ∧ l.length ≤ c ∧ c ≤ maxLen ∧ Sized l ∧ (A = none → c = 0) := by
  obtain ⟨a0, len0, cap0, rfl⟩ := okWide_slice Try.underlying22 hv
  obtain ⟨fuel, hf⟩ := h
  exact open_entries' (by simp [Value.cells]) hf

set_option maxRecDepth 100000 in
/-- A pair of a slice of entries and one of strings. -/
theorem open_listed {v : Value} {d : DataW H} {p : List MemPlace} (hv : Value.okWide Try.prog W .any base 25 v) (h : DataW.Trod enc Try.prog W 0 (fun _ => true) true 25 v d p) :
    ∃ (A B : Option Addr) (ca cb : Nat) (l : List M.E) (ns : List ByteArray), v = .agg #[.slice A l.length ca, .slice B ns.length cb] ∧ RdE W W.heap.size A l ∧ RdN W W.heap.size B ns ∧ l.length ≤ maxLen ∧ ns.length ≤ maxLen ∧ Sized l ∧ SizedN ns := by
  obtain ⟨cs0, rfl, hok⟩ := okWide_struct Try.underlying25 hv
  obtain ⟨fuel, hf⟩ := h
  obtain ⟨xs, n, _, _, hlen, hxl, hf'⟩ := DataW.trod_struct Try.underlying25 hf
  have c1 : Try.prog.cellsOf 22 = 1 := by kernel_rfl
  have c2 : Try.prog.cellsOf 23 = 1 := by kernel_rfl
  have cT : Try.prog.cellsOf 25 = 2 := by kernel_rfl
  rw [cT] at hlen
  obtain ⟨cl, hcl⟩ : ∃ cl : List Value, cs0 = cl.toArray := ⟨cs0.toList, by simp⟩
  subst hcl
  simp only [Value.cells] at hlen hf'
  match cl, hlen, xs, hxl, hf' with
  | [k0, k1], _, [x0, x1], _, hf' =>
    have f0 : DataW.trod enc Try.prog W 0 (fun _ => true) true n 22 (List.take (Try.prog.cellsOf 22) [k0, k1]) = some x0 := hf' 0 _ rfl
    have f1 : DataW.trod enc Try.prog W 0 (fun _ => true) true n 23 (List.take (Try.prog.cellsOf 23) [k1]) = some x1 := hf' 1 _ rfl
    rw [c1] at f0
    rw [c2] at f1
    obtain ⟨A, ca, l, rfl, r1, r2, r3, r4, _⟩ := open_entries' (v := k0) rfl f0
    obtain ⟨B, cb, ns, rfl, s1, s2, s3, s4, _⟩ := open_names' (v := k1) rfl f1
    exact ⟨A, B, ca, cb, l, ns, rfl, r1, s1, Nat.le_trans r2 r3, Nat.le_trans s2 s3, r4, s4⟩
end
end Go.Proofs.Ytjbpjnnflcmmhaa
