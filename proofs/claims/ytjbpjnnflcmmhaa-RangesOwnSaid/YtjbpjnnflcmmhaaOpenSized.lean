/- A pair of a slice of entries and one of strings that came in, with what the row's own reach says of their sizes. -/
import Derived.Test.YtjbpjnnflcmmhaaOpen
import Derived.SizedLaws
namespace Go.Proofs.Ytjbpjnnflcmmhaa
open Go.ChangeShapes Go.WideShapes Go.ChangeAt Go.WideMaps Go.WideElems Go.RowKit

section
variable {H : Type} {enc : TypeId × Value → H} {W : World} {base : Nat} {sp : Nat → Bool}
theorem slice_weight {m len cap n : Nat} {t e : TypeId} {A : Option Addr} {x : DataW H × List MemPlace} (ht : Try.prog.underlying t = some (.slice e)) (hb : Try.prog.bytesOf e = n)
    (hf : DataW.trod enc Try.prog W 0 sp true m t [.slice A len cap] = some x) (hw : ∀ k ∈ x.1.weights Try.prog t, k ≤ reachBytes) : len * n ≤ reachBytes := by
  rcases Deep.open_slice ht hf with ⟨hcs, _⟩ | ⟨a, len0, cap0, m, n, D, Pl, hcs, _, hl, hm, hmm, hx, hi⟩
  · simp at hcs
    obtain ⟨_, rfl, _⟩ := hcs
    simp
  · simp at hcs
    obtain ⟨_, rfl, _⟩ := hcs
    subst hx
    have := hw ((len + (m - len)) * Try.prog.bytesOf e) (by simp [DataW.weights, ht])
    rw [hb] at this
    exact Nat.le_trans (Nat.mul_le_mul_right _ (Nat.le_add_right _ _)) this
theorem Try.bytesEntry : Try.prog.bytesOf 36 = 48 := by kernel_rfl
theorem Try.bytesString : Try.prog.bytesOf 9 = 16 := by kernel_rfl

set_option maxRecDepth 100000 in
theorem open_listed_sized {v : Value} {d d' : DataW H} {p : List MemPlace} {t' : TypeId} (hv : Value.okWide Try.prog W .any base 25 v) (h : DataW.Trod enc Try.prog W 0 (fun _ => true) true 25 v d p)
    (hsz : (DataW.weightsEach Try.prog [25, t'] [d, d']).all (· ≤ reachBytes) = true) :
    ∃ (A B : Option Addr) (ca cb : Nat) (l : List M.E) (ns : List ByteArray), v = .agg #[.slice A l.length ca, .slice B ns.length cb] ∧ RdE W W.heap.size A l ∧ RdN W W.heap.size B ns ∧ l.length * 48 ≤ 140737488351232 ∧ ns.length * 16 ≤ 140737488351232 ∧ Sized l ∧ SizedN ns ∧ (A = none → ca = 0) ∧ (B = none → cb = 0) := by
  obtain ⟨cs0, rfl, hok⟩ := okWide_struct Try.underlying25 hv
  obtain ⟨fuel, hf⟩ := h
  obtain ⟨xs, n, _, hd, hlen, hxl, hf'⟩ := DataW.trod_struct Try.underlying25 hf
  have c1 : Try.prog.cellsOf 22 = 1 := by kernel_rfl
  have c2 : Try.prog.cellsOf 23 = 1 := by kernel_rfl
  have cT : Try.prog.cellsOf 25 = 2 := by kernel_rfl
  rw [cT] at hlen
  obtain ⟨cl, hcl⟩ : ∃ cl : List Value, cs0 = cl.toArray := ⟨cs0.toList, by simp⟩
  subst hcl
  simp only [Value.cells] at hlen hf'
  match cl, hlen, xs, hxl, hf', hd with
  | [k0, k1], _, [x0, x1], _, hf', hd =>
    have f0 : DataW.trod enc Try.prog W 0 (fun _ => true) true n 22 (List.take (Try.prog.cellsOf 22) [k0, k1]) = some x0 := hf' 0 _ rfl
    have f1 : DataW.trod enc Try.prog W 0 (fun _ => true) true n 23 (List.take (Try.prog.cellsOf 23) [k1]) = some x1 := hf' 1 _ rfl
    rw [c1] at f0
    rw [c2] at f1
    have hd1 : d = .agg [x0.1, x1.1] := by injection hd
    subst hd1
    have hw := fun k (hk : k ∈ (DataW.agg [x0.1, x1.1]).weights Try.prog 25) => (show k ≤ reachBytes by simpa using List.all_eq_true.1 hsz k (by simp only [DataW.weightsEach, List.mem_append]; exact .inl hk))
    have hw0 : ∀ k ∈ x0.1.weights Try.prog 22, k ≤ reachBytes := fun k hk => hw k (by simp [DataW.weights, DataW.weightsEach, Try.underlying25]; exact .inl hk)
    have hw1 : ∀ k ∈ x1.1.weights Try.prog 23, k ≤ reachBytes := fun k hk => hw k (by simp [DataW.weights, DataW.weightsEach, Try.underlying25]; exact .inr hk)
    obtain ⟨A, ca, l, rfl, r1, r2, r3, r4, r5⟩ := open_entries' (v := k0) rfl f0
    obtain ⟨B, cb, ns, rfl, s1, s2, s3, s4, s5⟩ := open_names' (v := k1) rfl f1
    exact ⟨A, B, ca, cb, l, ns, rfl, r1, s1, slice_weight Try.underlying22 Try.bytesEntry f0 hw0, slice_weight Try.underlying23 Try.bytesString f1 hw1, r4, s4, r5, s5⟩
end
end Go.Proofs.Ytjbpjnnflcmmhaa
