/- The shortest list is a table's, and its own shortest list. Plain lists; no program. -/
import Derived.Test.YtjbpjnnflcmmhaaShortMath
namespace Go.Proofs.Ytjbpjnnflcmmhaa

/-- No two that stand side by side touch and say one thing. -/
def M.Gap (l : List M.E) : Prop := ∀ (i : Nat) (e f : M.E), l[i]? = some e → l[i + 1]? = some f → ¬ (e.b + 1 = f.a ∧ e.v = f.v)
theorem M.Gap.left {a b : List M.E} (h : M.Gap (a ++ b)) : M.Gap a := fun i e f he hf => by
  have h1 := (List.getElem?_eq_some_iff.1 he).1
  have h2 := (List.getElem?_eq_some_iff.1 hf).1
  exact h i e f (by rw [List.getElem?_append_left h1]; exact he) (by rw [List.getElem?_append_left h2]; exact hf)
theorem M.Gap.snoc {a : List M.E} {e : M.E} (h : M.Gap a) (hl : ∀ f, a.getLast? = some f → ¬ (f.b + 1 = e.a ∧ f.v = e.v)) : M.Gap (a ++ [e]) := fun i x y hx hy => by
  have hyl := (List.getElem?_eq_some_iff.1 hy).1
  rw [List.length_append, List.length_singleton] at hyl
  by_cases hi : i + 1 < a.length
  · rw [List.getElem?_append_left hi] at hy
    rw [List.getElem?_append_left (by omega)] at hx
    exact h i x y hx hy
  · have hia : i + 1 = a.length := by omega
    rw [List.getElem?_append_left (by omega)] at hx
    rw [hia, List.getElem?_append_right (Nat.le_refl _)] at hy
    obtain rfl : e = y := by simpa using hy
    refine hl x ?_
    rw [List.getLast?_eq_getElem?, show a.length - 1 = i by omega]
    exact hx
theorem M.Gap.last {a : List M.E} {f g : M.E} (h : M.Gap (a ++ [f])) (hg : a.getLast? = some g) : ¬ (g.b + 1 = f.a ∧ g.v = f.v) := by
  rw [List.getLast?_eq_getElem?] at hg
  have hl := (List.getElem?_eq_some_iff.1 hg).1
  refine h (a.length - 1) g f (by rw [List.getElem?_append_left hl]; exact hg) ?_
  rw [show a.length - 1 + 1 = a.length by omega, List.getElem?_append_right (Nat.le_refl _)]
  simp
theorem M.short_gap (ns : List ByteArray) (l : List M.E) : M.Gap (M.short ns l) := by
  induction l using snocRec with
  | nil => intro i e f he; cases he
  | snoc l e ih =>
    rw [M.short_snoc]
    by_cases h0 : M.idx0 ns e.v = 0
    · rw [M.step_skip h0]; exact ih
    · rcases List.eq_nil_or_concat (M.short ns l) with hn | ⟨init, f, hn⟩
      · rw [hn, M.step_first h0]
        intro i x y _ hy
        have := (List.getElem?_eq_some_iff.1 hy).1
        simp at this
      · rw [List.concat_eq_append] at hn
        rw [hn] at ih ⊢
        by_cases hx : f.b + 1 = e.a ∧ f.v = e.v
        · rw [M.step_ext h0 hx.1 hx.2]
          exact (M.Gap.left ih).snoc fun g hg => (show ¬ (g.b + 1 = f.a ∧ g.v = f.v) from M.Gap.last ih hg)
        · rw [M.step_more h0 hx]
          refine ih.snoc fun g hg => ?_
          obtain rfl : f = g := by simpa using hg
          exact hx
theorem M.short_fix {ns : List ByteArray} (l : List M.E) : M.Gap l → (∀ e ∈ l, M.idx0 ns e.v ≠ 0 ∧ e.x = ⟨#[]⟩) → M.short ns l = l := by
  induction l using snocRec with
  | nil => intro _ _; rfl
  | snoc l e ih =>
    intro hg hall
    obtain ⟨h0, hx⟩ := hall e (by simp)
    have hb : M.bare e = e := by obtain ⟨a, b, v, x⟩ := e; dsimp only at hx; subst hx; rfl
    rw [M.short_snoc, ih hg.left (fun f hf => hall f (List.mem_append_left _ hf))]
    rcases List.eq_nil_or_concat l with hn | ⟨init, f, hn⟩
    · subst hn
      rw [M.step_first h0, hb]; rfl
    · rw [List.concat_eq_append] at hn
      subst hn
      rw [M.step_more h0 (M.Gap.last hg (by simp)), hb]
theorem M.short_idem (ns : List ByteArray) (l : List M.E) : M.short ns (M.short ns l) = M.short ns l :=
  M.short_fix _ (M.short_gap ns l) fun e he => ⟨(M.short_mem l e he).2.2.2.2, (M.short_mem l e he).2.2.2.1⟩
theorem M.TabOk.up {l : List M.E} {ns : List ByteArray} (h : M.TabOk l ns) : ∀ e ∈ l, M.right e = true ∧ (M.idx ns e.v).isSome = true := fun e he => by
  obtain ⟨j, hj⟩ := List.getElem?_of_mem he
  have hl := (List.getElem?_eq_some_iff.1 hj).1
  exact ⟨(h.rises.2 j e hl hj).1, h.vals j e hl hj⟩
theorem M.TabOk.good {l : List M.E} {ns : List ByteArray} (h : M.TabOk l ns) : M.Srt (M.short ns l) ∧ ∀ c, M.numAt (M.short ns l) ns c = M.numAt l ns c := by
  have hs := h.rises.2.srt.pair
  have g := M.short_good ns l hs.1 hs.2
  exact ⟨M.Srt.of_pair g.1 g.2.1, g.2.2.2⟩
theorem M.TabOk.short {l : List M.E} {ns : List ByteArray} (h : M.TabOk l ns) : M.TabOk (M.short ns l) ns := by
  have hs := h.good.1
  have hm := M.short_mem (ns := ns) l
  have hright : ∀ f ∈ M.short ns l, M.right f = true ∧ (M.idx ns f.v).isSome = true := fun f hf => by
    obtain ⟨⟨e, e1, e2⟩, ⟨g, g1, g2⟩, ⟨k, k1, k2⟩, hx, _⟩ := hm f hf
    obtain ⟨j, hj⟩ := List.getElem?_of_mem hf
    have hle := hs.le j f hj
    have r1 := (h.up e e1).1
    have r2 := M.right_le (h.up g g1).1
    have r3 := M.right_le (h.up k k1).1
    refine ⟨?_, by rw [e2]; exact (h.up e e1).2⟩
    unfold M.right M.rising at r1 ⊢
    rw [hx, e2]
    simp only [Bool.and_eq_true, decide_eq_true_eq] at r1 ⊢
    exact ⟨⟨⟨by omega, hle, by omega⟩, r1.1.2⟩, by simp⟩
  refine ⟨h.names, ⟨Nat.le_trans (M.short_len ns l) h.rises.1, fun j f hj hf => ⟨(hright f (List.mem_of_getElem? hf)).1, fun g hj0 hg => hs.lt (j - 1) j g f (by omega) hg hf⟩⟩, fun j f _ hf => (hright f (List.mem_of_getElem? hf)).2⟩
/-- None has the first name. -/
theorem M.short_first {ns : List ByteArray} {l : List M.E} {e : M.E} {s : ByteArray} (he : e ∈ M.short ns l) (hs : ns[0]? = some s) : e.v ≠ s := fun h => by
  have := (M.short_mem l e he).2.2.2.2
  refine this ?_
  cases ns with
  | nil => cases hs
  | cons x r =>
    obtain rfl : x = s := by simpa using hs
    unfold M.idx0
    rw [h]
    simp [M.idx]
theorem Sized.short {l : List M.E} {ns : List ByteArray} (h : Sized l) : Sized (M.short ns l) := fun f hf => by
  obtain ⟨⟨e, e1, e2⟩, _, _, hx, _⟩ := M.short_mem l f hf
  rw [e2, hx]
  exact ⟨(h e e1).1, Nat.zero_le _⟩
end Go.Proofs.Ytjbpjnnflcmmhaa
