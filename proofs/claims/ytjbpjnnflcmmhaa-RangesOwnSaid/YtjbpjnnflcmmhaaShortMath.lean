/- What the shortest list says, and what it is like. Plain lists; no program. -/
import Derived.Test.YtjbpjnnflcmmhaaObj
namespace Go.Proofs.Ytjbpjnnflcmmhaa

theorem snocRec {α : Type} {P : List α → Prop} (nil : P []) (snoc : ∀ l a, P l → P (l ++ [a])) (l : List α) : P l := by
  have key : ∀ r : List α, P r.reverse := fun r => by
    induction r with
    | nil => exact nil
    | cons a r ih => rw [List.reverse_cons]; exact snoc _ a ih
  have := key l.reverse
  rwa [List.reverse_reverse] at this
theorem M.Srt.pair {l : List M.E} (h : M.Srt l) : l.Pairwise (fun e f => e.b < f.a) ∧ ∀ e ∈ l, e.a ≤ e.b := by
  refine ⟨List.pairwise_iff_getElem.2 fun i j hi hj hij => h.lt i j _ _ hij (List.getElem?_eq_getElem hi) (List.getElem?_eq_getElem hj), fun e he => ?_⟩
  obtain ⟨j, hj⟩ := List.getElem?_of_mem he
  exact h.le j e hj
theorem M.Srt.of_pair {l : List M.E} (h : l.Pairwise (fun e f => e.b < f.a)) (hle : ∀ e ∈ l, e.a ≤ e.b) : M.Srt l := by
  refine ⟨fun i j e f hij he hf => ?_, fun i e he => hle e (List.mem_of_getElem? he)⟩
  obtain ⟨hi, rfl⟩ := List.getElem?_eq_some_iff.1 he
  obtain ⟨hj, rfl⟩ := List.getElem?_eq_some_iff.1 hf
  exact List.pairwise_iff_getElem.1 h i j hi hj hij
theorem M.find_snoc {acc : List M.E} {e : M.E} (c : Int) (h : ∀ f ∈ acc, f.b < e.a) : M.find (acc ++ [e]) c = if M.inE c e = true then some e else M.find acc c := by
  unfold M.find
  rw [List.find?_append]
  by_cases hc : M.inE c e = true
  · rw [if_pos hc]
    have : acc.find? (M.inE c) = none := by
      rw [List.find?_eq_none]
      intro f hf
      have := h f hf
      unfold M.inE at hc ⊢
      simp at hc ⊢
      omega
    rw [this]
    simp [hc]
  · rw [if_neg hc]
    simp [hc]
theorem M.num_snoc {acc : List M.E} {e : M.E} (ns : List ByteArray) (c : Int) (h : ∀ f ∈ acc, f.b < e.a) : M.numAt (acc ++ [e]) ns c = if M.inE c e = true then M.idx0 ns e.v else M.numAt acc ns c := by
  unfold M.numAt
  rw [M.find_snoc c h]
  by_cases hc : M.inE c e = true
  · rw [if_pos hc, if_pos hc]
  · rw [if_neg hc, if_neg hc]
theorem M.num_past {acc : List M.E} {x c : Int} (ns : List ByteArray) (h : ∀ f ∈ acc, f.b < x) (hx : x ≤ c) : M.numAt acc ns c = 0 := by
  unfold M.numAt M.find
  have : acc.find? (M.inE c) = none := by
    rw [List.find?_eq_none]
    intro f hf
    have := h f hf
    unfold M.inE
    simp
    omega
  rw [this]
/-- The shortest list rises, ends where the list ends, and says the same. -/
theorem M.short_good (ns : List ByteArray) (l : List M.E) : l.Pairwise (fun e f => e.b < f.a) → (∀ e ∈ l, e.a ≤ e.b) →
    (M.short ns l).Pairwise (fun e f => e.b < f.a) ∧ (∀ e ∈ M.short ns l, e.a ≤ e.b) ∧ (∀ x : Int, (∀ e ∈ l, e.b < x) → ∀ f ∈ M.short ns l, f.b < x) ∧ ∀ c, M.numAt (M.short ns l) ns c = M.numAt l ns c := by
  induction l using snocRec with
  | nil => intro _ _; exact ⟨List.Pairwise.nil, (fun e he => by cases he), (fun x _ f hf => by cases hf), fun c => rfl⟩
  | snoc l e ih =>
    intro hp hle
    rw [List.pairwise_append] at hp
    obtain ⟨hp1, _, hp2⟩ := hp
    have hbe : ∀ f ∈ l, f.b < e.a := fun f hf => hp2 f hf e (by simp)
    have hee : e.a ≤ e.b := hle e (by simp)
    obtain ⟨s1, s2, s3, s4⟩ := ih hp1 (fun f hf => hle f (List.mem_append_left _ hf))
    have hs := s3 e.a hbe
    rw [M.short_snoc]
    have hlast : ∀ x : Int, (∀ f ∈ l ++ [e], f.b < x) → e.b < x ∧ ∀ f ∈ M.short ns l, f.b < x := fun x hx => ⟨hx e (by simp), s3 x (fun f hf => hx f (List.mem_append_left _ hf))⟩
    have hnum : ∀ c, M.numAt (l ++ [e]) ns c = if M.inE c e = true then M.idx0 ns e.v else M.numAt l ns c := fun c => M.num_snoc ns c hbe
    by_cases h0 : M.idx0 ns e.v = 0
    · rw [M.step_skip h0]
      refine ⟨s1, s2, fun x hx => (hlast x hx).2, fun c => ?_⟩
      rw [hnum, ← s4]
      by_cases hc : M.inE c e = true
      · rw [if_pos hc, h0]
        exact M.num_past ns hs (by unfold M.inE at hc; simp at hc; exact hc.1)
      · rw [if_neg hc]
    · have hbare : M.step ns (M.short ns l) e = M.short ns l ++ [M.bare e] → (M.step ns (M.short ns l) e).Pairwise (fun e f => e.b < f.a) ∧ (∀ f ∈ M.step ns (M.short ns l) e, f.a ≤ f.b) ∧ (∀ x : Int, (∀ f ∈ l ++ [e], f.b < x) → ∀ f ∈ M.step ns (M.short ns l) e, f.b < x) ∧ ∀ c, M.numAt (M.step ns (M.short ns l) e) ns c = M.numAt (l ++ [e]) ns c := by
        intro heq
        rw [heq]
        refine ⟨?_, ?_, ?_, ?_⟩
        · rw [List.pairwise_append]
          refine ⟨s1, List.pairwise_singleton _ _, fun f hf g hg => ?_⟩
          obtain rfl : g = M.bare e := by simpa using hg
          exact hs f hf
        · intro f hf
          rcases List.mem_append.1 hf with hf | hf
          · exact s2 f hf
          · obtain rfl : f = M.bare e := by simpa using hf
            exact hee
        · intro x hx f hf
          rcases List.mem_append.1 hf with hf | hf
          · exact (hlast x hx).2 f hf
          · obtain rfl : f = M.bare e := by simpa using hf
            exact (hlast x hx).1
        · intro c
          rw [hnum, M.num_snoc (e := M.bare e) ns c hs, s4]
          rfl
      rcases List.eq_nil_or_concat (M.short ns l) with hn | ⟨init, f, hn⟩
      · refine hbare ?_
        rw [hn]
        exact M.step_first h0
      · rw [List.concat_eq_append] at hn
        by_cases hx : f.b + 1 = e.a ∧ f.v = e.v
        · rw [hn, M.step_ext h0 hx.1 hx.2]
          rw [hn] at s1 s2 s3 s4 hs
          rw [List.pairwise_append] at s1
          obtain ⟨p1, _, p2⟩ := s1
          have hfi : ∀ g ∈ init, g.b < f.a := fun g hg => p2 g hg f (by simp)
          have hff := s2 f (by simp)
          refine ⟨?_, ?_, ?_, ?_⟩
          · rw [List.pairwise_append]
            refine ⟨p1, List.pairwise_singleton _ _, fun g hg k hk => ?_⟩
            obtain rfl : k = M.ext f e := by simpa using hk
            exact hfi g hg
          · intro g hg
            rcases List.mem_append.1 hg with hg | hg
            · exact s2 g (List.mem_append_left _ hg)
            · obtain rfl : g = M.ext f e := by simpa using hg
              show f.a ≤ e.b
              omega
          · intro x hx' g hg
            have hl := hx' e (by simp)
            rcases List.mem_append.1 hg with hg | hg
            · exact s3 x (fun k hk => hx' k (List.mem_append_left _ hk)) g (List.mem_append_left _ hg)
            · obtain rfl : g = M.ext f e := by simpa using hg
              exact hl
          · intro c
            rw [hnum, ← s4, M.num_snoc (e := M.ext f e) ns c hfi, M.num_snoc (e := f) ns c hfi]
            have hv : M.idx0 ns (M.ext f e).v = M.idx0 ns e.v := by show M.idx0 ns f.v = _; rw [hx.2]
            have hv2 : M.idx0 ns f.v = M.idx0 ns e.v := by rw [hx.2]
            rw [hv, hv2]
            have hin : M.inE c (M.ext f e) = true ↔ (M.inE c e = true ∨ M.inE c f = true) := by
              unfold M.inE M.ext
              simp
              omega
            by_cases h1 : M.inE c e = true
            · rw [if_pos (hin.2 (.inl h1)), if_pos h1]
            · by_cases h2 : M.inE c f = true
              · rw [if_pos (hin.2 (.inr h2)), if_neg h1, if_pos h2]
              · rw [if_neg (fun h => (hin.1 h).elim h1 h2), if_neg h1, if_neg h2]
        · refine hbare ?_
          rw [hn]
          exact M.step_more h0 hx

theorem M.short_len (ns : List ByteArray) (l : List M.E) : (M.short ns l).length ≤ l.length := by
  induction l using snocRec with
  | nil => exact Nat.le_refl _
  | snoc l e ih =>
    rw [M.short_snoc, List.length_append]
    have := M.step_len ns (M.short ns l) e
    simp
    omega
/-- Where each of the shortest list's entries has its value from. -/
theorem M.short_mem {ns : List ByteArray} (l : List M.E) : ∀ f ∈ M.short ns l, (∃ e ∈ l, f.v = e.v) ∧ (∃ e ∈ l, f.a = e.a) ∧ (∃ e ∈ l, f.b = e.b) ∧ f.x = ⟨#[]⟩ ∧ M.idx0 ns f.v ≠ 0 := by
  induction l using snocRec with
  | nil => intro f hf; cases hf
  | snoc l e ih =>
    rw [M.short_snoc]
    have up : ∀ f : M.E, ((∃ e ∈ l, f.v = e.v) ∧ (∃ e ∈ l, f.a = e.a) ∧ (∃ e ∈ l, f.b = e.b) ∧ f.x = ⟨#[]⟩ ∧ M.idx0 ns f.v ≠ 0) → (∃ g ∈ l ++ [e], f.v = g.v) ∧ (∃ g ∈ l ++ [e], f.a = g.a) ∧ (∃ g ∈ l ++ [e], f.b = g.b) ∧ f.x = ⟨#[]⟩ ∧ M.idx0 ns f.v ≠ 0 := fun f ⟨⟨a, a1, a2⟩, ⟨b, b1, b2⟩, ⟨c, c1, c2⟩, h⟩ =>
      ⟨⟨a, List.mem_append_left _ a1, a2⟩, ⟨b, List.mem_append_left _ b1, b2⟩, ⟨c, List.mem_append_left _ c1, c2⟩, h⟩
    have hb : M.idx0 ns e.v ≠ 0 → (∃ g ∈ l ++ [e], (M.bare e).v = g.v) ∧ (∃ g ∈ l ++ [e], (M.bare e).a = g.a) ∧ (∃ g ∈ l ++ [e], (M.bare e).b = g.b) ∧ (M.bare e).x = ⟨#[]⟩ ∧ M.idx0 ns (M.bare e).v ≠ 0 := fun h =>
      ⟨⟨e, by simp, rfl⟩, ⟨e, by simp, rfl⟩, ⟨e, by simp, rfl⟩, rfl, h⟩
    by_cases h0 : M.idx0 ns e.v = 0
    · rw [M.step_skip h0]
      exact fun f hf => up f (ih f hf)
    · rcases List.eq_nil_or_concat (M.short ns l) with hn | ⟨init, f, hn⟩
      · rw [hn, M.step_first h0]
        intro g hg
        obtain rfl : g = M.bare e := by simpa using hg
        exact hb h0
      · rw [List.concat_eq_append] at hn
        rw [hn] at ih ⊢
        by_cases hx : f.b + 1 = e.a ∧ f.v = e.v
        · rw [M.step_ext h0 hx.1 hx.2]
          intro g hg
          rcases List.mem_append.1 hg with hg | hg
          · exact up g (ih g (List.mem_append_left _ hg))
          · obtain rfl : g = M.ext f e := by simpa using hg
            obtain ⟨a, b, _, d, e'⟩ := up f (ih f (by simp))
            exact ⟨a, b, ⟨e, by simp, rfl⟩, d, e'⟩
        · rw [M.step_more h0 hx]
          intro g hg
          rcases List.mem_append.1 hg with hg | hg
          · exact up g (ih g hg)
          · obtain rfl : g = M.bare e := by simpa using hg
            exact hb h0
end Go.Proofs.Ytjbpjnnflcmmhaa
