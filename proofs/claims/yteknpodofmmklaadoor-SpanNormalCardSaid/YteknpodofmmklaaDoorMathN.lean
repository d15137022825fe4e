/- The shortest spans of right ones: right, their own shortest, and of one look with them. No function of the program is walked here. -/
import Derived.Test.YteknpodofmmklaaDoorPure
namespace Go.Proofs.YteknpodofmmklaaDoor

theorem M.look_snoc {pre : List M.S} {s : M.S} {i : Int} (h : ∀ z ∈ pre, z.t ≤ s.f) : M.look (pre ++ [s]) i = if s.has i = true then s.bare else M.look pre i := by
  unfold M.look
  rw [List.find?_append]
  cases hs : s.has i
  · simp only [Bool.false_eq_true, if_false]
    rw [List.find?_cons_of_neg (by rw [hs]; simp), List.find?_nil, Option.or_none]
  · simp only [if_true]
    have hn : pre.find? (fun z => z.has i) = none := by
      rw [List.find?_eq_none]
      intro z hz hh
      have h1 := h z hz
      rw [M.has_iff] at hs hh
      omega
    rw [hn, Option.none_or]
    simp [List.find?, hs]
/-- Spans that are their own shortest. -/
structure M.Nrm (out : List M.S) : Prop where
  full : ∀ z ∈ out, z.bare.same M.zeroS = false
  apart : ∀ (j : Nat) (a b : M.S), out[j]? = some a → out[j + 1]? = some b → M.joins a b = false
theorem M.Nrm.init {out : List M.S} {z : M.S} (h : M.Nrm (out ++ [z])) : M.Nrm out := by
  refine ⟨fun y hy => h.full y (List.mem_append_left _ hy), fun j a b ha hb => h.apart j a b ?_ ?_⟩
  · rw [List.getElem?_append_left (List.getElem?_eq_some_iff.1 ha).1]; exact ha
  · rw [List.getElem?_append_left (List.getElem?_eq_some_iff.1 hb).1]; exact hb
theorem M.norm_snoc (l : List M.S) (s : M.S) : M.norm (l ++ [s]) = M.step (M.norm l) s := by
  unfold M.norm
  rw [List.foldl_append]
  rfl
theorem M.Nrm.last {out : List M.S} {y z : M.S} (h : M.Nrm (out ++ [y] ++ [z])) : M.joins y z = false := by
  refine h.apart out.length y z ?_ ?_
  · rw [List.getElem?_append_left (by simp)]; simp
  · rw [List.getElem?_append_right (by simp)]; simp
theorem M.Nrm.norm {n : Nat} : ∀ {out : List M.S}, out.length = n → M.Nrm out → M.norm out = out := by
  induction n with
  | zero =>
    intro out hn _
    obtain rfl := List.eq_nil_of_length_eq_zero hn
    rfl
  | succ n ih =>
    intro out hn h
    rcases List.eq_nil_or_concat out with h0 | ⟨init, z, h0⟩
    · subst h0; rfl
    · rw [List.concat_eq_append] at h0
      subst h0
      rw [M.norm_snoc, ih (by simpa using hn) h.init]
      have hz := h.full z (by simp)
      rcases List.eq_nil_or_concat init with h1 | ⟨i2, y, h1⟩
      · subst h1; exact M.step_first hz
      · rw [List.concat_eq_append] at h1
        subst h1
        exact M.step_more hz h.last
/-- What holds behind each step. -/
structure M.Made (n : Int) (pre out : List M.S) : Prop where
  right : M.Rt n out
  ends : ∀ e, (∀ s ∈ pre, s.t ≤ e) → ∀ z ∈ out, z.t ≤ e
  look : ∀ i, M.look out i = M.look pre i
  nrm : M.Nrm out
  from_ : ∀ z ∈ out, ∃ s ∈ pre, z.bare = s.bare
theorem M.Rt.init {n : Int} {l : List M.S} {s : M.S} (h : M.Rt n (l ++ [s])) : M.Rt n l ∧ (∀ z ∈ l, z.t ≤ s.f) ∧ 0 ≤ s.f ∧ s.f < s.t ∧ s.t ≤ n ∧ s.ok = true := by
  obtain ⟨h1, _, h3⟩ := List.pairwise_append.1 h.two
  exact ⟨⟨fun z hz => h.each z (List.mem_append_left _ hz), h1⟩, fun z hz => h3 z hz s (by simp), h.each s (by simp)⟩
theorem M.Rt.snoc {n : Int} {l : List M.S} {s : M.S} (h : M.Rt n l) (h1 : ∀ z ∈ l, z.t ≤ s.f) (h2 : 0 ≤ s.f ∧ s.f < s.t ∧ s.t ≤ n ∧ s.ok = true) : M.Rt n (l ++ [s]) := by
  refine ⟨fun z hz => ?_, List.pairwise_append.2 ⟨h.two, List.pairwise_singleton _ _, fun a ha b hb => ?_⟩⟩
  · rcases List.mem_append.1 hz with hz | hz
    · exact h.each z hz
    · obtain rfl := List.mem_singleton.1 hz
      exact h2
  · obtain rfl := List.mem_singleton.1 hb
    exact h1 a ha
theorem M.Made.next {n : Int} {pre out : List M.S} {s : M.S} (h : M.Made n pre out) (hr : M.Rt n (pre ++ [s])) : M.Made n (pre ++ [s]) (M.step out s) := by
  obtain ⟨_, hbe, s0, s1, s2, s3⟩ := hr.init
  have hbo := h.ends s.f hbe
  have hlk : ∀ i, M.look (pre ++ [s]) i = if s.has i = true then s.bare else M.look out i := fun i => by rw [M.look_snoc hbe, h.look]
  have hen : ∀ e, (∀ y ∈ pre ++ [s], y.t ≤ e) → ∀ z ∈ out, z.t ≤ e := fun e he => h.ends e fun y hy => he y (List.mem_append_left _ hy)
  have hfr : ∀ z ∈ out, ∃ y ∈ pre ++ [s], z.bare = y.bare := fun z hz => by
    obtain ⟨y, hy, e⟩ := h.from_ z hz
    exact ⟨y, List.mem_append_left _ hy, e⟩
  cases hp : s.bare.same M.zeroS
  · rcases List.eq_nil_or_concat out with h0 | ⟨init, z, h0⟩
    · subst h0
      rw [M.step_first hp]
      refine ⟨h.right.snoc hbo ⟨s0, s1, s2, s3⟩, fun e he y hy => ?_, fun i => ?_, ⟨fun y hy => ?_, fun j a b ha hb => ?_⟩, fun y hy => ?_⟩
      · obtain rfl : y = s := by simpa using hy
        exact he y (by simp)
      · rw [hlk, M.look_snoc hbo]
      · obtain rfl : y = s := by simpa using hy
        exact hp
      · simp at hb
      · obtain rfl : y = s := by simpa using hy
        exact ⟨y, by simp, rfl⟩
    · rw [List.concat_eq_append] at h0
      subst h0
      cases hj : M.joins z s
      · rw [M.step_more hp hj]
        refine ⟨h.right.snoc hbo ⟨s0, s1, s2, s3⟩, fun e he y hy => ?_, fun i => ?_, ⟨fun y hy => ?_, fun j a b ha hb => ?_⟩, fun y hy => ?_⟩
        · rcases List.mem_append.1 hy with hy | hy
          · exact hen e he y hy
          · obtain rfl := List.mem_singleton.1 hy
            exact he y (by simp)
        · rw [hlk, M.look_snoc hbo]
        · rcases List.mem_append.1 hy with hy | hy
          · exact h.nrm.full y hy
          · obtain rfl := List.mem_singleton.1 hy
            exact hp
        · have hjl := (List.getElem?_eq_some_iff.1 hb).1
          simp at hjl
          rcases Nat.lt_or_ge (j + 1) (init.length + 1) with h1 | h1
          · rw [List.getElem?_append_left (by simp; omega)] at ha hb
            exact h.nrm.apart j a b ha hb
          · obtain rfl : j = init.length := by omega
            rw [List.getElem?_append_left (by simp), List.getElem?_append_right (Nat.le_refl _)] at ha
            rw [List.getElem?_append_right (by simp)] at hb
            simp at ha hb
            subst ha hb
            exact hj
        · rcases List.mem_append.1 hy with hy | hy
          · exact hfr y hy
          · obtain rfl := List.mem_singleton.1 hy
            exact ⟨y, by simp, rfl⟩
      · rw [M.step_join hp hj]
        unfold M.joins at hj
        simp only [Bool.and_eq_true, decide_eq_true_eq, Bool.not_eq_true'] at hj
        obtain ⟨j1, j2, j3, j4⟩ := hj
        have hbare := M.same_iff.1 j2
        obtain ⟨hri, hzi, z0, z1, z2, z3⟩ := h.right.init
        have hzc : z.c = false := (show z.bare.c = s.bare.c by rw [hbare]).trans j3
        have hbr : M.S.bare { z with t := s.t } = z.bare := rfl
        refine ⟨hri.snoc hzi ⟨z0, by show z.f < s.t; omega, s2, ?_⟩, fun e he y hy => ?_, fun i => ?_, ⟨fun y hy => ?_, fun j a b ha hb => ?_⟩, fun y hy => ?_⟩
        · rw [M.ok_iff] at z3 ⊢
          refine ⟨(M.fine_of hbr).trans z3.1, fun hc => ?_⟩
          have : z.c = true := hc
          rw [hzc] at this
          cases this
        · rcases List.mem_append.1 hy with hy | hy
          · exact hen e he y (List.mem_append_left _ hy)
          · obtain rfl := List.mem_singleton.1 hy
            exact he s (by simp)
        · rw [hlk, M.look_snoc (s := { z with t := s.t }) hzi, M.look_snoc hzi, hbr, hbare]
          have e1 : M.S.has { z with t := s.t } i = (z.has i || s.has i) := by
            rw [Bool.eq_iff_iff, Bool.or_eq_true, M.has_iff, M.has_iff, M.has_iff]
            show z.f ≤ i ∧ i < s.t ↔ _
            omega
          rw [e1]
          cases z.has i <;> cases s.has i <;> simp
        · rcases List.mem_append.1 hy with hy | hy
          · exact h.nrm.full y (List.mem_append_left _ hy)
          · obtain rfl := List.mem_singleton.1 hy
            exact h.nrm.full z (by simp)
        · have hjl := (List.getElem?_eq_some_iff.1 hb).1
          simp at hjl
          rcases Nat.lt_or_ge (j + 1) init.length with h1 | h1
          · rw [List.getElem?_append_left (by omega)] at ha hb
            exact h.nrm.apart j a b (by rw [List.getElem?_append_left (by omega)]; exact ha) (by rw [List.getElem?_append_left (by omega)]; exact hb)
          · have hj1 : init.length = j + 1 := by omega
            rw [List.getElem?_append_left (by omega)] at ha
            rw [List.getElem?_append_right (by omega), hj1] at hb
            simp at hb
            subst hb
            have := h.nrm.apart j a z (by rw [List.getElem?_append_left (by omega)]; exact ha) (by rw [List.getElem?_append_right (by omega), hj1]; simp)
            exact this
        · rcases List.mem_append.1 hy with hy | hy
          · exact hfr y (List.mem_append_left _ hy)
          · obtain rfl := List.mem_singleton.1 hy
            exact ⟨s, by simp, hbr.trans hbare⟩
  · rw [M.step_plain hp]
    refine ⟨h.right, hen, fun i => ?_, h.nrm, hfr⟩
    rw [hlk]
    cases hs : s.has i
    · simp
    · simp only [if_true]
      rw [M.same_iff.1 hp]
      refine M.look_out fun z hz => ?_
      have h1 := hbo z hz
      rw [M.has_iff] at hs
      cases hh : z.has i
      · rfl
      · rw [M.has_iff] at hh; omega
theorem M.made {n : Int} {k : Nat} : ∀ {l : List M.S}, l.length = k → M.Rt n l → M.Made n l (M.norm l) := by
  induction k with
  | zero =>
    intro l hk _
    obtain rfl := List.eq_nil_of_length_eq_zero hk
    exact ⟨⟨fun s hs => (by cases hs), .nil⟩, fun e _ z hz => (by cases hz), fun i => rfl, ⟨fun z hz => (by cases hz), fun j a b ha _ => (by simp [M.norm] at ha)⟩, fun z hz => (by cases hz)⟩
  | succ k ih =>
    intro l hk h
    rcases List.eq_nil_or_concat l with h0 | ⟨init, s, h0⟩
    · subst h0; simp at hk
    · rw [List.concat_eq_append] at h0
      subst h0
      rw [M.norm_snoc]
      exact (ih (by simpa using hk) h.init.1).next h
theorem M.norm_norm {n : Int} {l : List M.S} (h : M.Rt n l) : M.norm (M.norm l) = M.norm l := (M.made rfl h).nrm.norm rfl
end Go.Proofs.YteknpodofmmklaaDoor
