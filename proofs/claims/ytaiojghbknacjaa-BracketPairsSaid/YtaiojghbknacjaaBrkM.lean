/- Brackets two by two, as plain functions on lists of whole numbers: which places are pairs, and that they are well nested. No program is read here. -/
namespace Go.Proofs.Ytaiojghbknacjaa.M

/-- What a place does: 1 opens, 2 closes, 0 neither. -/
def kd (l : List Int) (ms : List (Int × Int)) (i : Nat) : Int :=
  if l[i]? = some 13 then (match ms[i]? with | some m => if m.1 = 1 ∨ m.1 = 2 then m.1 else 0 | none => 0) else 0
def mid (ms : List (Int × Int)) (i : Nat) : Int := (ms.getD i (0, 0)).2
/-- Of m places from i on: the stack (top first) and each place's partner (0: none). -/
def pgo (kd mid : Nat → Int) : Nat → Nat → List Nat → List Int → List Int
  | 0, _, _, pa => pa
  | m + 1, i, st, pa =>
    if kd i = 1 then (if st.length = 63 then pa else pgo kd mid m (i + 1) (i :: st) pa)
    else if kd i = 2 then (match st.dropWhile (fun p => decide (mid p ≠ mid i)) with | [] => pgo kd mid m (i + 1) st pa | p :: r => pgo kd mid m (i + 1) r (pa.set p (i : Int)))
    else pgo kd mid m (i + 1) st pa
/-- The pairs of a list of partners, by those that open. -/
def prsFrom : Nat → List Int → List (Int × Int)
  | _, [] => []
  | i, x :: r => if 0 < x then ((i : Int), x) :: prsFrom (i + 1) r else prsFrom (i + 1) r
def partner (l : List Int) (ms : List (Int × Int)) : List Int := pgo (kd l ms) (mid ms) l.length 0 [] (List.replicate l.length 0)
def prs (l : List Int) (ms : List (Int × Int)) : List (Int × Int) := prsFrom 0 (partner l ms)
theorem kd_or {l : List Int} {ms : List (Int × Int)} {i : Nat} : kd l ms i = 0 ∨ kd l ms i = 1 ∨ kd l ms i = 2 := by
  unfold kd
  split
  · split
    · split
      · omega
      · exact .inl rfl
    · exact .inl rfl
  · exact .inl rfl
theorem kd_is {l : List Int} {ms : List (Int × Int)} {i : Nat} {k : Int} (h : kd l ms i = k) (hk : k ≠ 0) : l[i]? = some 13 ∧ ∃ m, ms[i]? = some m ∧ m.1 = k ∧ m.2 = mid ms i := by
  unfold kd at h
  split at h
  · rename_i hl
    refine ⟨hl, ?_⟩
    split at h
    · rename_i m hm
      refine ⟨m, hm, ?_, ?_⟩
      · split at h <;> omega
      · unfold mid
        rw [List.getD_eq_getElem?_getD, hm]
        rfl
    · omega
  · omega
section
variable {kd mid : Nat → Int} {n i m : Nat} {st : List Nat} {pa : List Int}
/-- What holds of the stack and of the partners. -/
structure PInv (kd mid : Nat → Int) (i : Nat) (st : List Nat) (pa : List Int) : Prop where
  stk : ∀ s ∈ st, s < i ∧ kd s = 1 ∧ pa[s]? = some 0
  srt : st.Pairwise (· > ·)
  pr : ∀ (p : Nat) (q : Int), pa[p]? = some q → q ≠ 0 → ∃ q' : Nat, q = q' ∧ p < q' ∧ q' < i ∧ kd p = 1 ∧ kd q' = 2 ∧ mid p = mid q'
  lam : ∀ (p p' : Nat) (q q' : Int), pa[p]? = some q → q ≠ 0 → pa[p']? = some q' → q' ≠ 0 → p < p' → q' < q ∨ q < p'
  off : ∀ s ∈ st, ∀ (p : Nat) (q : Int), pa[p]? = some q → q ≠ 0 → s < p ∨ q < s
  two : ∀ (p p' : Nat) (q : Int), pa[p]? = some q → q ≠ 0 → pa[p']? = some q → p = p'
theorem PInv.zero (kd mid : Nat → Int) (n : Nat) : PInv kd mid 0 [] (List.replicate n 0) := by
  have h0 : ∀ (p : Nat) (q : Int), (List.replicate n (0 : Int))[p]? = some q → q = 0 := fun p q h => by
    rw [List.getElem?_replicate] at h
    split at h
    · injection h with h
      exact h.symm
    · cases h
  exact ⟨(fun s h => by cases h), List.Pairwise.nil, fun p q h hq => absurd (h0 p q h) hq, fun p p' q q' h hq => absurd (h0 p q h) hq, (fun s h => by cases h), fun p p' q h hq => absurd (h0 p q h) hq⟩
theorem PInv.skip (h : PInv kd mid i st pa) : PInv kd mid (i + 1) st pa :=
  ⟨fun s hs => by have := h.stk s hs; exact ⟨by omega, this.2⟩, h.srt, fun p q hp hq => by
    obtain ⟨q', h1, h2, h3, h4⟩ := h.pr p q hp hq
    exact ⟨q', h1, h2, by omega, h4⟩, h.lam, h.off, h.two⟩
theorem PInv.open_ (h : PInv kd mid i st pa) (hk : kd i = 1) (hi : pa[i]? = some 0) : PInv kd mid (i + 1) (i :: st) pa := by
  refine ⟨fun s hs => ?_, ?_, h.skip.pr, h.lam, fun s hs p q hp hq => ?_, h.two⟩
  · rcases List.mem_cons.1 hs with rfl | hs
    · exact ⟨by omega, hk, hi⟩
    · have := h.stk s hs
      exact ⟨by omega, this.2⟩
  · exact List.pairwise_cons.2 ⟨fun s hs => (h.stk s hs).1, h.srt⟩
  · rcases List.mem_cons.1 hs with rfl | hs
    · obtain ⟨q', h1, h2, h3, -⟩ := h.pr p q hp hq
      omega
    · exact h.off s hs p q hp hq
theorem dropWhile_tail {α : Type} {f : α → Bool} {l : List α} {p : α} {r : List α} (h : l.dropWhile f = p :: r) : ∃ a, l = a ++ p :: r ∧ f p = false := by
  induction l with
  | nil => cases h
  | cons x l ih =>
    rw [List.dropWhile_cons] at h
    split at h
    · obtain ⟨a, ha, hf⟩ := ih h
      exact ⟨x :: a, by rw [ha]; rfl, hf⟩
    · rename_i hx
      injection h with h1 h2
      subst h1 h2
      exact ⟨[], rfl, by simpa using hx⟩
theorem PInv.close (h : PInv kd mid i st pa) (hk : kd i = 2) {p : Nat} {r : List Nat} (hd : st.dropWhile (fun p => decide (mid p ≠ mid i)) = p :: r) : PInv kd mid (i + 1) r (pa.set p (i : Int)) := by
  obtain ⟨a, ha, hm⟩ := dropWhile_tail hd
  have hpm : mid p = mid i := by simpa using hm
  have hps : p ∈ st := by rw [ha]; simp
  obtain ⟨hpi, hp1, hp0⟩ := h.stk p hps
  have hpl : p < pa.length := (List.getElem?_eq_some_iff.1 hp0).1
  have hsub : ∀ s ∈ r, s ∈ st := fun s hs => by rw [ha]; simp [hs]
  have hlt : ∀ s ∈ r, s < p := fun s hs => by
    have h1 := h.srt
    rw [ha] at h1
    exact (List.pairwise_cons.1 (List.pairwise_append.1 h1).2.1).1 s hs
  have hset : ∀ (x : Nat) (q : Int), (pa.set p (i : Int))[x]? = some q → (x = p ∧ q = i) ∨ (x ≠ p ∧ pa[x]? = some q) := fun x q hx => by
    by_cases e : p = x
    · subst e
      rw [List.getElem?_set_self hpl] at hx
      injection hx with hx
      exact .inl ⟨rfl, hx.symm⟩
    · rw [List.getElem?_set_ne e] at hx
      exact .inr ⟨fun h => e h.symm, hx⟩
  refine ⟨fun s hs => ?_, ?_, fun x q hx hq => ?_, fun x x' q q' hx hq hx' hq' hxx => ?_, fun s hs x q hx hq => ?_, fun x x' q hx hq hx' => ?_⟩
  · have h1 := h.stk s (hsub s hs)
    have h2 := hlt s hs
    exact ⟨by omega, h1.2.1, by rw [List.getElem?_set_ne (by omega)]; exact h1.2.2⟩
  · have h1 := h.srt
    rw [ha] at h1
    exact (List.pairwise_cons.1 (List.pairwise_append.1 h1).2.1).2
  · rcases hset x q hx with ⟨rfl, rfl⟩ | ⟨_, hx⟩
    · exact ⟨i, rfl, hpi, by omega, hp1, hk, hpm⟩
    · exact h.skip.pr x q hx hq
  · rcases hset x q hx with ⟨rfl, rfl⟩ | ⟨hne, _⟩
    · rcases hset x' q' hx' with ⟨rfl, rfl⟩ | ⟨hne', hx'⟩
      · omega
      · obtain ⟨z, h1, h2, h3, -⟩ := h.pr x' q' hx' hq'
        omega
    · rename_i hx2
      rcases hset x' q' hx' with ⟨rfl, rfl⟩ | ⟨hne', hx3⟩
      · have := h.off x' hps x q hx2 hq
        omega
      · exact h.lam x x' q q' hx2 hq hx3 hq' hxx
  · rcases hset x q hx with ⟨rfl, rfl⟩ | ⟨hne, hx⟩
    · have := hlt s hs
      omega
    · exact h.off s (hsub s hs) x q hx hq
  · rcases hset x q hx with ⟨rfl, rfl⟩ | ⟨hne, _⟩
    · rcases hset x' _ hx' with ⟨rfl, _⟩ | ⟨hne', hx'⟩
      · rfl
      · obtain ⟨z, h1, h2, h3, -⟩ := h.pr x' _ hx' hq
        omega
    · rename_i hx2
      rcases hset x' q hx' with ⟨rfl, rfl⟩ | ⟨hne', hx3⟩
      · obtain ⟨z, h1, h2, h3, -⟩ := h.pr x _ hx2 hq
        omega
      · exact h.two x x' q hx2 hq hx3
/-- A place that is not yet gone by has no partner. -/
theorem PInv.later (h : PInv kd mid i st pa) {p : Nat} (hp : i ≤ p) (hl : p < pa.length) : pa[p]? = some 0 := by
  obtain ⟨q, hq⟩ : ∃ q, pa[p]? = some q := ⟨_, List.getElem?_eq_getElem hl⟩
  by_cases h0 : q = 0
  · rw [hq, h0]
  · obtain ⟨z, h1, h2, h3, -⟩ := h.pr p q hq h0
    omega
theorem pgo_len : (pgo kd mid m i st pa).length = pa.length := by
  induction m generalizing i st pa with
  | zero => rfl
  | succ m ih =>
    unfold pgo
    split
    · split
      · rfl
      · exact ih
    · split
      · split
        · exact ih
        · rw [ih, List.length_set]
      · exact ih
theorem pgo_inv (h : PInv kd mid i st pa) (hl : i + m ≤ pa.length) : ∃ j st', j ≤ i + m ∧ PInv kd mid j st' (pgo kd mid m i st pa) := by
  induction m generalizing i st pa with
  | zero => exact ⟨i, st, by omega, h⟩
  | succ m ih =>
    unfold pgo
    split
    · rename_i hk
      split
      · exact ⟨i, st, by omega, h⟩
      · obtain ⟨j, st', h1, h2⟩ := ih (h.open_ hk (h.later (Nat.le_refl _) (by omega))) (by omega)
        exact ⟨j, st', by omega, h2⟩
    · split
      · rename_i hk
        split
        · obtain ⟨j, st', h1, h2⟩ := ih h.skip (by omega)
          exact ⟨j, st', by omega, h2⟩
        · rename_i p r hd
          obtain ⟨j, st', h1, h2⟩ := ih (h.close hk hd) (by rw [List.length_set]; omega)
          exact ⟨j, st', by omega, h2⟩
      · obtain ⟨j, st', h1, h2⟩ := ih h.skip (by omega)
        exact ⟨j, st', by omega, h2⟩
theorem prsFrom_at {k : Nat} {L : List Int} {a : Int × Int} (h : (prsFrom i L)[k]? = some a) : ∃ j : Nat, a.1 = ((i + j : Nat) : Int) ∧ L[j]? = some a.2 ∧ 0 < a.2 ∧ k ≤ j := by
  induction L generalizing i k with
  | nil => simp [prsFrom] at h
  | cons x r ih =>
    unfold prsFrom at h
    split at h
    · rename_i hx
      cases k with
      | zero =>
        rw [List.getElem?_cons_zero] at h
        injection h with h
        subst h
        exact ⟨0, rfl, rfl, hx, Nat.le_refl _⟩
      | succ k =>
        rw [List.getElem?_cons_succ] at h
        obtain ⟨j, h1, h2, h3, h4⟩ := ih h
        exact ⟨j + 1, by rw [h1]; congr 1; omega, by rw [List.getElem?_cons_succ]; exact h2, h3, by omega⟩
    · obtain ⟨j, h1, h2, h3, h4⟩ := ih h
      exact ⟨j + 1, by rw [h1]; congr 1; omega, by rw [List.getElem?_cons_succ]; exact h2, h3, by omega⟩
theorem prsFrom_rise {L : List Int} : (prsFrom i L).Pairwise (fun a b => a.1 < b.1) ∧ ∀ a ∈ prsFrom i L, (i : Int) ≤ a.1 := by
  induction L generalizing i with
  | nil => exact ⟨.nil, fun a h => by cases h⟩
  | cons x r ih =>
    obtain ⟨h1, h2⟩ := ih (i := i + 1)
    unfold prsFrom
    split
    · refine ⟨List.pairwise_cons.2 ⟨fun a ha => ?_, h1⟩, fun a ha => ?_⟩
      · have := h2 a ha
        dsimp only
        omega
      · rcases List.mem_cons.1 ha with rfl | ha
        · exact Int.le_refl _
        · have := h2 a ha
          omega
    · exact ⟨h1, fun a ha => by have := h2 a ha; omega⟩
theorem prsFrom_mem {L : List Int} {j : Nat} {q : Int} (h : L[j]? = some q) (hq : 0 < q) : (((i + j : Nat) : Int), q) ∈ prsFrom i L := by
  induction L generalizing i j with
  | nil => simp at h
  | cons x r ih =>
    unfold prsFrom
    cases j with
    | zero =>
      rw [List.getElem?_cons_zero] at h
      injection h with h
      subst h
      rw [if_pos hq]
      simp
    | succ j =>
      rw [List.getElem?_cons_succ] at h
      have := ih (i := i + 1) h
      rw [show i + 1 + j = i + (j + 1) by omega] at this
      split
      · exact List.mem_cons_of_mem _ this
      · exact this
theorem prsFrom_len {L : List Int} : (prsFrom i L).length ≤ L.length := by
  induction L generalizing i with
  | nil => exact Nat.le_refl _
  | cons x r ih =>
    unfold prsFrom
    have := ih (i := i + 1)
    split <;> simp only [List.length_cons] <;> omega
end
section
variable {l : List Int} {ms : List (Int × Int)}
theorem partner_len : (partner l ms).length = l.length := by unfold partner; rw [pgo_len, List.length_replicate]
theorem partner_inv : ∃ j st, j ≤ l.length ∧ PInv (kd l ms) (mid ms) j st (partner l ms) := by
  obtain ⟨j, st, h1, h2⟩ := pgo_inv (m := l.length) (PInv.zero (kd l ms) (mid ms) l.length) (by rw [List.length_replicate]; omega)
  exact ⟨j, st, by omega, h2⟩
theorem prs_len : (prs l ms).length ≤ l.length := by have := prsFrom_len (i := 0) (L := partner l ms); rw [partner_len] at this; exact this
/-- What a pair is like. -/
theorem prs_at {k : Nat} {a : Int × Int} (h : (prs l ms)[k]? = some a) : ∃ p q : Nat, a = ((p : Int), (q : Int)) ∧ p < q ∧ q < l.length ∧ k ≤ p ∧ l[p]? = some 13 ∧ l[q]? = some 13 ∧ (partner l ms)[p]? = some (q : Int) ∧ ∃ id, ms[p]? = some (1, id) ∧ ms[q]? = some (2, id) := by
  obtain ⟨j, st, hj, hi⟩ := partner_inv (l := l) (ms := ms)
  obtain ⟨p, h1, h2, h3, h4⟩ := prsFrom_at h
  obtain ⟨q, e, h5, h6, h7, h8, h9⟩ := hi.pr p a.2 h2 (by omega)
  obtain ⟨l1, m1, g1, g2, g3⟩ := kd_is h7 (by omega)
  obtain ⟨l2, m2, g4, g5, g6⟩ := kd_is h8 (by omega)
  refine ⟨p, q, ?_, h5, by omega, h4, l1, l2, by rw [← e]; exact h2, m1.2, ?_, ?_⟩
  · rw [Nat.zero_add] at h1
    rw [← h1, ← e]
  · rw [g1, ← g2]
  · rw [g4, ← g5, g3, h9, ← g6]
/-- P11.2: well nested. -/
theorem prs_nested {k k' : Nat} {a b : Int × Int} (h : (prs l ms)[k]? = some a) (h' : (prs l ms)[k']? = some b) (hk : k < k') : a.1 < b.1 ∧ (b.2 < a.2 ∨ a.2 < b.1) := by
  obtain ⟨j, st, hj, hi⟩ := partner_inv (l := l) (ms := ms)
  have hr := (prsFrom_rise (i := 0) (L := partner l ms)).1
  have h1 : a.1 < b.1 := by
    obtain ⟨k1, rfl⟩ := List.getElem?_eq_some_iff.1 h
    obtain ⟨k2, rfl⟩ := List.getElem?_eq_some_iff.1 h'
    exact List.pairwise_iff_getElem.1 hr k k' k1 k2 hk
  obtain ⟨p, q, rfl, _, _, _, _, _, hp, _⟩ := prs_at h
  obtain ⟨p', q', rfl, _, _, _, _, _, hp', _⟩ := prs_at h'
  refine ⟨h1, ?_⟩
  exact hi.lam p p' q q' hp (by omega) hp' (by omega) (by dsimp only at h1; omega)
end
end Go.Proofs.Ytaiojghbknacjaa.M
