/- Brackets two by two, as plain functions on lists of whole numbers: which places are pairs, and that they are well nested. No program is read here. -/
/- What brackets become, as plain functions on lists of whole numbers, and what of it is said of both of a pair. No program is read here. -/
/- Things of two whole numbers in memory (marks, pairs): slices and rows that read as lists of them. No function of the program is walked here. -/
/- The contracts of the document's strong, kind, ahead and between. Conditions: the slices read as lists, at most a thousand long; places lie in the list. -/
/- The contract of the document's between. Conditions: the slice reads as a list, at most a thousand long; the places lie in it, one ahead of the other. -/
import Derived.Test.YtjlfgojblimobaaGreatA00
import Derived.RegionTactic
import Derived.DeepKeys
import Derived.Laws.StructEq
section
namespace Go.Proofs.YtjlfgojblimobaaGreat.S11.M

def kd (l : List Int) (ms : List (Int × Int)) (i : Nat) : Int :=
  if l[i]? = some 13 then (match ms[i]? with | some m => if m.1 = 1 ∨ m.1 = 2 then m.1 else 0 | none => 0) else 0
def mid (ms : List (Int × Int)) (i : Nat) : Int := (ms.getD i (0, 0)).2
def pgo (kd mid : Nat → Int) : Nat → Nat → List Nat → List Int → List Int
  | 0, _, _, pa => pa
  | m + 1, i, st, pa =>
    if kd i = 1 then (if st.length = 63 then pa else pgo kd mid m (i + 1) (i :: st) pa)
    else if kd i = 2 then (match st.dropWhile (fun p => decide (mid p ≠ mid i)) with | [] => pgo kd mid m (i + 1) st pa | p :: r => pgo kd mid m (i + 1) r (pa.set p (i : Int)))
    else pgo kd mid m (i + 1) st pa
def prsFrom : Nat → List Int → List (Int × Int)
  | _, [] => []
  | i, x :: r => if 0 < x then ((i : Int), x) :: prsFrom (i + 1) r else prsFrom (i + 1) r
def partner (l : List Int) (ms : List (Int × Int)) : List Int := pgo (kd l ms) (mid ms) l.length 0 [] (List.replicate l.length 0)
def prs (l : List Int) (ms : List (Int × Int)) : List (Int × Int) := prsFrom 0 (partner l ms)
theorem kd_or {l : List Int} {ms : List (Int × Int)} {i : Nat} : kd l ms i = 0 ∨ kd l ms i = 1 ∨ kd l ms i = 2 := by
  unfold kd
  split
  · split
    · split
      · omega
      · exact .inl rfl
    · exact .inl rfl
  · exact .inl rfl
theorem kd_is {l : List Int} {ms : List (Int × Int)} {i : Nat} {k : Int} (h : kd l ms i = k) (hk : k ≠ 0) : l[i]? = some 13 ∧ ∃ m, ms[i]? = some m ∧ m.1 = k ∧ m.2 = mid ms i := by
  unfold kd at h
  split at h
  · rename_i hl
    refine ⟨hl, ?_⟩
    split at h
    · rename_i m hm
      refine ⟨m, hm, ?_, ?_⟩
      · split at h <;> omega
      · unfold mid
        rw [List.getD_eq_getElem?_getD, hm]
        rfl
    · omega
  · omega
section
variable {kd mid : Nat → Int} {n i m : Nat} {st : List Nat} {pa : List Int}
structure PInv (kd mid : Nat → Int) (i : Nat) (st : List Nat) (pa : List Int) : Prop where
  stk : ∀ s ∈ st, s < i ∧ kd s = 1 ∧ pa[s]? = some 0
  srt : st.Pairwise (· > ·)
  pr : ∀ (p : Nat) (q : Int), pa[p]? = some q → q ≠ 0 → ∃ q' : Nat, q = q' ∧ p < q' ∧ q' < i ∧ kd p = 1 ∧ kd q' = 2 ∧ mid p = mid q'
  lam : ∀ (p p' : Nat) (q q' : Int), pa[p]? = some q → q ≠ 0 → pa[p']? = some q' → q' ≠ 0 → p < p' → q' < q ∨ q < p'
  off : ∀ s ∈ st, ∀ (p : Nat) (q : Int), pa[p]? = some q → q ≠ 0 → s < p ∨ q < s
  two : ∀ (p p' : Nat) (q : Int), pa[p]? = some q → q ≠ 0 → pa[p']? = some q → p = p'
theorem PInv.zero (kd mid : Nat → Int) (n : Nat) : PInv kd mid 0 [] (List.replicate n 0) := by
  have h0 : ∀ (p : Nat) (q : Int), (List.replicate n (0 : Int))[p]? = some q → q = 0 := fun p q h => by
    rw [List.getElem?_replicate] at h
    split at h
    · injection h with h
      exact h.symm
    · cases h
  exact ⟨(fun s h => by cases h), List.Pairwise.nil, fun p q h hq => absurd (h0 p q h) hq, fun p p' q q' h hq => absurd (h0 p q h) hq, (fun s h => by cases h), fun p p' q h hq => absurd (h0 p q h) hq⟩
theorem PInv.skip (h : PInv kd mid i st pa) : PInv kd mid (i + 1) st pa :=
  ⟨fun s hs => by have := h.stk s hs; exact ⟨by omega, this.2⟩, h.srt, fun p q hp hq => by
    obtain ⟨q', h1, h2, h3, h4⟩ := h.pr p q hp hq
    exact ⟨q', h1, h2, by omega, h4⟩, h.lam, h.off, h.two⟩
theorem PInv.open_ (h : PInv kd mid i st pa) (hk : kd i = 1) (hi : pa[i]? = some 0) : PInv kd mid (i + 1) (i :: st) pa := by
  refine ⟨fun s hs => ?_, ?_, h.skip.pr, h.lam, fun s hs p q hp hq => ?_, h.two⟩
  · rcases List.mem_cons.1 hs with rfl | hs
    · exact ⟨by omega, hk, hi⟩
    · have := h.stk s hs
      exact ⟨by omega, this.2⟩
  · exact List.pairwise_cons.2 ⟨fun s hs => (h.stk s hs).1, h.srt⟩
  · rcases List.mem_cons.1 hs with rfl | hs
    · obtain ⟨q', h1, h2, h3, -⟩ := h.pr p q hp hq
      omega
    · exact h.off s hs p q hp hq
theorem dropWhile_tail {α : Type} {f : α → Bool} {l : List α} {p : α} {r : List α} (h : l.dropWhile f = p :: r) : ∃ a, l = a ++ p :: r ∧ f p = false := by
  induction l with
  | nil => cases h
  | cons x l ih =>
    rw [List.dropWhile_cons] at h
    split at h
    · obtain ⟨a, ha, hf⟩ := ih h
      exact ⟨x :: a, by rw [ha]; rfl, hf⟩
    · rename_i hx
      injection h with h1 h2
      subst h1 h2
      exact ⟨[], rfl, by simpa using hx⟩
theorem PInv.close (h : PInv kd mid i st pa) (hk : kd i = 2) {p : Nat} {r : List Nat} (hd : st.dropWhile (fun p => decide (mid p ≠ mid i)) = p :: r) : PInv kd mid (i + 1) r (pa.set p (i : Int)) := by
  obtain ⟨a, ha, hm⟩ := dropWhile_tail hd
  have hpm : mid p = mid i := by simpa using hm
  have hps : p ∈ st := by rw [ha]; simp
  obtain ⟨hpi, hp1, hp0⟩ := h.stk p hps
  have hpl : p < pa.length := (List.getElem?_eq_some_iff.1 hp0).1
  have hsub : ∀ s ∈ r, s ∈ st := fun s hs => by rw [ha]; simp [hs]
  have hlt : ∀ s ∈ r, s < p := fun s hs => by
    have h1 := h.srt
    rw [ha] at h1
    exact (List.pairwise_cons.1 (List.pairwise_append.1 h1).2.1).1 s hs
  have hset : ∀ (x : Nat) (q : Int), (pa.set p (i : Int))[x]? = some q → (x = p ∧ q = i) ∨ (x ≠ p ∧ pa[x]? = some q) := fun x q hx => by
    by_cases e : p = x
    · subst e
      rw [List.getElem?_set_self hpl] at hx
      injection hx with hx
      exact .inl ⟨rfl, hx.symm⟩
    · rw [List.getElem?_set_ne e] at hx
      exact .inr ⟨fun h => e h.symm, hx⟩
  refine ⟨fun s hs => ?_, ?_, fun x q hx hq => ?_, fun x x' q q' hx hq hx' hq' hxx => ?_, fun s hs x q hx hq => ?_, fun x x' q hx hq hx' => ?_⟩
  · have h1 := h.stk s (hsub s hs)
    have h2 := hlt s hs
    exact ⟨by omega, h1.2.1, by rw [List.getElem?_set_ne (by omega)]; exact h1.2.2⟩
  · have h1 := h.srt
    rw [ha] at h1
    exact (List.pairwise_cons.1 (List.pairwise_append.1 h1).2.1).2
  · rcases hset x q hx with ⟨rfl, rfl⟩ | ⟨_, hx⟩
    · exact ⟨i, rfl, hpi, by omega, hp1, hk, hpm⟩
    · exact h.skip.pr x q hx hq
  · rcases hset x q hx with ⟨rfl, rfl⟩ | ⟨hne, _⟩
    · rcases hset x' q' hx' with ⟨rfl, rfl⟩ | ⟨hne', hx'⟩
      · omega
      · obtain ⟨z, h1, h2, h3, -⟩ := h.pr x' q' hx' hq'
        omega
    · rename_i hx2
      rcases hset x' q' hx' with ⟨rfl, rfl⟩ | ⟨hne', hx3⟩
      · have := h.off x' hps x q hx2 hq
        omega
      · exact h.lam x x' q q' hx2 hq hx3 hq' hxx
  · rcases hset x q hx with ⟨rfl, rfl⟩ | ⟨hne, hx⟩
    · have := hlt s hs
      omega
    · exact h.off s (hsub s hs) x q hx hq
  · rcases hset x q hx with ⟨rfl, rfl⟩ | ⟨hne, _⟩
    · rcases hset x' _ hx' with ⟨rfl, _⟩ | ⟨hne', hx'⟩
      · rfl
      · obtain ⟨z, h1, h2, h3, -⟩ := h.pr x' _ hx' hq
        omega
    · rename_i hx2
      rcases hset x' q hx' with ⟨rfl, rfl⟩ | ⟨hne', hx3⟩
      · obtain ⟨z, h1, h2, h3, -⟩ := h.pr x _ hx2 hq
        omega
      · exact h.two x x' q hx2 hq hx3
theorem PInv.later (h : PInv kd mid i st pa) {p : Nat} (hp : i ≤ p) (hl : p < pa.length) : pa[p]? = some 0 := by
  obtain ⟨q, hq⟩ : ∃ q, pa[p]? = some q := ⟨_, List.getElem?_eq_getElem hl⟩
  by_cases h0 : q = 0
  · rw [hq, h0]
  · obtain ⟨z, h1, h2, h3, -⟩ := h.pr p q hq h0
    omega
theorem pgo_len : (pgo kd mid m i st pa).length = pa.length := by
  induction m generalizing i st pa with
  | zero => rfl
  | succ m ih =>
    unfold pgo
    split
    · split
      · rfl
      · exact ih
    · split
      · split
        · exact ih
        · rw [ih, List.length_set]
      · exact ih
theorem pgo_inv (h : PInv kd mid i st pa) (hl : i + m ≤ pa.length) : ∃ j st', j ≤ i + m ∧ PInv kd mid j st' (pgo kd mid m i st pa) := by
  induction m generalizing i st pa with
  | zero => exact ⟨i, st, by omega, h⟩
  | succ m ih =>
    unfold pgo
    split
    · rename_i hk
      split
      · exact ⟨i, st, by omega, h⟩
      · obtain ⟨j, st', h1, h2⟩ := ih (h.open_ hk (h.later (Nat.le_refl _) (by omega))) (by omega)
        exact ⟨j, st', by omega, h2⟩
    · split
      · rename_i hk
        split
        · obtain ⟨j, st', h1, h2⟩ := ih h.skip (by omega)
          exact ⟨j, st', by omega, h2⟩
        · rename_i p r hd
          obtain ⟨j, st', h1, h2⟩ := ih (h.close hk hd) (by rw [List.length_set]; omega)
          exact ⟨j, st', by omega, h2⟩
      · obtain ⟨j, st', h1, h2⟩ := ih h.skip (by omega)
        exact ⟨j, st', by omega, h2⟩
theorem prsFrom_at {k : Nat} {L : List Int} {a : Int × Int} (h : (prsFrom i L)[k]? = some a) : ∃ j : Nat, a.1 = ((i + j : Nat) : Int) ∧ L[j]? = some a.2 ∧ 0 < a.2 ∧ k ≤ j := by
  induction L generalizing i k with
  | nil => simp [prsFrom] at h
  | cons x r ih =>
    unfold prsFrom at h
    split at h
    · rename_i hx
      cases k with
      | zero =>
        rw [List.getElem?_cons_zero] at h
        injection h with h
        subst h
        exact ⟨0, rfl, rfl, hx, Nat.le_refl _⟩
      | succ k =>
        rw [List.getElem?_cons_succ] at h
        obtain ⟨j, h1, h2, h3, h4⟩ := ih h
        exact ⟨j + 1, by rw [h1]; congr 1; omega, by rw [List.getElem?_cons_succ]; exact h2, h3, by omega⟩
    · obtain ⟨j, h1, h2, h3, h4⟩ := ih h
      exact ⟨j + 1, by rw [h1]; congr 1; omega, by rw [List.getElem?_cons_succ]; exact h2, h3, by omega⟩
theorem prsFrom_rise {L : List Int} : (prsFrom i L).Pairwise (fun a b => a.1 < b.1) ∧ ∀ a ∈ prsFrom i L, (i : Int) ≤ a.1 := by
  induction L generalizing i with
  | nil => exact ⟨.nil, fun a h => by cases h⟩
  | cons x r ih =>
    obtain ⟨h1, h2⟩ := ih (i := i + 1)
    unfold prsFrom
    split
    · refine ⟨List.pairwise_cons.2 ⟨fun a ha => ?_, h1⟩, fun a ha => ?_⟩
      · have := h2 a ha
        dsimp only
        omega
      · rcases List.mem_cons.1 ha with rfl | ha
        · exact Int.le_refl _
        · have := h2 a ha
          omega
    · exact ⟨h1, fun a ha => by have := h2 a ha; omega⟩
theorem prsFrom_len {L : List Int} : (prsFrom i L).length ≤ L.length := by
  induction L generalizing i with
  | nil => exact Nat.le_refl _
  | cons x r ih =>
    unfold prsFrom
    have := ih (i := i + 1)
    split <;> simp only [List.length_cons] <;> omega
end
section
variable {l : List Int} {ms : List (Int × Int)}
theorem partner_len : (partner l ms).length = l.length := by unfold partner; rw [pgo_len, List.length_replicate]
theorem partner_inv : ∃ j st, j ≤ l.length ∧ PInv (kd l ms) (mid ms) j st (partner l ms) := by
  obtain ⟨j, st, h1, h2⟩ := pgo_inv (m := l.length) (PInv.zero (kd l ms) (mid ms) l.length) (by rw [List.length_replicate]; omega)
  exact ⟨j, st, by omega, h2⟩
theorem prs_len : (prs l ms).length ≤ l.length := by have := prsFrom_len (i := 0) (L := partner l ms); rw [partner_len] at this; exact this
theorem prs_at {k : Nat} {a : Int × Int} (h : (prs l ms)[k]? = some a) : ∃ p q : Nat, a = ((p : Int), (q : Int)) ∧ p < q ∧ q < l.length ∧ k ≤ p ∧ l[p]? = some 13 ∧ l[q]? = some 13 ∧ (partner l ms)[p]? = some (q : Int) ∧ ∃ id, ms[p]? = some (1, id) ∧ ms[q]? = some (2, id) := by
  obtain ⟨j, st, hj, hi⟩ := partner_inv (l := l) (ms := ms)
  obtain ⟨p, h1, h2, h3, h4⟩ := prsFrom_at h
  obtain ⟨q, e, h5, h6, h7, h8, h9⟩ := hi.pr p a.2 h2 (by omega)
  obtain ⟨l1, m1, g1, g2, g3⟩ := kd_is h7 (by omega)
  obtain ⟨l2, m2, g4, g5, g6⟩ := kd_is h8 (by omega)
  refine ⟨p, q, ?_, h5, by omega, h4, l1, l2, by rw [← e]; exact h2, m1.2, ?_, ?_⟩
  · rw [Nat.zero_add] at h1
    rw [← h1, ← e]
  · rw [g1, ← g2]
  · rw [g4, ← g5, g3, h9, ← g6]
theorem prs_nested {k k' : Nat} {a b : Int × Int} (h : (prs l ms)[k]? = some a) (h' : (prs l ms)[k']? = some b) (hk : k < k') : a.1 < b.1 ∧ (b.2 < a.2 ∨ a.2 < b.1) := by
  obtain ⟨j, st, hj, hi⟩ := partner_inv (l := l) (ms := ms)
  have hr := (prsFrom_rise (i := 0) (L := partner l ms)).1
  have h1 : a.1 < b.1 := by
    obtain ⟨k1, rfl⟩ := List.getElem?_eq_some_iff.1 h
    obtain ⟨k2, rfl⟩ := List.getElem?_eq_some_iff.1 h'
    exact List.pairwise_iff_getElem.1 hr k k' k1 k2 hk
  obtain ⟨p, q, rfl, _, _, _, _, _, hp, _⟩ := prs_at h
  obtain ⟨p', q', rfl, _, _, _, _, _, hp', _⟩ := prs_at h'
  refine ⟨h1, ?_⟩
  exact hi.lam p p' q q' hp (by omega) hp' (by omega) (by dsimp only at h1; omega)
end
end Go.Proofs.YtjlfgojblimobaaGreat.S11.M
end

section
namespace Go.Proofs.YtjlfgojblimobaaGreat.S11.M

def sg (c : Int) : Int := if c = 1 ∨ c = 3 ∨ c = 6 then 1 else if c = 0 then 0 else 13
def ahd (f : Int) : List Int → Int
  | [] => f
  | x :: r => if sg x = 13 then ahd f r else sg x
def btw (side : Int) (l : List Int) : Nat → Nat → Bool
  | 0, _ => false
  | m + 1, i => if sg (l.getD i 0) = side then true else btw side l m (i + 1)
def mk (came : List Int) (side : Int) : Nat → Nat → List Int → List Int
  | 0, _, l => l
  | m + 1, i, l => if came[i]? = some 8 then mk came side m (i + 1) (l.set i side) else l
def bec (came : List Int) (l : List Int) (at_ : Nat) (side : Int) : List Int := mk came side (l.length - (at_ + 1)) (at_ + 1) (l.set at_ side)
def toOf (side other f : Int) (out : List Int) (p q : Nat) : Int :=
  if btw side out (q - (p + 1)) (p + 1) = true then side
  else if btw other out (q - (p + 1)) (p + 1) = true then (if ahd f (out.take p).reverse = other then other else side) else 13
def res1 (came : List Int) (side other f : Int) (out : List Int) (a : Int × Int) : List Int :=
  if toOf side other f out a.1.toNat a.2.toNat = 13 then out
  else bec came (bec came out a.1.toNat (toOf side other f out a.1.toNat a.2.toNat)) a.2.toNat (toOf side other f out a.1.toNat a.2.toNat)
def resTo (came l : List Int) (ms : List (Int × Int)) (side other f : Int) (k : Nat) : List Int := ((prs l ms).take k).foldl (res1 came side other f) l
def res (came l : List Int) (ms : List (Int × Int)) (level f : Int) : List Int :=
  resTo came l ms (if level % 2 = 1 then 1 else 0) (if level % 2 = 1 then 0 else 1) f (prs l ms).length
def resOk (came l : List Int) (level f : Int) : Prop := came.length = l.length ∧ 0 ≤ level ∧ (f = 0 ∨ f = 1)
instance (came l : List Int) (level f : Int) : Decidable (resOk came l level f) := by unfold resOk; infer_instance
section
variable {came l out : List Int} {ms : List (Int × Int)} {side other f x c : Int} {m i j k : Nat}
theorem mk_len : (mk came side m i l).length = l.length := by
  induction m generalizing i l with
  | zero => rfl
  | succ m ih =>
    unfold mk
    split
    · rw [ih, List.length_set]
    · rfl
theorem bec_len : (bec came l i side).length = l.length := by unfold bec; rw [mk_len, List.length_set]
theorem mk_at : (mk came side m i l)[j]? = l[j]? ∨ ((mk came side m i l)[j]? = some side ∧ i ≤ j ∧ came[j]? = some 8) := by
  induction m generalizing i l with
  | zero => exact .inl rfl
  | succ m ih =>
    unfold mk
    split
    · rename_i h
      rcases ih (i := i + 1) (l := l.set i side) with h1 | ⟨h1, h2, h3⟩
      · by_cases e : i = j
        · subst e
          by_cases hl : i < l.length
          · rw [List.getElem?_set_self hl] at h1
            exact .inr ⟨h1, Nat.le_refl _, h⟩
          · rw [h1, List.set_eq_of_length_le (by omega)]
            exact .inl rfl
        · rw [h1, List.getElem?_set_ne e]
          exact .inl rfl
      · exact .inr ⟨h1, by omega, h3⟩
    · exact .inl rfl
theorem bec_at : (bec came l i side)[j]? = l[j]? ∨ ((bec came l i side)[j]? = some side ∧ (j = i ∨ (i < j ∧ came[j]? = some 8))) := by
  unfold bec
  rcases mk_at (came := came) (side := side) (m := l.length - (i + 1)) (i := i + 1) (l := l.set i side) (j := j) with h | ⟨h, h1, h2⟩
  · by_cases e : i = j
    · subst e
      by_cases hl : i < l.length
      · rw [List.getElem?_set_self hl] at h
        exact .inr ⟨h, .inl rfl⟩
      · rw [h, List.set_eq_of_length_le (by omega)]
        exact .inl rfl
    · rw [h, List.getElem?_set_ne e]
      exact .inl rfl
  · exact .inr ⟨h, .inr ⟨by omega, h2⟩⟩
theorem bec_self (h : i < l.length) : (bec came l i side)[i]? = some side := by
  unfold bec
  rcases mk_at (came := came) (side := side) (m := l.length - (i + 1)) (i := i + 1) (l := l.set i side) (j := i) with h1 | ⟨_, h1, _⟩
  · rw [h1, List.getElem?_set_self h]
  · omega
theorem res1_len {a : Int × Int} : (res1 came side other f out a).length = out.length := by
  unfold res1
  split
  · rfl
  · rw [bec_len, bec_len]
theorem resTo_succ {a : Int × Int} (h : (prs l ms)[k]? = some a) : resTo came l ms side other f (k + 1) = res1 came side other f (resTo came l ms side other f k) a := by
  obtain ⟨hk, rfl⟩ := List.getElem?_eq_some_iff.1 h
  unfold resTo
  rw [List.take_succ_eq_append_getElem hk, List.foldl_append]
  rfl
theorem resTo_len : (resTo came l ms side other f k).length = l.length := by
  induction k with
  | zero => rfl
  | succ k ih =>
    by_cases h : k < (prs l ms).length
    · rw [resTo_succ (List.getElem?_eq_getElem h), res1_len, ih]
    · unfold resTo at ih ⊢
      rw [List.take_of_length_le (by omega)] at ih ⊢
      exact ih
theorem toOf_or (hs : side = 0 ∨ side = 1) (ho : other = 0 ∨ other = 1) {p q : Nat} : toOf side other f out p q = 13 ∨ toOf side other f out p q = 0 ∨ toOf side other f out p q = 1 := by
  unfold toOf
  split
  · omega
  · split
    · split <;> omega
    · exact .inl rfl
structure RInv (came l : List Int) (ms : List (Int × Int)) (k : Nat) (out : List Int) : Prop where
  any : ∀ (i : Nat) (x : Int), out[i]? = some x → l[i]? = some x ∨ x = 0 ∨ x = 1
  stay : ∀ i : Nat, came[i]? ≠ some 8 → (∀ (t : Nat) (a : Int × Int), t < k → (prs l ms)[t]? = some a → a.1 ≠ i ∧ a.2 ≠ i) → out[i]? = l[i]?
  both : ∀ (t p q : Nat), t < k → (prs l ms)[t]? = some ((p : Int), (q : Int)) → came[p]? ≠ some 8 → came[q]? ≠ some 8 → out[p]? = out[q]?
theorem prs_apart {t t' p q p' q' : Nat} (h : (prs l ms)[t]? = some ((p : Int), (q : Int))) (h' : (prs l ms)[t']? = some ((p' : Int), (q' : Int))) (ht : t ≠ t') : p ≠ p' ∧ q ≠ q' ∧ p ≠ q' ∧ q ≠ p' := by
  obtain ⟨_, _, e, e1, _, _, _, _, _, id, m1, m2⟩ := prs_at h
  injection e with ea eb
  obtain rfl := Int.ofNat_inj.1 ea
  obtain rfl := Int.ofNat_inj.1 eb
  obtain ⟨_, _, e', e1', _, _, _, _, _, id', m1', m2'⟩ := prs_at h'
  injection e' with ea' eb'
  obtain rfl := Int.ofNat_inj.1 ea'
  obtain rfl := Int.ofNat_inj.1 eb'
  have hne : p ≠ q' ∧ q ≠ p' := by
    constructor
    · intro e
      subst e
      rw [m1] at m2'
      injection m2' with e
      injection e with e
      omega
    · intro e
      subst e
      rw [m2] at m1'
      injection m1' with e
      injection e with e
      omega
  have hpq : p ≠ p' ∧ q ≠ q' := by
    rcases Nat.lt_or_ge t t' with hlt | hge
    · have := prs_nested h h' hlt
      dsimp only at this
      omega
    · have := prs_nested h' h (by omega)
      dsimp only at this
      omega
  exact ⟨hpq.1, hpq.2, hne.1, hne.2⟩
theorem RInv.next (hs : side = 0 ∨ side = 1) (ho : other = 0 ∨ other = 1) (hl : out.length = l.length) {a : Int × Int} (ha : (prs l ms)[k]? = some a) (h : RInv came l ms k out) : RInv came l ms (k + 1) (res1 came side other f out a) := by
  obtain ⟨p, q, rfl, hpq, hq, -, l1, l2, -, -⟩ := prs_at ha
  have h12 : ∀ t, t < k → ∀ a', (prs l ms)[t]? = some a' → a'.1 ≠ (p : Int) ∧ a'.2 ≠ (p : Int) ∧ a'.1 ≠ (q : Int) ∧ a'.2 ≠ (q : Int) := fun t ht a' ha' => by
    obtain ⟨p', q', rfl, -⟩ := prs_at ha'
    have := prs_apart ha' ha (by omega)
    dsimp only
    omega
  unfold res1
  dsimp only
  rw [Int.toNat_natCast, Int.toNat_natCast]
  obtain ⟨to, hto⟩ : ∃ to, toOf side other f out p q = to := ⟨_, rfl⟩
  have h3 := toOf_or (out := out) (f := f) hs ho (p := p) (q := q)
  rw [hto] at h3 ⊢
  by_cases h13 : to = 13
  · rw [if_pos h13]
    refine ⟨h.any, fun i hi hno => h.stay i hi fun t a ht => hno t a (by omega), fun t p' q' ht hp c1 c2 => ?_⟩
    by_cases e : t = k
    · subst e
      rw [ha] at hp
      injection hp with hp
      injection hp with e1 e2
      obtain rfl := Int.ofNat_inj.1 e1
      obtain rfl := Int.ofNat_inj.1 e2
      have s1 := h.stay p c1 fun t a' ht ha' => ⟨(h12 t ht a' ha').1, (h12 t ht a' ha').2.1⟩
      have s2 := h.stay q c2 fun t a' ht ha' => ⟨(h12 t ht a' ha').2.2.1, (h12 t ht a' ha').2.2.2⟩
      rw [s1, s2, l1, l2]
    · exact h.both t p' q' (by omega) hp c1 c2
  · rw [if_neg h13]
    have hto1 : to = 0 ∨ to = 1 := by omega
    have hat : ∀ i : Nat, (bec came (bec came out p to) q to)[i]? = out[i]? ∨ ((bec came (bec came out p to) q to)[i]? = some to ∧ (i = p ∨ i = q ∨ came[i]? = some 8)) := fun i => by
      rcases bec_at (came := came) (l := bec came out p to) (i := q) (side := to) (j := i) with e | ⟨e, e1⟩
      · rcases bec_at (came := came) (l := out) (i := p) (side := to) (j := i) with e2 | ⟨e2, e3⟩
        · exact .inl (e.trans e2)
        · exact .inr ⟨e.trans e2, by rcases e3 with e3 | e3 <;> simp [e3]⟩
      · exact .inr ⟨e, by rcases e1 with e1 | e1 <;> simp [e1]⟩
    refine ⟨fun i x hx => ?_, fun i hi hno => ?_, fun t p' q' ht hp c1 c2 => ?_⟩
    · rcases hat i with e | ⟨e, -⟩
      · rw [e] at hx
        exact h.any i x hx
      · rw [e] at hx
        injection hx with hx
        subst hx
        exact .inr hto1
    · have hk := hno k _ (by omega) ha
      dsimp only at hk
      rcases hat i with e | ⟨-, e⟩
      · rw [e]
        exact h.stay i hi fun t a ht => hno t a (by omega)
      · rcases e with e | e | e
        · omega
        · omega
        · exact absurd e hi
    · by_cases e : t = k
      · subst e
        rw [ha] at hp
        injection hp with hp
        injection hp with e1 e2
        obtain rfl := Int.ofNat_inj.1 e1
        obtain rfl := Int.ofNat_inj.1 e2
        have hqq : (bec came (bec came out p to) q to)[q]? = some to := bec_self (by rw [bec_len]; omega)
        rw [hqq]
        rcases bec_at (came := came) (l := bec came out p to) (i := q) (side := to) (j := p) with e | ⟨e, -⟩
        · rw [e]
          exact bec_self (by omega)
        · exact e
      · obtain ⟨g1, g2, g3, g4⟩ := h12 t (by omega) _ hp
        dsimp only at g1 g2 g3 g4
        have b1 := (hat p').resolve_right fun ⟨_, e⟩ => by
          rcases e with e | e | e
          · omega
          · omega
          · exact c1 e
        have b2 := (hat q').resolve_right fun ⟨_, e⟩ => by
          rcases e with e | e | e
          · omega
          · omega
          · exact c2 e
        rw [b1, b2]
        exact h.both t p' q' (by omega) hp c1 c2
theorem res_len {level : Int} : (res came l ms level f).length = l.length := resTo_len
end
end Go.Proofs.YtjlfgojblimobaaGreat.S11.M
end

section
namespace Go.Proofs.YtjlfgojblimobaaGreat.S11
open Go.RowKit
set_option maxRecDepth 100000

def cells2 (l : List (Int × Int)) : List Value := l.flatMap fun a => [Value.int .i64 a.1, .int .i64 a.2]
theorem cells2_snoc (l : List (Int × Int)) (e : Int × Int) : cells2 (l ++ [e]) = cells2 l ++ [.int .i64 e.1, .int .i64 e.2] := by simp [cells2]
theorem cells2_length (l : List (Int × Int)) : (cells2 l).length = l.length * 2 := by
  induction l with
  | nil => rfl
  | cons e r ih => simp [cells2] at ih ⊢; omega
theorem cells2_at {l : List (Int × Int)} {j : Nat} {e : Int × Int} (h : l[j]? = some e) : (cells2 l)[j * 2]? = some (.int .i64 e.1) ∧ (cells2 l)[j * 2 + 1]? = some (.int .i64 e.2) := by
  induction l generalizing j with
  | nil => simp at h
  | cons x r ih =>
    have hc : cells2 (x :: r) = [Value.int .i64 x.1, .int .i64 x.2] ++ cells2 r := rfl
    rw [hc]
    cases j with
    | zero =>
      simp at h
      subst h
      exact ⟨rfl, rfl⟩
    | succ j =>
      simp at h
      obtain ⟨h1, h2⟩ := ih h
      rw [List.getElem?_append_right (by simp; omega), List.getElem?_append_right (by simp; omega), ← h1, ← h2]
      exact ⟨by congr 1; simp; omega, by congr 1; simp; omega⟩
def RdT (w : World) (B : Nat) (A : Option Addr) (l : List (Int × Int)) : Prop :=
  ∀ (j : Nat) (e : Int × Int), l[j]? = some e → ∃ ad, A = some ad ∧ ad.block < B ∧ w.cell? (ad.add (j * 2)) = some (.int .i64 e.1) ∧ w.cell? ⟨(ad.add (j * 2)).block, (ad.add (j * 2)).off + 1, none⟩ = some (.int .i64 e.2)
theorem RdT.nil {w : World} {B : Nat} {A : Option Addr} : RdT w B A [] := fun j e hj => by simp at hj
theorem RdT.keep {w w' : World} {B : Nat} {A : Option Addr} {l : List (Int × Int)} (h : RdT w B A l) (hk : ∀ p : Addr, p.block < B → w'.cell? p = w.cell? p) : RdT w' B A l := fun j e hj => by
  obtain ⟨ad, hA, hB, c0, c1⟩ := h j e hj
  have hbl : (ad.add (j * 2)).block = ad.block := addr_block _ _
  exact ⟨ad, hA, hB, (hk _ (by rw [hbl]; exact hB)).trans c0, (hk ⟨(ad.add (j * 2)).block, (ad.add (j * 2)).off + 1, none⟩ (by show (ad.add (j * 2)).block < B; rw [hbl]; exact hB)).trans c1⟩
theorem RdT.below {w w' : World} {B : Nat} {A : Option Addr} {l : List (Int × Int)} (h : RdT w B A l) (hb : Below B w w') : RdT w' B A l := h.keep fun _ hp => hb.cell hp
theorem RdT.more {w : World} {B B' : Nat} {A : Option Addr} {l : List (Int × Int)} (h : RdT w B A l) (hB : B ≤ B') : RdT w B' A l := fun j e hj => by
  obtain ⟨ad, hA, hb, c⟩ := h j e hj
  exact ⟨ad, hA, by omega, c⟩
theorem RdT.after {w w' : World} {A : Option Addr} {l : List (Int × Int)} (h : RdT w w.heap.size A l) (hb : Below w.heap.size w w') : RdT w' w'.heap.size A l := (h.below hb).more hb.size
theorem two_at {w w' : World} {n k : Nat} {A : Option Addr} {l : List (Int × Int)} (h : RdT w n A l) (hb : Below n w w') (hk : k < l.length) : ∃ ad a b, A = some ad ∧ w'.cell? (ad.add (k * 2)) = some (.int .i64 a) ∧ w'.cell? ⟨(ad.add (k * 2)).block, (ad.add (k * 2)).off + 1, none⟩ = some (.int .i64 b) ∧ l[k]? = some (a, b) ∧ ad.block < n := by
  obtain ⟨⟨a, b⟩, hx⟩ : ∃ x, l[k]? = some x := ⟨_, List.getElem?_eq_getElem hk⟩
  obtain ⟨ad, hA, hB, c0, c1⟩ := (h.below hb) k _ hx
  exact ⟨ad, a, b, hA, c0, c1, hx, hB⟩
def OwnT (w : World) (base : Nat) (t : TypeId) (v : Value) (l : List (Int × Int)) : Prop := w.ownsRow base t 2 v l.length (cells2 l)
theorem OwnT.nil (w : World) (base : Nat) (t : TypeId) : OwnT w base t (.slice none 0 0) [] := ⟨rfl, .inl ⟨rfl, rfl⟩⟩
theorem addr0_add2 (g k : Nat) : (⟨g, 0, none⟩ : Addr).add k = ⟨g, k, none⟩ := by
  unfold Addr.add
  split
  · rename_i h; subst h; rfl
  · simp
theorem OwnT.shape {w : World} {base : Nat} {t : TypeId} {v : Value} {l : List (Int × Int)} (h : OwnT w base t v l) :
    ∃ A' c', v = .slice A' l.length c' ∧ RdT w w.heap.size A' l ∧ l.length ≤ c' ∧ c' ≤ maxLen ∧ (A' = none → c' = 0) := by
  rcases h.2 with ⟨rfl, h0⟩ | ⟨g, cap, cur, rfl, _, hg, hn, hm, _, _⟩
  · have : l = [] := List.eq_nil_of_length_eq_zero h0
    subst this
    exact ⟨none, 0, rfl, RdT.nil, Nat.le_refl _, Nat.zero_le _, fun _ => rfl⟩
  · refine ⟨_, cap, rfl, fun j e hj => ?_, hn, hm, fun h => by cases h⟩
    obtain ⟨c0, c1⟩ := cells2_at hj
    have d0 := World.ownsRow.cells h rfl (j * 2) _ c0
    have d1 := World.ownsRow.cells h rfl (j * 2 + 1) _ c1
    simp only [addr0_add2] at d0 d1
    exact ⟨_, rfl, lt_of_block hg, by rw [addr0_add2]; exact d0, by rw [addr0_add2]; exact d1⟩
theorem OwnT.below {w w1 : World} {base : Nat} {t : TypeId} {v : Value} {l : List (Int × Int)} (h : OwnT w base t v l) (hb : Below w.heap.size w w1) : OwnT w1 base t v l :=
  World.ownsRow.kept h (row := none) ⟨hb.os, hb.tape, hb.output, hb.size, fun k hk _ => hb.block k hk⟩ (by cases v.ownBlock <;> simp)
theorem OwnT.snoc {w : World} {base : Nat} {t : TypeId} {v : Value} {l : List (Int × Int)} {a b : Int} (h : w.ownsRow base t 2 v (l.length + 1) (cells2 l ++ [.int .i64 a, .int .i64 b])) : OwnT w base t v (l ++ [(a, b)]) := by
  unfold OwnT
  rw [List.length_append, cells2_snoc]
  exact h
theorem OwnT.less {w : World} {base base' : Nat} {t : TypeId} {v : Value} {l : List (Int × Int)} (h : OwnT w base t v l) (hb : base' ≤ base) : OwnT w base' t v l := own_base h hb
theorem two_new (w : World) (a b : Int) (t : TypeId) : ∀ j u, [Value.int .i64 a, .int .i64 b][j]? = some u → (w.alloc (.cells #[.int .i64 a, .int .i64 b] t)).cell? ((⟨w.heap.size, 0, none⟩ : Addr).add j) = some u := by
  intro j u hj
  match j, hj with
  | 0, hj => simp at hj; subst hj; simp [Addr.add, go_sem]
  | 1, hj => simp at hj; subst hj; simp [Addr.add, go_sem]
theorem two_one {a b : Int} : ∀ u ∈ [Value.int .i64 a, .int .i64 b], u.oneCell' = true := by
  intro u hu
  simp at hu
  rcases hu with rfl | rfl <;> rfl
def OutT (t : TypeId) (l : List (Int × Int)) (w : World) (r : Ending) (w' : World) : Prop := ∃ v, r = .returned v ∧ OwnT w' w.heap.size t v l ∧ Below w.heap.size w w'
theorem Tryz.infoMark : (Tryz.prog.info? 53).map (fun i => (i.zero, i.size, i.bytes)) = some (some (.agg #[.int .i64 0, .int .i64 0]), 2, 16) := by kernel_rfl
theorem Tryz.infoArr2 : (Tryz.prog.info? 96).map (fun i => (i.zero, i.size, i.bytes)) = some (some (.agg #[.int .i64 0, .int .i64 0]), 2, 16) := by kernel_rfl
theorem Tryz.infoInt2 : (Tryz.prog.info? 3).map (fun i => (i.zero, i.size, i.bytes)) = some (some (.int .i64 0), 1, 8) := by kernel_rfl
theorem Tryz.infoCls2 : (Tryz.prog.info? 39).map (fun i => (i.zero, i.size, i.bytes)) = some (some (.int .i64 0), 1, 8) := by kernel_rfl
end Go.Proofs.YtjlfgojblimobaaGreat.S11
end

section
namespace Go.Proofs.YtjlfgojblimobaaGreat.S11
open Go.RowKit
set_option maxRecDepth 100000

theorem M.take_next' {l : List Int} {k : Nat} {x : Int} (h : l[k]? = some x) : (l.take (k + 1)).reverse = x :: (l.take k).reverse := by
  obtain ⟨hk, rfl⟩ := List.getElem?_eq_some_iff.1 h
  rw [List.take_succ_eq_append_getElem hk]
  simp
theorem refStrong_any (c : Int) (w : World) : Calls Tryz.prog 100 #[.int .i64 c] w fun r w' => r = .returned (.int .i64 (M.sg c)) ∧ w = w' := by
  have H := Lib.hid (show M.sg c = if c = 1 ∨ c = 3 ∨ c = 6 then 1 else if c = 0 then 0 else 13 from rfl)
  go_enter Tryz.func100, Tryz.ntmps100
  go_wp2_with fail
  all_goals (go_ret; exact ⟨ret_int (by rw [H.out]; simp_all), rfl⟩)
set_option maxHeartbeats 4000000 in
theorem refKind_any (A B : Option Addr) (ca cb n m i : Nat) (l : List Int) (ms : List (Int × Int)) (w : World) (hr : RdS .i64 w w.heap.size A l) (hn : l.length = n) (hl : n ≤ 1000) (hr2 : RdT w w.heap.size B ms) (hm : ms.length = m) (hl2 : m ≤ 1000) (hi : i < n) :
    Calls Tryz.prog 99 #[.slice A n ca, .slice B m cb, .int .i64 i] w fun r w' => r = .returned (.int .i64 (M.kd l ms i)) ∧ w = w' := by
  obtain ⟨ad, c, rfl, hcc, hc, -⟩ := rd_at hr (Below.refl _ _) (by omega : i < l.length)
  obtain ⟨R, hR⟩ : ∃ R, M.kd l ms i = R := ⟨_, rfl⟩
  rw [hR]
  unfold M.kd at hR
  rw [hc] at hR
  have hl1 : (n : Int) ≤ 1000 := by omega
  have hl3 : (m : Int) ≤ 1000 := by omega
  have hi0 : (0 : Int) ≤ i := by omega
  have hi1 : (i : Int) < n := by omega
  by_cases him : i < m
  · obtain ⟨ad2, a, b, rfl, hca, hcb, hab, -⟩ := two_at hr2 (Below.refl _ _) (by omega : i < ms.length)
    have hi2 : ¬ (m : Int) ≤ i := by omega
    rw [hab] at hR
    dsimp only at hR
    clear hr hr2 hn hm hc hab him hi
    by_cases h13 : c = 13
    · subst h13
      rw [if_pos rfl] at hR
      by_cases ha : a = 1 ∨ a = 2
      · rw [if_pos ha] at hR
        have H1 := Lib.hid hR
        clear hR
        rcases ha with rfl | rfl
        all_goals
          go_enter Tryz.func99, Tryz.ntmps99
          go_wp2_with fail
          go_ret
          exact ⟨ret_int H1.out, rfl⟩
      · rw [if_neg ha] at hR
        have H1 := Lib.hid hR
        clear hR
        by_cases h1 : a < 1
        · clear ha
          go_enter Tryz.func99, Tryz.ntmps99
          go_wp2_with fail
          go_ret
          exact ⟨ret_int H1.out, rfl⟩
        · have h2 : 2 < a := by omega
          clear ha
          go_enter Tryz.func99, Tryz.ntmps99
          go_wp2_with fail
          go_ret
          exact ⟨ret_int H1.out, rfl⟩
    · rw [if_neg (by intro e; injection e with e; exact h13 e)] at hR
      have H1 := Lib.hid hR
      have b13 : (c != 13) = true := by simp; omega
      clear hR h13
      go_enter Tryz.func99, Tryz.ntmps99
      go_wp2_with fail
      go_ret
      exact ⟨ret_int H1.out, rfl⟩
  · have hno : ms[i]? = none := List.getElem?_eq_none (by omega)
    rw [hno] at hR
    have H1 := Lib.hid (show 0 = R by rw [← hR]; split <;> rfl)
    have hi2 : (m : Int) ≤ i := by omega
    clear hR hno hr hr2 hn hm hc him hi
    go_enter Tryz.func99, Tryz.ntmps99
    go_wp2_with fail
    go_ret
    exact ⟨ret_int H1.out, rfl⟩
set_option maxHeartbeats 4000000 in
theorem refAhead_any (A : Option Addr) (ca n at_ : Nat) (l : List Int) (f : Int) (w : World) (hr : RdS .i64 w w.heap.size A l) (hn : l.length = n) (hl : n ≤ 1000) (hat : at_ ≤ n) :
    Calls Tryz.prog 50 #[.slice A n ca, .int .i64 at_, .int .i64 f] w fun r w' => r = .returned (.int .i64 (M.ahd f (l.take at_).reverse)) ∧ w = w' := by
  have HR := Lib.hid hr
  have HN := Lib.hid hn
  have hl1 : (n : Int) ≤ 1000 := by omega
  have ha1 : (at_ : Int) ≤ n := by omega
  have ha0 : (0 : Int) ≤ at_ := by omega
  obtain ⟨R, hR⟩ : ∃ R, M.ahd f (l.take at_).reverse = R := ⟨_, rfl⟩
  rw [hR]
  have HRR := Lib.hid hR
  clear hr hn hR
  go_enter Tryz.func50, Tryz.ntmps50
  have hw0 : IntKind.i64.wrap ((at_ : Int) - 1) = (at_ : Int) - 1 := by rw [IntKind.wrap_i64]; omega
  go_wp2_with fail
  go_loop [7] (fun v => ∃ (k : Nat) (q : Int), k ≤ at_ ∧ v = .int .i64 q ∧ q + 1 = k ∧ M.ahd f (l.take k).reverse = R) (fun v => (intOf v + 1).toNat)
  case atStart => exact ⟨at_, (at_ : Int) - 1, Nat.le_refl _, rfl, by omega, HRR.out⟩
  case round =>
    obtain ⟨k, q, hkm, rfl, hq, hto⟩ := hrel
    have HT := Lib.hid hto
    clear hto
    cases k with
    | zero =>
      have H1 := Lib.hid (show f = R from HT.out)
      have hq0 : ¬ 0 ≤ q := by omega
      clear hq
      go_wp2_with fail
      go_ret
      exact ⟨ret_int H1.out, rfl⟩
    | succ k =>
      obtain rfl : q = (k : Nat) := by omega
      have hk0' : (0 : Int) ≤ (k : Int) := by omega
      obtain ⟨ad2, x, rfl, hcx, hx, -⟩ := rd_at HR.out (Below.refl _ _) (by rw [HN.out]; omega : k < l.length)
      have hk1 : (k : Int) < (n : Int) := by omega
      have hd := M.take_next' hx
      have h1 := HT.out
      rw [hd] at h1
      have h2 : (if M.sg x = 13 then M.ahd f (l.take k).reverse else M.sg x) = R := h1
      have HS := Lib.hid (refStrong_any x w)
      obtain ⟨s, hs⟩ : ∃ s, M.sg x = s := ⟨_, rfl⟩
      rw [hs] at h2 HS
      have hw1 : IntKind.i64.wrap ((k : Int) - 1) = (k : Int) - 1 := by rw [IntKind.wrap_i64]; omega
      clear hx hd h1 hs hq
      by_cases h13 : s = 13
      · rw [if_pos h13] at h2
        have H1 := Lib.hid h2
        subst h13
        clear h2
        go_wp2_with fail
        refine HS.out.mono ?_
        rintro r w1 ⟨rfl, rfl⟩
        go_wp2_with fail
        go_round
        case rel => exact ⟨k, (k : Int) - 1, by omega, rfl, by omega, H1.out⟩
        case measure => simp [intOf]
      · rw [if_neg h13] at h2
        have H1 := Lib.hid h2
        have b13 : (s != 13) = true := by simp; omega
        clear h2 h13
        go_wp2_with fail
        refine HS.out.mono ?_
        rintro r w1 ⟨rfl, rfl⟩
        go_wp2_with fail
        go_ret
        exact ⟨ret_int H1.out, rfl⟩
end Go.Proofs.YtjlfgojblimobaaGreat.S11
end

section
namespace Go.Proofs.YtjlfgojblimobaaGreat.S11
open Go.RowKit
set_option maxRecDepth 100000

theorem new_two (w : World) (a b : Int) (t : TypeId) : ∃ W : World, w.alloc (.cells #[.int .i64 a, .int .i64 b] t) = W ∧ Below w.heap.size w W ∧ W.cell? ⟨w.heap.size, 0, none⟩ = some (.int .i64 a) ∧ W.cell? ⟨w.heap.size, 1, none⟩ = some (.int .i64 b) ∧ W.frozen? ⟨w.heap.size, 0, none⟩ = false ∧ W.frozen? ⟨w.heap.size, 1, none⟩ = false ∧ w.heap.size < W.heap.size :=
  ⟨_, rfl, (Below.refl _ _).alloc (Nat.le_refl _) _, by simp [go_sem], by simp [go_sem], by simp [go_sem], by simp [go_sem], by simp⟩
set_option maxHeartbeats 4000000 in
theorem refBetw_any (A : Option Addr) (ca n p q : Nat) (l : List Int) (s : Int) (w : World) (hr : RdS .i64 w w.heap.size A l) (hn : l.length = n) (hl : n ≤ 1000) (hpq : p < q) (hq : q < n) :
    Calls Tryz.prog 49 #[.slice A n ca, .agg #[.int .i64 p, .int .i64 q], .int .i64 s] w fun r w' => r = .returned (.bool (M.btw s l (q - (p + 1)) (p + 1))) ∧ Below w.heap.size w w' := by
  obtain ⟨W1, hW1, hb1, e0, e1, -, -, -⟩ := new_two w p q 96
  have HR := Lib.hid ((hr.below hb1).more hb1.size)
  have HN := Lib.hid hn
  have HB1 := Lib.hid hb1
  obtain ⟨R, hR⟩ : ∃ R, M.btw s l (q - (p + 1)) (p + 1) = R := ⟨_, rfl⟩
  rw [hR]
  have HRR := Lib.hid hR
  have hl1 : (n : Int) ≤ 1000 := by omega
  have hq1 : (q : Int) < n := by omega
  have hp1 : (p : Int) < q := by omega
  have hp0 : (0 : Int) ≤ p := by omega
  clear hr hn hR hb1
  go_enter Tryz.func49, Tryz.ntmps49
  go_wp2_with fail
  go_loop [7] (fun v => ∃ k : Nat, p < k ∧ k ≤ q ∧ v = .int .i64 k ∧ M.btw s l (q - k) k = R) (fun v => q - (intOf v).toNat)
  case atStart => exact ⟨p + 1, by omega, by omega, by go_num, HRR.out⟩
  case round =>
    obtain ⟨k, hpk, hkq, rfl, hto⟩ := hrel
    have HT := Lib.hid hto
    have hk0 : (0 : Int) ≤ k := by omega
    clear hto
    by_cases hlt : k < q
    · have hk1 : (k : Int) < q := by omega
      have hk2 : (k : Int) < n := by omega
      obtain ⟨ad, x, rfl, hcx, hx, -⟩ := rd_at HR.out (Below.refl _ _) (by rw [HN.out]; omega : k < l.length)
      obtain ⟨m, hm⟩ : ∃ m, q - k = m + 1 := ⟨q - k - 1, by omega⟩
      have h1 := HT.out
      rw [hm] at h1
      have h2 : (if M.sg (l.getD k 0) = s then true else M.btw s l m (k + 1)) = R := h1
      rw [List.getD_eq_getElem?_getD, hx, show q - (k + 1) = m by omega |>.symm] at h2
      have h3 : (if M.sg x = s then true else M.btw s l (q - (k + 1)) (k + 1)) = R := h2
      have HS := Lib.hid (refStrong_any x W1)
      obtain ⟨y, hy⟩ : ∃ y, M.sg x = y := ⟨_, rfl⟩
      rw [hy] at h3 HS
      clear hx h1 h2 hy hm
      by_cases hys : y = s
      · rw [if_pos hys] at h3
        have H1 := Lib.hid h3
        have bs : (y == s) = true := by simp [hys]
        clear h3 hys
        go_wp2_with fail
        refine HS.out.mono ?_
        rintro r w1 ⟨rfl, rfl⟩
        go_wp2_with fail
        go_ret
        exact ⟨ret_bool H1.out, HB1.out⟩
      · rw [if_neg hys] at h3
        have H1 := Lib.hid h3
        have bs : (y == s) = false := by simp [hys]
        clear h3 hys
        go_wp2_with fail
        refine HS.out.mono ?_
        rintro r w1 ⟨rfl, rfl⟩
        go_wp2_with fail
        go_round
        case rel => exact ⟨k + 1, by omega, by omega, by go_num, H1.out⟩
        case measure => simp [intOf]; omega
    · obtain rfl : k = q := by omega
      have hk1 : ¬ (k : Int) < (k : Int) := by omega
      have h1 := HT.out
      rw [Nat.sub_self] at h1
      have H1 := Lib.hid (show false = R from h1)
      clear h1
      go_wp2_with fail
      go_ret
      exact ⟨ret_bool H1.out, HB1.out⟩
end Go.Proofs.YtjlfgojblimobaaGreat.S11
end
