/- Marks that go with what they stand behind, taken out, leave the other places as they were. No program is read here. -/
import Derived.Test.YtfackeiommiejaaMathPart
namespace Go.Proofs.Ytfackeiommiejaa
namespace M
/-- Does the i-th go with what it stands behind? -/
def goes (l : List Int) (i : Nat) : Bool := decide (0 < i) && decide (l.getD i 0 = 10) && bears (st (l.take i)).b
/-- What is left of the first i: what each counts as. -/
def few (l : List Int) : Nat → List Int
  | 0 => []
  | i + 1 => if goes l i = true then few l i else few l i ++ [(st (l.take (i + 1))).b]
/-- The places that are to be left. -/
def want (l : List Int) : Nat → List Int
  | 0 => []
  | i + 1 => if goes l i = true then (want l i).dropLast ++ [how l (i + 1)] else want l i ++ [how l (i + 1)]
theorem few_go {l : List Int} {i : Nat} (h : goes l i = true) : few l (i + 1) = few l i := by show (if goes l i = true then _ else _) = _; rw [if_pos h]
theorem few_stay {l : List Int} {i : Nat} (h : goes l i = false) : few l (i + 1) = few l i ++ [(st (l.take (i + 1))).b] := by show (if goes l i = true then _ else _) = _; rw [h, if_neg (by decide)]
theorem want_go {l : List Int} {i : Nat} (h : goes l i = true) : want l (i + 1) = (want l i).dropLast ++ [how l (i + 1)] := by show (if goes l i = true then _ else _) = _; rw [if_pos h]
theorem want_stay {l : List Int} {i : Nat} (h : goes l i = false) : want l (i + 1) = want l i ++ [how l (i + 1)] := by show (if goes l i = true then _ else _) = _; rw [h, if_neg (by decide)]
theorem goes_zero (l : List Int) : goes l 0 = false := rfl
theorem few_pos {l : List Int} : ∀ {i : Nat}, 0 < i → 0 < (few l i).length
  | 1, _ => by rw [few_stay (goes_zero l)]; simp [few]
  | i + 2, _ => by
    cases h : goes l (i + 1) with
    | true => rw [few_go h]; exact few_pos (by omega)
    | false => rw [few_stay h]; simp
theorem few_len (l : List Int) : ∀ i, (few l i).length ≤ i
  | 0 => Nat.le_refl _
  | i + 1 => by
    have := few_len l i
    cases h : goes l i with
    | true => rw [few_go h]; omega
    | false => rw [few_stay h]; simp; omega
theorem want_len (l : List Int) : ∀ i, (want l i).length = (few l i).length
  | 0 => rfl
  | i + 1 => by
    have := want_len l i
    cases h : goes l i with
    | true =>
      rw [few_go h, want_go h]
      have hp : 0 < (few l i).length := few_pos (by unfold goes at h; simp at h; omega)
      simp
      omega
    | false => rw [few_stay h, want_stay h]; simp; omega

/-- What a count counts as is itself. -/
theorem cnt_cnt (a b k : Int) (h : k = 10 → bears a = false) : cnt b (cnt a k) = cnt a k := by
  have hz : ∀ c : Int, cnt c 0 = 0 := fun c => by unfold cnt; simp
  by_cases h1 : k < 0 ∨ 11 < k
  · have : cnt a k = 0 := by unfold cnt; rw [if_pos h1]
    rw [this, hz]
  · by_cases h2 : k = 10
    · have : cnt a k = 0 := by unfold cnt; rw [if_neg h1, if_neg (by omega), h h2]; rfl
      rw [this, hz]
    · have e : ∀ c : Int, cnt c k = k := fun c => by unfold cnt; rw [if_neg h1, if_pos h2]
      rw [e, e]
theorem cnt_mark {a k : Int} (h : k = 10 → bears a = false) : cnt a k ≠ 10 := by
  intro hc
  by_cases h1 : k < 0 ∨ 11 < k
  · unfold cnt at hc; rw [if_pos h1] at hc; omega
  · by_cases h2 : k = 10
    · unfold cnt at hc; rw [if_neg h1, if_neg (by omega), h h2] at hc; simp at hc
    · unfold cnt at hc; rw [if_neg h1, if_pos h2] at hc; omega

/-- Two states that are one to what comes. -/
def Alike (s t : P) : Prop := s.b = t.b ∧ (s.b = 8 → s.h = t.h)
theorem few_alike {l : List Int} : ∀ {i : Nat}, i ≤ l.length → Alike (st (l.take i)) (st (few l i))
  | 0, _ => ⟨rfl, fun _ => rfl⟩
  | i + 1, hi => by
    obtain ⟨h1, h2⟩ := few_alike (l := l) (i := i) (by omega)
    obtain ⟨x, hx⟩ : ∃ x, l[i]? = some x := ⟨_, List.getElem?_eq_getElem (by omega)⟩
    have hget : l.getD i 0 = x := by rw [List.getD_eq_getElem?_getD, hx]; rfl
    rw [st_take hx]
    cases hg : goes l i with
    | true =>
      rw [few_go hg]
      unfold goes at hg
      rw [hget] at hg
      simp at hg
      obtain ⟨⟨_, rfl⟩, hb⟩ := hg
      have e : cnt (st (l.take i)).b 10 = (st (l.take i)).b := by unfold cnt; simp [hb]
      have hne : (st (l.take i)).b ≠ 8 := by intro h; rw [h] at hb; exact absurd hb (by decide)
      refine ⟨?_, fun h => ?_⟩
      · show cnt (st (l.take i)).b 10 = _
        rw [e, h1]
      · exfalso
        have : cnt (st (l.take i)).b 10 = 8 := h
        rw [e] at this
        exact hne this
    | false =>
      rw [few_stay hg, st_take hx, st_snoc]
      have hc : x = 10 → bears (st (l.take i)).b = false := fun h => by
        unfold goes at hg
        rw [hget, h] at hg
        rcases Nat.eq_zero_or_pos i with hz | hp
        · subst hz; exact (by decide : bears 11 = false)
        · simp [hp] at hg; exact hg
      have e : ((st (l.take i)).next x).b = cnt (st (l.take i)).b x := rfl
      rw [e]
      refine ⟨?_, fun h => ?_⟩
      · show cnt (st (l.take i)).b x = cnt (st (few l i)).b (cnt (st (l.take i)).b x)
        rw [cnt_cnt _ _ _ hc]
      · show (if (st (l.take i)).b = 8 then (st (l.take i)).h else (st (l.take i)).b) = if (st (few l i)).b = 8 then (st (few l i)).h else (st (few l i)).b
        rw [← h1]
        by_cases h8 : (st (l.take i)).b = 8
        · rw [if_pos h8, if_pos h8, h2 h8]
        · rw [if_neg h8, if_neg h8]
/-- Ahead of a Mark that goes a line may not end. -/
theorem how_go {l : List Int} {i : Nat} (hi : i < l.length) (h : goes l i = true) : how l i = 0 := by
  obtain ⟨x, hx⟩ : ∃ x, l[i]? = some x := ⟨_, List.getElem?_eq_getElem hi⟩
  have hget : l.getD i 0 = x := by rw [List.getD_eq_getElem?_getD, hx]; rfl
  unfold goes at h
  rw [hget] at h
  simp at h
  obtain ⟨⟨h0, rfl⟩, hb⟩ := h
  rw [how_in h0 hi, st_take hx, say_eq, if_pos ⟨by simp [P.next], hb⟩]
/-- Ahead of one that stays it may as it might. -/
theorem how_stay {l : List Int} {i : Nat} (h0 : 0 < i) (hi : i < l.length) (h : goes l i = false) : how l i = say (st (few l (i + 1))) := by
  obtain ⟨x, hx⟩ : ∃ x, l[i]? = some x := ⟨_, List.getElem?_eq_getElem hi⟩
  have hget : l.getD i 0 = x := by rw [List.getD_eq_getElem?_getD, hx]; rfl
  obtain ⟨h1, h2⟩ := few_alike (l := l) (i := i) (by omega)
  have hc : x = 10 → bears (st (l.take i)).b = false := fun hx10 => by
    unfold goes at h
    rw [hget, hx10] at h
    simp [h0] at h
    exact h
  rw [how_in h0 hi, few_stay h, st_snoc, st_take hx]
  have eb : ((st (l.take i)).next x).b = cnt (st (l.take i)).b x := rfl
  rw [eb, say_eq, say_eq]
  have m1 : ¬ (((st (l.take i)).next x).m = true ∧ bears ((st (l.take i)).next x).a = true) := by
    rintro ⟨g1, g2⟩
    have g3 : x = 10 := by simpa [P.next] using g1
    have g4 : bears (st (l.take i)).b = true := g2
    rw [hc g3] at g4
    cases g4
  have m2 : ¬ (((st (few l i)).next (cnt (st (l.take i)).b x)).m = true ∧ bears ((st (few l i)).next (cnt (st (l.take i)).b x)).a = true) := by
    rintro ⟨g1, _⟩
    have g3 : cnt (st (l.take i)).b x = 10 := by simpa [P.next] using g1
    exact cnt_mark hc g3
  rw [if_neg m1, if_neg m2]
  have ea : ((st (few l i)).next (cnt (st (l.take i)).b x)).a = ((st (l.take i)).next x).a := h1.symm
  have eb2 : ((st (few l i)).next (cnt (st (l.take i)).b x)).b = ((st (l.take i)).next x).b := by
    show cnt (st (few l i)).b (cnt (st (l.take i)).b x) = cnt (st (l.take i)).b x
    exact cnt_cnt _ _ _ hc
  have eh : ((st (few l i)).next (cnt (st (l.take i)).b x)).h = ((st (l.take i)).next x).h := by
    show (if (st (few l i)).b = 8 then (st (few l i)).h else (st (few l i)).b) = if (st (l.take i)).b = 8 then (st (l.take i)).h else (st (l.take i)).b
    rw [← h1]
    by_cases h8 : (st (l.take i)).b = 8
    · rw [if_pos h8, if_pos h8, h2 h8]
    · rw [if_neg h8, if_neg h8]
  rw [ea, eb2, eh]
theorem allTo_snoc {f : List Int} {c : Int} {k : Nat} (hk : k < f.length) : allTo (f ++ [c]) k = allTo f k := by
  unfold allTo
  refine List.map_congr_left fun j hj => ?_
  have := List.mem_range.1 hj
  rw [how_in (by omega) (by simp; omega), how_in (by omega) (by omega), List.take_append_of_le_length (by omega)]
theorem want_is {l : List Int} : ∀ {i : Nat}, 0 < i → i ≤ l.length → want l i = allTo (few l i) ((few l i).length - 1) ++ [how l i]
  | 1, _, _ => by rw [few_stay (goes_zero l), want_stay (goes_zero l)]; simp [few, want, allTo]
  | i + 2, _, hi => by
    have ih := want_is (l := l) (i := i + 1) (by omega) (by omega)
    have hp := few_pos (l := l) (i := i + 1) (by omega)
    cases h : goes l (i + 1) with
    | true => rw [want_go h, few_go h, ih, List.dropLast_concat]
    | false =>
      rw [want_stay h, few_stay h, ih, List.length_append, List.length_singleton, Nat.add_sub_cancel]
      obtain ⟨k, hk⟩ : ∃ k, (few l (i + 1)).length = k + 1 := ⟨_, (Nat.sub_add_cancel hp).symm⟩
      rw [hk, Nat.add_sub_cancel, allTo_succ, allTo_snoc (by omega), how_stay (by omega) (by omega) h, few_stay h]
      congr 2
      have e : ∀ c : Int, (few l (i + 1) ++ [c]).take (k + 1 + 1) = few l (i + 1) ++ [c] := fun c => List.take_of_length_le (by rw [List.length_append, List.length_singleton]; omega)
      rw [how_in (by omega) (by rw [List.length_append, List.length_singleton]; omega), e]
theorem want_all (l : List Int) : want l l.length = all (few l l.length) := by
  rcases Nat.eq_zero_or_pos l.length with hz | hp
  · rw [hz]; rfl
  · have h1 := few_pos (l := l) hp
    rw [want_is hp (Nat.le_refl _), how_len hp]
    unfold all
    obtain ⟨k, hk⟩ : ∃ k, (few l l.length).length = k + 1 := ⟨_, (Nat.sub_add_cancel h1).symm⟩
    rw [hk, Nat.add_sub_cancel, allTo_succ]
    congr 2
    rw [← hk, how_len h1]
end M
end Go.Proofs.Ytfackeiommiejaa
