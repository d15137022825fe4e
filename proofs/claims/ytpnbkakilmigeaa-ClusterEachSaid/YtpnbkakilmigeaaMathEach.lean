/- What the list of clusters' starts is like: it begins at 0, rises, ends within the list; each place has one start; what ends all stands alone, but for a CR and its LF. No program is read here. -/
import Derived.Test.YtpnbkakilmigeaaMathCut
namespace Go.Proofs.Ytpnbkakilmigeaa
open Go.RowKit

namespace M
theorem starts_mem {l : List Int} {v : Int} : ∀ k, v ∈ startsTo l k ↔ ∃ j : Nat, j < k ∧ v = j ∧ brk l j = true
  | 0 => by simp [startsTo]
  | k + 1 => by
    rw [startsTo_succ]
    have ih := @starts_mem l v k
    by_cases hb : brk l k = true
    · rw [if_pos hb, List.mem_append, ih, List.mem_singleton]
      constructor
      · rintro (⟨j, h1, h2, h3⟩ | h)
        · exact ⟨j, by omega, h2, h3⟩
        · exact ⟨k, by omega, h, hb⟩
      · rintro ⟨j, h1, h2, h3⟩
        rcases Nat.lt_or_ge j k with h | h
        · exact .inl ⟨j, h, h2, h3⟩
        · obtain rfl : j = k := by omega
          exact .inr h2
    · rw [if_neg hb, ih]
      constructor
      · rintro ⟨j, h1, h2, h3⟩; exact ⟨j, by omega, h2, h3⟩
      · rintro ⟨j, h1, h2, h3⟩
        rcases Nat.lt_or_ge j k with h | h
        · exact ⟨j, h, h2, h3⟩
        · obtain rfl : j = k := by omega
          exact absurd h3 hb
theorem starts_rise (l : List Int) : ∀ k, (startsTo l k).Pairwise (· < ·)
  | 0 => List.Pairwise.nil
  | k + 1 => by
    rw [startsTo_succ]
    by_cases hb : brk l k = true
    · rw [if_pos hb, List.pairwise_append]
      refine ⟨starts_rise l k, List.pairwise_singleton _ _, fun x hx y hy => ?_⟩
      obtain ⟨j, h1, h2, _⟩ := (starts_mem k).1 hx
      simp at hy
      omega
    · rw [if_neg hb]; exact starts_rise l k
theorem rise_at {l : List Int} (h : l.Pairwise (· < ·)) {i j : Nat} {x y : Int} (hij : i < j) (hx : l[i]? = some x) (hy : l[j]? = some y) : x < y := by
  obtain ⟨hi, rfl⟩ := List.getElem?_eq_some_iff.1 hx
  obtain ⟨hj, rfl⟩ := List.getElem?_eq_some_iff.1 hy
  exact List.pairwise_iff_getElem.1 h i j hi hj hij
/-- The last start that is not behind a place, in a list that rises. -/
theorem of_rise {s : List Int} (h : s.Pairwise (· < ·)) {k : Nat} {x i : Int} (h0 : 0 ≤ i) (hk : s[k]? = some x) (hx : x ≤ i) (hn : ∀ y, s[k + 1]? = some y → i < y) : ofI s i = k := by
  have hlt := (List.getElem?_eq_some_iff.1 hk).1
  unfold ofI
  rw [if_neg (by omega)]
  have step : ∀ m, k < m → m ≤ s.length → ofAt s i m = k := by
    intro m
    induction m with
    | zero => intro h; omega
    | succ m ih =>
      intro h1 h2
      obtain ⟨y, hy⟩ : ∃ y, s[m]? = some y := ⟨_, List.getElem?_eq_getElem (by omega)⟩
      show (if s.getD m 0 ≤ i then (m : Int) else ofAt s i m) = k
      rw [List.getD_eq_getElem?_getD, hy]
      show (if y ≤ i then (m : Int) else ofAt s i m) = k
      rcases Nat.lt_or_ge k m with g | g
      · have : i < y := by
          rcases Nat.lt_or_ge (k + 1) m with g2 | g2
          · obtain ⟨z, hz⟩ : ∃ z, s[k + 1]? = some z := ⟨_, List.getElem?_eq_getElem (by omega)⟩
            have := hn z hz
            have := rise_at h g2 hz hy
            omega
          · obtain rfl : m = k + 1 := by omega
            exact hn y hy
        rw [if_neg (by omega)]
        exact ih g (by omega)
      · obtain rfl : m = k := by omega
        rw [hk] at hy
        injection hy with hy
        rw [if_pos (by omega)]
  exact step s.length hlt (Nat.le_refl _)
theorem brk_zero {l : List Int} (h : l ≠ []) : brk l (0 : Nat) = true := by
  obtain ⟨b, hb⟩ : ∃ b, l[0]? = some b := ⟨_, List.getElem?_eq_getElem (List.length_pos_iff.2 h)⟩
  rw [brk_in hb, back_zero]
  rfl
/-- No break ahead of a place, where one of the two ends all: they are a CR and its LF. -/
theorem nobrk {l : List Int} {i : Nat} {a b : Int} (ha : l[i]? = some a) (hb : l[i + 1]? = some b) (h : brk l (i + 1 : Nat) = false) (he : endsJ a = true ∨ endsJ b = true) : a = 1 ∧ b = 2 := by
  rw [brk_in hb, back_next ha] at h
  unfold cut at h
  dsimp only at h
  by_cases h12 : a = 1 ∧ b = 2
  · exact h12
  · rw [if_neg h12, if_pos he] at h
    cases h
theorem starts_head {l : List Int} (h : l ≠ []) : ∀ k, 0 < k → (startsTo l k)[0]? = some 0
  | 0, hk => by omega
  | 1, _ => by
    rw [startsTo_succ, if_pos (brk_zero h)]
    rfl
  | k + 2, _ => by
    rw [startsTo_succ]
    have ih := starts_head h (k + 1) (by omega)
    split
    · rw [List.getElem?_append_left (List.getElem?_eq_some_iff.1 ih).1]; exact ih
    · exact ih
/-- The k-th cluster, and its end. -/
structure Clu (l : List Int) (k : Nat) (x e : Nat) : Prop where
  at_ : (startsTo l l.length)[k]? = some (x : Int)
  lt : x < e
  le : e ≤ l.length
  next : ∀ y, (startsTo l l.length)[k + 1]? = some y → y = e
  last : (startsTo l l.length).length = k + 1 → e = l.length
  no : ∀ i : Nat, x < i → i < e → brk l i = false
theorem clu {l : List Int} {k : Nat} {x : Int} (h : (startsTo l l.length)[k]? = some x) : ∃ x' e : Nat, x = x' ∧ Clu l k x' e := by
  obtain ⟨s, hs⟩ : ∃ s, startsTo l l.length = s := ⟨_, rfl⟩
  have hr := starts_rise l l.length
  have hm := fun v => @starts_mem l v l.length
  rw [hs] at h hr hm
  obtain ⟨x', hx1, rfl, hx3⟩ := (hm x).1 (List.mem_of_getElem? h)
  have hk := (List.getElem?_eq_some_iff.1 h).1
  have notin : ∀ (i : Nat) (e : Int), (∀ y, s[k + 1]? = some y → (i : Int) < y) → x' < i → i < l.length → brk l i = false := fun i _ he h1 h2 => by
    cases hb : brk l i with
    | false => rfl
    | true =>
      obtain ⟨j, hj⟩ := List.getElem?_of_mem ((hm i).2 ⟨i, h2, rfl, hb⟩)
      rcases Nat.lt_trichotomy j k with g | g | g
      · have := rise_at hr g hj h; omega
      · subst g; rw [hj] at h; injection h with h; omega
      · rcases Nat.lt_or_ge (k + 1) j with g2 | g2
        · obtain ⟨z, hz⟩ : ∃ z, s[k + 1]? = some z := ⟨_, List.getElem?_eq_getElem (by have := (List.getElem?_eq_some_iff.1 hj).1; omega)⟩
          have := he z hz
          have := rise_at hr g2 hz hj
          omega
        · obtain rfl : j = k + 1 := by omega
          have := he _ hj
          omega
  by_cases hl : k + 1 < s.length
  · obtain ⟨y, hy⟩ : ∃ y, s[k + 1]? = some y := ⟨_, List.getElem?_eq_getElem hl⟩
    obtain ⟨e, he1, rfl, _⟩ := (hm y).1 (List.mem_of_getElem? hy)
    have hxe := rise_at hr (Nat.lt_succ_self k) h hy
    refine ⟨x', e, rfl, ⟨by rw [hs]; exact h, by omega, by omega, fun z hz => ?_, fun g => ?_, fun i h1 h2 => notin i e (fun z hz => ?_) h1 (by omega)⟩⟩
    · rw [hs, hy] at hz; injection hz with hz; exact hz.symm
    · rw [hs] at g; omega
    · rw [hy] at hz; injection hz with hz; omega
  · refine ⟨x', l.length, rfl, ⟨by rw [hs]; exact h, hx1, Nat.le_refl _, fun z hz => ?_, fun _ => rfl, fun i h1 h2 => notin i 0 (fun z hz => ?_) h1 h2⟩⟩
    · rw [hs, List.getElem?_eq_none (by omega)] at hz; cases hz
    · rw [List.getElem?_eq_none (by omega)] at hz; cases hz
theorem Clu.of {l : List Int} {k x e : Nat} (h : Clu l k x e) {i : Nat} (h1 : x ≤ i) (h2 : i < e) : ofI (startsTo l l.length) i = k :=
  of_rise (starts_rise l _) (by omega) h.at_ (by omega) (fun y hy => by rw [h.next y hy]; omega)
/-- What ends all stands alone, but for a CR and its LF. -/
theorem Clu.alone {l : List Int} {k x e i : Nat} {j : Int} (h : Clu l k x e) (h1 : x ≤ i) (h2 : i < e) (hj : l[i]? = some j) (he : endsJ j = true) (hmore : x + 1 < e) : e = x + 2 ∧ l[x]? = some 1 ∧ l[x + 1]? = some 2 := by
  have le := h.le
  have at' : ∀ m, m < e → ∃ y, l[m]? = some y := fun m hm => ⟨_, List.getElem?_eq_getElem (by omega)⟩
  have main : ∀ m a b, x ≤ m → m + 1 < e → l[m]? = some a → l[m + 1]? = some b → (endsJ a = true ∨ endsJ b = true) → e = x + 2 ∧ l[x]? = some 1 ∧ l[x + 1]? = some 2 := fun m a b g1 g2 ga gb ge => by
    obtain ⟨rfl, rfl⟩ := nobrk ga gb (h.no (m + 1) (by omega) g2) ge
    have hx : m = x := by
      rcases Nat.lt_or_ge x m with g | g
      · obtain ⟨y, hy⟩ := at' (m - 1) (by omega)
        have ga' : l[m - 1 + 1]? = some 1 := by rw [show m - 1 + 1 = m by omega]; exact ga
        have := nobrk hy ga' (h.no (m - 1 + 1) (by omega) (by omega)) (.inr (by decide))
        omega
      · omega
    subst hx
    refine ⟨?_, ga, gb⟩
    rcases Nat.lt_or_ge (m + 2) e with g | g
    · obtain ⟨y, hy⟩ := at' (m + 2) g
      have := nobrk gb hy (h.no (m + 2) (by omega) g) (.inl (by decide))
      omega
    · omega
  rcases Nat.lt_or_ge x i with g | g
  · obtain ⟨y, hy⟩ := at' (i - 1) (by omega)
    exact main (i - 1) y j (by omega) (by omega) hy (by rw [show i - 1 + 1 = i by omega]; exact hj) (.inr he)
  · obtain rfl : i = x := by omega
    obtain ⟨y, hy⟩ := at' (i + 1) (by omega)
    exact main i j y (by omega) (by omega) hj hy (.inl he)
end M
end Go.Proofs.Ytpnbkakilmigeaa
