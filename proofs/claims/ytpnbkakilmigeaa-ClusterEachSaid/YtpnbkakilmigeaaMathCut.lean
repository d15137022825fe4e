/- Breaks between joins, on lists: a list that is cut at a break has the clusters of its two parts; and what the list of starts is like. No program is read here. -/
import Derived.Test.YtpnbkakilmigeaaRefStarts
namespace Go.Proofs.Ytpnbkakilmigeaa
open Go.RowKit

namespace M
theorem ends_iff (j : Int) : endsJ j = true ↔ (j = 1 ∨ j = 2 ∨ j = 3) := by unfold endsJ; exact decide_eq_true_iff
/-- When a break stands ahead of an Extend, a ZWJ or a Regional. -/
theorem cut_base {s : List Int} {x : Int} (hx : x = 4 ∨ x = 5) (h : cut s x = true) : base s = false := by
  cases s with
  | nil => rfl
  | cons a t =>
    have e1 : ¬ (a = 1 ∧ x = 2) := by omega
    by_cases ha : a = 1 ∨ a = 2 ∨ a = 3
    · unfold base
      rw [if_neg (by omega), decide_eq_false (by omega)]
    · exfalso
      unfold cut at h
      dsimp only at h
      rw [if_neg e1, if_neg (by rw [ends_iff, ends_iff]; omega), if_pos (by omega)] at h
      cases h
theorem cut_odd {s : List Int} (h : cut s 6 = true) : oddR s = false := by
  cases s with
  | nil => rfl
  | cons a t =>
    by_cases ha : a = 6
    · subst ha
      unfold cut at h
      dsimp only at h
      rw [if_neg (by omega), if_neg (by rw [ends_iff]; omega), if_neg (by unfold hang; simp), if_neg (by decide), if_pos ⟨rfl, rfl⟩] at h
      simpa using h
    · unfold oddR
      rw [if_neg ha]
theorem base_app {x : Int} {s : List Int} (h : cut s x = true) : ∀ r : List Int, base (r ++ x :: s) = base (r ++ [x])
  | [] => by
    show (if x = 4 then base s else _) = (if x = 4 then base [] else _)
    by_cases h4 : x = 4
    · rw [if_pos h4, if_pos h4, cut_base (.inl h4) h]; rfl
    · rw [if_neg h4, if_neg h4]
  | j :: r => by
    show (if j = 4 then base (r ++ x :: s) else _) = (if j = 4 then base (r ++ [x]) else _)
    rw [base_app h r]
theorem oddR_app {x : Int} {s : List Int} (h : cut s x = true) : ∀ r : List Int, oddR (r ++ x :: s) = oddR (r ++ [x])
  | [] => by
    show (if x = 6 then !oddR s else _) = (if x = 6 then !oddR [] else _)
    by_cases h6 : x = 6
    · subst h6; rw [if_pos rfl, if_pos rfl, cut_odd h]; rfl
    · rw [if_neg h6, if_neg h6]
  | j :: r => by
    show (if j = 6 then !oddR (r ++ x :: s) else _) = (if j = 6 then !oddR (r ++ [x]) else _)
    rw [oddR_app h r]
/-- What stands ahead of a break does not tell behind it. -/
theorem cut_app {x b : Int} {s : List Int} (h : cut s x = true) (r : List Int) : cut (r ++ x :: s) b = cut (r ++ [x]) b := by
  cases r with
  | nil =>
    have ho := oddR_app h []
    simp only [List.nil_append] at ho ⊢
    unfold cut
    dsimp only
    rw [ho]
    by_cases h5 : x = 5
    · rw [cut_base (.inr h5) h]; rfl
    · rw [decide_eq_false h5, Bool.false_and, Bool.false_and]
  | cons a t =>
    have ho := oddR_app h (a :: t)
    have hb := base_app h t
    simp only [List.cons_append] at ho ⊢
    unfold cut
    dsimp only
    rw [ho, hb]
theorem back_drop (l : List Int) (i k : Nat) : back l (i + k) = back (l.drop i) k ++ back l i := by
  unfold back
  rw [← List.reverse_append]
  congr 1
  rw [List.take_add]
/-- Breaks behind a break are those of the part behind it. -/
theorem brk_drop {l : List Int} {i k : Nat} (hi : i < l.length) (hbrk : brk l i = true) (hk : i + k < l.length) : brk l (i + k : Nat) = brk (l.drop i) k := by
  obtain ⟨x, hx⟩ : ∃ x, l[i]? = some x := ⟨_, List.getElem?_eq_getElem hi⟩
  obtain ⟨b, hb⟩ : ∃ b, l[i + k]? = some b := ⟨_, List.getElem?_eq_getElem hk⟩
  have hb2 : (l.drop i)[k]? = some b := by rw [List.getElem?_drop]; exact hb
  rw [brk_in hb, brk_in hb2, back_drop l i k]
  rw [brk_in hx] at hbrk
  cases k with
  | zero =>
    rw [Nat.add_zero, hx] at hb
    injection hb with hb
    subst hb
    rw [back_zero, List.nil_append, hbrk]
    rfl
  | succ k =>
    have h0 : (l.drop i)[0]? = some x := by rw [List.getElem?_drop, Nat.add_zero]; exact hx
    have hlast : ∃ r, back (l.drop i) (k + 1) = r ++ [x] := by
      unfold back
      obtain ⟨y, t, hyt⟩ : ∃ y t, l.drop i = y :: t := by
        cases hd : l.drop i with
        | nil => rw [hd] at h0; simp at h0
        | cons y t => exact ⟨y, t, rfl⟩
      rw [hyt] at h0 ⊢
      simp at h0
      subst h0
      rw [List.take_succ_cons, List.reverse_cons]
      exact ⟨_, rfl⟩
    obtain ⟨r, hr⟩ := hlast
    rw [hr, List.append_assoc, List.singleton_append]
    exact cut_app hbrk r
theorem brk_take {l : List Int} {i k : Nat} (hk : k < i) (hi : i ≤ l.length) : brk (l.take i) k = brk l k := by
  obtain ⟨b, hb⟩ : ∃ b, l[k]? = some b := ⟨_, List.getElem?_eq_getElem (by omega)⟩
  have hb2 : (l.take i)[k]? = some b := by rw [List.getElem?_take, if_pos hk]; exact hb
  rw [brk_in hb, brk_in hb2]
  congr 1
  unfold back
  rw [List.take_take, Nat.min_eq_left (by omega)]
theorem startsTo_succ (l : List Int) (k : Nat) : startsTo l (k + 1) = if brk l k = true then startsTo l k ++ [(k : Int)] else startsTo l k := rfl
theorem startsTo_take {l : List Int} {i : Nat} (hi : i ≤ l.length) : ∀ k, k ≤ i → startsTo (l.take i) k = startsTo l k
  | 0, _ => rfl
  | k + 1, h => by
    rw [startsTo_succ, startsTo_succ, startsTo_take hi k (by omega), brk_take (by omega) hi]
theorem startsTo_drop {l : List Int} {i : Nat} (hi : i < l.length) (hbrk : brk l i = true) : ∀ k, i + k ≤ l.length → startsTo l (i + k) = startsTo l i ++ (startsTo (l.drop i) k).map (fun x : Int => x + (i : Int))
  | 0, _ => by simp [startsTo]
  | k + 1, h => by
    rw [show i + (k + 1) = (i + k) + 1 by omega, startsTo_succ, startsTo_succ, startsTo_drop hi hbrk k (by omega), brk_drop hi hbrk (by omega)]
    by_cases hb : brk (l.drop i) k = true
    · rw [if_pos hb, if_pos hb]
      simp
      omega
    · rw [if_neg hb, if_neg hb]
/-- A list cut at a break has the clusters of its two parts. -/
theorem starts_cut {l : List Int} {i : Nat} (hi : i ≤ l.length) (hbrk : brk l i = true) : startsTo l l.length = startsTo (l.take i) i ++ (startsTo (l.drop i) (l.length - i)).map (fun x : Int => x + (i : Int)) := by
  rw [startsTo_take hi i (Nat.le_refl _)]
  rcases Nat.lt_or_ge i l.length with hlt | hge
  · have := startsTo_drop hlt hbrk (l.length - i) (by omega)
    rwa [show i + (l.length - i) = l.length by omega] at this
  · obtain rfl : i = l.length := by omega
    rw [Nat.sub_self]
    simp [startsTo]
end M
end Go.Proofs.Ytpnbkakilmigeaa
