/- A list cut where a line must end has the places of its two parts. No program is read here. -/
import Derived.Test.YtfackeiommiejaaRefAt
namespace Go.Proofs.Ytfackeiommiejaa
namespace M
theorem cnt_end {a k : Int} (h : cnt a k = 11) : k = 11 := by
  unfold cnt at h
  by_cases h1 : k < 0 ∨ 11 < k
  · rw [if_pos h1] at h; omega
  · rw [if_neg h1] at h
    by_cases h2 : k ≠ 10
    · rw [if_pos h2] at h; exact h
    · rw [if_neg h2] at h
      by_cases h3 : bears a = true
      · rw [if_pos h3] at h
        rw [h] at h3
        exact absurd h3 (by decide)
      · rw [if_neg h3] at h; omega
theorem cnt_is_end (a : Int) : cnt a 11 = 11 := by
  unfold cnt; simp
theorem say_must {p : P} : say p = 2 ↔ p.a = 11 := by
  rw [say_eq]
  constructor
  · intro h
    by_cases h1 : p.m = true ∧ bears p.a = true
    · rw [if_pos h1] at h; cases h
    · rw [if_neg h1] at h
      by_cases h2 : p.a = 11
      · exact h2
      · rw [if_neg h2] at h
        repeat' split at h
        all_goals cases h
  · intro h
    have hb : bears p.a = false := by rw [h]; decide
    rw [if_neg (by rw [hb]; simp), if_pos h]
/-- It must end at the last place, and behind an End, and nowhere else. -/
theorem how_must {l : List Int} {i : Nat} {x : Int} (h0 : 0 < i) (hi : i ≤ l.length) (hx : l[i - 1]? = some x) : how l i = 2 ↔ i = l.length ∨ x = 11 := by
  rcases Nat.lt_or_ge i l.length with h | h
  · obtain ⟨m, rfl⟩ : ∃ m, i = m + 1 := ⟨i - 1, by omega⟩
    rw [Nat.add_sub_cancel] at hx
    rw [how_in h0 h, say_must, st_take (List.getElem?_eq_getElem h)]
    show (st (l.take (m + 1))).b = 11 ↔ _
    rw [st_take hx]
    show cnt (st (l.take m)).b x = 11 ↔ _
    constructor
    · intro hc; exact .inr (cnt_end hc)
    · rintro (hc | rfl)
      · omega
      · exact cnt_is_end _
  · obtain rfl : i = l.length := by omega
    rw [how_len (by omega)]
    simp
/-- Behind an End all begins anew. -/
theorem next_end {p : P} (x : Int) (h : p.b = 11) : p.next x = P.init.next x := by
  unfold P.next
  rw [h]
  rfl
theorem st_cut {u v : List Int} (hu : (st u).b = 11) (hv : v ≠ []) : st (u ++ v) = st v := by
  cases v with
  | nil => exact absurd rfl hv
  | cons x r =>
    unfold st
    rw [List.foldl_append, List.foldl_cons, List.foldl_cons, show List.foldl P.next P.init u = st u from rfl, next_end x hu]
theorem all_cut {u v : List Int} (hu : u ≠ []) (hv : v ≠ []) (he : (st u).b = 11) : all (u ++ v) = all u ++ all v := by
  have lu : 0 < u.length := List.length_pos_iff.2 hu
  have lv : 0 < v.length := List.length_pos_iff.2 hv
  refine List.ext_getElem? fun j => ?_
  rcases Nat.lt_or_ge j (u ++ v).length with hj | hj
  · rw [all_at hj]
    rw [List.length_append] at hj
    rcases Nat.lt_or_ge j u.length with h | h
    · rw [List.getElem?_append_left (by rw [all_len]; exact h), all_at h]
      congr 1
      rcases Nat.lt_or_ge (j + 1) u.length with h1 | h1
      · rw [how_in (by omega) (by rw [List.length_append]; omega), how_in (by omega) h1, List.take_append_of_le_length (by omega)]
      · obtain rfl : j = u.length - 1 := by omega
        rw [show u.length - 1 + 1 = u.length by omega, how_len lu, how_in lu (by rw [List.length_append]; omega), say_must]
        obtain ⟨x, hx⟩ : ∃ x, (u ++ v)[u.length]? = some x := ⟨_, List.getElem?_eq_getElem (by rw [List.length_append]; omega)⟩
        rw [st_take hx, List.take_left]
        exact he
    · obtain ⟨k, rfl⟩ : ∃ k, j = u.length + k := ⟨j - u.length, by omega⟩
      rw [List.getElem?_append_right (by rw [all_len]; omega), all_len, show u.length + k - u.length = k by omega, all_at (by omega)]
      congr 1
      rcases Nat.lt_or_ge (k + 1) v.length with h1 | h1
      · rw [how_in (by omega) (by rw [List.length_append]; omega), how_in (by omega) h1]
        rw [show u.length + k + 1 + 1 = u.length + (k + 1 + 1) by omega, List.take_length_add_append]
        rw [st_cut he]
        intro h0
        have := congrArg List.length h0
        rw [List.length_take, List.length_nil] at this
        omega
      · rw [show u.length + k + 1 = (u ++ v).length by rw [List.length_append]; omega, show k + 1 = v.length by omega, how_len lv, how_len (by rw [List.length_append]; omega)]
  · rw [List.getElem?_eq_none (by rw [all_len]; exact hj), List.getElem?_eq_none (by rw [List.length_append, all_len, all_len]; rwa [List.length_append] at hj)]
theorem all_part {l : List Int} {i : Nat} (h0 : 0 < i) (hi : i < l.length) (hm : how l i = 2) : all (l.take i) ++ all (l.drop i) = all l ∧ l[i - 1]? = some 11 := by
  obtain ⟨x, hx⟩ : ∃ x, l[i - 1]? = some x := ⟨_, List.getElem?_eq_getElem (by omega)⟩
  have hx11 : x = 11 := by
    rcases (how_must h0 (by omega) hx).1 hm with h | h
    · omega
    · exact h
  subst hx11
  refine ⟨?_, hx⟩
  have hst : (st (l.take i)).b = 11 := by
    have := st_take hx
    rw [show i - 1 + 1 = i by omega] at this
    rw [this]
    exact cnt_is_end (st (l.take (i - 1))).b
  rw [← all_cut (by intro h; have := congrArg List.length h; rw [List.length_take, List.length_nil] at this; omega) (by intro h; have := congrArg List.length h; rw [List.length_drop, List.length_nil] at this; omega) hst, List.take_append_drop]
end M
end Go.Proofs.Ytfackeiommiejaa
