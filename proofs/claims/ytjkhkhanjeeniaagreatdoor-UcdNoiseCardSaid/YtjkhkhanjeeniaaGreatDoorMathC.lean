/- Noise: blanks and comments put into a right table's text change nothing of what it is parsed to. Plain lists; no program. -/
import Derived.Test.YtjkhkhanjeeniaaGreatDoorMathB
namespace Go.Proofs.YtjkhkhanjeeniaaGreatDoor.M

/-- What a byte becomes. -/
def nz (c : List UInt8) (b : UInt8) : List UInt8 := if b = 59 then [9, 32, 59, 32] else if b = 10 then [32, 32, 35] ++ c ++ [10, 10, 9] else [b]
def noise (c b : List UInt8) : List UInt8 := [35] ++ c ++ [10, 32, 9, 10] ++ b.flatMap (nz c)
theorem nz59 (c : List UInt8) : nz c 59 = [9, 32, 59, 32] := by unfold nz; rw [if_pos rfl]
theorem nz10 (c : List UInt8) : nz c 10 = [32, 32, 35] ++ c ++ [10, 10, 9] := by unfold nz; rw [if_neg (by decide), if_pos rfl]
theorem nz_other (c : List UInt8) {b : UInt8} (h1 : b ≠ 59) (h2 : b ≠ 10) : nz c b = [b] := by unfold nz; rw [if_neg h1, if_neg h2]
theorem flat_plain {c l : List UInt8} (h : ∀ x ∈ l, x ≠ 59 ∧ x ≠ 10) : l.flatMap (nz c) = l := by
  induction l with
  | nil => rfl
  | cons a r ih =>
    have ha := h a (by simp)
    rw [List.flatMap_cons, ih (fun x hx => h x (List.mem_cons_of_mem _ hx)), nz_other c ha.1 ha.2]
    rfl
theorem line_flat {e : E} (h : right e = true) (c : List UInt8) : (line e).flatMap (nz c) = noisy e [32, 9, 32] [32, 32] [32, 9, 32] [32, 32] := by
  obtain ⟨_, _, _, hv, hx⟩ := right_parts h
  rw [line_noisy h]
  have f := flat_plain (c := c) (l := firstF e.a.toNat e.b.toNat) fun x hx => ⟨fun k => first_ne 59 (by decide) (by decide) (k ▸ hx), fun k => first_ne 10 (by decide) (by decide) (k ▸ hx)⟩
  have v := flat_plain (c := c) (l := e.v.data.toList) fun x hx => ⟨fun k => word_no hv 59 (by decide) (k ▸ hx), fun k => word_no hv 10 (by decide) (k ▸ hx)⟩
  have n32 : nz c 32 = [32] := nz_other c (by decide) (by decide)
  unfold noisy
  by_cases h0 : e.x.data.toList = []
  · rw [if_pos h0, if_pos h0]
    simp [List.flatMap_append, List.flatMap_cons, f, v, n32, nz59]
  · have x := flat_plain (c := c) (l := e.x.data.toList) fun x hx' => ⟨fun k => word_no (hx.resolve_left h0) 59 (by decide) (k ▸ hx'), fun k => word_no (hx.resolve_left h0) 10 (by decide) (k ▸ hx')⟩
    rw [if_neg h0, if_neg h0]
    simp [List.flatMap_append, List.flatMap_cons, f, v, x, n32, nz59]

theorem blank3 : blank [32, 9, 32] := fun c hc => by simp at hc; rcases hc with rfl | rfl | rfl <;> simp
theorem blank2 : blank [32, 32] := fun c hc => by simp at hc; exact .inl hc
theorem blank9 : blank [9] := fun c hc => by simp at hc; exact .inr hc
theorem blank29 : blank [32, 9] := fun c hc => by simp at hc; rcases hc with rfl | rfl <;> simp

theorem parseGo_noise {c : List UInt8} (hc : (10 : UInt8) ∉ c) {l : List E} (h : l.all right = true) : ∀ (pre : List UInt8), blank pre → ∀ acc, acc.length + l.length ≤ 600 → parseGo (parts 10 (pre ++ (lines l).flatMap (nz c))) acc = some (acc ++ l) := by
  induction l with
  | nil =>
    intro pre hp acc _
    have e0 : (lines []).flatMap (nz c) = [] := rfl
    have h0 : counted pre = [] := by have := counted_blank hp [] (.inl rfl); rwa [List.append_nil] at this
    rw [e0, List.append_nil, parts_free (blank_no hp 10 (by decide) (by decide)), parseGo, if_pos h0, List.append_nil]
    rfl
  | cons e r ih =>
    intro pre hp acc hl
    simp only [List.all_cons, Bool.and_eq_true] at h
    simp only [List.length_cons] at hl
    have e1 : pre ++ (lines (e :: r)).flatMap (nz c) = (pre ++ noisy e [32, 9, 32] [32, 32] [32, 9, 32] [32, 32] ++ [32, 32] ++ 35 :: c) ++ 10 :: ([] ++ 10 :: ([9] ++ (lines r).flatMap (nz c))) := by
      have : lines (e :: r) = line e ++ 10 :: lines r := by simp [lines]
      rw [this, List.flatMap_append, List.flatMap_cons, line_flat h.1, nz10]
      simp
    have hno : (10 : UInt8) ∉ pre ++ noisy e [32, 9, 32] [32, 32] [32, 9, 32] [32, 32] ++ [32, 32] ++ 35 :: c := by
      intro hm
      rw [List.mem_append, List.mem_append, List.mem_append] at hm
      rcases hm with ((hm | hm) | hm) | hm
      · exact blank_no hp 10 (by decide) (by decide) hm
      · exact noisy_mem h.1 blank3 blank2 blank3 blank2 10 (by decide) (by decide) (by decide) (by decide) (by decide) (by decide) hm
      · exact blank_no blank2 10 (by decide) (by decide) hm
      · rw [List.mem_cons] at hm
        rcases hm with hm | hm
        · exact absurd hm (by decide)
        · exact hc hm
    have h0 : counted [] = [] := counted_blank blank_nil [] (.inl rfl)
    rw [e1, parts_at _ hno, parts_at _ (by simp), parseGo_line h.1 (.inr ⟨_, _, _, _, blank3, blank2, blank3, blank2, counted_noisy h.1 hp blank3 blank2 blank3 blank2 blank2 (35 :: c) (.inr ⟨c, rfl⟩)⟩), if_neg (by omega), parseGo, if_pos h0, ih h.2 [9] blank9 _ (by simp; omega)]
    simp
theorem parse_noise {c : List UInt8} (hc : (10 : UInt8) ∉ c) {l : List E} {b : List UInt8} (h : text l = some b) : parse (noise c b) = some l := by
  rw [text_eq] at h
  split at h
  · rename_i hk
    obtain rfl : lines l = b := by injection h
    unfold parse noise
    have e1 : [35] ++ c ++ [10, 32, 9, 10] ++ (lines l).flatMap (nz c) = (35 :: c) ++ 10 :: ([32, 9] ++ 10 :: ([] ++ (lines l).flatMap (nz c))) := by simp
    have n1 : (10 : UInt8) ∉ 35 :: c := by
      rw [List.mem_cons, not_or]
      exact ⟨by decide, hc⟩
    have c1 : counted (35 :: c) = [] := counted_blank blank_nil (35 :: c) (.inr ⟨c, rfl⟩)
    have c2 : counted [32, 9] = [] := by have := counted_blank blank29 [] (.inl rfl); rwa [List.append_nil] at this
    rw [e1, parts_at _ n1, parts_at _ (blank_no blank29 10 (by decide) (by decide)), parseGo, if_pos c1, parseGo, if_pos c2, parseGo_noise hc hk.2 [] blank_nil [] (by simpa using hk.1)]
    simp
  · cases h
theorem nz_le {c : List UInt8} (hc : c.length ≤ 100) (b : UInt8) : (nz c b).length ≤ 106 := by
  unfold nz
  split
  · decide
  · split
    · simp; omega
    · simp
theorem flat_le {c : List UInt8} (hc : c.length ≤ 100) (b : List UInt8) : (b.flatMap (nz c)).length ≤ 106 * b.length := by
  induction b with
  | nil => simp
  | cons a r ih =>
    rw [List.flatMap_cons, List.length_append, List.length_cons]
    have := nz_le hc a
    omega
theorem noise_le {c : List UInt8} (hc : c.length ≤ 100) (b : List UInt8) : (noise c b).length ≤ 106 * b.length + 105 := by
  unfold noise
  have := flat_le hc b
  simp only [List.length_append, List.length_cons, List.length_nil]
  omega
theorem noise_step (c b : List UInt8) (k : Nat) (x : UInt8) (h : b[k]? = some x) : noise c (b.take (k + 1)) = noise c (b.take k) ++ nz c x := by
  obtain ⟨hk, rfl⟩ := List.getElem?_eq_some_iff.1 h
  unfold noise
  rw [List.take_succ_eq_append_getElem hk, List.flatMap_append]
  simp
end Go.Proofs.YtjkhkhanjeeniaaGreatDoor.M
