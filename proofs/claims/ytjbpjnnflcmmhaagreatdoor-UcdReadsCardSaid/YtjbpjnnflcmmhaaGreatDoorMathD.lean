/- Where two dots first stand in a string, and what that says of a first field. Plain lists; no program. -/
import Derived.Test.YtjbpjnnflcmmhaaGreatDoorMathB
namespace Go.Proofs.YtjbpjnnflcmmhaaGreatDoor.M

/-- Two dots stand at a place. -/
def dots (s : List UInt8) (k : Nat) : Prop := s[k]? = some 46 ∧ s[k + 1]? = some 46
theorem prefix_dots (s : List UInt8) : List.isPrefixOf [46, 46] s = true ↔ dots s 0 := by
  unfold dots
  match s with
  | [] => simp [List.isPrefixOf]
  | [x] => simp [List.isPrefixOf]
  | x :: y :: r =>
    simp [List.isPrefixOf]
    exact ⟨fun h => ⟨h.1.symm, h.2.symm⟩, fun h => ⟨h.1.symm, h.2.symm⟩⟩
theorem index_at (s : List UInt8) : ∀ k, (∀ j, j < k → ¬ dots s j) → dots s k → Lib.index s [46, 46] = k := by
  induction s with
  | nil => intro k _ h; exact absurd h.1 (by simp)
  | cons x r ih =>
    intro k hno hk
    cases k with
    | zero =>
      have := (prefix_dots (x :: r)).2 hk
      simp [Lib.index, this]
    | succ k =>
      have hp : List.isPrefixOf [46, 46] (x :: r) = false := by
        cases hq : List.isPrefixOf [46, 46] (x :: r) with
        | false => rfl
        | true => exact absurd ((prefix_dots _).1 hq) (hno 0 (by omega))
      have hi := ih k (fun j hj h => hno (j + 1) (by omega) (by unfold dots at h ⊢; simpa using h)) (by unfold dots at hk ⊢; simpa using hk)
      simp only [Lib.index, hp, hi]
      rw [if_neg (by simp), if_neg (by simp)]
      simp
theorem index_none (s : List UInt8) (hno : ∀ j, ¬ dots s j) : Lib.index s [46, 46] = -1 := by
  induction s with
  | nil => rfl
  | cons x r ih =>
    have hp : List.isPrefixOf [46, 46] (x :: r) = false := by
      cases hq : List.isPrefixOf [46, 46] (x :: r) with
      | false => rfl
      | true => exact absurd ((prefix_dots _).1 hq) (hno 0)
    have hi := ih (fun j h => hno (j + 1) (by unfold dots at h ⊢; simpa using h))
    simp [Lib.index, hp, hi]
theorem hexv_figs {l : List UInt8} : ∀ {n m : Nat}, hexv l n = some m → ∀ c ∈ l, ∃ d, figure c = some d := by
  induction l with
  | nil => intro n m _ c hc; cases hc
  | cons x r ih =>
    intro n m h c hc
    rw [hexv] at h
    cases hf : figure x with
    | none => rw [hf] at h; cases h
    | some d =>
      rw [hf] at h
      rcases List.mem_cons.1 hc with rfl | hc
      · exact ⟨d, hf⟩
      · exact ih h c hc
theorem hex_nodots {l : List UInt8} {n : Nat} (h : hex l = some n) : ∀ j, ¬ dots l j := fun j hd => by
  unfold hex at h
  split at h
  · cases hv : hexv l 0 with
    | none => rw [hv] at h; cases h
    | some m =>
      obtain ⟨d, hf⟩ := hexv_figs hv 46 (List.mem_of_getElem? hd.1)
      have h0 : figure 46 = none := by decide
      rw [h0] at hf
      cases hf
  · cases h
theorem cut_at {s : List UInt8} {k : Nat} (hno : ∀ j, j < k → ¬ dots s j) (hk : dots s k) : Lib.cut s [46, 46] = (s.take k, s.drop (k + 2), true) := by
  unfold Lib.cut
  rw [index_at s k hno hk, if_pos (by omega)]
  simp
theorem cut_none {s : List UInt8} (hno : ∀ j, ¬ dots s j) : Lib.cut s [46, 46] = (s, [], false) := by
  unfold Lib.cut
  rw [index_none s hno, if_neg (by omega)]
theorem ends_whole {s : List UInt8} {n : Nat} (h : hex s = some n) : ends s = some (n, n) := by
  unfold ends
  rw [cut_none (hex_nodots h)]
  simp [h]
theorem ends_no {s : List UInt8} (h : hex s = none) (hno : ∀ j, ¬ dots s j) : ends s = none := by
  unfold ends
  rw [cut_none hno]
  simp [h]
theorem ends_two {s : List UInt8} {k : Nat} (hno : ∀ j, j < k → ¬ dots s j) (hk : dots s k) :
    ends s = match hex (s.take k), hex (s.drop (k + 2)) with
      | some a, some b => if a ≤ b then some (a, b) else none
      | _, _ => none := by
  unfold ends
  rw [cut_at hno hk]
  simp only [if_true]
  cases hex (s.take k) <;> cases hex (s.drop (k + 2)) <;> rfl
end Go.Proofs.YtjbpjnnflcmmhaaGreatDoor.M
