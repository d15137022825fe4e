/- In which order places are seen, stretch by stretch, each turned round within itself: the program's way, as plain functions, and that it is the document's order. No program is read here. -/
import Derived.Test.YtahjkndphkpieaaBackM
namespace Go.Proofs.Ytahjkndphkpieaa.M

/-- How much deeper a place is than k. -/
def less (l : List Int) (k x : Nat) : Int := lev l x - k
/-- The places from f on, below t, turned round for each level above k. -/
def above (l : List Int) (k f t : Nat) : List Nat := ord (less l k) (127 - k) (List.range' f (t - f))
/-- And for level k, if it is one. -/
def laid (l : List Int) (k f t : Nat) : List Nat := if k = 0 then above l k f t else (above l k f t).reverse
/-- As far as i the places are laid, and are P. -/
structure LayTo (l : List Int) (k f t i : Nat) (P : List Nat) : Prop where
  lo : f ≤ i
  hi : i ≤ t + 1
  len : P.length + (t - i) = t - f
  is : above l k f t = P ++ ord (less l k) (127 - k) (List.range' i (t - i))
section
variable {l : List Int} {k f t i e : Nat} {P : List Nat}
theorem ord_nil {α : Type} {g : α → Int} {n : Nat} : ord g n [] = [] := List.eq_nil_of_length_eq_zero (by rw [ord_len]; rfl)
theorem above_len : (above l k f t).length = t - f := by unfold above; rw [ord_len, List.length_range']
theorem laid_len : (laid l k f t).length = t - f := by unfold laid; split <;> simp [above_len]
theorem LayTo.start (h : f ≤ t) : LayTo l k f t f [] := ⟨Nat.le_refl _, by omega, by simp, rfl⟩
theorem LayTo.at_ (h : LayTo l k f t i P) (hi : i < t) : f + P.length = i := by have := h.len; have := h.lo; omega
theorem LayTo.done (h : LayTo l k f t i P) (hi : t ≤ i) : above l k f t = P := by
  have := h.is
  rw [show t - i = 0 by omega, List.range'_zero, ord_nil, List.append_nil] at this
  exact this
theorem range_cons (h : i < t) : List.range' i (t - i) = i :: List.range' (i + 1) (t - (i + 1)) := by
  rw [show t - i = (t - (i + 1)) + 1 by omega, List.range'_succ]
theorem range_cut (h : i ≤ e) (h2 : e ≤ t) : List.range' i (t - i) = List.range' i (e - i) ++ List.range' e (t - e) := by
  have := List.range'_append_1 (s := i) (m := e - i) (n := t - e)
  rw [show i + (e - i) = e by omega, show e - i + (t - e) = t - i by omega] at this
  exact this.symm
theorem LayTo.one (h : LayTo l k f t i P) (hi : i < t) (hl : lev l i ≤ k) : LayTo l k f t (i + 1) (P ++ [i]) := by
  refine ⟨by have := h.lo; omega, by omega, by have := h.len; simp; omega, ?_⟩
  rw [h.is, range_cons hi]
  have := ord_at (f := less l k) (a := []) (b := List.range' (i + 1) (t - (i + 1))) (x := i) (n := 127 - k) (by unfold less; omega)
  rw [List.nil_append, ord_nil, List.nil_append] at this
  rw [this, List.append_assoc]
  rfl
theorem laid_up (hk : k < 127) (hl : ∀ x, f ≤ x → x < t → (k : Int) < lev l x) : laid l (k + 1) f t = above l k f t := by
  unfold laid
  rw [if_neg (Nat.succ_ne_zero k)]
  unfold above
  have := ord_more (f := less l (k + 1)) (n := 127 - (k + 1)) (l := List.range' f (t - f)) fun x hx => by
    rw [List.mem_range'_1] at hx
    have := hl x hx.1 (by omega)
    unfold less
    omega
  rw [← this, show 127 - (k + 1) + 1 = 127 - k by omega]
  refine ord_congr fun x _ => ?_
  unfold less
  omega
theorem LayTo.more (h : LayTo l k f t i P) (hie : i < e) (het : e ≤ t) (hk : k < 127) (hl : ∀ x, i ≤ x → x < e → (k : Int) < lev l x) (he : e < t → lev l e ≤ k) :
    ∃ P', LayTo l k f t (e + 1) P' ∧ P ++ (laid l (k + 1) i e ++ List.range' e (t - e)) = P' ++ List.range' (e + 1) (t - (e + 1)) := by
  have hlo := h.lo
  have hlen := h.len
  have hll := laid_len (l := l) (k := k + 1) (f := i) (t := e)
  have his := h.is
  rw [range_cut (Nat.le_of_lt hie) het] at his
  by_cases h1 : e < t
  · refine ⟨P ++ laid l (k + 1) i e ++ [e], ⟨by omega, by omega, by rw [List.length_append, List.length_append, hll, List.length_singleton]; omega, ?_⟩, ?_⟩
    · rw [his, range_cons h1, ord_at (by unfold less; have := he h1; omega), laid_up hk hl]
      unfold above
      rw [List.append_assoc, List.append_assoc]
      rfl
    · rw [range_cons h1]
      simp
  · obtain rfl : e = t := by omega
    refine ⟨P ++ laid l (k + 1) i e, ⟨by omega, by omega, by rw [List.length_append, hll]; omega, ?_⟩, ?_⟩
    · rw [his, laid_up hk hl, show e - e = 0 by omega, show e - (e + 1) = 0 by omega, List.range'_zero, List.range'_zero, ord_nil, List.append_nil, List.append_nil]
      rfl
    · rw [show e - e = 0 by omega, show e - (e + 1) = 0 by omega, List.range'_zero, List.range'_zero, List.append_nil, List.append_nil]
theorem laid_zero : laid l 0 0 l.length = order l := by
  unfold laid order ordN above
  rw [if_pos rfl, Nat.sub_zero, Nat.sub_zero, List.range_eq_range']
  refine ord_congr fun x _ => ?_
  unfold less
  simp
end
end Go.Proofs.Ytahjkndphkpieaa.M
