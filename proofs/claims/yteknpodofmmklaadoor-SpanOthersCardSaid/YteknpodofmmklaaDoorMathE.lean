/- The document's way to find the first scalar (the number that so many bytes may be, if it has just these) finds what the plain function finds. -/
import Derived.Test.YteknpodofmmklaaDoorMathD
namespace Go.Proofs.YteknpodofmmklaaDoor.M

def mask (n : Nat) (x : Int) : Int := if n = 2 then x % 32 else if n = 3 then x % 16 else if n = 4 then x % 8 else x
def candL (c : Int) (l : List Int) : Int := l.foldl (fun c y => 64 * c + y % 64) c
def cand (n : Nat) (x : Int) (r : List Int) : Int := candL (mask n x) (r.take (n - 1))
theorem candL_step (c : Int) (r : List Int) (k : Nat) (y : Int) (h : r[k]? = some y) : candL c (r.take (k + 1)) = 64 * candL c (r.take k) + y % 64 := by
  rw [take_at r k y h]
  simp [candL]
theorem cand_hit {x : Int} {r : List Int} {n : Nat} (hn : n ≤ r.length + 1) (hs : scal (cand n x r) = true) (he : bytes1 (cand n x r) = (x :: r).take n) : firstM (x :: r) = some (cand n x r, n) := by
  have e : x :: r = bytes1 (cand n x r) ++ (x :: r).drop n := by rw [he, List.take_append_drop]
  have hl : (bytes1 (cand n x r)).length = n := by rw [he, List.length_take, List.length_cons]; omega
  have := first_bytes hs ((x :: r).drop n)
  rw [← e, hl] at this
  exact this
theorem cand_miss {x : Int} {r : List Int} {c : Int} {n : Nat} (hb : Bytes (x :: r)) (h : firstM (x :: r) = some (c, n)) : scal (cand n x r) = true ∧ bytes1 (cand n x r) = (x :: r).take n := by
  obtain ⟨hn1, hn2, hn4, hs, hcn⟩ := first_len h
  obtain ⟨he, hn⟩ := first_inv hb h
  obtain ⟨h0, h1⟩ := scal_range hs
  have hcl := cnt_lo hcn
  have ht : (x :: r).take n = bytes1 c := by
    have := congrArg (List.take n) he
    rw [hn, List.take_left] at this
    rw [hn]; exact this
  have hc : cand n x r = c := by
    simp only [List.length_cons] at hn2
    rcases (show n = 1 ∨ n = 2 ∨ n = 3 ∨ n = 4 by omega) with hq | hq | hq | hq <;> rw [hq] at ht hcl hn2 ⊢
    · rw [bytes_eq1 h0 (hcl.1 rfl)] at ht
      simp at ht
      simp [cand, mask, candL, ht]
    · obtain ⟨l0, l1⟩ := hcl.2.1 rfl
      rw [bytes_eq2 l0 l1] at ht
      match r, hn2, ht with
      | y :: r', _, ht =>
        simp at ht
        simp [cand, mask, candL]
        omega
    · obtain ⟨l0, l1⟩ := hcl.2.2.1 rfl
      rw [bytes_eq3 l0 l1] at ht
      match r, hn2, ht with
      | y :: z :: r', _, ht =>
        simp at ht
        simp [cand, mask, candL]
        omega
      | [y], hn2, _ => simp at hn2
    · have l0 := hcl.2.2.2 rfl
      rw [bytes_eq4 l0 h1] at ht
      match r, hn2, ht with
      | y :: z :: u :: r', _, ht =>
        simp at ht
        simp [cand, mask, candL]
        omega
      | [y, z], hn2, _ => simp at hn2
      | [y], hn2, _ => simp at hn2
  rw [hc]
  exact ⟨hs, ht.symm⟩
/-- No scalar of fewer than k bytes stands in front. -/
def NoneTo (bs : List Int) (k : Nat) : Prop := ∀ c n, firstM bs = some (c, n) → k ≤ n
theorem noneTo_one (bs : List Int) : NoneTo bs 1 := fun _ _ h => (first_len h).1
theorem noneTo_step {x : Int} {r : List Int} {n : Nat} (hb : Bytes (x :: r)) (h : NoneTo (x :: r) n) (hm : ¬ (scal (cand n x r) = true ∧ bytes1 (cand n x r) = (x :: r).take n)) : NoneTo (x :: r) (n + 1) := fun c m hf => by
  have h1 := h c m hf
  rcases Nat.lt_or_ge n m with hlt | hge
  · exact hlt
  · obtain rfl : n = m := by omega
    exact absurd (cand_miss hb hf) hm
theorem noneTo_end {bs : List Int} {k : Nat} (h : NoneTo bs k) (hk : 4 < k ∨ bs.length < k) : firstM bs = none := by
  cases hf : firstM bs with
  | none => rfl
  | some p =>
    obtain ⟨c, n⟩ := p
    have h1 := h c n hf
    obtain ⟨_, h2, h3, _⟩ := first_len hf
    omega
end Go.Proofs.YteknpodofmmklaaDoor.M
