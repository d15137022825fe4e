/- Brackets that open and close as many times: how many pairs there are. No program is read here. -/
import Derived.Test.YtaiojghbknacjaaBrkM
namespace Go.Proofs.Ytaiojghbknacjaa.M

/-- k that open, and k that close, all of one number. -/
def deepL (k : Nat) : List Int := List.replicate (2 * k) 13
def deepM (id : Int) (k : Nat) : List (Int × Int) := List.replicate k (1, id) ++ List.replicate k (2, id)
section
variable {id : Int} {k i j m : Nat}
theorem deep_at (h : i < 2 * k) : (deepM id k)[i]? = some (if i < k then 1 else 2, id) := by
  unfold deepM
  by_cases hi : i < k
  · rw [List.getElem?_append_left (by simpa using hi), List.getElem?_replicate, if_pos hi, if_pos hi]
  · rw [List.getElem?_append_right (by simpa using hi), List.length_replicate, List.getElem?_replicate, if_pos (by omega), if_neg hi]
theorem deep_kd (h : i < 2 * k) : kd (deepL k) (deepM id k) i = if i < k then 1 else 2 := by
  unfold kd deepL
  rw [List.getElem?_replicate, if_pos h, if_pos rfl, deep_at h]
  dsimp only
  by_cases hi : i < k
  · rw [if_pos hi]
    rfl
  · rw [if_neg hi]
    rfl
theorem deep_mid (h : i < 2 * k) : mid (deepM id k) i = id := by
  unfold mid
  rw [List.getD_eq_getElem?_getD, deep_at h]
  rfl
/-- Behind i that open. -/
def stk : Nat → List Nat
  | 0 => []
  | i + 1 => i :: stk i
theorem stk_len : (stk i).length = i := by
  induction i with
  | zero => rfl
  | succ i ih => unfold stk; rw [List.length_cons, ih]
theorem deep_open {pa : List Int} (hm : m ≤ k) (h63 : m ≤ 63) : pgo (kd (deepL k) (deepM id k)) (mid (deepM id k)) (2 * k) 0 [] pa = pgo (kd (deepL k) (deepM id k)) (mid (deepM id k)) (2 * k - m) m (stk m) pa := by
  induction m with
  | zero => rfl
  | succ m ih =>
    rw [ih (by omega) (by omega)]
    obtain ⟨r, hr⟩ : ∃ r, 2 * k - m = r + 1 := ⟨2 * k - m - 1, by omega⟩
    rw [hr, pgo, deep_kd (by omega), if_pos (show m < k by omega), if_pos rfl, stk_len, if_neg (by omega)]
    rw [show 2 * k - (m + 1) = r by omega]
    rfl
theorem deep_close {pa : List Int} (hk : k ≤ 63) (hj : j ≤ k) : ∃ pa', pgo (kd (deepL k) (deepM id k)) (mid (deepM id k)) k k (stk k) pa = pgo (kd (deepL k) (deepM id k)) (mid (deepM id k)) (k - j) (k + j) (stk (k - j)) pa' ∧ pa'.length = pa.length ∧ ∀ p, pa'[p]? = if k - j ≤ p ∧ p < k ∧ p < pa.length then some (((2 * k - 1 - p : Nat)) : Int) else pa[p]? := by
  induction j with
  | zero => exact ⟨pa, rfl, rfl, fun p => by rw [if_neg (by omega)]⟩
  | succ j ih =>
    obtain ⟨pa', h1, h2, h3⟩ := ih (by omega)
    obtain ⟨r, hr⟩ : ∃ r, k - j = r + 1 := ⟨k - j - 1, by omega⟩
    have hd : (stk (r + 1)).dropWhile (fun p => decide (mid (deepM id k) p ≠ mid (deepM id k) (k + j))) = r :: stk r := by
      rw [show stk (r + 1) = r :: stk r from rfl, List.dropWhile_cons, deep_mid (by omega), deep_mid (by omega)]
      simp
    refine ⟨pa'.set r ((k + j : Nat) : Int), ?_, by rw [List.length_set]; exact h2, fun p => ?_⟩
    · rw [h1, hr, pgo, deep_kd (by omega), if_neg (show ¬ k + j < k by omega), if_neg (by omega), if_pos rfl, hd]
      dsimp only
      rw [show k - (j + 1) = r by omega, show k + (j + 1) = k + j + 1 by omega]
    · by_cases e : r = p
      · subst e
        by_cases hl : r < pa.length
        · rw [List.getElem?_set_self (by omega), if_pos (by omega)]
          congr 2
          omega
        · rw [List.set_eq_of_length_le (by omega), h3, if_neg (by omega), if_neg (by omega)]
      · rw [List.getElem?_set_ne e, h3]
        by_cases hp : k - j ≤ p ∧ p < k ∧ p < pa.length
        · rw [if_pos hp, if_pos (by omega)]
        · rw [if_neg hp, if_neg (by omega)]
theorem prsFrom_zeros {n : Nat} : prsFrom i (List.replicate n 0) = [] := by
  induction n generalizing i with
  | zero => rfl
  | succ n ih =>
    rw [List.replicate_succ]
    unfold prsFrom
    rw [if_neg (by omega)]
    exact ih
theorem prsFrom_count {L : List Int} (h : ∀ x ∈ L, 0 < x) {n : Nat} : (prsFrom i (L ++ List.replicate n 0)).length = L.length := by
  induction L generalizing i with
  | nil =>
    rw [List.nil_append, prsFrom_zeros]
    rfl
  | cons x r ih =>
    rw [List.cons_append]
    unfold prsFrom
    rw [if_pos (h x (by simp)), List.length_cons, List.length_cons, ih fun y hy => h y (by simp [hy])]
/-- As many as 63. -/
theorem deep_prs (h0 : 0 < k) (hk : k ≤ 63) : (prs (deepL k) (deepM id k)).length = k ∧ (prs (deepL k) (deepM id k))[0]? = some (0, ((2 * k - 1 : Nat) : Int)) := by
  have hl : (deepL k).length = 2 * k := by unfold deepL; rw [List.length_replicate]
  have h1 := deep_open (id := id) (pa := List.replicate (2 * k) 0) (Nat.le_refl k) hk
  rw [show 2 * k - k = k by omega] at h1
  obtain ⟨pa', h2, h3, h4⟩ := deep_close (id := id) (pa := List.replicate (2 * k) 0) hk (Nat.le_refl k)
  have hp : partner (deepL k) (deepM id k) = pa' := by
    unfold partner
    rw [hl, h1, h2, Nat.sub_self]
    rfl
  have he : pa' = (List.range k).map (fun p : Nat => ((2 * k - 1 - p : Nat) : Int)) ++ List.replicate k 0 := by
    refine List.ext_getElem? fun p => ?_
    rw [h4 p, List.length_replicate, List.getElem?_replicate]
    by_cases hp : p < k
    · rw [if_pos (by omega), List.getElem?_append_left (by simpa using hp), List.getElem?_map, List.getElem?_range hp]
      rfl
    · rw [if_neg (by omega), List.getElem?_append_right (by simpa using hp), List.getElem?_replicate, List.length_map, List.length_range]
      by_cases h2 : p < 2 * k
      · rw [if_pos h2, if_pos (by omega)]
      · rw [if_neg h2, if_neg (by omega)]
  unfold prs
  rw [hp, he]
  refine ⟨?_, ?_⟩
  · rw [prsFrom_count fun x hx => by
      obtain ⟨p, hp, rfl⟩ := List.mem_map.1 hx
      have := List.mem_range.1 hp
      omega, List.length_map, List.length_range]
  · obtain ⟨r, rfl⟩ : ∃ r, k = r + 1 := ⟨k - 1, by omega⟩
    rw [List.range_succ_eq_map, List.map_cons, List.cons_append]
    unfold prsFrom
    rw [if_pos (by omega)]
    rfl
/-- And with one more. -/
theorem deep_none (hk : 63 < k) : prs (deepL k) (deepM id k) = [] := by
  have hl : (deepL k).length = 2 * k := by unfold deepL; rw [List.length_replicate]
  have h1 := deep_open (id := id) (k := k) (m := 63) (pa := List.replicate (2 * k) 0) (by omega) (Nat.le_refl _)
  have hp : partner (deepL k) (deepM id k) = List.replicate (2 * k) 0 := by
    unfold partner
    rw [hl, h1]
    obtain ⟨r, hr⟩ : ∃ r, 2 * k - 63 = r + 1 := ⟨2 * k - 64, by omega⟩
    rw [hr, pgo, deep_kd (by omega), if_pos (show 63 < k by omega), if_pos rfl, stk_len, if_pos rfl]
  unfold prs
  rw [hp, prsFrom_zeros]
end
end Go.Proofs.Ytaiojghbknacjaa.M
