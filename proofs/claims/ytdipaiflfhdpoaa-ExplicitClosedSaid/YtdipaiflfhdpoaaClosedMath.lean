/- What the law of closed isolates needs, in plain mathematics: levels ahead and behind of texts that differ in an ended isolate. No function of the program is walked here. -/
import Derived.Test.YtdipaiflfhdpoaaWhole
namespace Go.Proofs.Ytdipaiflfhdpoaa.M

/-- The levels ahead and behind are one, whatever stands in the isolate. -/
theorem closed_levels {base b : Int} (hb : b = 19 ∨ b = 20) (h0 : 0 ≤ base) (hba : base ≤ 1) (p z : List Int) :
    ∃ hd tl : List Int, hd.length = p.length + 1 ∧ tl.length = z.length + 1 ∧ ∀ x, bal 0 x → ∃ X : List Int, X.length = x.length ∧ (run base (fresh base) (about p b x z)).map Prod.fst = hd ++ (X ++ tl) := by
  obtain ⟨A, m1, hA, _, h⟩ := run_about (base := base) hb (by omega) z p (fresh base) (fresh_ok (by omega))
  refine ⟨A.map Prod.fst ++ [m1.lev base b], m1.top.lv :: (run base m1 z).map Prod.fst, by simp [hA], by simp [run_len], fun x hx => ?_⟩
  obtain ⟨X, hX, he⟩ := h x hx
  exact ⟨X.map Prod.fst, by simp [hX], by rw [he]; simp⟩
theorem closed_ahead {hd X Y tl : List Int} {j : Nat} (hj : j < hd.length) : ∃ y, (hd ++ (X ++ tl))[j]? = some y ∧ (hd ++ (Y ++ tl))[j]? = some y :=
  ⟨hd[j], by rw [List.getElem?_append_left hj, List.getElem?_eq_getElem hj], by rw [List.getElem?_append_left hj, List.getElem?_eq_getElem hj]⟩
theorem closed_behind {hd X Y tl : List Int} {k1 k2 i : Nat} (hi : i < tl.length) (h1 : k1 + 1 + i = (hd ++ (X ++ tl)).length) (h2 : k2 + 1 + i = (hd ++ (Y ++ tl)).length) : ∃ y, (hd ++ (X ++ tl))[k1]? = some y ∧ (hd ++ (Y ++ tl))[k2]? = some y := by
  simp only [List.length_append] at h1 h2
  refine ⟨tl[tl.length - 1 - i], ?_, ?_⟩
  · rw [List.getElem?_append_right (by omega), List.getElem?_append_right (by omega), show k1 - hd.length - X.length = tl.length - 1 - i by omega, List.getElem?_eq_getElem (by omega)]
  · rw [List.getElem?_append_right (by omega), List.getElem?_append_right (by omega), show k2 - hd.length - Y.length = tl.length - 1 - i by omega, List.getElem?_eq_getElem (by omega)]
theorem about_len (p x z : List Int) (b : Int) : (about p b x z).length = p.length + 1 + x.length + 1 + z.length := by
  unfold about
  simp
  omega
theorem about_made (p x z : List Int) (b : Int) : (((p ++ [b]) ++ x) ++ [22]) ++ z = about p b x z := by
  unfold about
  simp
end Go.Proofs.Ytdipaiflfhdpoaa.M
