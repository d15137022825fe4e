/- What the stretches of neutral places become, one after another: as plain lists. No function of the program is read here. -/
import Derived.Test.YtjoiinpkkaigdaaCIter
import Derived.Test.YtjoiinpkkaigdaaCFill
namespace Go.Proofs.Ytjoiinpkkaigdaa
open Go.RowKit
section
variable {l X : List Int} {lv f g : Int} {t u : Nat}
theorem M.sa_skip {s : Int} {p r : List Int} (h : ∀ x ∈ p, M.neu x) : M.sa s (p ++ r) = M.sa s r := by
  induction p with
  | nil => rfl
  | cons x p ih => rw [List.cons_append, M.sa_cons, if_pos (h x (by simp)), ih fun y hy => h y (by simp [hy])]
theorem M.sd2_side {s : Int} (h : s = 0 ∨ s = 1) : M.sd2 s = s := by rcases h with rfl | rfl <;> rfl
/-- What stands ahead of a stretch, and behind it. -/
def M.aheadOf (l : List Int) (f : Int) (t : Nat) : Int := if 0 < t then l.getD (t - 1) 0 else f
def M.behindOf (l : List Int) (g : Int) (u : Nat) : Int := if u < l.length then l.getD u 0 else g
theorem M.sa_ahead (hf : f = 0 ∨ f = 1) (h : t = 0 ∨ ∃ x, l[t - 1]? = some x ∧ ¬ M.neu x) : M.sa f (l.take t).reverse = M.sd2 (M.aheadOf l f t) := by
  unfold M.aheadOf
  cases t with
  | zero => rw [if_neg (by omega), M.sd2_side hf]; rfl
  | succ t =>
    rcases h with h | ⟨x, hx, hn⟩
    · cases h
    · rw [Nat.add_sub_cancel] at hx
      rw [if_pos (by omega), M.take_next' hx, M.sa_cons, if_neg hn, Nat.add_sub_cancel, List.getD_eq_getElem?_getD, hx]
      rfl
theorem M.sa_behind (hg : g = 0 ∨ g = 1) (hu : u ≤ l.length) (h : u = l.length ∨ ∃ x, l[u]? = some x ∧ ¬ M.neu x) : M.sa g (l.drop u) = M.sd2 (M.behindOf l g u) := by
  unfold M.behindOf
  by_cases e : u = l.length
  · rw [if_neg (by omega), M.sd2_side hg, List.drop_eq_nil_of_le (by omega)]
    rfl
  · rcases h with h | ⟨x, hx, hn⟩
    · exact absurd h e
    · rw [if_pos (by omega), M.drop_next' hx, M.sa_cons, if_neg hn, List.getD_eq_getElem?_getD, hx]
      rfl
/-- A place of a stretch. -/
theorem M.settle_in {t0 i : Nat} (hf : f = 0 ∨ f = 1) (hg : g = 0 ∨ g = 1) (h : M.Str l t0 t u) (h1 : t ≤ i) (h2 : i < u) :
    (M.settle lv f g l)[i]? = some (M.btw lv (M.aheadOf l f t) (M.behindOf l g u)) := by
  have hun := h.un
  obtain ⟨x, hx⟩ : ∃ x, (M.settle lv f g l)[i]? = some x := ⟨_, List.getElem?_eq_getElem (by rw [M.settle_len]; omega)⟩
  obtain ⟨c, hc, e⟩ := M.settle_at hx
  rw [hx, e, if_pos (h.ins i c h1 h2 hc)]
  have e1 : M.sa f (l.take i).reverse = M.sd2 (M.aheadOf l f t) := by
    rw [← M.sa_ahead hf h.ahd]
    have : l.take i = l.take t ++ (l.drop t).take (i - t) := by
      rw [show i = t + (i - t) by omega, List.take_add, Nat.add_sub_cancel_left]
    rw [this, List.reverse_append]
    refine M.sa_skip fun y hy => ?_
    rw [List.mem_reverse] at hy
    obtain ⟨j, hj⟩ := List.mem_iff_getElem?.1 hy
    rw [List.getElem?_take] at hj
    split at hj
    · rw [List.getElem?_drop] at hj
      exact h.ins (t + j) y (by omega) (by omega) hj
    · cases hj
  have e2 : M.sa g (l.drop (i + 1)) = M.sd2 (M.behindOf l g u) := by
    rw [← M.sa_behind hg hun h.bhd]
    have : l.drop (i + 1) = (l.drop (i + 1)).take (u - (i + 1)) ++ l.drop u := by
      conv => lhs; rw [← List.take_append_drop (u - (i + 1)) (l.drop (i + 1)), List.drop_drop, show i + 1 + (u - (i + 1)) = u by omega]
    rw [this]
    refine M.sa_skip fun y hy => ?_
    obtain ⟨j, hj⟩ := List.mem_iff_getElem?.1 hy
    rw [List.getElem?_take] at hj
    split at hj
    · rw [List.getElem?_drop] at hj
      exact h.ins (i + 1 + j) y (by omega) (by omega) hj
    · cases hj
  unfold M.nat M.btw
  rw [e1, e2]
/-- Of the settled classes, those up to t; of the others, what was there. -/
def M.SetTo (lv f g : Int) (l : List Int) (t : Nat) (X : List Int) : Prop := ∀ i, X[i]? = if i < t then (M.settle lv f g l)[i]? else l[i]?
theorem M.SetTo.start : M.SetTo lv f g l 0 l := fun i => by rw [if_neg (by omega)]
theorem M.SetTo.len (h : M.SetTo lv f g l t X) : X.length = l.length := by
  refine Nat.le_antisymm (Nat.le_of_not_lt fun hlt => ?_) (Nat.le_of_not_lt fun hlt => ?_)
  · have := h l.length
    rw [List.getElem?_eq_getElem hlt, List.getElem?_eq_none (l := l) (Nat.le_refl _), List.getElem?_eq_none (l := M.settle lv f g l) (by rw [M.settle_len]; exact Nat.le_refl _), ite_self] at this
    cases this
  · have := h X.length
    rw [List.getElem?_eq_none (l := X) (Nat.le_refl _), List.getElem?_eq_getElem hlt, List.getElem?_eq_getElem (l := M.settle lv f g l) (by rw [M.settle_len]; exact hlt)] at this
    split at this <;> cases this
theorem M.settle_keep {i : Nat} {x : Int} (h : l[i]? = some x) (hn : ¬ M.neu x) : (M.settle lv f g l)[i]? = some x := by
  obtain ⟨y, hy⟩ : ∃ y, (M.settle lv f g l)[i]? = some y := ⟨_, List.getElem?_eq_getElem (by rw [M.settle_len]; exact (List.getElem?_eq_some_iff.1 h).1)⟩
  obtain ⟨c, hc, e⟩ := M.settle_at hy
  rw [h] at hc
  injection hc with hc
  subst hc
  rw [if_neg hn] at e
  rw [hy, e]
theorem M.SetTo.over {t0 : Nat} (hx : M.SetTo lv f g l t0 X) (hf : f = 0 ∨ f = 1) (hg : g = 0 ∨ g = 1) (h : M.Str l t0 t u) :
    M.SetTo lv f g l u (M.fil (M.btw lv (M.aheadOf l f t) (M.behindOf l g u)) (u - t) t X) := fun i => by
  have h1 := h.tf
  have h2 := h.fu
  have h3 := h.un
  rw [M.fil_at _ _ _ _ (by rw [hx.len]; omega)]
  by_cases e : t ≤ i ∧ i < t + (u - t)
  · rw [if_pos e, if_pos (by omega), M.settle_in hf hg h e.1 (by omega)]
  · rw [if_neg e, hx i]
    by_cases e2 : i < t0
    · rw [if_pos e2, if_pos (by omega)]
    · rw [if_neg e2]
      by_cases e3 : i < u
      · rw [if_pos e3]
        obtain ⟨x, hx⟩ : ∃ x, l[i]? = some x := ⟨_, List.getElem?_eq_getElem (by omega)⟩
        rw [hx, M.settle_keep hx (h.gap i x (by omega) (by omega) hx)]
      · rw [if_neg e3]
theorem M.SetTo.done {xs : List (Nat × Nat)} (hx : M.SetTo lv f g l (M.lastTo xs) X) (h : M.AllStr l xs) : X = M.settle lv f g l := by
  refine List.ext_getElem? fun i => ?_
  rw [hx i]
  split
  · rfl
  · cases hi : l[i]? with
    | none => rw [List.getElem?_eq_none (by rw [M.settle_len]; exact List.getElem?_eq_none_iff.1 hi)]
    | some x => rw [M.settle_keep hi (h i x (by omega) hi)]
end
end Go.Proofs.Ytjoiinpkkaigdaa
