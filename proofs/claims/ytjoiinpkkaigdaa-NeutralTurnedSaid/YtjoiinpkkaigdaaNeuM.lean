/- What goes with what stands about it, as plain functions on lists of whole numbers: the settled classes, and the levels. No program is read here. -/
namespace Go.Proofs.Ytjoiinpkkaigdaa.M

def neu (c : Int) : Prop := c = 10 ∨ c = 11 ∨ c = 12 ∨ c = 13 ∨ c = 19 ∨ c = 20 ∨ c = 21 ∨ c = 22
instance (c : Int) : Decidable (neu c) := by unfold neu; infer_instance
/-- A side: 0, 1, or none (10). -/
def sd2 (c : Int) : Int := if c = 0 then 0 else if c = 1 ∨ c = 3 ∨ c = 6 then 1 else 10
/-- The side of the first one that is not neutral; f, if there is none. -/
def sa (f : Int) : List Int → Int
  | [] => f
  | x :: r => if neu x then sa f r else sd2 x
/-- What a neutral place becomes: p stands ahead (nearest first), q behind. -/
def nat (own f g : Int) (p q : List Int) : Int := if sa f p = sa g q ∧ sa f p ≠ 10 then sa f p else own
def sgo (own f g : Int) : List Int → List Int → List Int
  | _, [] => []
  | p, c :: q => (if neu c then nat own f g p q else c) :: sgo own f g (c :: p) q
def own (lv : Int) : Int := if lv % 2 = 1 then 1 else 0
def settle (lv f g : Int) (l : List Int) : List Int := sgo (own lv) f g [] l
/-- A place's level. -/
def rs (lv c : Int) : Int := if lv % 2 = 0 ∧ c = 1 then lv + 1 else if lv % 2 = 0 ∧ (c = 3 ∨ c = 6) then lv + 2 else if lv % 2 = 1 ∧ (c = 0 ∨ (c = 3 ∨ c = 6)) then lv + 1 else lv
def raise (lv : Int) (l : List Int) : List Int := l.map (rs lv)
def setOk (lv f g : Int) : Prop := (0 ≤ lv ∧ lv ≤ 125) ∧ (f = 0 ∨ f = 1) ∧ (g = 0 ∨ g = 1)
instance (lv f g : Int) : Decidable (setOk lv f g) := by unfold setOk; infer_instance
section
variable {o f g lv : Int} {p q l r : List Int}
theorem sa_cons (f x : Int) (r : List Int) : sa f (x :: r) = if neu x then sa f r else sd2 x := rfl
theorem sgo_cons (o f g : Int) (p : List Int) (c : Int) (q : List Int) : sgo o f g p (c :: q) = (if neu c then nat o f g p q else c) :: sgo o f g (c :: p) q := rfl
theorem sgo_len : (sgo o f g p q).length = q.length := by
  induction q generalizing p with
  | nil => rfl
  | cons c q ih => rw [sgo_cons, List.length_cons, ih, List.length_cons]
theorem settle_len : (settle lv f g l).length = l.length := sgo_len
theorem raise_len : (raise lv l).length = l.length := List.length_map _
theorem own_or (lv : Int) : own lv = 0 ∨ own lv = 1 := by unfold own; split <;> simp
theorem sd2_or (c : Int) : sd2 c = 0 ∨ sd2 c = 1 ∨ sd2 c = 10 := by unfold sd2; (repeat' split) <;> simp
theorem sa_or (hf : f = 0 ∨ f = 1) : sa f p = 0 ∨ sa f p = 1 ∨ sa f p = 10 := by
  induction p with
  | nil => unfold sa; omega
  | cons x r ih =>
    rw [sa_cons]
    split
    · exact ih
    · exact sd2_or x
theorem nat_or (ho : o = 0 ∨ o = 1) (hf : f = 0 ∨ f = 1) : nat o f g p q = 0 ∨ nat o f g p q = 1 := by
  have := sa_or (p := p) hf
  unfold nat
  split <;> omega
theorem not_neu {c : Int} (h : c = 0 ∨ c = 1) : ¬ neu c := by unfold neu; omega
/-- A place of what is settled. -/
theorem sgo_at {i : Nat} {x : Int} (h : (sgo o f g p q)[i]? = some x) : ∃ c, q[i]? = some c ∧ x = if neu c then nat o f g ((q.take i).reverse ++ p) (q.drop (i + 1)) else c := by
  induction q generalizing p i with
  | nil => simp [sgo] at h
  | cons c q ih =>
    rw [sgo_cons] at h
    cases i with
    | zero =>
      rw [List.getElem?_cons_zero] at h
      injection h with h
      exact ⟨c, rfl, h.symm⟩
    | succ i =>
      rw [List.getElem?_cons_succ] at h
      obtain ⟨c', h1, h2⟩ := ih h
      refine ⟨c', by rw [List.getElem?_cons_succ]; exact h1, ?_⟩
      rw [List.take_succ_cons, List.reverse_cons, List.append_assoc, List.singleton_append, List.drop_succ_cons]
      exact h2
theorem settle_at {i : Nat} {x : Int} (h : (settle lv f g l)[i]? = some x) : ∃ c, l[i]? = some c ∧ x = if neu c then nat (own lv) f g (l.take i).reverse (l.drop (i + 1)) else c := by
  obtain ⟨c, h1, h2⟩ := sgo_at h
  rw [List.append_nil] at h2
  exact ⟨c, h1, h2⟩
/-- P12.2. -/
theorem settle_none {i : Nat} {x : Int} (hf : f = 0 ∨ f = 1) (h : (settle lv f g l)[i]? = some x) : ∃ c, l[i]? = some c ∧ ¬ neu x ∧ (¬ neu c → x = c) ∧ (neu c → x = 0 ∨ x = 1) := by
  obtain ⟨c, hc, hx⟩ := settle_at h
  by_cases hn : neu c
  · rw [if_pos hn] at hx
    have := nat_or (o := own lv) (f := f) (g := g) (p := (l.take i).reverse) (q := l.drop (i + 1)) (own_or lv) hf
    rw [← hx] at this
    exact ⟨c, hc, not_neu this, fun h => absurd hn h, fun _ => this⟩
  · rw [if_neg hn] at hx
    exact ⟨c, hc, by rw [hx]; exact hn, fun _ => hx, fun h => absurd h hn⟩
theorem sgo_id (h : ∀ c ∈ q, ¬ neu c) : sgo o f g p q = q := by
  induction q generalizing p with
  | nil => rfl
  | cons c q ih => rw [sgo_cons, if_neg (h c (by simp)), ih fun x hx => h x (by simp [hx])]
theorem settle_again {lv' f' g' : Int} (hf : f = 0 ∨ f = 1) : settle lv' f' g' (settle lv f g l) = settle lv f g l := by
  refine sgo_id fun c hc => ?_
  obtain ⟨i, hi⟩ := List.mem_iff_getElem?.1 hc
  exact (settle_none hf hi).choose_spec.2.1
/-- Of two places that stand alike from both ends. -/
theorem nat_turn : nat o f g p q = nat o g f q p := by
  unfold nat
  by_cases h : sa f p = sa g q ∧ sa f p ≠ 10
  · rw [if_pos h, if_pos ⟨h.1.symm, by rw [← h.1]; exact h.2⟩, h.1]
  · rw [if_neg h, if_neg fun h' => h ⟨h'.1.symm, by rw [← h'.1]; exact h'.2⟩]
/-- P12.3. -/
theorem settle_turn : settle lv g f l.reverse = (settle lv f g l).reverse := by
  refine List.ext_getElem? fun i => ?_
  by_cases hi : i < l.length
  · obtain ⟨x, hx⟩ : ∃ x, (settle lv g f l.reverse)[i]? = some x := ⟨_, List.getElem?_eq_getElem (by rw [settle_len, List.length_reverse]; exact hi)⟩
    obtain ⟨y, hy⟩ : ∃ y, (settle lv f g l)[l.length - 1 - i]? = some y := ⟨_, List.getElem?_eq_getElem (by rw [settle_len]; omega)⟩
    have hr : (settle lv f g l).reverse[i]? = some y := by
      rw [List.getElem?_reverse (by rw [settle_len]; exact hi), settle_len]
      exact hy
    rw [hx, hr]
    obtain ⟨c, hc, hx2⟩ := settle_at hx
    obtain ⟨d, hd, hy2⟩ := settle_at hy
    rw [List.getElem?_reverse hi, hd] at hc
    injection hc with hc
    subst hc
    rw [hx2, hy2]
    have e1 : (l.reverse.take i).reverse = l.drop (l.length - 1 - i + 1) := by
      rw [List.take_reverse, List.reverse_reverse]
      congr 1
      omega
    have e2 : l.reverse.drop (i + 1) = (l.take (l.length - 1 - i)).reverse := by
      rw [List.drop_reverse]
      congr 2
      omega
    rw [e1, e2, nat_turn]
  · rw [List.getElem?_eq_none (by rw [settle_len, List.length_reverse]; omega), List.getElem?_eq_none (by rw [List.length_reverse, settle_len]; omega)]
theorem sa_app {u : List Int} {s : Int} (hs : s = 0 ∨ s = 1) : sa f (u ++ s :: p) = sa s u := by
  induction u with
  | nil =>
    rw [List.nil_append, sa_cons, if_neg (not_neu hs)]
    unfold sd2 sa
    (repeat' split) <;> omega
  | cons x r ih => rw [List.cons_append, sa_cons, sa_cons, ih]
theorem sgo_ahead {y : List Int} {s : Int} (hs : s = 0 ∨ s = 1) : sgo o f g p (y ++ [s] ++ r) = sgo o f s p (y ++ [s]) ++ sgo o f g ((y ++ [s]).reverse ++ p) r := by
  induction y generalizing p with
  | nil => rw [List.nil_append, List.singleton_append, sgo_cons, sgo_cons, if_neg (not_neu hs), if_neg (not_neu hs)]; rfl
  | cons c y ih =>
    have e : nat o f g p (y ++ [s] ++ r) = nat o f s p (y ++ [s]) := by
      unfold nat
      rw [List.append_assoc, List.singleton_append, sa_app hs, sa_app hs]
    rw [List.cons_append, List.cons_append, sgo_cons, sgo_cons, e, ih]
    simp only [List.cons_append, List.reverse_cons, List.append_assoc, List.nil_append]
theorem sgo_behind {u z : List Int} {s : Int} (hs : s = 0 ∨ s = 1) : sgo o f g (u ++ s :: p) z = sgo o s g u z := by
  induction z generalizing u with
  | nil => rfl
  | cons c q ih =>
    have e : nat o f g (u ++ s :: p) q = nat o s g u q := by
      unfold nat
      rw [sa_app hs]
    rw [sgo_cons, sgo_cons, e]
    congr 1
    exact ih (u := c :: u)
/-- P12.1, of two parts, the first of which ends in an L or R. -/
theorem settle_apart {y z : List Int} {s : Int} (hs : s = 0 ∨ s = 1) : settle lv f g (y ++ [s] ++ z) = settle lv f s (y ++ [s]) ++ settle lv s g z := by
  unfold settle
  rw [sgo_ahead hs]
  congr 1
  rw [List.reverse_append, List.append_nil]
  exact sgo_behind (u := []) hs
/-- A level, and whether it is odd. -/
theorem rs_is {lv c : Int} : lv ≤ rs lv c ∧ rs lv c ≤ lv + 2 ∧ ((c = 0 ∨ c = 3 ∨ c = 6) → rs lv c % 2 = 0) ∧ (c = 1 → rs lv c % 2 = 1) := by
  unfold rs
  refine ⟨?_, ?_, ?_, ?_⟩
  all_goals (repeat' split) <;> omega
end
end Go.Proofs.Ytjoiinpkkaigdaa.M
