/- What each of the seven rules makes of a list of classes, as plain functions on lists of whole numbers, and what all make. No program is read here. -/
namespace Go.Proofs.Ytanlclmlkpchfaa.M

/-- The nearest strong one among what stands ahead (nearest first); the first side, if there is none. -/
def stg (f : Int) : List Int → Int
  | [] => f
  | x :: r => if x = 0 ∨ x = 1 ∨ x = 2 then x else stg f r
def iso (c : Int) : Prop := c = 19 ∨ c = 20 ∨ c = 21 ∨ c = 22
instance (c : Int) : Decidable (iso c) := by unfold iso; infer_instance
/-- Is the first one that is no ET an EN? -/
def en5 : List Int → Bool
  | [] => false
  | x :: r => if x = 5 then en5 r else decide (x = 3)
/-- What a separator becomes. -/
def sep (o : List Int) (c : Int) (q : List Int) : Int := match o, q with
  | a :: _, b :: _ => if a = b ∧ (a = 3 ∨ c = 7 ∧ a = 6) then a else c
  | _, _ => c
/-- What a rule makes of one place: p stands ahead of it as it was, o as it is made (both nearest first), q behind it. -/
def wat (n f : Int) (p o : List Int) (c : Int) (q : List Int) : Int :=
  if n = 1 ∧ c = 8 then (match o with | [] => f | a :: _ => if iso a then 13 else a)
  else if n = 2 ∧ c = 3 ∧ stg f p = 2 then 6
  else if n = 3 ∧ c = 2 then 1
  else if n = 4 ∧ (c = 4 ∨ c = 7) then sep o c q
  else if n = 5 ∧ c = 5 ∧ (en5 p = true ∨ en5 q = true) then 3
  else if n = 6 ∧ (c = 4 ∨ c = 5 ∨ c = 7) then 13
  else if n = 7 ∧ c = 3 ∧ stg f p = 0 then 0
  else c
def wgo (n f : Int) : List Int → List Int → List Int → List Int
  | _, _, [] => []
  | p, o, c :: q => wat n f p o c q :: wgo n f (c :: p) (wat n f p o c q :: o) q
/-- What a rule alone makes. -/
def wrule (n f : Int) (l : List Int) : List Int := wgo n f [] [] l
/-- What all make, one behind the other. -/
def wall (f : Int) (l : List Int) : List Int := wrule 7 f (wrule 6 f (wrule 5 f (wrule 4 f (wrule 3 f (wrule 2 f (wrule 1 f l))))))
section
variable {n f : Int} {p o q l r : List Int}
theorem wgo_len : (wgo n f p o q).length = q.length := by
  induction q generalizing p o with
  | nil => rfl
  | cons c q ih => unfold wgo; rw [List.length_cons, ih, List.length_cons]
theorem wrule_len : (wrule n f l).length = l.length := wgo_len
theorem wall_len : (wall f l).length = l.length := by unfold wall; simp only [wrule_len]
/-- What the first k rules make, one behind the other. -/
def wto (f : Int) : Nat → List Int → List Int
  | 0, l => l
  | k + 1, l => wrule ((k : Int) + 1) f (wto f k l)
theorem wto_len {k : Nat} : (wto f k l).length = l.length := by
  induction k with
  | zero => rfl
  | succ k ih => unfold wto; rw [wrule_len, ih]
theorem wto_all : wto f 7 l = wall f l := rfl
theorem stg_cons (f x : Int) (r : List Int) : stg f (x :: r) = if x = 0 ∨ x = 1 ∨ x = 2 then x else stg f r := rfl
theorem en5_cons (x : Int) (r : List Int) : en5 (x :: r) = if x = 5 then en5 r else decide (x = 3) := rfl
theorem wgo_cons (n f : Int) (p o : List Int) (c : Int) (q : List Int) : wgo n f p o (c :: q) = wat n f p o c q :: wgo n f (c :: p) (wat n f p o c q :: o) q := rfl
theorem sep_cons (a c b : Int) (o q : List Int) : sep (a :: o) c (b :: q) = if a = b ∧ (a = 3 ∨ c = 7 ∧ a = 6) then a else c := rfl
theorem sep_no (o : List Int) (c : Int) : sep o c [] = c := by cases o <;> rfl
theorem sep_no0 (c : Int) (q : List Int) : sep [] c q = c := by cases q <;> rfl
/-- An L and an R stay. -/
theorem wat_strong {s : Int} (hs : s = 0 ∨ s = 1) : wat n f p o s q = s := by
  unfold wat
  rw [if_neg (by omega), if_neg (by omega), if_neg (by omega), if_neg (by omega), if_neg (by omega), if_neg (by omega), if_neg (by omega)]
theorem stg_app {u : List Int} {s : Int} (hs : s = 0 ∨ s = 1) : stg f (u ++ s :: p) = stg s u := by
  induction u with
  | nil => rw [List.nil_append, stg_cons, if_pos (by omega)]; rfl
  | cons x r ih => rw [List.cons_append, stg_cons, stg_cons, ih]
theorem en5_app {u : List Int} {s : Int} (hs : s = 0 ∨ s = 1) : en5 (u ++ s :: p) = en5 u := by
  induction u with
  | nil => rw [List.nil_append, en5_cons, if_neg (by omega), decide_eq_false (by omega)]; rfl
  | cons x r ih => rw [List.cons_append, en5_cons, en5_cons, ih]
theorem en5_end {u : List Int} {s : Int} (hs : s = 0 ∨ s = 1) : en5 (u ++ [s] ++ p) = en5 (u ++ [s]) := by
  rw [List.append_assoc, List.singleton_append, en5_app hs, en5_app hs]
theorem sep_end {u : List Int} {s c : Int} : sep o c (u ++ [s] ++ p) = sep o c (u ++ [s]) := by
  cases o with
  | nil => rw [sep_no0, sep_no0]
  | cons a o => cases u <;> rfl
/-- What stands behind an L or R is nothing to what stands ahead of it. -/
theorem wgo_ahead {y : List Int} {s : Int} (hs : s = 0 ∨ s = 1) : wgo n f p o (y ++ [s] ++ r) = wgo n f p o (y ++ [s]) ++ wgo n f ((y ++ [s]).reverse ++ p) ((wgo n f p o (y ++ [s])).reverse ++ o) r := by
  induction y generalizing p o with
  | nil =>
    rw [List.nil_append, List.singleton_append, wgo_cons, wgo_cons, wat_strong hs, wat_strong hs]
    rfl
  | cons c y ih =>
    have e : wat n f p o c (y ++ [s] ++ r) = wat n f p o c (y ++ [s]) := by
      unfold wat
      rw [en5_end hs, sep_end]
    rw [List.cons_append, List.cons_append, wgo_cons, wgo_cons, e, ih]
    simp only [List.cons_append, List.reverse_cons, List.append_assoc, List.nil_append]
/-- What stands ahead of an L or R is nothing to what stands behind it, but for an NSM right there. -/
theorem wgo_behind {u v z : List Int} {s : Int} (hs : s = 0 ∨ s = 1) (huv : u = [] ↔ v = []) (h8 : n = 1 → u = [] → z.head? ≠ some 8) : wgo n f (u ++ s :: p) (v ++ s :: o) z = wgo n s u v z := by
  induction z generalizing u v with
  | nil => rfl
  | cons c q ih =>
    have e : wat n f (u ++ s :: p) (v ++ s :: o) c q = wat n s u v c q := by
      unfold wat
      rw [stg_app hs, en5_app hs]
      cases v with
      | cons a v =>
        have hsep : sep (a :: v ++ s :: o) c q = sep (a :: v) c q := by
          cases q <;> rfl
        rw [hsep]
        rfl
      | nil =>
        have hc : ¬ (n = 1 ∧ c = 8) := fun h => h8 h.1 (huv.2 rfl) (by rw [h.2]; rfl)
        have hsep : sep ([] ++ s :: o) c q = sep [] c q := by
          cases q with
          | nil => rfl
          | cons b q =>
            unfold sep
            rw [List.nil_append]
            dsimp only
            rw [if_neg (by omega)]
        rw [if_neg hc, if_neg hc, hsep]
    rw [wgo, wgo, e]
    congr 1
    exact ih (u := c :: u) (v := wat n s u v c q :: v) (by simp) (fun _ h => by cases h)
theorem wgo_ends {y : List Int} {s : Int} (hs : s = 0 ∨ s = 1) : ∃ x, wgo n f p o (y ++ [s]) = x ++ [s] := by
  induction y generalizing p o with
  | nil => exact ⟨[], by simp [wgo, wat_strong hs]⟩
  | cons c y ih =>
    obtain ⟨x, hx⟩ := ih (p := c :: p) (o := wat n f p o c (y ++ [s]) :: o)
    exact ⟨_ :: x, by rw [List.cons_append, wgo, hx]; rfl⟩
/-- P10.1: of two parts, the first of which ends in an L or R. -/
theorem wrule_apart {y z : List Int} {s : Int} (hs : s = 0 ∨ s = 1) (h8 : n = 1 → z.head? ≠ some 8) : ∃ x, wrule n f (y ++ [s]) = x ++ [s] ∧ wrule n f (y ++ [s] ++ z) = x ++ [s] ++ wrule n s z := by
  obtain ⟨x, hx⟩ := wgo_ends (n := n) (f := f) (p := []) (o := []) (y := y) hs
  refine ⟨x, hx, ?_⟩
  unfold wrule
  rw [wgo_ahead hs, hx]
  congr 1
  rw [List.reverse_append, List.reverse_append, List.append_nil, List.append_nil]
  exact wgo_behind (u := []) (v := []) hs (by simp) (fun h _ => h8 h)
theorem wto_apart {y z : List Int} {s : Int} (hs : s = 0 ∨ s = 1) (h8 : z.head? ≠ some 8) (k : Nat) : ∃ x, wto f k (y ++ [s]) = x ++ [s] ∧ wto f k (y ++ [s] ++ z) = x ++ [s] ++ wto s k z := by
  induction k with
  | zero => exact ⟨y, rfl, rfl⟩
  | succ k ih =>
    obtain ⟨x, h1, h2⟩ := ih
    unfold wto
    rw [h1, h2]
    exact wrule_apart hs (fun h => by
      obtain rfl : k = 0 := by omega
      exact h8)
theorem wall_apart {y z : List Int} {s : Int} (hs : s = 0 ∨ s = 1) (h8 : z.head? ≠ some 8) : wall f (y ++ [s] ++ z) = wall f (y ++ [s]) ++ wall s z := by
  obtain ⟨x, h1, h2⟩ := wto_apart (f := f) (y := y) (z := z) hs h8 7
  rw [wto_all, wto_all] at h2
  rw [wto_all] at h1
  rw [h2, h1]
/-- A place of what a rule makes. -/
theorem wgo_at {i : Nat} {x : Int} (h : (wgo n f p o q)[i]? = some x) : ∃ p' o' c q', q[i]? = some c ∧ x = wat n f p' o' c q' := by
  induction q generalizing p o i with
  | nil => simp [wgo] at h
  | cons c q ih =>
    rw [wgo] at h
    cases i with
    | zero =>
      rw [List.getElem?_cons_zero] at h
      injection h with h
      exact ⟨p, o, c, q, rfl, h.symm⟩
    | succ i =>
      rw [List.getElem?_cons_succ] at h ⊢
      exact ih h
theorem wrule_at {i : Nat} {x : Int} (h : (wrule n f l)[i]? = some x) : ∃ p' o' c q', l[i]? = some c ∧ x = wat n f p' o' c q' := wgo_at h
theorem sep_or {o q : List Int} {c : Int} : sep o c q = c ∨ sep o c q = 3 ∨ sep o c q = 6 := by
  unfold sep
  split
  · split
    · rename_i h
      omega
    · exact .inl rfl
  · exact .inl rfl
/-- What a rule but the first can make of a class. -/
theorem wat_or {c : Int} (hn : n ≠ 1) : wat n f p o c q = c ∨ wat n f p o c q = 6 ∨ wat n f p o c q = 1 ∨ wat n f p o c q = 3 ∨ wat n f p o c q = 13 ∨ wat n f p o c q = 0 := by
  unfold wat
  rw [if_neg (by omega)]
  have := sep_or (o := o) (q := q) (c := c)
  repeat' split
  all_goals omega
/-- Behind the first rule there is no NSM. -/
theorem w1_no {i : Nat} {x : Int} (hf : f ≠ 8) (ho : o.head? ≠ some 8) (h : (wgo 1 f p o q)[i]? = some x) : x ≠ 8 := by
  induction q generalizing p o i with
  | nil => simp [wgo] at h
  | cons c q ih =>
    rw [wgo] at h
    have hw : wat 1 f p o c q ≠ 8 := by
      unfold wat
      split
      · cases o with
        | nil => exact hf
        | cons a o =>
          dsimp only
          split
          · omega
          · intro e
            subst e
            exact ho rfl
      · rw [if_neg (by omega), if_neg (by omega), if_neg (by omega), if_neg (by omega), if_neg (by omega), if_neg (by omega)]
        omega
    cases i with
    | zero =>
      rw [List.getElem?_cons_zero] at h
      injection h with h
      rw [← h]
      exact hw
    | succ i =>
      rw [List.getElem?_cons_succ] at h
      exact ih (p := c :: p) (o := wat 1 f p o c q :: o) (by intro e; injection e with e; exact hw e) h
/-- What is left of a class, behind the first rules. -/
theorem wto_left {k i : Nat} {x : Int} (hf : f = 0 ∨ f = 1) (h : (wto f k l)[i]? = some x) :
    ∃ c, l[i]? = some c ∧ (1 ≤ k → x ≠ 8) ∧ (3 ≤ k → x ≠ 2) ∧ (6 ≤ k → x ≠ 4 ∧ x ≠ 5 ∧ x ≠ 7) ∧ (c = 2 → (k < 3 → x = 2) ∧ (3 ≤ k → x = 1)) ∧ (c ≠ 2 → c ≠ 8 → c ≠ 3 → c ≠ 4 → c ≠ 5 → c ≠ 7 → x = c) := by
  induction k generalizing x with
  | zero => exact ⟨x, h, by omega, by omega, by omega, fun h => ⟨fun _ => h, by omega⟩, fun _ _ _ _ _ _ => rfl⟩
  | succ k ih =>
    have h8 : x ≠ 8 := by
      unfold wto at h
      by_cases hk : k = 0
      · subst hk
        exact w1_no (by omega) (by simp) h
      · obtain ⟨p', o', c', q', hc', hx⟩ := wrule_at h
        obtain ⟨_, _, h1, _⟩ := ih hc'
        have := h1 (by omega)
        have := wat_or (n := (k : Int) + 1) (f := f) (p := p') (o := o') (c := c') (q := q') (by omega)
        omega
    unfold wto at h
    obtain ⟨p', o', c', q', hc', hx⟩ := wrule_at h
    obtain ⟨c, hc, h1, h2, h3, h4, h5⟩ := ih hc'
    have hs := sep_or (o := o') (c := c') (q := q')
    have hor := wat_or (n := (k : Int) + 1) (f := f) (p := p') (o := o') (c := c') (q := q')
    have hst : c' ≠ 8 → c' ≠ 3 → c' ≠ 2 → c' ≠ 4 → c' ≠ 7 → c' ≠ 5 → x = c' := fun _ _ _ _ _ _ => by
      rw [hx]
      unfold wat
      rw [if_neg (by omega), if_neg (by omega), if_neg (by omega), if_neg (by omega), if_neg (by omega), if_neg (by omega), if_neg (by omega)]
    have h2' : c' = 2 → (k = 2 → x = 1) ∧ (k ≠ 2 → x = 2) := fun he => by
      subst he
      constructor
      · intro hk
        subst hk
        rw [hx]
        unfold wat
        rw [if_neg (by omega), if_neg (by omega), if_pos (by omega)]
      · intro hk
        rw [hx]
        unfold wat
        rw [if_neg (by omega), if_neg (by omega), if_neg (by omega), if_neg (by omega), if_neg (by omega), if_neg (by omega), if_neg (by omega)]
    have h6 : k = 5 → x ≠ 4 ∧ x ≠ 5 ∧ x ≠ 7 := fun hk => by
      subst hk
      rw [hx]
      unfold wat
      rw [if_neg (by omega), if_neg (by omega), if_neg (by omega), if_neg (by omega), if_neg (by omega)]
      split
      · omega
      · rw [if_neg (by omega)]
        omega
    refine ⟨c, hc, fun _ => h8, fun hk => ?_, fun hk => ?_, fun he => ⟨fun hk => ?_, fun hk => ?_⟩, fun a1 a2 a3 a4 a5 a6 => ?_⟩
    · by_cases he : c' = 2
      · have := h2' he
        by_cases hk2 : k = 2
        · omega
        · exact absurd he (h2 (by omega))
      · have := hor (by omega)
        omega
    · by_cases hk5 : k = 5
      · exact h6 hk5
      · have := h3 (by omega)
        have := hor (by omega)
        omega
    · have := (h4 he).1 (by omega)
      exact (h2' this).2 (by omega)
    · by_cases hk2 : k = 2
      · have := (h4 he).1 (by omega)
        exact (h2' this).1 hk2
      · have := (h4 he).2 (by omega)
        rw [← this]
        exact hst (by omega) (by omega) (by omega) (by omega) (by omega) (by omega)
    · have := h5 a1 a2 a3 a4 a5 a6
      rw [← this]
      exact hst (by omega) (by omega) (by omega) (by omega) (by omega) (by omega)
/-- P10.2, P10.3: what all make. -/
theorem wall_left {i : Nat} {x : Int} (hf : f = 0 ∨ f = 1) (h : (wall f l)[i]? = some x) :
    ∃ c, l[i]? = some c ∧ x ≠ 8 ∧ x ≠ 2 ∧ x ≠ 4 ∧ x ≠ 5 ∧ x ≠ 7 ∧ (c = 2 → x = 1) ∧ (c ≠ 2 → c ≠ 8 → c ≠ 3 → c ≠ 4 → c ≠ 5 → c ≠ 7 → x = c) := by
  obtain ⟨c, hc, h1, h2, h3, h4, h5⟩ := wto_left (k := 7) hf h
  have h3 := h3 (by omega)
  exact ⟨c, hc, h1 (by omega), h2 (by omega), h3.1, h3.2.1, h3.2.2, fun he => (h4 he).2 (by omega), h5⟩
/-- Where no place turns, the list stays. -/
theorem wgo_id (h : ∀ q1 c q2, q = q1 ++ c :: q2 → wat n f (q1.reverse ++ p) (q1.reverse ++ p) c q2 = c) : wgo n f p p q = q := by
  induction q generalizing p with
  | nil => rfl
  | cons c q ih =>
    have e := h [] c q rfl
    rw [List.reverse_nil, List.nil_append] at e
    rw [wgo, e, ih fun q1 c1 q2 hq => ?_]
    have := h (c :: q1) c1 q2 (by rw [hq]; rfl)
    rw [List.reverse_cons, List.append_assoc, List.singleton_append] at this
    exact this
theorem stg_no2 (hf : f ≠ 2) (h : ∀ x ∈ p, x ≠ 2) : stg f p ≠ 2 := by
  induction p with
  | nil => exact hf
  | cons x r ih =>
    unfold stg
    split
    · exact h x (by simp)
    · exact ih fun y hy => h y (by simp [hy])
/-- Behind the last rule no EN has an L as its nearest. -/
theorem w7_no (hs : stg f o = stg f p) {x1 x2 : List Int} (h : wgo 7 f p o q = x1 ++ 3 :: x2) : stg f (x1.reverse ++ o) ≠ 0 := by
  induction q generalizing p o x1 with
  | nil => cases x1 <;> simp [wgo] at h
  | cons c q ih =>
    rw [wgo] at h
    have hw : wat 7 f p o c q = if c = 3 ∧ stg f p = 0 then 0 else c := by
      unfold wat
      rw [if_neg (by omega), if_neg (by omega), if_neg (by omega), if_neg (by omega), if_neg (by omega), if_neg (by omega)]
      by_cases hc : c = 3 ∧ stg f p = 0
      · rw [if_pos ⟨rfl, hc.1, hc.2⟩, if_pos hc]
      · rw [if_neg fun e => hc e.2, if_neg hc]
    cases x1 with
    | nil =>
      rw [List.nil_append] at h
      injection h with h1 _
      rw [hw] at h1
      rw [List.reverse_nil, List.nil_append, hs]
      intro e
      split at h1
      · omega
      · rename_i hc
        exact hc ⟨h1, e⟩
    | cons a x1 =>
      rw [List.cons_append] at h
      injection h with h1 h2
      subst h1
      have := ih (p := c :: p) (o := wat 7 f p o c q :: o) (by
        rw [hw]
        by_cases hc : c = 3 ∧ stg f p = 0
        · rw [if_pos hc, stg, if_pos (by omega), stg, if_neg (by omega), hc.2]
        · rw [if_neg hc, stg, stg, hs]) h2
      rw [List.reverse_cons, List.append_assoc, List.singleton_append]
      exact this
/-- What all make is made again. -/
theorem wall_again (hf : f = 0 ∨ f = 1) : wall f (wall f l) = wall f l := by
  obtain ⟨X, hX⟩ : ∃ X, wall f l = X := ⟨_, rfl⟩
  have hno : ∀ x ∈ X, x ≠ 8 ∧ x ≠ 2 ∧ x ≠ 4 ∧ x ≠ 5 ∧ x ≠ 7 := fun x hx => by
    obtain ⟨i, hi⟩ := List.mem_iff_getElem?.1 hx
    rw [← hX] at hi
    obtain ⟨c, _, h1, h2, h3, h4, h5, _⟩ := wall_left hf hi
    exact ⟨h1, h2, h3, h4, h5⟩
  have h7 : ∀ q1 q2, X = q1 ++ 3 :: q2 → stg f q1.reverse ≠ 0 := fun q1 q2 hq => by
    rw [← hX] at hq
    have := w7_no (o := []) (p := []) rfl hq
    rwa [List.append_nil] at this
  have hid : ∀ k : Nat, wto f k X = X := fun k => by
    induction k with
    | zero => rfl
    | succ k ih =>
      unfold wto
      rw [ih]
      refine wgo_id fun q1 c q2 hq => ?_
      have hc := hno c (by rw [hq]; simp)
      rw [List.append_nil]
      have hs2 : stg f q1.reverse ≠ 2 := stg_no2 (by omega) fun y hy => (hno y (by rw [hq]; simp at hy; simp [hy])).2.1
      unfold wat
      rw [if_neg (by omega), if_neg (by omega), if_neg (by omega), if_neg (by omega), if_neg (by omega), if_neg (by omega)]
      refine if_neg fun h => ?_
      obtain ⟨_, h3, h0⟩ := h
      subst h3
      exact h7 q1 q2 hq h0
  rw [hX]
  exact hid 7
end
end Go.Proofs.Ytanlclmlkpchfaa.M
