/- In which order places are seen, level by level, as plain functions on lists of places: stretches turned round, each place once, two more, one behind the other. No program is read here. -/
namespace Go.Proofs.Ytahjkndphkpieaa.M

/-- Each stretch of places that p holds of, as long as may be, turned round; acc is the one at hand, turned round. -/
def fgo {α : Type} (p : α → Bool) : List α → List α → List α
  | acc, [] => acc
  | acc, x :: r => if p x then fgo p (x :: acc) r else acc ++ x :: fgo p [] r
def flip {α : Type} (p : α → Bool) (l : List α) : List α := fgo p [] l
/-- For each level from n down to 1. -/
def ord {α : Type} (f : α → Int) : Nat → List α → List α
  | 0, l => l
  | n + 1, l => ord f n (flip (fun x => decide (((n : Int) + 1) ≤ f x)) l)
section
variable {α β : Type} {p q : α → Bool} {f : α → Int} {l a b r acc : List α} {x y : α}
theorem fgo_cons (p : α → Bool) (acc : List α) (x : α) (r : List α) : fgo p acc (x :: r) = if p x then fgo p (x :: acc) r else acc ++ x :: fgo p [] r := rfl
theorem ord_succ (f : α → Int) (n : Nat) (l : List α) : ord f (n + 1) l = ord f n (flip (fun x => decide (((n : Int) + 1) ≤ f x)) l) := rfl
theorem fgo_len : (fgo p acc l).length = acc.length + l.length := by
  induction l generalizing acc with
  | nil => rfl
  | cons x r ih =>
    rw [fgo_cons]
    split
    · rw [ih, List.length_cons, List.length_cons]; omega
    · rw [List.length_append, List.length_cons, ih, List.length_cons, List.length_nil]; omega
theorem flip_len : (flip p l).length = l.length := by unfold flip; rw [fgo_len, List.length_nil, Nat.zero_add]
theorem ord_len {n : Nat} : (ord f n l).length = l.length := by
  induction n generalizing l with
  | zero => rfl
  | succ n ih => rw [ord_succ, ih, flip_len]
theorem fgo_perm : (fgo p acc l).Perm (acc ++ l) := by
  induction l generalizing acc with
  | nil => rw [List.append_nil]; exact .refl _
  | cons x r ih =>
    rw [fgo_cons]
    split
    · exact ih.trans (by rw [List.cons_append]; exact List.perm_middle.symm)
    · exact (List.Perm.append_left acc ((ih (acc := [])).cons x))
theorem flip_perm : (flip p l).Perm l := fgo_perm
theorem ord_perm {n : Nat} : (ord f n l).Perm l := by
  induction n generalizing l with
  | zero => exact .refl _
  | succ n ih => exact ih.trans flip_perm
/-- One that p does not hold of parts a list. -/
theorem fgo_at (hx : p x = false) : fgo p acc (a ++ x :: b) = fgo p acc a ++ x :: flip p b := by
  induction a generalizing acc with
  | nil =>
    rw [List.nil_append, fgo_cons, hx]
    rfl
  | cons y a ih =>
    rw [List.cons_append, fgo_cons, fgo_cons]
    split
    · exact ih
    · rw [ih, List.append_assoc, List.cons_append]
theorem flip_at (hx : p x = false) : flip p (a ++ x :: b) = flip p a ++ x :: flip p b := fgo_at hx
theorem ord_at {n : Nat} (hx : f x ≤ 0) : ord f n (a ++ x :: b) = ord f n a ++ x :: ord f n b := by
  induction n generalizing a b with
  | zero => rfl
  | succ n ih =>
    rw [ord_succ, flip_at (by simp; omega), ih]
    rfl
/-- Two beside one another that p tells alike stay so. -/
theorem fgo_two (h : p x = p y) : ∃ c d, fgo p acc (a ++ x :: y :: b) = c ++ (if p x then [y, x] else [x, y]) ++ d := by
  induction a generalizing acc with
  | nil =>
    rw [List.nil_append, fgo_cons, fgo_cons, fgo_cons, ← h]
    cases hx : p x with
    | false => exact ⟨acc, fgo p [] b, by simp⟩
    | true =>
      have : ∀ (s : List α) (l : List α), ∃ c d, fgo p (s ++ y :: x :: acc) l = c ++ [y, x] ++ d := by
        intro s l
        induction l generalizing s with
        | nil => exact ⟨s, acc, by simp [fgo]⟩
        | cons z l ih =>
          rw [fgo_cons]
          split
          · exact ih (z :: s)
          · exact ⟨s, acc ++ z :: fgo p [] l, by simp⟩
      obtain ⟨c, d, e⟩ := this [] b
      exact ⟨c, d, by simpa using e⟩
  | cons z a ih =>
    rw [List.cons_append, fgo_cons]
    split
    · exact ih
    · obtain ⟨c, d, e⟩ := ih (acc := [])
      exact ⟨acc ++ z :: c, d, by rw [e]; simp⟩
theorem ord_two {n k : Nat} (hx : f x = k) (hy : f y = k) (hk : k ≤ n) : ∃ c d, ord f n (a ++ x :: y :: b) = c ++ (if k % 2 = 1 then [y, x] else [x, y]) ++ d := by
  induction n generalizing a b x y with
  | zero =>
    obtain rfl : k = 0 := by omega
    exact ⟨a, b, by simp [ord]⟩
  | succ n ih =>
    rw [ord_succ]
    by_cases hkn : k = n + 1
    · -- from here on each turn turns them
      have : ∀ (m : Nat) (u v : α) (s t : List α), f u = k → f v = k → m ≤ k → ∃ c d, ord f m (s ++ u :: v :: t) = c ++ (if m % 2 = 1 then [v, u] else [u, v]) ++ d := by
        intro m
        induction m with
        | zero => intro u v s t _ _ _; exact ⟨s, t, by simp [ord]⟩
        | succ m ihm =>
          intro u v s t hu hv hm
          obtain ⟨c, d, e⟩ := fgo_two (p := fun z => decide (((m : Int) + 1) ≤ f z)) (acc := []) (a := s) (b := t) (x := u) (y := v) (by simp only [hu, hv])
          rw [ord_succ]
          unfold flip
          rw [e, if_pos (by simp only [hu, decide_eq_true_eq]; omega)]
          obtain ⟨c', d', e'⟩ := ihm v u c d hv hu (by omega)
          refine ⟨c', d', ?_⟩
          have : c ++ [v, u] ++ d = c ++ v :: u :: d := by simp
          rw [this, e']
          rcases Nat.mod_two_eq_zero_or_one m with h | h
          · rw [if_neg (by omega), if_pos (by omega)]
          · rw [if_pos h, if_neg (by omega)]
      have h := this (n + 1) x y a b hx hy (by omega)
      rw [ord_succ] at h
      rw [hkn]
      exact h
    · obtain ⟨c, d, e⟩ := fgo_two (p := fun z => decide (((n : Int) + 1) ≤ f z)) (acc := []) (a := a) (b := b) (x := x) (y := y) (by simp only [hx, hy])
      unfold flip
      rw [e, if_neg (by simp only [hx, decide_eq_true_eq]; omega)]
      obtain ⟨c', d', e'⟩ := ih (a := c) (b := d) hx hy (by omega)
      refine ⟨c', d', ?_⟩
      rw [← e']
      simp
theorem fgo_all (h : ∀ x ∈ l, p x = true) : fgo p acc l = l.reverse ++ acc := by
  induction l generalizing acc with
  | nil => rfl
  | cons x r ih => rw [fgo_cons, if_pos (h x (by simp)), ih fun y hy => h y (by simp [hy]), List.reverse_cons, List.append_assoc, List.singleton_append]
theorem flip_all (h : ∀ x ∈ l, p x = true) : flip p l = l.reverse := by unfold flip; rw [fgo_all h, List.append_nil]
theorem fgo_none (h : ∀ x ∈ l, p x = false) : fgo p [] l = l := by
  induction l with
  | nil => rfl
  | cons x r ih => rw [fgo_cons, if_neg (by rw [h x (by simp)]; decide), ih fun y hy => h y (by simp [hy]), List.nil_append]
theorem flip_none (h : ∀ x ∈ l, p x = false) : flip p l = l := fgo_none h
/-- Levels above all of them turn nothing. -/
theorem ord_over {n k : Nat} (h : ∀ x ∈ l, f x ≤ n) : ord f (n + k) l = ord f n l := by
  induction k with
  | zero => rfl
  | succ k ih =>
    rw [← Nat.add_assoc, ord_succ, flip_none fun x hx => ?_, ih]
    have := h x hx
    simp only [decide_eq_false_iff_not]
    omega
theorem ord_congr {g : α → Int} {n : Nat} (h : ∀ x ∈ l, f x = g x) : ord f n l = ord g n l := by
  induction n generalizing l with
  | zero => rfl
  | succ n ih =>
    rw [ord_succ, ord_succ]
    have e : flip (fun x => decide (((n : Int) + 1) ≤ f x)) l = flip (fun x => decide (((n : Int) + 1) ≤ g x)) l := by
      have : ∀ (acc l : List α), (∀ x ∈ l, f x = g x) → fgo (fun x => decide (((n : Int) + 1) ≤ f x)) acc l = fgo (fun x => decide (((n : Int) + 1) ≤ g x)) acc l := by
        intro acc l
        induction l generalizing acc with
        | nil => intro _; rfl
        | cons x r ih2 =>
          intro hh
          rw [fgo_cons, fgo_cons, hh x (by simp), ih2 _ fun y hy => hh y (by simp [hy]), ih2 _ fun y hy => hh y (by simp [hy])]
      exact this [] l h
    rw [e]
    exact ih fun x hx => h x (flip_perm.mem_iff.1 hx)
/-- One more on all levels turns all round. -/
theorem ord_more {n : Nat} (h : ∀ x ∈ l, 0 ≤ f x) : ord (fun x => f x + 1) (n + 1) l = (ord f n l).reverse := by
  induction n generalizing l with
  | zero =>
    rw [ord_succ, flip_all fun x hx => by have := h x hx; simp only [decide_eq_true_eq]; omega]
    rfl
  | succ n ih =>
    rw [ord_succ (n := n + 1), ord_succ (n := n)]
    have e : (fun x => decide (((n + 1 : Nat) : Int) + 1 ≤ f x + 1)) = fun x => decide (((n : Int) + 1) ≤ f x) := by
      funext x
      congr 1
      apply propext
      omega
    rw [e]
    exact ih fun x hx => h x (flip_perm.mem_iff.1 hx)
theorem fgo_map {g : α → β} {p : β → Bool} {acc l : List α} : fgo p (acc.map g) (l.map g) = (fgo (fun x => p (g x)) acc l).map g := by
  induction l generalizing acc with
  | nil => rfl
  | cons x r ih =>
    rw [List.map_cons, fgo_cons, fgo_cons]
    split
    · exact ih (acc := x :: acc)
    · rw [List.map_append, List.map_cons, ← ih (acc := []), List.map_nil]
theorem ord_map {g : α → β} {f : β → Int} {n : Nat} {l : List α} : ord f n (l.map g) = (ord (fun x => f (g x)) n l).map g := by
  induction n generalizing l with
  | zero => rfl
  | succ n ih =>
    rw [ord_succ, ord_succ, ← ih]
    unfold flip
    exact congrArg _ (fgo_map (acc := []))
end
/-- The levels' order: the places, as they are seen. -/
def lev (l : List Int) (k : Nat) : Int := l.getD k 0
def ordN (n : Nat) (l : List Int) : List Nat := ord (lev l) n (List.range l.length)
def order (l : List Int) : List Nat := ordN 127 l
def ordOk (l : List Int) : Prop := ∀ x ∈ l, 0 ≤ x ∧ x ≤ 127
instance (l : List Int) : Decidable (ordOk l) := by unfold ordOk; infer_instance
section
variable {l a b : List Int}
theorem ordN_len {n : Nat} : (ordN n l).length = l.length := by unfold ordN; rw [ord_len, List.length_range]
theorem order_len : (order l).length = l.length := ordN_len
theorem ordN_perm {n : Nat} : (ordN n l).Perm (List.range l.length) := ord_perm
theorem order_perm : (order l).Perm (List.range l.length) := ordN_perm
theorem order_lt {k : Nat} : k ∈ order l ↔ k < l.length := by rw [order_perm.mem_iff, List.mem_range]
theorem order_nodup : (order l).Nodup := order_perm.nodup_iff.2 List.nodup_range
theorem lev_ok (h : ordOk l) (k : Nat) : 0 ≤ lev l k ∧ lev l k ≤ 127 := by
  unfold lev
  rw [List.getD_eq_getElem?_getD]
  cases hk : l[k]? with
  | none => simp
  | some x => exact h x (List.mem_of_getElem? hk)
/-- P14.3, one more. -/
theorem ordN_one {n : Nat} (h : ∀ x ∈ l, 0 ≤ x ∧ x ≤ (n : Int)) : ordN (n + 1) (l.map (· + 1)) = (ordN (n + 1) l).reverse := by
  have hl : ∀ k, 0 ≤ lev l k ∧ lev l k ≤ (n : Int) := fun k => by
    unfold lev
    rw [List.getD_eq_getElem?_getD]
    cases hk : l[k]? with
    | none => simp
    | some x => exact h x (List.mem_of_getElem? hk)
  unfold ordN
  rw [List.length_map, ord_congr (g := fun k => lev l k + 1) (fun k hk => ?_), ord_more (fun k _ => (hl k).1)]
  · congr 1
    exact (ord_over (n := n) (k := 1) fun k _ => (hl k).2).symm
  · rw [List.mem_range] at hk
    unfold lev
    rw [List.getD_eq_getElem?_getD, List.getD_eq_getElem?_getD, List.getElem?_map, List.getElem?_eq_getElem hk]
    rfl
theorem order_one (h : ∀ x ∈ l, 0 ≤ x ∧ x ≤ 126) : order (l.map (· + 1)) = (order l).reverse := ordN_one (n := 126) h
theorem order_two (h : ∀ x ∈ l, 0 ≤ x ∧ x ≤ 125) : order (l.map (· + 2)) = order l := by
  have e : l.map (· + 2) = (l.map (· + 1)).map (· + 1) := by
    rw [List.map_map]
    refine List.map_congr_left fun x _ => ?_
    show x + 2 = x + 1 + 1
    omega
  rw [e, order_one (fun x hx => ?_), order_one (fun x hx => by have := h x hx; omega), List.reverse_reverse]
  obtain ⟨y, hy, rfl⟩ := List.mem_map.1 hx
  have := h y hy
  omega
/-- P14.1, of two parts beside a 0. -/
theorem ordN_joins {n : Nat} (h : ∀ k, k + 1 = a.length → lev a k ≤ 0 ∨ lev b 0 ≤ 0) (ha : a ≠ []) (hb : b ≠ []) : ordN n (a ++ b) = ordN n a ++ (ordN n b).map (· + a.length) := by
  have hl1 : 0 < a.length := List.length_pos_iff.2 ha
  have hl2 : 0 < b.length := List.length_pos_iff.2 hb
  have f1 : ∀ k, k < a.length → lev (a ++ b) k = lev a k := fun k hk => by
    unfold lev
    rw [List.getD_eq_getElem?_getD, List.getD_eq_getElem?_getD, List.getElem?_append_left hk]
  have f2 : ∀ k, lev (a ++ b) (k + a.length) = lev b k := fun k => by
    unfold lev
    rw [List.getD_eq_getElem?_getD, List.getD_eq_getElem?_getD, List.getElem?_append_right (by omega), Nat.add_sub_cancel]
  have hr : List.range (a ++ b).length = List.range a.length ++ (List.range b.length).map (· + a.length) := by
    rw [List.length_append, List.range_add]
    congr 1
    exact List.map_congr_left fun k _ => Nat.add_comm _ _
  have e1 : ord (lev (a ++ b)) n (List.range a.length) = ordN n a := ord_congr fun k hk => f1 k (List.mem_range.1 hk)
  have e2 : ord (lev (a ++ b)) n ((List.range b.length).map (· + a.length)) = (ordN n b).map (· + a.length) := by
    rw [ord_map]
    congr 1
    exact ord_congr fun k _ => f2 k
  rw [← e1, ← e2]
  unfold ordN
  rw [hr]
  rcases h (a.length - 1) (by omega) with h0 | h0
  · obtain ⟨m, hm⟩ : ∃ m, a.length = m + 1 := ⟨a.length - 1, by omega⟩
    rw [hm, List.range_succ, List.append_assoc, List.singleton_append]
    have h9 : lev (a ++ b) m ≤ 0 := by rw [f1 m (by omega)]; rw [hm] at h0; exact h0
    rw [ord_at h9, ord_at (b := []) h9]
    have : ord (lev (a ++ b)) n ([] : List Nat) = [] := List.eq_nil_of_length_eq_zero (by rw [ord_len]; rfl)
    rw [this, List.append_assoc, List.singleton_append]
  · obtain ⟨m, hm⟩ : ∃ m, b.length = m + 1 := ⟨b.length - 1, by omega⟩
    rw [hm, List.range_succ_eq_map, List.map_cons]
    have h9 : lev (a ++ b) (0 + a.length) ≤ 0 := by rw [f2]; exact h0
    rw [ord_at h9]
    have h8 := ord_at (n := n) (f := lev (a ++ b)) (a := []) (b := ((List.range m).map Nat.succ).map (· + a.length)) h9
    rw [List.nil_append] at h8
    rw [h8]
    have : ord (lev (a ++ b)) n ([] : List Nat) = [] := List.eq_nil_of_length_eq_zero (by rw [ord_len]; rfl)
    rw [this, List.nil_append]
theorem order_joins (h : ∀ k, k + 1 = a.length → lev a k ≤ 0 ∨ lev b 0 ≤ 0) (ha : a ≠ []) (hb : b ≠ []) : order (a ++ b) = order a ++ (order b).map (· + a.length) := ordN_joins h ha hb
end
end Go.Proofs.Ytahjkndphkpieaa.M
