/- At most fifty scalars never go too deep: all that stands in an isolate that is ended is removed, or deeper than it. No program is read here. -/
/- An isolate and its end stand one behind the other in a sequence. No program is read here. -/
import Derived.Test.YticiofpbijahbaaGU
section
namespace Go.Proofs.Yticiofpbijahbaa.M

/-- Nothing was too deep so far, and levels are low. -/
def Low (base : Int) (m : Mc) (n : Nat) : Prop := m.o = 0 ∧ m.e = 0 ∧ ∀ x ∈ m.s, x.lv ≤ base + 2 * n
theorem Low.more {base : Int} {m : Mc} {n : Nat} (h : Low base m n) : Low base m (n + 1) := ⟨h.1, h.2.1, fun x hx => by have := h.2.2 x hx; omega⟩
theorem next_le (m : Mc) (odd : Int) : m.top.lv < m.next odd ∧ m.next odd ≤ m.top.lv + 2 := by unfold Mc.next; split <;> omega
theorem Low.room {base : Int} {m : Mc} {n : Nat} (h : Low base m n) (hm : m.Ok base) (hn : base + 2 * n + 2 ≤ 125) (odd : Int) : m.room odd := by
  have h1 := h.2.2 _ hm.top_mem
  have h2 := (next_le m odd).2
  exact ⟨by omega, h.1, h.2.1⟩
theorem Low.embed {base : Int} {m : Mc} {n : Nat} (h : Low base m n) (hm : m.Ok base) (hn : base + 2 * n + 2 ≤ 125) (odd ov : Int) : Low base (m.embed odd ov) (n + 1) := by
  unfold Mc.embed
  rw [if_pos (h.room hm hn odd)]
  refine ⟨h.1, h.2.1, fun x hx => ?_⟩
  rcases List.mem_cons.1 hx with rfl | hx
  · have h1 := h.2.2 _ hm.top_mem
    have h2 := (next_le m odd).2
    show m.next odd ≤ _
    omega
  · have := h.2.2 x hx; omega
theorem Low.isolate {base : Int} {m : Mc} {n : Nat} (h : Low base m n) (hm : m.Ok base) (hn : base + 2 * n + 2 ≤ 125) (odd : Int) : Low base (m.isolate odd) (n + 1) := by
  unfold Mc.isolate
  rw [if_pos (h.room hm hn odd)]
  refine ⟨h.1, h.2.1, fun x hx => ?_⟩
  rcases List.mem_cons.1 hx with rfl | hx
  · have h1 := h.2.2 _ hm.top_mem
    have h2 := (next_le m odd).2
    show m.next odd ≤ _
    omega
  · have := h.2.2 x hx; omega
theorem Low.closed {base : Int} {m : Mc} {n : Nat} (h : Low base m n) : Low base m.closed (n + 1) := by
  unfold Mc.closed
  rw [if_neg (by rw [h.1]; omega)]
  split
  · exact h.more
  · exact ⟨h.1, rfl, fun x hx => by have := h.2.2 x ((List.dropWhile_sublist _).mem (List.mem_of_mem_tail hx)); omega⟩
theorem Low.pop {base : Int} {m : Mc} {n : Nat} (h : Low base m n) : Low base m.pop (n + 1) := by
  unfold Mc.pop
  rw [if_neg (by rw [h.1]; omega), if_neg (by rw [h.2.1]; omega)]
  split
  · exact ⟨h.1, h.2.1, fun x hx => by have := h.2.2 x (List.mem_of_mem_tail hx); omega⟩
  · exact h.more
theorem Low.turn {base odd c : Int} {m : Mc} {n : Nat} (h : Low base m n) (hm : m.Ok base) (hn : base + 2 * n + 2 ≤ 125) : Low base (m.turn base odd c) (n + 1) := by
  unfold Mc.turn
  split
  · unfold Mc.does
    (repeat' split) <;> first | exact h.embed hm hn _ _ | exact h.pop | exact h.more
  · split
    · exact ⟨rfl, rfl, fun x hx => by obtain rfl := List.mem_singleton.1 hx; show base ≤ _; omega⟩
    · split
      · exact h.closed
      · split
        · exact h.isolate hm hn odd
        · exact h.more
/-- The machine within an isolate that is open: all above what it was is deeper. -/
def Deep (m m' : Mc) (d : Int) : Prop := ∃ t i, m'.s = t ++ i :: m.s ∧ i.iso = true ∧ (∀ x ∈ t ++ [i], m.top.lv < x.lv) ∧ ((t.countP fun x => x.iso : Nat) : Int) = d
theorem Deep.top {m m' : Mc} {d : Int} (h : Deep m m' d) : m.top.lv < m'.top.lv := by
  obtain ⟨t, i, h1, _, h3, _⟩ := h
  unfold Mc.top at h3 ⊢
  rw [h1]
  cases t with
  | nil => exact h3 i (by simp)
  | cons x t => exact h3 x (by simp)
theorem Deep.embed {m m' : Mc} {d : Int} (h : Deep m m' d) (odd ov : Int) : Deep m (m'.embed odd ov) d := by
  have ht := h.top
  have h9 := h
  obtain ⟨t, i, h1, h2, h3, h4⟩ := h
  have hx := (next_le m' odd).1
  unfold Mc.embed
  split
  · refine ⟨_ :: t, i, by show _ :: m'.s = _; rw [h1]; rfl, h2, fun x hx => ?_, by simpa using h4⟩
    rcases List.mem_cons.1 hx with rfl | hx
    · show m.top.lv < m'.next odd; omega
    · exact h3 x hx
  · split <;> exact ⟨t, i, h1, h2, h3, h4⟩
theorem Deep.isolate {m m' : Mc} {d : Int} (h : Deep m m' d) (odd : Int) (hr : m'.room odd) : Deep m (m'.isolate odd) (d + 1) := by
  have ht := h.top
  obtain ⟨t, i, h1, h2, h3, h4⟩ := h
  have hx := (next_le m' odd).1
  unfold Mc.isolate
  rw [if_pos hr]
  refine ⟨_ :: t, i, by show _ :: m'.s = _; rw [h1]; rfl, h2, fun x hx => ?_, by rw [List.countP_cons_of_pos rfl]; omega⟩
  rcases List.mem_cons.1 hx with rfl | hx
  · show m.top.lv < m'.next odd; omega
  · exact h3 x hx
theorem Deep.pop {m m' : Mc} {d : Int} (h : Deep m m' d) : Deep m m'.pop d := by
  have h9 := h
  obtain ⟨t, i, h1, h2, h3, h4⟩ := h
  unfold Mc.pop
  split
  · exact h9
  · split
    · exact ⟨t, i, h1, h2, h3, h4⟩
    · split
      · rename_i hl
        cases t with
        | nil =>
          have : m'.top = i := by unfold Mc.top; rw [h1]; rfl
          rw [this, h2] at hl
          exact absurd hl.2 (by simp)
        | cons x t =>
          have hx : m'.top = x := by unfold Mc.top; rw [h1]; rfl
          have hxi : x.iso = false := by rw [← hx]; exact hl.2
          exact ⟨t, i, by show m'.s.tail = _; rw [h1]; rfl, h2, fun y hy => h3 y (by simp at hy ⊢; exact .inr hy), by simpa [hxi] using h4⟩
      · exact h9
theorem Deep.closed {m m' : Mc} {d base : Int} (hm : m'.Ok base) (h0 : m'.o = 0) (hd : 0 < d) (h : Deep m m' d) : Deep m m'.closed (d - 1) := by
  obtain ⟨t, i, h1, h2, h3, h4⟩ := h
  have hc : 0 < t.countP fun x => x.iso := by omega
  have hv : m'.v ≠ 0 := by
    have h5 := hm.cnt
    rw [h1, List.countP_append] at h5
    have e4 : List.countP Ent.iso t = t.countP (fun x => x.iso) := rfl
    omega
  unfold Mc.closed
  rw [if_neg (by omega), if_neg hv]
  obtain ⟨t1, z, t2, e1, e2, e3, _⟩ := drop_iso hc
  refine ⟨t2, i, ?_, h2, fun x hx => h3 x (by rw [e1]; simp at hx ⊢; rcases hx with hx | hx <;> simp [hx]), ?_⟩
  · show (m'.s.dropWhile fun x => !x.iso).tail = _
    rw [h1, e1, List.append_assoc, drop_all e2, List.cons_append, List.dropWhile_cons_of_neg (by simp [e3]), List.tail_cons]
  · have h0 : t1.countP (fun x => x.iso) = 0 := by rw [List.countP_eq_zero]; intro x hx; simp [e2 x hx]
    have e4 : List.countP Ent.iso t2 = t2.countP (fun x => x.iso) := rfl
    rw [e1, List.countP_append, List.countP_cons_of_pos e3, h0] at h4
    omega
theorem Deep.turn {m m' : Mc} {d base odd c : Int} (hm : m'.Ok base) (hr : m'.room odd) (h : Deep m m' d) (h1 : c ≠ 10) (h2 : c = 22 → 0 < d) : Deep m (m'.turn base odd c) (opened d c) := by
  unfold Mc.turn
  by_cases hrm : removed c = true
  · rw [if_pos hrm]
    obtain ⟨r1, r2, r3⟩ := removed_not hrm
    have ho : opened d c = d := by unfold opened; rw [if_neg (by rw [r3]; simp), if_neg r2]; omega
    rw [ho]
    unfold Mc.does
    (repeat' split) <;> first | exact h.embed _ _ | exact h.pop | exact h
  · rw [if_neg hrm, if_neg h1]
    by_cases h22 : c = 22
    · subst h22
      rw [if_pos rfl, opened_22]
      exact h.closed hm hr.2.1 (h2 rfl)
    · rw [if_neg h22]
      by_cases hb : begins c = true
      · rw [if_pos hb, opened_begin hb]
        exact h.isolate odd hr
      · rw [if_neg hb]
        have ho : opened d c = d := by unfold opened; rw [if_neg hb, if_neg h22]; omega
        rw [ho]
        exact h
theorem run_deeper {base : Int} (hba : base ≤ 125) {m : Mc} (z : List Int) : ∀ {x : List Int} {d : Int} {m' : Mc} {n : Nat}, 0 ≤ d → bal d x → Deep m m' d → m'.Ok base → Low base m' n → base + 2 * (n + x.length : Nat) + 2 ≤ 125 →
    ∀ j y, j < x.length → ((run base m' (x ++ 22 :: z)).map Prod.fst)[j]? = some y → y = -1 ∨ m.top.lv < y := by
  intro x
  induction x with
  | nil => intro d m' n _ _ _ _ _ _ j y hj; simp at hj
  | cons c x ih =>
    intro d m' n hd hb hi hok hlow hn j y hj hy
    obtain ⟨h1, h2, h3⟩ := hb
    simp only [List.length_cons] at hj hn
    have hroom := hlow.room hok (by omega)
    have h10 : known c ≠ 10 := fun h => h1 ((known_10 c).1 h)
    have h22 : known c = 22 → 0 < d := fun h => h2 ((known_22 c).1 h)
    rw [List.cons_append, run, List.map_cons] at hy
    cases j with
    | zero =>
      obtain rfl := Option.some.inj hy
      show m'.lev base (known c) = -1 ∨ _ < m'.lev base (known c)
      unfold Mc.lev
      split
      · exact .inl rfl
      · unfold Mc.at_
        split
        · rename_i hk
          exact .inr (hi.closed hok hlow.1 (h22 hk)).top
        · exact .inr hi.top
    | succ j =>
      rw [List.getElem?_cons_succ] at hy
      have hge : 0 ≤ opened d c := by
        unfold opened
        by_cases h : c = 22
        · have := h2 h
          (repeat' split) <;> omega
        · rw [if_neg h]; split <;> omega
      have ht := hi.turn (base := base) (odd := dir (known c) (x ++ 22 :: z)) (c := known c) hok (hroom _) h10 h22
      rw [opened_known] at ht
      exact ih hge h3 ht (hok.turn hba _) (hlow.turn hok (by omega)) (by omega) j y (by omega) hy
/-- What stands ahead only moves the machine, and leaves it low. -/
theorem run_ahead_low {base : Int} (hb : base ≤ 125) (q : List Int) : ∀ (p : List Int) (m : Mc) (n : Nat), m.Ok base → Low base m n → base + 2 * (n + p.length : Nat) + 2 ≤ 125 → ∃ A m1, A.length = p.length ∧ m1.Ok base ∧ Low base m1 (n + p.length) ∧ run base m (p ++ q) = A ++ run base m1 q := by
  intro p
  induction p with
  | nil => intro m n hm hl _; exact ⟨[], m, rfl, hm, hl, rfl⟩
  | cons c p ih =>
    intro m n hm hl hn
    simp only [List.length_cons] at hn
    obtain ⟨A, m1, hA, hm1, hl1, he⟩ := ih (m.turn base (dir (known c) (p ++ q)) (known c)) (n + 1) (hm.turn hb _) (hl.turn hm (by omega)) (by omega)
    exact ⟨_ :: A, m1, by simp [hA], hm1, by rw [List.length_cons, show n + (p.length + 1) = n + 1 + p.length by omega]; exact hl1, by rw [List.cons_append, run, he]; rfl⟩
theorem Deep.begin (m : Mc) (odd : Int) (hr : m.room odd) : Deep m (m.isolate odd) 0 := by
  unfold Mc.isolate
  rw [if_pos hr]
  exact ⟨[], ⟨m.next odd, 13, true⟩, rfl, rfl, fun x hx => by obtain rfl := List.mem_singleton.1 hx; exact (next_le m odd).1, rfl⟩
/-- An isolate and its end have a level that all between them are above, but for what is removed. -/
theorem levs_in {l : List Int} {b : Int} (hb : b = 0 ∨ b = 1) (hl : l.length ≤ 50) {a e : Nat} (h : endI l a = e) : ∃ x, 0 ≤ x ∧ (levs l b)[a]? = some x ∧ (levs l b)[e]? = some x ∧ ∀ j y, a < j → j < e → (levs l b)[j]? = some y → y = -1 ∨ x < y := by
  have hb1 : b ≤ 125 := by omega
  obtain ⟨c, x, z, hll, hc, hbc, he, hbal, hd⟩ := endI_parts h
  have hlen := congrArg List.length hll
  simp only [List.length_append, List.length_cons, List.length_take] at hlen
  have hal : (l.take a).length = a := by rw [List.length_take]; have := (List.getElem?_eq_some_iff.1 hc).1; omega
  have hacl := (List.getElem?_eq_some_iff.1 hc).1
  obtain ⟨A, m1, hA, hm1, hlow, hrun⟩ := run_ahead_low hb1 (c :: (x ++ 22 :: z)) (l.take a) (fresh b) 0 (fresh_ok hb1) ⟨rfl, rfl, fun y hy => by obtain rfl := List.mem_singleton.1 hy; show b ≤ _; omega⟩ (by rw [hal]; omega)
  rw [← hll] at hrun
  rw [hal, Nat.zero_add] at hlow
  obtain ⟨hk, hr⟩ := begins_known hbc
  have ht : m1.turn b (dir c (x ++ 22 :: z)) c = m1.isolate (dir c (x ++ 22 :: z)) := by
    unfold Mc.turn
    rw [if_neg (by rw [hr]; simp), if_neg (begins_not hbc).1, if_neg (begins_not hbc).2.1, if_pos hbc]
  have hroom := hlow.room hm1 (by omega)
  have hdp := run_deeper (m := m1) hb1 z (Int.le_refl 0) hbal (Deep.begin m1 (dir c (x ++ 22 :: z)) (hroom _)) (hm1.isolate _) (hlow.isolate hm1 (by omega) _) (by omega)
  obtain ⟨X, hX, hin⟩ := run_inside hm1 z (Int.le_refl 0) hbal (Inside.begin m1 (dir c (x ++ 22 :: z)))
  have hlev : m1.lev b c = m1.top.lv := by
    unfold Mc.lev Mc.at_
    rw [if_neg (by rw [hr]; simp), if_neg (begins_not hbc).1, if_neg (begins_not hbc).2.1]
  rw [run, hk, ht, hlev] at hrun
  have h0 : 0 ≤ m1.top.lv := by have := (hm1.lvs _ hm1.top_mem).1; omega
  refine ⟨m1.top.lv, h0, ?_, ?_, fun j y hj1 hj2 hy => ?_⟩
  · unfold levs
    rw [hrun, List.map_append, List.getElem?_append_right (by simp [hA, hal]), List.length_map, hA, hal, Nat.sub_self]
    rfl
  · unfold levs
    rw [hrun, hin, List.map_append, List.getElem?_append_right (by simp [hA, hal]; omega), List.length_map, hA, hal, show e - a = x.length + 1 by omega, List.map_cons, List.getElem?_cons_succ, List.map_append, List.getElem?_append_right (by simp [hX]), List.length_map, hX, Nat.sub_self]
    rfl
  · unfold levs at hy
    rw [hrun, List.map_append, List.getElem?_append_right (by simp [hA, hal]; omega), List.length_map, hA, hal, show j - a = (j - a - 1) + 1 by omega, List.map_cons, List.getElem?_cons_succ] at hy
    exact hdp (j - a - 1) y (by omega) hy
end Go.Proofs.Yticiofpbijahbaa.M
end

section
namespace Go.Proofs.Yticiofpbijahbaa.M

/-- Two places one behind the other in a sequence. -/
def Linked (ss : List Sq) (p q : Int) : Prop := ∃ (i : Nat) (s : Sq) (k : Nat), ss[i]? = some s ∧ s.pl[k]? = some p ∧ s.pl[k + 1]? = some q
theorem at_mid {X Y Z : List Int} {k : Nat} {p : Int} (h : Y[k]? = some p) : (X ++ (Y ++ Z))[X.length + k]? = some p := by
  have hk := (List.getElem?_eq_some_iff.1 h).1
  rw [List.getElem?_append_right (by omega), Nat.add_sub_cancel_left, List.getElem?_append_left hk]
  exact h
theorem mem_grow {T F : Nat → Int} (i : Nat) {t u : Nat} (h : t ≤ u) : ∃ r, mem T F u i = mem T F t i ++ r := by
  induction u with
  | zero => obtain rfl : t = 0 := by omega
            exact ⟨[], by simp⟩
  | succ u ih =>
    rcases Nat.lt_or_ge t (u + 1) with h1 | h1
    · obtain ⟨r, hr⟩ := ih (by omega)
      by_cases h2 : hd T F u = i
      · exact ⟨r ++ [u], by rw [mem_in h2, hr, List.append_assoc]⟩
      · exact ⟨r, by rw [mem_out h2, hr]⟩
    · obtain rfl : t = u + 1 := by omega
      exact ⟨[], by simp⟩
section
variable {l lv : List Int} {b : Int}
/-- The sequence that a run is in. -/
theorem seq_of {j : Nat} (hj : j < (runs lv b).length) : ∃ (i : Nat) (s : Sq) (X Z : List Int), (seqs l lv b)[i]? = some s ∧ s.pl = X ++ ((rn (runs lv b) j).pl ++ Z) ∧ (∀ p, pv (goes l (runs lv b)) (from_ (runs lv b)) j = some p → ∃ X', X = X' ++ (rn (runs lv b) p).pl) := by
  have h1 := heads_at (T := goes l (runs lv b)) (F := from_ (runs lv b)) (i := hd (goes l (runs lv b)) (from_ (runs lv b)) j) (t := (runs lv b).length) (by have := hd_le (T := goes l (runs lv b)) (F := from_ (runs lv b)) j; omega) (hd_head j)
  obtain ⟨r, hr⟩ := mem_grow (T := goes l (runs lv b)) (F := from_ (runs lv b)) (hd (goes l (runs lv b)) (from_ (runs lv b)) j) (show j + 1 ≤ (runs lv b).length by omega)
  rw [mem_in rfl] at hr
  have h2 : (seqs l lv b)[(heads (goes l (runs lv b)) (from_ (runs lv b)) (hd (goes l (runs lv b)) (from_ (runs lv b)) j)).length]? = some (sq l b (runs lv b) (runs lv b).length (hd (goes l (runs lv b)) (from_ (runs lv b)) j)) := by
    unfold seqs sqs
    rw [List.getElem?_map, h1]
    rfl
  refine ⟨_, _, (mem (goes l (runs lv b)) (from_ (runs lv b)) j (hd (goes l (runs lv b)) (from_ (runs lv b)) j)).flatMap fun j => (rn (runs lv b) j).pl, r.flatMap fun j => (rn (runs lv b) j).pl, h2, ?_, fun p hp => ?_⟩
  · unfold sq
    rw [hr, List.flatMap_append, List.flatMap_append]
    simp
  · rw [hd_some hp, (runs_chains l lv b).mem_next hj hp, List.flatMap_append]
    exact ⟨(mem (goes l (runs lv b)) (from_ (runs lv b)) p (hd (goes l (runs lv b)) (from_ (runs lv b)) p)).flatMap fun j => (rn (runs lv b) j).pl, by simp⟩
theorem linked_run {j k : Nat} (hj : j < (runs lv b).length) {p q : Int} (h1 : (rn (runs lv b) j).pl[k]? = some p) (h2 : (rn (runs lv b) j).pl[k + 1]? = some q) : Linked (seqs l lv b) p q := by
  obtain ⟨i, s, X, Z, hs, hX, -⟩ := seq_of (l := l) hj
  refine ⟨i, s, X.length + k, hs, ?_, ?_⟩
  · rw [hX]; exact at_mid h1
  · rw [hX, Nat.add_assoc]; exact at_mid h2
theorem linked_chain {i j : Nat} (hj : j < (runs lv b).length) (hp : pv (goes l (runs lv b)) (from_ (runs lv b)) j = some i) : Linked (seqs l lv b) (rn (runs lv b) i).ls (rn (runs lv b) j).fs := by
  have hi := (pv_some hp).1
  obtain ⟨n, s, X, Z, hs, hX, hX2⟩ := seq_of (l := l) hj
  obtain ⟨X', rfl⟩ := hX2 i hp
  obtain ⟨f, q, hf, hq, -, -, hp0, hpq, hpos, -, -⟩ := run_ends (rn_mem hj)
  obtain ⟨f', q', hf', hq', -, -, hp0', hpq', hpos', -, -⟩ := run_ends (rn_mem (rs := runs lv b) (i := i) (by omega))
  have e1 := at_mid (X := X') (Z := (rn (runs lv b) j).pl ++ Z) hpq'
  have e2 := at_mid (X := X' ++ (rn (runs lv b) i).pl) (Z := Z) hp0
  refine ⟨n, s, X'.length + ((rn (runs lv b) i).pl.length - 1), hs, ?_, ?_⟩
  · rw [hX, hq', List.append_assoc]; exact e1
  · rw [hX, hf]
    rw [List.length_append] at e2
    rw [show X'.length + ((rn (runs lv b) i).pl.length - 1) + 1 = X'.length + (rn (runs lv b) i).pl.length + 0 by omega]
    exact e2
/-- What is not removed is in a run. -/
theorem run_of {j : Nat} {x : Int} (h : lv[j]? = some x) (hx : x ≠ -1) : ∃ (i k : Nat), i < (runs lv b).length ∧ (rn (runs lv b) i).pl[k]? = some (j : Int) ∧ (rn (runs lv b) i).lv = x := by
  have h1 : (j : Int) ∈ idxs 0 lv := (idxs_mem lv 0 j).2 ⟨j, by simp, x, h, hx⟩
  rw [← runs_all lv b, List.mem_flatMap] at h1
  obtain ⟨r, hr, hjr⟩ := h1
  obtain ⟨i, hi⟩ := List.getElem?_of_mem hr
  obtain ⟨k, hk⟩ := List.getElem?_of_mem hjr
  refine ⟨i, k, (List.getElem?_eq_some_iff.1 hi).1, by rw [rn_at hi]; exact hk, ?_⟩
  rw [rn_at hi]
  obtain ⟨j', e1, e2⟩ := (runs_ok r hr).at_ _ hjr
  obtain rfl : j = j' := by omega
  rw [h] at e2
  exact (Option.some.inj e2).symm
end
theorem seqs_linked {l : List Int} {b : Int} (hb : b = 0 ∨ b = 1) (hl : l.length ≤ 50) {a e : Nat} (h : endI l a = e) : Linked (seqs l (levs l b) b) a e := by
  obtain ⟨x, hx0, hxa, hxe, hin⟩ := levs_in hb hl h
  have hae : a < e := by have := endI_late l a; omega
  obtain ⟨i, k, hi, hk, hlvi⟩ := run_of (b := b) hxa (by omega)
  obtain ⟨i2, k2, hi2, hk2, hlvi2⟩ := run_of (b := b) hxe (by omega)
  have hri := rn_mem (rs := runs (levs l b) b) hi
  have hri2 := rn_mem (rs := runs (levs l b) b) hi2
  obtain ⟨f, q, hf, hq, -, -, hp0, hpq, hpos, -, -⟩ := run_ends hri
  have hklt := (List.getElem?_eq_some_iff.1 hk).1
  cases hnx : (rn (runs (levs l b) b) i).pl[k + 1]? with
  | some q2 =>
    have hn := run_next (l := l) hri k _ _ hk hnx
    obtain ⟨j, rfl, hj⟩ := (runs_ok _ hri).at_ q2 (List.mem_of_getElem? hnx)
    rw [hlvi] at hj
    obtain ⟨hlt, hg | hg⟩ := hn
    · obtain rfl : j = e := by
        rcases Nat.lt_trichotomy j e with h1 | h1 | h1
        · rcases hin j x (by omega) h1 hj with h2 | h2 <;> omega
        · exact h1
        · have := hg e (by omega) (by omega)
          rw [hxe] at this
          have := Option.some.inj this
          omega
      exact linked_run hi hk hnx
    · rw [Int.toNat_natCast, h] at hg
      rw [← hg] at hnx
      exact linked_run hi hk hnx
  | none =>
    have hlast : k = (rn (runs (levs l b) b) i).pl.length - 1 := by have := List.getElem?_eq_none_iff.1 hnx; omega
    rw [hlast, hpq] at hk
    have hqa : (rn (runs (levs l b) b) i).ls = (a : Int) := by rw [hq]; exact Option.some.inj hk
    cases k2 with
    | succ k2 =>
      obtain ⟨p2, hp2⟩ : ∃ p2, (rn (runs (levs l b) b) i2).pl[k2]? = some p2 := ⟨_, List.getElem?_eq_getElem (by have := (List.getElem?_eq_some_iff.1 hk2).1; omega)⟩
      have hn := run_next (l := l) hri2 k2 _ _ hp2 hk2
      obtain ⟨j, rfl, hj⟩ := (runs_ok _ hri2).at_ p2 (List.mem_of_getElem? hp2)
      rw [hlvi2] at hj
      have hja : j = a := by
        obtain ⟨hlt, hg | hg⟩ := hn
        · rcases Nat.lt_trichotomy j a with h1 | h1 | h1
          · have := hg a (by omega) (by omega)
            rw [hxa] at this
            have := Option.some.inj this
            omega
          · exact h1
          · rcases hin j x h1 (by omega) hj with h2 | h2 <;> omega
        · rw [Int.toNat_natCast] at hg
          exact endI_one (by rw [hg, h]) (by rw [hg]; omega)
      subst hja
      exact linked_run hi2 hp2 hk2
    | zero =>
      obtain ⟨f2, q2, hf2, hq2, -, -, hp02, -, -, -, -⟩ := run_ends hri2
      rw [hp02] at hk2
      have hfe : (rn (runs (levs l b) b) i2).fs = (e : Int) := by rw [hf2]; exact Option.some.inj hk2
      have hgo : goes l (runs (levs l b) b) i = from_ (runs (levs l b) b) i2 := by
        unfold goes from_
        rw [hqa, hfe, Int.toNat_natCast, h]
      obtain ⟨-, hpv⟩ := (runs_chains l (levs l b) b).pv_of hi2 hi hgo
      have := linked_chain (l := l) hi2 hpv
      rw [hqa, hfe] at this
      exact this

/-! Each place once. -/
theorem count_two : ∀ L : List Int, (∀ x, L.count x ≤ 1) → L.Pairwise (· ≠ ·) := by
  intro L
  induction L with
  | nil => intro _; exact List.Pairwise.nil
  | cons y r ih =>
    intro h
    refine List.pairwise_cons.2 ⟨fun z hz he => ?_, ih fun x => by have := h x; rw [List.count_cons] at this; omega⟩
    have h1 := h y
    rw [List.count_cons_self] at h1
    have h2 : 0 < r.count y := List.count_pos_iff.2 (he ▸ hz)
    omega
theorem once_two {ss : List Sq} (h : ∀ x : Int, (ss.flatMap (·.pl)).count x ≤ 1) {i i' k k' : Nat} {s s' : Sq} {x : Int} (hs : ss[i]? = some s) (hs' : ss[i']? = some s') (hk : s.pl[k]? = some x) (hk' : s'.pl[k']? = some x) : i = i' ∧ k = k' := by
  have h1 := count_two _ h
  rw [List.pairwise_flatMap] at h1
  obtain ⟨h1, h2⟩ := h1
  obtain ⟨hi, ei⟩ := List.getElem?_eq_some_iff.1 hs
  obtain ⟨hi', ei'⟩ := List.getElem?_eq_some_iff.1 hs'
  have hii : i = i' := by
    rcases Nat.lt_trichotomy i i' with h3 | h3 | h3
    · have := List.pairwise_iff_getElem.1 h2 i i' hi hi' h3
      rw [ei, ei'] at this
      exact absurd rfl (this x (List.mem_of_getElem? hk) x (List.mem_of_getElem? hk'))
    · exact h3
    · have := List.pairwise_iff_getElem.1 h2 i' i hi' hi h3
      rw [ei, ei'] at this
      exact absurd rfl (this x (List.mem_of_getElem? hk') x (List.mem_of_getElem? hk))
  subst hii
  rw [hs] at hs'
  obtain rfl := Option.some.inj hs'
  refine ⟨rfl, ?_⟩
  obtain ⟨hk1, ek⟩ := List.getElem?_eq_some_iff.1 hk
  obtain ⟨hk1', ek'⟩ := List.getElem?_eq_some_iff.1 hk'
  have h3 := List.pairwise_iff_getElem.1 (h1 s (List.mem_of_getElem? hs))
  rcases Nat.lt_trichotomy k k' with h4 | h4 | h4
  · exact absurd (ek.trans ek'.symm) (h3 k k' hk1 hk1' h4)
  · exact h4
  · exact absurd (ek'.trans ek.symm) (h3 k' k hk1' hk1 h4)
/-- What is known of the list of next places behind some sequences and some places of one more. -/
def Nxt (ss : List Sq) (i k : Nat) (N : List Int) : Prop := ∀ (i' k' : Nat) (s : Sq) (p q : Int), (i' < i ∨ i' = i ∧ k' < k) → ss[i']? = some s → s.pl[k']? = some p → s.pl[k' + 1]? = some q → N[p.toNat]? = some q
theorem Nxt.first (ss : List Sq) (N : List Int) : Nxt ss 0 0 N := fun i' k' s p q h => by omega
theorem Nxt.turn {ss : List Sq} {i k : Nat} {N : List Int} {s : Sq} (h : Nxt ss i k N) (hs : ss[i]? = some s) (hk : s.pl.length ≤ k + 1) : Nxt ss (i + 1) 0 N := fun i' k' s' p q h1 h2 h3 h4 => by
  by_cases hi : i' < i
  · exact h i' k' s' p q (.inl hi) h2 h3 h4
  · obtain rfl : i' = i := by omega
    rw [hs] at h2
    obtain rfl := Option.some.inj h2
    have := (List.getElem?_eq_some_iff.1 h4).1
    exact h i' k' s p q (.inr ⟨rfl, by omega⟩) hs h3 h4
theorem Nxt.step {ss : List Sq} {i k : Nat} {N : List Int} {s : Sq} {p : Nat} {q : Int} (hct : ∀ x : Int, (ss.flatMap (·.pl)).count x ≤ 1) (hnn : ∀ s ∈ ss, ∀ x ∈ s.pl, 0 ≤ x) (h : Nxt ss i k N) (hs : ss[i]? = some s) (hp : s.pl[k]? = some (p : Int)) (hq : s.pl[k + 1]? = some q) (hlt : p < N.length) : Nxt ss i (k + 1) (N.set p q) := fun i' k' s' p' q' h1 h2 h3 h4 => by
  have h0 := hnn s' (List.mem_of_getElem? h2) p' (List.mem_of_getElem? h3)
  by_cases hpp : p = p'.toNat
  · have e : p' = (p : Int) := by omega
    subst e
    obtain ⟨rfl, rfl⟩ := once_two hct hs h2 hp h3
    rw [hs] at h2
    obtain rfl := Option.some.inj h2
    rw [hq] at h4
    rw [← hpp, List.getElem?_set_self hlt]
    exact h4
  · rw [List.getElem?_set_ne hpp]
    refine h i' k' s' p' q' ?_ h2 h3 h4
    rcases h1 with h1 | ⟨rfl, h1⟩
    · exact .inl h1
    · rcases Nat.lt_or_ge k' k with h5 | h5
      · exact .inr ⟨rfl, h5⟩
      · obtain rfl : k' = k := by omega
        rw [hs] at h2
        obtain rfl := Option.some.inj h2
        rw [hp] at h3
        have := Option.some.inj h3
        omega
end Go.Proofs.Yticiofpbijahbaa.M
end
