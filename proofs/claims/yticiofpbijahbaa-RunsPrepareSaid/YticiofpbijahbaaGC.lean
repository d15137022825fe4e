/- Levels of classes that are cut behind a B, and of what stands about an isolate. No program is read here. -/
/- Isolates' ends: no two isolates have one; what stands in one is balanced. No program is read here. -/
import Derived.Test.YticiofpbijahbaaGBa
import Derived.Test.YticiofpbijahbaaGBd
section
namespace Go.Proofs.Yticiofpbijahbaa.M

theorem begins_not {c : Int} (h : begins c = true) : c ≠ 10 ∧ c ≠ 22 ∧ c ≠ 0 ∧ c ≠ 1 ∧ c ≠ 2 := by
  unfold begins at h
  simp at h
  omega
/-! What stands behind a B is not looked at. -/
theorem endR_B (o : Int) (r x : List Int) : endR o (r ++ 10 :: x) = endR o r := by
  induction r generalizing o with
  | nil => simp [endR]
  | cons c r ih => simp only [List.cons_append, endR, ih]
theorem strong_B (n : Nat) : ∀ (r x : List Int), r.length ≤ n → strong (r ++ 10 :: x) = strong r := by
  induction n with
  | zero =>
    intro r x h
    obtain rfl := List.eq_nil_of_length_eq_zero (Nat.le_zero.1 h)
    rw [List.nil_append, strong_cons]
    simp [strong, strongF]
  | succ n ih =>
    intro r x h
    cases r with
    | nil => rw [List.nil_append, strong_cons]; simp [strong, strongF]
    | cons c r =>
      simp only [List.length_cons] at h
      rw [List.cons_append, strong_cons, strong_cons, endR_B, ih r x (by omega)]
      split
      · rfl
      · split
        · rfl
        · split
          · cases he : endR 1 r with
            | none => rfl
            | some k =>
              have hk := endR_lt he
              simp only []
              rw [List.drop_append_of_le_length (by omega)]
              exact ih _ _ (by rw [List.length_drop]; omega)
          · rfl
theorem dir_B (c : Int) (r x : List Int) : dir c (r ++ 10 :: x) = dir c r := by
  unfold dir
  rw [endR_B]
  split
  · rfl
  · split
    · cases he : endR 1 r with
      | none => exact strong_B _ _ _ (Nat.le_refl _)
      | some k =>
        have hk := endR_lt he
        simp only []
        rw [List.take_append_of_le_length (by omega)]
    · rfl
theorem run_B (base : Int) (m : Mc) (r x : List Int) : run base m (r ++ 10 :: x) = run base m r ++ (base, 10) :: run base (fresh base) x := by
  induction r generalizing m with
  | nil =>
    have h2 : known 10 = 10 := by decide
    have h1 : removed 10 = false := by decide
    simp only [List.nil_append, run, Mc.lev, Mc.cls, Mc.turn, h2, h1]
    simp
  | cons c r ih => simp only [List.cons_append, run, dir_B, ih]

/-! What stands in an isolate that is ended changes nothing about it. -/
/-- Isolates that are all ended, with no B, and no other end: d are open ahead. -/
def bal : Int → List Int → Prop
  | d, [] => d = 0
  | d, c :: r => c ≠ 10 ∧ (c = 22 → 0 < d) ∧ bal (opened d c) r
theorem opened_22 (o : Int) : opened o 22 = o - 1 := by unfold opened begins; simp
theorem opened_begin {o c : Int} (h : begins c = true) : opened o c = o + 1 := by
  unfold opened
  rw [if_pos h, if_neg (begins_not h).2.1]
  omega
theorem opened_add (o d c : Int) : opened (o + d) c = o + opened d c := by unfold opened; split <;> omega
theorem endR_bal {o : Int} (ho : 0 < o) : ∀ {d : Int} {x : List Int} (y : List Int), 0 ≤ d → bal d x → endR (o + d) (x ++ y) = (endR o y).map (· + x.length) := by
  intro d x
  induction x generalizing d with
  | nil =>
    intro y _ hb
    obtain rfl : d = 0 := hb
    simp
  | cons c r ih =>
    intro y hd hb
    obtain ⟨h1, h2, h3⟩ := hb
    have hge : 0 ≤ opened d c := by
      unfold opened
      by_cases h22 : c = 22
      · have := h2 h22
        (repeat' split) <;> omega
      · rw [if_neg h22]; split <;> omega
    rw [List.cons_append, endR, if_neg h1, opened_add, if_neg (by omega), ih y hge h3, Option.map_map]
    congr 1
theorem endR_22 {o : Int} (ho : 0 < o) (z : List Int) : endR (o + 1) (22 :: z) = (endR o z).map (· + 1) := by
  rw [endR, if_neg (by decide), opened_22, if_neg (by omega), show o + 1 - 1 = o by omega]
/-- Ahead of an isolate whose inside is x, and behind it. -/
def about (p : List Int) (b : Int) (x z : List Int) : List Int := p ++ b :: (x ++ 22 :: z)
theorem endR_about {b : Int} (hb : begins b = true) {x : List Int} (hx : bal 0 x) (z : List Int) : ∀ (p : List Int) (o : Int), 0 < o →
    endR o (about p b x z) = (match endR o (p ++ z) with | none => none | some k => if k < p.length then some k else some (k + x.length + 2)) := by
  intro p
  induction p with
  | nil =>
    intro o ho
    unfold about
    rw [List.nil_append, List.nil_append, endR, if_neg (begins_not hb).1, opened_begin hb, if_neg (by omega), show o + 1 = (o + 1) + 0 by omega, endR_bal (by omega) _ (Int.le_refl _) hx]
    rw [endR_22 ho]
    cases he : endR o z with
    | none => rfl
    | some k =>
      simp only [Option.map_some, List.length_nil, Nat.not_lt_zero, if_false]
      congr 1
      omega
  | cons c p ih =>
    intro o ho
    unfold about at ih ⊢
    rw [List.cons_append, List.cons_append, endR, endR]
    by_cases h1 : c = 10
    · rw [if_pos h1, if_pos h1]
    · rw [if_neg h1, if_neg h1]
      by_cases h2 : opened o c = 0
      · rw [if_pos h2, if_pos h2]
        simp
      · rw [if_neg h2, if_neg h2]
        have hpos : 0 < opened o c := by
          have : 0 ≤ opened o c := by unfold opened; (repeat' split) <;> omega
          omega
        rw [ih _ hpos]
        cases endR (opened o c) (p ++ z) with
        | none => rfl
        | some k =>
          simp only [Option.map_some, List.length_cons]
          by_cases hk : k < p.length
          · rw [if_pos hk, if_pos (by omega)]; rfl
          · rw [if_neg hk, if_neg (by omega)]
            simp only [Option.map_some]
            congr 1
            omega
theorem drop_about {p x z : List Int} {b : Int} (k : Nat) (hk : p.length ≤ k) : (about p b x z).drop (k + x.length + 2 + 1) = (p ++ z).drop (k + 1) := by
  unfold about
  rw [List.drop_append, List.drop_append]
  rw [List.drop_eq_nil_of_le (by omega : p.length ≤ k + x.length + 2 + 1), List.drop_eq_nil_of_le (by omega : p.length ≤ k + 1), List.nil_append, List.nil_append]
  rw [show k + x.length + 2 + 1 - p.length = (k - p.length + 1 + x.length + 1) + 1 by omega, List.drop_succ_cons, List.drop_append, List.drop_eq_nil_of_le (by omega : x.length ≤ k - p.length + 1 + x.length + 1), List.nil_append]
  rw [show k - p.length + 1 + x.length + 1 - x.length = (k + 1 - p.length) + 1 by omega, List.drop_succ_cons]
theorem take_about {p x z : List Int} {b : Int} (k : Nat) (hk : p.length ≤ k) : (about p b x z).take (k + x.length + 2) = about p b x (z.take (k - p.length)) := by
  unfold about
  rw [List.take_append, List.take_of_length_le (by omega : p.length ≤ k + x.length + 2)]
  congr 1
  rw [show k + x.length + 2 - p.length = (k - p.length + x.length + 1) + 1 by omega, List.take_succ_cons]
  congr 1
  rw [List.take_append, List.take_of_length_le (by omega : x.length ≤ k - p.length + x.length + 1)]
  congr 1
  rw [show k - p.length + x.length + 1 - x.length = (k - p.length) + 1 by omega, List.take_succ_cons]
theorem drop_ahead {p x z : List Int} {b : Int} (k : Nat) (hk : k < p.length) : (about p b x z).drop (k + 1) = about (p.drop (k + 1)) b x z ∧ (p ++ z).drop (k + 1) = p.drop (k + 1) ++ z := by
  unfold about
  exact ⟨List.drop_append_of_le_length (by omega), List.drop_append_of_le_length (by omega)⟩
/-- The first strong is as without the isolate. -/
theorem strong_about {b : Int} (hb : begins b = true) {x : List Int} (hx : bal 0 x) (n : Nat) : ∀ (p z : List Int), p.length ≤ n → strong (about p b x z) = strong (p ++ z) := by
  induction n with
  | zero =>
    intro p z h
    obtain rfl := List.eq_nil_of_length_eq_zero (Nat.le_zero.1 h)
    unfold about
    rw [List.nil_append, List.nil_append, strong_cons, if_neg (by have := begins_not hb; omega), if_neg (by have := begins_not hb; omega), if_pos hb]
    have he : endR 1 (x ++ 22 :: z) = some x.length := by
      have h1 := endR_bal (o := 1) (by omega) (22 :: z) (Int.le_refl 0) hx
      rw [show (1 : Int) + 0 = 1 from rfl] at h1
      rw [h1, endR, if_neg (by decide), opened_22, if_pos (by decide)]
      simp
    rw [he]
    simp only []
    rw [List.drop_append, List.drop_eq_nil_of_le (by omega : x.length ≤ x.length + 1), List.nil_append, show x.length + 1 - x.length = 1 by omega]
    rfl
  | succ n ih =>
    intro p z h
    cases p with
    | nil => exact ih [] z (Nat.zero_le _)
    | cons c p =>
      simp only [List.length_cons] at h
      show strong (c :: about p b x z) = strong (c :: (p ++ z))
      rw [strong_cons, strong_cons, endR_about hb hx z p 1 (by omega), ih p z (by omega)]
      split
      · rfl
      · split
        · rfl
        · split
          · cases he : endR 1 (p ++ z) with
            | none => rfl
            | some k =>
              simp only []
              by_cases hk : k < p.length
              · rw [if_pos hk]
                simp only []
                obtain ⟨h1, h2⟩ := drop_ahead (p := p) (x := x) (z := z) (b := b) k hk
                rw [h1, h2]
                exact ih _ z (by rw [List.length_drop]; omega)
              · rw [if_neg hk]
                simp only []
                rw [drop_about k (by omega)]
          · rfl
theorem dir_about {b : Int} (hb : begins b = true) {x : List Int} (hx : bal 0 x) (c : Int) (p z : List Int) : dir c (about p b x z) = dir c (p ++ z) := by
  unfold dir
  rw [endR_about hb hx z p 1 (by omega)]
  split
  · rfl
  · split
    · cases he : endR 1 (p ++ z) with
      | none => exact strong_about hb hx _ p z (Nat.le_refl _)
      | some k =>
        simp only []
        by_cases hk : k < p.length
        · rw [if_pos hk]
          simp only []
          unfold about
          rw [List.take_append_of_le_length (by omega), List.take_append_of_le_length (by omega)]
        · rw [if_neg hk]
          simp only []
          rw [take_about k (by omega), strong_about hb hx _ p _ (Nat.le_refl _), List.take_append, List.take_of_length_le (by omega : p.length ≤ k)]
    · rfl
theorem known_begins (c : Int) : begins (known c) = begins c := by
  unfold known
  split
  · unfold begins
    rw [Bool.eq_iff_iff]
    simp
    omega
  · rfl
theorem known_22 (c : Int) : known c = 22 ↔ c = 22 := by unfold known; split <;> omega
theorem known_10 (c : Int) : known c = 10 ↔ c = 10 := by unfold known; split <;> omega
theorem removed_not {c : Int} (h : removed c = true) : c ≠ 10 ∧ c ≠ 22 ∧ begins c = false := by
  unfold removed at h
  unfold begins
  simp at h ⊢
  omega
theorem opened_known (d c : Int) : opened d (known c) = opened d c := by
  unfold opened
  rw [known_begins]
  have := known_22 c
  by_cases h : c = 22
  · rw [if_pos h, if_pos (this.2 h)]
  · rw [if_neg h, if_neg (fun k => h (this.1 k))]
/-- The machine within an isolate: what it was is kept below; d are open. -/
def Inside (m m' : Mc) (d : Int) : Prop :=
  (m'.s = m.s ∧ m'.v = m.v ∧ m'.e = m.e ∧ m'.o = m.o + 1 + d) ∨
    (m.o = 0 ∧ m.e = 0 ∧ 0 ≤ m'.o ∧ 0 ≤ m'.e ∧ ∃ t i, m'.s = t ++ i :: m.s ∧ i.iso = true ∧ m'.v = m.v + 1 + ((t.countP fun x => x.iso : Nat) : Int) ∧ m'.o + ((t.countP fun x => x.iso : Nat) : Int) = d)
theorem Inside.begin (m : Mc) (odd : Int) : Inside m (m.isolate odd) 0 := by
  unfold Mc.isolate
  split
  · rename_i hr
    obtain ⟨_, h1, h2⟩ := hr
    refine .inr ⟨h1, h2, by show 0 ≤ m.o; omega, by show 0 ≤ m.e; omega, [], ⟨m.next odd, 13, true⟩, rfl, rfl, by simp, by simp [h1]⟩
  · exact .inl ⟨rfl, rfl, rfl, by simp⟩
theorem Inside.embed {m m' : Mc} {d : Int} (hm : 0 ≤ m.o) (hd : 0 ≤ d) (h : Inside m m' d) (odd ov : Int) : Inside m (m'.embed odd ov) d := by
  rcases h with ⟨h1, h2, h3, h4⟩ | ⟨h1, h2, h3, h4, t, i, h5, h6, h7, h8⟩
  · unfold Mc.embed
    rw [if_neg (fun hr => by have := hr.2.1; omega), if_neg (by omega)]
    exact .inl ⟨h1, h2, h3, h4⟩
  · unfold Mc.embed
    split
    · exact .inr ⟨h1, h2, h3, h4, _ :: t, i, by show _ :: m'.s = _; rw [h5]; rfl, h6, by simpa using h7, by simpa using h8⟩
    · split
      · exact .inr ⟨h1, h2, h3, by show 0 ≤ m'.e + 1; omega, t, i, h5, h6, h7, h8⟩
      · exact .inr ⟨h1, h2, h3, h4, t, i, h5, h6, h7, h8⟩
theorem Inside.pop {m m' : Mc} {d : Int} (hm : 0 ≤ m.o) (hd : 0 ≤ d) (h : Inside m m' d) : Inside m m'.pop d := by
  rcases h with ⟨h1, h2, h3, h4⟩ | ⟨h1, h2, h3, h4, t, i, h5, h6, h7, h8⟩
  · unfold Mc.pop
    rw [if_pos (by omega)]
    exact .inl ⟨h1, h2, h3, h4⟩
  · unfold Mc.pop
    split
    · exact .inr ⟨h1, h2, h3, h4, t, i, h5, h6, h7, h8⟩
    · split
      · exact .inr ⟨h1, h2, h3, by show 0 ≤ m'.e - 1; omega, t, i, h5, h6, h7, h8⟩
      · split
        · rename_i hl
          cases t with
          | nil =>
            have : m'.top = i := by unfold Mc.top; rw [h5]; rfl
            rw [this, h6] at hl
            exact absurd hl.2 (by simp)
          | cons x t =>
            have hx : m'.top = x := by unfold Mc.top; rw [h5]; rfl
            have hxi : x.iso = false := by rw [← hx]; exact hl.2
            refine .inr ⟨h1, h2, h3, h4, t, i, by show m'.s.tail = _; rw [h5]; rfl, h6, ?_, ?_⟩
            · simpa [hxi] using h7
            · simpa [hxi] using h8
        · exact .inr ⟨h1, h2, h3, h4, t, i, h5, h6, h7, h8⟩
theorem Inside.isolate {m m' : Mc} {d : Int} (hm : 0 ≤ m.o) (hd : 0 ≤ d) (h : Inside m m' d) (odd : Int) : Inside m (m'.isolate odd) (d + 1) := by
  rcases h with ⟨h1, h2, h3, h4⟩ | ⟨h1, h2, h3, h4, t, i, h5, h6, h7, h8⟩
  · unfold Mc.isolate
    split
    · rename_i hr
      have := hr.2.1
      omega
    · exact .inl ⟨h1, h2, h3, by show m'.o + 1 = _; omega⟩
  · unfold Mc.isolate
    split
    · exact .inr ⟨h1, h2, h3, h4, _ :: t, i, by show _ :: m'.s = _; rw [h5]; rfl, h6, by show m'.v + 1 = _; rw [List.countP_cons_of_pos rfl]; omega, by show m'.o + _ = _; rw [List.countP_cons_of_pos rfl]; omega⟩
    · exact .inr ⟨h1, h2, by show 0 ≤ m'.o + 1; omega, h4, t, i, h5, h6, h7, by show m'.o + 1 + _ = _; omega⟩
/-- The stack of an inside from its top isolate on. -/
theorem drop_all {t u : List Ent} (h : ∀ x ∈ t, x.iso = false) : (t ++ u).dropWhile (fun x => !x.iso) = u.dropWhile (fun x => !x.iso) := by
  induction t with
  | nil => rfl
  | cons x t ih =>
    rw [List.cons_append, List.dropWhile_cons_of_pos (by simp [h x (by simp)])]
    exact ih fun y hy => h y (by simp [hy])
theorem Inside.closed {m m' : Mc} {d : Int} (hm : 0 ≤ m.o) (hv : 0 ≤ m.v) (hd : 0 < d) (h : Inside m m' d) : Inside m m'.closed (d - 1) := by
  rcases h with ⟨h1, h2, h3, h4⟩ | ⟨h1, h2, h3, h4, t, i, h5, h6, h7, h8⟩
  · unfold Mc.closed
    rw [if_pos (by omega)]
    exact .inl ⟨h1, h2, h3, by show m'.o - 1 = _; omega⟩
  · unfold Mc.closed
    split
    · exact .inr ⟨h1, h2, by show 0 ≤ m'.o - 1; omega, h4, t, i, h5, h6, h7, by show m'.o - 1 + _ = _; omega⟩
    · rename_i ho
      have hc : 0 < t.countP fun x => x.iso := by omega
      obtain ⟨t1, z, t2, e1, e2, e3, _⟩ := drop_iso hc
      rw [if_neg (by omega)]
      refine .inr ⟨h1, h2, h3, Int.le_refl _, t2, i, ?_, h6, ?_, ?_⟩
      · show (m'.s.dropWhile fun x => !x.iso).tail = _
        rw [h5, e1, List.append_assoc, drop_all e2, List.cons_append, List.dropWhile_cons_of_neg (by simp [e3]), List.tail_cons]
      · show m'.v - 1 = _
        have h0 : t1.countP (fun x => x.iso) = 0 := by rw [List.countP_eq_zero]; intro x hx; simp [e2 x hx]
        have e4 : List.countP Ent.iso t2 = t2.countP (fun x => x.iso) := rfl
        rw [h7, e1, List.countP_append, List.countP_cons_of_pos e3, h0, e4]
        omega
      · show m'.o + _ = _
        have h0 : t1.countP (fun x => x.iso) = 0 := by rw [List.countP_eq_zero]; intro x hx; simp [e2 x hx]
        have e4 : List.countP Ent.iso t2 = t2.countP (fun x => x.iso) := rfl
        rw [e1, List.countP_append, List.countP_cons_of_pos e3, h0, e4] at h8
        omega
/-- The end of an isolate lays the machine as it was. -/
theorem Inside.end_ {m m' : Mc} (hm : 0 ≤ m.o) (hv : 0 ≤ m.v) (h : Inside m m' 0) : m'.closed = m := by
  obtain ⟨s, o, e, v⟩ := m
  obtain ⟨s', o', e', v'⟩ := m'
  dsimp only at hm hv
  rcases h with ⟨h1, h2, h3, h4⟩ | ⟨h1, h2, h3, h4, t, i, h5, h6, h7, h8⟩
  · dsimp only at h1 h2 h3 h4
    subst h1 h2 h3 h4
    unfold Mc.closed
    rw [if_pos (by dsimp only; omega)]
    simp
  · dsimp only at h1 h2 h3 h4 h5 h7 h8
    have hc : t.countP (fun x => x.iso) = 0 := by omega
    have ht : ∀ x ∈ t, x.iso = false := fun x hx => by simpa using (List.countP_eq_zero.1 hc) x hx
    unfold Mc.closed
    rw [if_neg (by dsimp only; omega), if_neg (by dsimp only; omega)]
    dsimp only
    rw [h5, drop_all ht, List.dropWhile_cons_of_neg (by simp [h6]), List.tail_cons]
    simp
    omega
theorem Inside.turn {m m' : Mc} {d base odd c : Int} (hm : 0 ≤ m.o) (hv : 0 ≤ m.v) (hd : 0 ≤ d) (h : Inside m m' d) (h1 : c ≠ 10) (h2 : c = 22 → 0 < d) : Inside m (m'.turn base odd c) (opened d c) := by
  unfold Mc.turn
  by_cases hr : removed c = true
  · rw [if_pos hr]
    obtain ⟨r1, r2, r3⟩ := removed_not hr
    have ho : opened d c = d := by unfold opened; rw [if_neg (by rw [r3]; simp), if_neg r2]; omega
    rw [ho]
    unfold Mc.does
    (repeat' split) <;> first | exact h.embed hm hd _ _ | exact h.pop hm hd | exact h
  · rw [if_neg hr, if_neg h1]
    by_cases h22 : c = 22
    · subst h22
      rw [if_pos rfl, opened_22]
      exact h.closed hm hv (h2 rfl)
    · rw [if_neg h22]
      by_cases hb : begins c = true
      · rw [if_pos hb, opened_begin hb]
        exact h.isolate hm hd odd
      · rw [if_neg hb]
        have ho : opened d c = d := by unfold opened; rw [if_neg hb, if_neg h22]; omega
        rw [ho]
        exact h
theorem Mc.Ok.v0 {base : Int} {m : Mc} (h : m.Ok base) : 0 ≤ m.v := by have := h.cnt; omega
/-- All that stands in an isolate, and its end, lay the machine as it was. -/
theorem run_inside {base : Int} {m : Mc} (hm : m.Ok base) (z : List Int) : ∀ {d : Int} {x : List Int} {m' : Mc}, 0 ≤ d → bal d x → Inside m m' d →
    ∃ X, X.length = x.length ∧ run base m' (x ++ 22 :: z) = X ++ (m.top.lv, if m.top.ov ≠ 13 then m.top.ov else 22) :: run base m z := by
  intro d x
  induction x generalizing d with
  | nil =>
    intro m' hd hb hi
    obtain rfl : d = 0 := hb
    refine ⟨[], rfl, ?_⟩
    have h2 : known 22 = 22 := by decide
    have h1 : removed 22 = false := by decide
    have hc := hi.end_ hm.o0 hm.v0
    simp only [List.nil_append, run, h2]
    unfold Mc.lev Mc.cls Mc.turn Mc.at_
    rw [h1, hc]
    simp
  | cons c x ih =>
    intro m' hd hb hi
    obtain ⟨h1, h2, h3⟩ := hb
    have hge : 0 ≤ opened d c := by
      unfold opened
      by_cases h22 : c = 22
      · have := h2 h22
        (repeat' split) <;> omega
      · rw [if_neg h22]; split <;> omega
    have ht := hi.turn (base := base) (odd := dir (known c) (x ++ 22 :: z)) (c := known c) hm.o0 hm.v0 hd (fun h => h1 ((known_10 c).1 h)) (fun h => h2 ((known_22 c).1 h))
    rw [opened_known] at ht
    obtain ⟨X, hX, he⟩ := ih hge h3 ht
    exact ⟨(m'.lev base (known c), m'.cls (known c)) :: X, by simp [hX], by rw [List.cons_append, run, he]; rfl⟩
/-- CLOSED: what stands in an isolate that is ended changes nothing about it. -/
theorem run_about {base b : Int} (hb : b = 19 ∨ b = 20) (hba : base ≤ 125) (z : List Int) : ∀ (p : List Int) (m : Mc), m.Ok base →
    ∃ A m1, A.length = p.length ∧ m1.Ok base ∧ ∀ x, bal 0 x → ∃ X, X.length = x.length ∧
      run base m (about p b x z) = A ++ (m1.lev base b, m1.cls b) :: (X ++ (m1.top.lv, if m1.top.ov ≠ 13 then m1.top.ov else 22) :: run base m1 z) := by
  have hbb : begins b = true := by rcases hb with rfl | rfl <;> decide
  have hbk : known b = b := by rcases hb with rfl | rfl <;> decide
  have hbr : removed b = false := by rcases hb with rfl | rfl <;> decide
  intro p
  induction p with
  | nil =>
    intro m hm
    refine ⟨[], m, rfl, hm, fun x hx => ?_⟩
    have ht : m.turn base (dir b (x ++ 22 :: z)) b = m.isolate (dir b (x ++ 22 :: z)) := by
      unfold Mc.turn
      rw [if_neg (by rw [hbr]; simp), if_neg (begins_not hbb).1, if_neg (begins_not hbb).2.1, if_pos hbb]
    obtain ⟨X, hX, he⟩ := run_inside hm z (Int.le_refl 0) hx (Inside.begin m (dir b (x ++ 22 :: z)))
    refine ⟨X, hX, ?_⟩
    unfold about
    simp only [List.nil_append, run, hbk, ht, he]
  | cons c p ih =>
    intro m hm
    obtain ⟨A, m1, hA, hm1, h⟩ := ih (m.turn base (dir (known c) (p ++ z)) (known c)) (hm.turn hba _)
    refine ⟨(m.lev base (known c), m.cls (known c)) :: A, m1, by simp [hA], hm1, fun x hx => ?_⟩
    obtain ⟨X, hX, he⟩ := h x hx
    refine ⟨X, hX, ?_⟩
    show run base m (c :: about p b x z) = _
    rw [run, dir_about hbb hx, he]
    rfl
end Go.Proofs.Yticiofpbijahbaa.M
end

section
namespace Go.Proofs.Yticiofpbijahbaa.M

theorem opened_in {d c : Int} (hd : 0 ≤ d) (h : opened (1 + d) c ≠ 0) : 0 ≤ opened d c := by
  by_cases h22 : c = 22
  · subst h22
    rw [opened_22] at h ⊢
    omega
  · unfold opened
    rw [if_neg h22]
    split <;> omega
theorem endR_in : ∀ (r : List Int) {d : Int} {k : Nat}, 0 ≤ d → endR (1 + d) r = some k → ∃ x z, r = x ++ 22 :: z ∧ x.length = k ∧ bal d x := by
  intro r
  induction r with
  | nil => intro d k _ h; cases h
  | cons c r ih =>
    intro d k hd h
    unfold endR at h
    by_cases h10 : c = 10
    · rw [if_pos h10] at h; cases h
    · rw [if_neg h10] at h
      by_cases h0 : opened (1 + d) c = 0
      · rw [if_pos h0] at h
        injection h with h
        have h22 : c = 22 := by
          unfold opened at h0
          split at h0
          · split at h0
            · assumption
            · omega
          · split at h0
            · assumption
            · omega
        subst h22
        have hd0 : d = 0 := by rw [opened_22] at h0; omega
        subst hd0
        exact ⟨[], r, rfl, h, rfl⟩
      · rw [if_neg h0, Option.map_eq_some_iff] at h
        obtain ⟨j, hj, rfl⟩ := h
        have hin := opened_in hd h0
        rw [opened_add] at hj h0
        obtain ⟨x, z, rfl, rfl, hb⟩ := ih hin hj
        refine ⟨c :: x, z, rfl, rfl, h10, fun h22 => ?_, hb⟩
        subst h22
        rw [opened_22] at h0
        omega
theorem bal_one : ∀ (x : List Int) {d e : Int}, bal d x → bal e x → d = e := by
  intro x
  induction x with
  | nil => intro d e h1 h2; exact Eq.trans h1 (Eq.symm h2)
  | cons c x ih =>
    intro d e h1 h2
    have h3 := ih h1.2.2 h2.2.2
    have h4 := opened_add d 0 c
    have h5 := opened_add e 0 c
    rw [Int.add_zero] at h4 h5
    omega
theorem bal_part : ∀ (x y : List Int) {d : Int}, 0 ≤ d → bal d (x ++ y) → ∃ e, 0 ≤ e ∧ bal e y := by
  intro x
  induction x with
  | nil => intro y d hd h; exact ⟨d, hd, h⟩
  | cons c x ih =>
    intro y d hd h
    obtain ⟨h1, h2, h3⟩ := h
    refine ih y ?_ h3
    unfold opened
    by_cases h22 : c = 22
    · have := h2 h22
      (repeat' split) <;> omega
    · rw [if_neg h22]; split <;> omega
/-- An isolate that is ended: what stands ahead of it, in it and behind it. -/
theorem endI_parts {l : List Int} {k e : Nat} (h : endI l k = e) : ∃ c x z, l = l.take k ++ c :: (x ++ 22 :: z) ∧ l[k]? = some c ∧ begins c = true ∧ e = k + 1 + x.length ∧ bal 0 x ∧ l.drop (k + 1) = x ++ 22 :: z := by
  unfold endI at h
  split at h
  · rename_i c hc
    by_cases hb : begins c = true
    · rw [if_pos hb] at h
      cases he : endR 1 (l.drop (k + 1)) with
      | none => rw [he] at h; simp only [] at h; omega
      | some j =>
        rw [he] at h
        simp only [] at h
        obtain ⟨x, z, hx, hl, hbal⟩ := endR_in (l.drop (k + 1)) (Int.le_refl 0) he
        refine ⟨c, x, z, ?_, hc, hb, by omega, hbal, hx⟩
        obtain ⟨hk, rfl⟩ := List.getElem?_eq_some_iff.1 hc
        rw [← hx, ← List.drop_eq_getElem_cons hk, List.take_append_drop]
    · rw [if_neg hb] at h; omega
  · omega
theorem endI_late (l : List Int) (k : Nat) : endI l k = -1 ∨ (k : Int) < endI l k := by
  unfold endI
  split
  · split
    · split
      · omega
      · omega
    · omega
  · omega
theorem endI_lt {l : List Int} {k : Nat} : endI l k < l.length := by
  unfold endI
  split
  · rename_i c hc
    have hk := (List.getElem?_eq_some_iff.1 hc).1
    split
    · split
      · rename_i j hj
        have := endR_lt hj
        rw [List.length_drop] at this
        omega
      · omega
    · omega
  · omega
/-- No two isolates have one end. -/
theorem endI_one {l : List Int} {a b : Nat} (h : endI l a = endI l b) (h0 : 0 ≤ endI l a) : a = b := by
  have key : ∀ a b : Nat, a < b → endI l a = endI l b → 0 ≤ endI l a → False := by
    intro a b hab h h0
    obtain ⟨e, he⟩ : ∃ e : Nat, endI l a = e := ⟨(endI l a).toNat, by omega⟩
    obtain ⟨c, x, z, hl, hc, hb, hlen, hbal, hd⟩ := endI_parts he
    obtain ⟨c', x', z', hl', hc', hb', hlen', hbal', hd'⟩ := endI_parts (h ▸ he)
    -- the second begins within the first
    obtain ⟨n, hn⟩ : ∃ n, b = a + 1 + n := ⟨b - (a + 1), by omega⟩
    have e1 : (x ++ 22 :: z).drop (n + 1) = x' ++ 22 :: z' := by rw [← hd', ← hd, List.drop_drop]; congr 1; omega
    have e2 : (x ++ 22 :: z)[n]? = some c' := by rw [← hd, List.getElem?_drop, ← hc']; congr 1; omega
    have hnx : n < x.length := by omega
    have e3 : x[n]? = some c' := by rw [List.getElem?_append_left hnx] at e2; exact e2
    have e4 : x.drop (n + 1) ++ 22 :: z = x' ++ 22 :: z' := by
      rw [← e1, List.drop_append_of_le_length (by omega)]
    have e5 : x.drop (n + 1) = x' := List.append_inj_left e4 (by rw [List.length_drop]; omega)
    obtain ⟨hn', hcn⟩ := List.getElem?_eq_some_iff.1 e3
    have e6 : x = x.take n ++ c' :: x' := by
      rw [← e5, ← hcn, ← List.drop_eq_getElem_cons hn', List.take_append_drop]
    rw [e6] at hbal
    obtain ⟨d, hd0, hbd⟩ := bal_part _ _ (Int.le_refl 0) hbal
    have h3 := hbd.2.2
    rw [opened_begin hb'] at h3
    have := bal_one _ h3 hbal'
    omega
  rcases Nat.lt_trichotomy a b with h1 | h1 | h1
  · exact (key a b h1 h h0).elim
  · exact h1
  · exact (key b a h1 h.symm (h ▸ h0)).elim
end Go.Proofs.Yticiofpbijahbaa.M
end
