/- Levels of classes that are cut behind a B, and of what stands about an isolate. No program is read here. -/
/- How the program tells the first strong, and all isolates' ends and first strongs in one go, as plain functions, and that both are what the document says. No program is read here. -/
/- The contracts of package explicit's begins, makes, counted and Strong. Condition of the last: the slice reads as a list of classes, at most a thousand long. -/
import Derived.Test.YtjlfgojblimobaaGreatA01
section
namespace Go.Proofs.YtjlfgojblimobaaGreat.M

theorem begins_not {c : Int} (h : begins c = true) : c ≠ 10 ∧ c ≠ 22 ∧ c ≠ 0 ∧ c ≠ 1 ∧ c ≠ 2 := by
  unfold begins at h
  simp at h
  omega
/-! What stands behind a B is not looked at. -/
/-! What stands in an isolate that is ended changes nothing about it. -/
def bal : Int → List Int → Prop
  | d, [] => d = 0
  | d, c :: r => c ≠ 10 ∧ (c = 22 → 0 < d) ∧ bal (opened d c) r
theorem opened_22 (o : Int) : opened o 22 = o - 1 := by unfold opened begins; simp
theorem opened_begin {o c : Int} (h : begins c = true) : opened o c = o + 1 := by
  unfold opened
  rw [if_pos h, if_neg (begins_not h).2.1]
  omega
theorem opened_add (o d c : Int) : opened (o + d) c = o + opened d c := by unfold opened; split <;> omega
theorem known_begins (c : Int) : begins (known c) = begins c := by
  unfold known
  split
  · unfold begins
    rw [Bool.eq_iff_iff]
    simp
    omega
  · rfl
theorem known_22 (c : Int) : known c = 22 ↔ c = 22 := by unfold known; split <;> omega
theorem known_10 (c : Int) : known c = 10 ↔ c = 10 := by unfold known; split <;> omega
theorem removed_not {c : Int} (h : removed c = true) : c ≠ 10 ∧ c ≠ 22 ∧ begins c = false := by
  unfold removed at h
  unfold begins
  simp at h ⊢
  omega
theorem opened_known (d c : Int) : opened d (known c) = opened d c := by
  unfold opened
  rw [known_begins]
  have := known_22 c
  by_cases h : c = 22
  · rw [if_pos h, if_pos (this.2 h)]
  · rw [if_neg h, if_neg (fun k => h (this.1 k))]
def Inside (m m' : Mc) (d : Int) : Prop :=
  (m'.s = m.s ∧ m'.v = m.v ∧ m'.e = m.e ∧ m'.o = m.o + 1 + d) ∨
    (m.o = 0 ∧ m.e = 0 ∧ 0 ≤ m'.o ∧ 0 ≤ m'.e ∧ ∃ t i, m'.s = t ++ i :: m.s ∧ i.iso = true ∧ m'.v = m.v + 1 + ((t.countP fun x => x.iso : Nat) : Int) ∧ m'.o + ((t.countP fun x => x.iso : Nat) : Int) = d)
theorem Inside.begin (m : Mc) (odd : Int) : Inside m (m.isolate odd) 0 := by
  unfold Mc.isolate
  split
  · rename_i hr
    obtain ⟨_, h1, h2⟩ := hr
    refine .inr ⟨h1, h2, by show 0 ≤ m.o; omega, by show 0 ≤ m.e; omega, [], ⟨m.next odd, 13, true⟩, rfl, rfl, by simp, by simp [h1]⟩
  · exact .inl ⟨rfl, rfl, rfl, by simp⟩
theorem Inside.embed {m m' : Mc} {d : Int} (hm : 0 ≤ m.o) (hd : 0 ≤ d) (h : Inside m m' d) (odd ov : Int) : Inside m (m'.embed odd ov) d := by
  rcases h with ⟨h1, h2, h3, h4⟩ | ⟨h1, h2, h3, h4, t, i, h5, h6, h7, h8⟩
  · unfold Mc.embed
    rw [if_neg (fun hr => by have := hr.2.1; omega), if_neg (by omega)]
    exact .inl ⟨h1, h2, h3, h4⟩
  · unfold Mc.embed
    split
    · exact .inr ⟨h1, h2, h3, h4, _ :: t, i, by show _ :: m'.s = _; rw [h5]; rfl, h6, by simpa using h7, by simpa using h8⟩
    · split
      · exact .inr ⟨h1, h2, h3, by show 0 ≤ m'.e + 1; omega, t, i, h5, h6, h7, h8⟩
      · exact .inr ⟨h1, h2, h3, h4, t, i, h5, h6, h7, h8⟩
theorem Inside.pop {m m' : Mc} {d : Int} (hm : 0 ≤ m.o) (hd : 0 ≤ d) (h : Inside m m' d) : Inside m m'.pop d := by
  rcases h with ⟨h1, h2, h3, h4⟩ | ⟨h1, h2, h3, h4, t, i, h5, h6, h7, h8⟩
  · unfold Mc.pop
    rw [if_pos (by omega)]
    exact .inl ⟨h1, h2, h3, h4⟩
  · unfold Mc.pop
    split
    · exact .inr ⟨h1, h2, h3, h4, t, i, h5, h6, h7, h8⟩
    · split
      · exact .inr ⟨h1, h2, h3, by show 0 ≤ m'.e - 1; omega, t, i, h5, h6, h7, h8⟩
      · split
        · rename_i hl
          cases t with
          | nil =>
            have : m'.top = i := by unfold Mc.top; rw [h5]; rfl
            rw [this, h6] at hl
            exact absurd hl.2 (by simp)
          | cons x t =>
            have hx : m'.top = x := by unfold Mc.top; rw [h5]; rfl
            have hxi : x.iso = false := by rw [← hx]; exact hl.2
            refine .inr ⟨h1, h2, h3, h4, t, i, by show m'.s.tail = _; rw [h5]; rfl, h6, ?_, ?_⟩
            · simpa [hxi] using h7
            · simpa [hxi] using h8
        · exact .inr ⟨h1, h2, h3, h4, t, i, h5, h6, h7, h8⟩
theorem Inside.isolate {m m' : Mc} {d : Int} (hm : 0 ≤ m.o) (hd : 0 ≤ d) (h : Inside m m' d) (odd : Int) : Inside m (m'.isolate odd) (d + 1) := by
  rcases h with ⟨h1, h2, h3, h4⟩ | ⟨h1, h2, h3, h4, t, i, h5, h6, h7, h8⟩
  · unfold Mc.isolate
    split
    · rename_i hr
      have := hr.2.1
      omega
    · exact .inl ⟨h1, h2, h3, by show m'.o + 1 = _; omega⟩
  · unfold Mc.isolate
    split
    · exact .inr ⟨h1, h2, h3, h4, _ :: t, i, by show _ :: m'.s = _; rw [h5]; rfl, h6, by show m'.v + 1 = _; rw [List.countP_cons_of_pos rfl]; omega, by show m'.o + _ = _; rw [List.countP_cons_of_pos rfl]; omega⟩
    · exact .inr ⟨h1, h2, by show 0 ≤ m'.o + 1; omega, h4, t, i, h5, h6, h7, by show m'.o + 1 + _ = _; omega⟩
theorem drop_all {t u : List Ent} (h : ∀ x ∈ t, x.iso = false) : (t ++ u).dropWhile (fun x => !x.iso) = u.dropWhile (fun x => !x.iso) := by
  induction t with
  | nil => rfl
  | cons x t ih =>
    rw [List.cons_append, List.dropWhile_cons_of_pos (by simp [h x (by simp)])]
    exact ih fun y hy => h y (by simp [hy])
theorem Inside.closed {m m' : Mc} {d : Int} (hm : 0 ≤ m.o) (hv : 0 ≤ m.v) (hd : 0 < d) (h : Inside m m' d) : Inside m m'.closed (d - 1) := by
  rcases h with ⟨h1, h2, h3, h4⟩ | ⟨h1, h2, h3, h4, t, i, h5, h6, h7, h8⟩
  · unfold Mc.closed
    rw [if_pos (by omega)]
    exact .inl ⟨h1, h2, h3, by show m'.o - 1 = _; omega⟩
  · unfold Mc.closed
    split
    · exact .inr ⟨h1, h2, by show 0 ≤ m'.o - 1; omega, h4, t, i, h5, h6, h7, by show m'.o - 1 + _ = _; omega⟩
    · rename_i ho
      have hc : 0 < t.countP fun x => x.iso := by omega
      obtain ⟨t1, z, t2, e1, e2, e3, _⟩ := drop_iso hc
      rw [if_neg (by omega)]
      refine .inr ⟨h1, h2, h3, Int.le_refl _, t2, i, ?_, h6, ?_, ?_⟩
      · show (m'.s.dropWhile fun x => !x.iso).tail = _
        rw [h5, e1, List.append_assoc, drop_all e2, List.cons_append, List.dropWhile_cons_of_neg (by simp [e3]), List.tail_cons]
      · show m'.v - 1 = _
        have h0 : t1.countP (fun x => x.iso) = 0 := by rw [List.countP_eq_zero]; intro x hx; simp [e2 x hx]
        have e4 : List.countP Ent.iso t2 = t2.countP (fun x => x.iso) := rfl
        rw [h7, e1, List.countP_append, List.countP_cons_of_pos e3, h0, e4]
        omega
      · show m'.o + _ = _
        have h0 : t1.countP (fun x => x.iso) = 0 := by rw [List.countP_eq_zero]; intro x hx; simp [e2 x hx]
        have e4 : List.countP Ent.iso t2 = t2.countP (fun x => x.iso) := rfl
        rw [e1, List.countP_append, List.countP_cons_of_pos e3, h0, e4] at h8
        omega
theorem Inside.end_ {m m' : Mc} (hm : 0 ≤ m.o) (hv : 0 ≤ m.v) (h : Inside m m' 0) : m'.closed = m := by
  obtain ⟨s, o, e, v⟩ := m
  obtain ⟨s', o', e', v'⟩ := m'
  dsimp only at hm hv
  rcases h with ⟨h1, h2, h3, h4⟩ | ⟨h1, h2, h3, h4, t, i, h5, h6, h7, h8⟩
  · dsimp only at h1 h2 h3 h4
    subst h1 h2 h3 h4
    unfold Mc.closed
    rw [if_pos (by dsimp only; omega)]
    simp
  · dsimp only at h1 h2 h3 h4 h5 h7 h8
    have hc : t.countP (fun x => x.iso) = 0 := by omega
    have ht : ∀ x ∈ t, x.iso = false := fun x hx => by simpa using (List.countP_eq_zero.1 hc) x hx
    unfold Mc.closed
    rw [if_neg (by dsimp only; omega), if_neg (by dsimp only; omega)]
    dsimp only
    rw [h5, drop_all ht, List.dropWhile_cons_of_neg (by simp [h6]), List.tail_cons]
    simp
    omega
theorem Inside.turn {m m' : Mc} {d base odd c : Int} (hm : 0 ≤ m.o) (hv : 0 ≤ m.v) (hd : 0 ≤ d) (h : Inside m m' d) (h1 : c ≠ 10) (h2 : c = 22 → 0 < d) : Inside m (m'.turn base odd c) (opened d c) := by
  unfold Mc.turn
  by_cases hr : removed c = true
  · rw [if_pos hr]
    obtain ⟨r1, r2, r3⟩ := removed_not hr
    have ho : opened d c = d := by unfold opened; rw [if_neg (by rw [r3]; simp), if_neg r2]; omega
    rw [ho]
    unfold Mc.does
    (repeat' split) <;> first | exact h.embed hm hd _ _ | exact h.pop hm hd | exact h
  · rw [if_neg hr, if_neg h1]
    by_cases h22 : c = 22
    · subst h22
      rw [if_pos rfl, opened_22]
      exact h.closed hm hv (h2 rfl)
    · rw [if_neg h22]
      by_cases hb : begins c = true
      · rw [if_pos hb, opened_begin hb]
        exact h.isolate hm hd odd
      · rw [if_neg hb]
        have ho : opened d c = d := by unfold opened; rw [if_neg hb, if_neg h22]; omega
        rw [ho]
        exact h
theorem Mc.Ok.v0 {base : Int} {m : Mc} (h : m.Ok base) : 0 ≤ m.v := by have := h.cnt; omega
theorem run_inside {base : Int} {m : Mc} (hm : m.Ok base) (z : List Int) : ∀ {d : Int} {x : List Int} {m' : Mc}, 0 ≤ d → bal d x → Inside m m' d →
    ∃ X, X.length = x.length ∧ run base m' (x ++ 22 :: z) = X ++ (m.top.lv, if m.top.ov ≠ 13 then m.top.ov else 22) :: run base m z := by
  intro d x
  induction x generalizing d with
  | nil =>
    intro m' hd hb hi
    obtain rfl : d = 0 := hb
    refine ⟨[], rfl, ?_⟩
    have h2 : known 22 = 22 := by decide
    have h1 : removed 22 = false := by decide
    have hc := hi.end_ hm.o0 hm.v0
    simp only [List.nil_append, run, h2]
    unfold Mc.lev Mc.cls Mc.turn Mc.at_
    rw [h1, hc]
    simp
  | cons c x ih =>
    intro m' hd hb hi
    obtain ⟨h1, h2, h3⟩ := hb
    have hge : 0 ≤ opened d c := by
      unfold opened
      by_cases h22 : c = 22
      · have := h2 h22
        (repeat' split) <;> omega
      · rw [if_neg h22]; split <;> omega
    have ht := hi.turn (base := base) (odd := dir (known c) (x ++ 22 :: z)) (c := known c) hm.o0 hm.v0 hd (fun h => h1 ((known_10 c).1 h)) (fun h => h2 ((known_22 c).1 h))
    rw [opened_known] at ht
    obtain ⟨X, hX, he⟩ := ih hge h3 ht
    exact ⟨(m'.lev base (known c), m'.cls (known c)) :: X, by simp [hX], by rw [List.cons_append, run, he]; rfl⟩
end Go.Proofs.YtjlfgojblimobaaGreat.M
end

section
namespace Go.Proofs.YtjlfgojblimobaaGreat.M

def isStr (c : Int) : Bool := decide (c = 0) || (decide (c = 1) || decide (c = 2))
def side (c : Int) : Int := if c = 1 ∨ c = 2 then 1 else 0
def cstr : Int → List Int → Int
  | _, [] => 0
  | d, c :: r => if c = 10 then 0 else if begins c = true then cstr (d + 1) r else if c = 22 then cstr (if d - 1 < 0 then 0 else d - 1) r else if isStr c = true ∧ d = 0 then side c else cstr d r
def inner : Int → List Int → Int
  | _, [] => 0
  | d, c :: r => if c = 10 then 0 else if begins c = true then inner (d + 1) r else if c = 22 then (if d = 0 then 0 else inner (d - 1) r) else if isStr c = true ∧ d = 0 then side c else inner d r
theorem opened_b {o c : Int} (h : begins c = true) : opened o c = o + 1 := by
  unfold opened
  rw [if_pos h, if_neg (by rintro rfl; cases h)]
  omega
theorem opened_e {o : Int} : opened o 22 = o - 1 := rfl
theorem opened_n {o c : Int} (h : begins c = false) (h2 : c ≠ 22) : opened o c = o := by
  unfold opened
  rw [h, if_neg h2]
  simp
theorem begins_10 {c : Int} (h : begins c = true) : c ≠ 10 ∧ c ≠ 22 ∧ c ≠ 0 ∧ c ≠ 1 ∧ c ≠ 2 := by
  refine ⟨?_, ?_, ?_, ?_, ?_⟩ <;> (rintro rfl; cases h)
theorem isStr_iff (c : Int) : isStr c = true ↔ c = 0 ∨ c = 1 ∨ c = 2 := by unfold isStr; simp
theorem cstr_end : ∀ (r : List Int) (d : Int), 1 ≤ d → cstr d r = match endR d r with | none => 0 | some k => cstr 0 (r.drop (k + 1)) := by
  intro r
  induction r with
  | nil => intro d _; rfl
  | cons c r ih =>
    intro d hd
    unfold endR
    by_cases h10 : c = 10
    · rw [cstr, if_pos h10, if_pos h10]
    · rw [cstr, if_neg h10, if_neg h10]
      cases hb : begins c with
      | true =>
        rw [if_pos rfl, opened_b hb, if_neg (by omega), ih _ (by omega)]
        cases endR (d + 1) r <;> rfl
      | false =>
        rw [if_neg (by simp)]
        by_cases h22 : c = 22
        · subst h22
          rw [if_pos rfl, opened_e]
          by_cases h1 : d - 1 = 0
          · rw [if_pos h1, h1]
            rfl
          · rw [if_neg h1, if_neg (by omega), ih _ (by omega)]
            cases endR (d - 1) r <;> rfl
        · rw [if_neg h22, if_neg (by omega), opened_n hb h22, if_neg (by omega), ih _ hd]
          cases endR d r <;> rfl
theorem cstr_strongN : ∀ (n : Nat) (l : List Int), l.length ≤ n → cstr 0 l = strong l := by
  intro n
  induction n with
  | zero =>
    intro l h
    obtain rfl : l = [] := List.eq_nil_of_length_eq_zero (Nat.le_zero.1 h)
    rfl
  | succ n ih =>
    intro l h
    cases l with
    | nil => rfl
    | cons c r =>
      simp only [List.length_cons] at h
      rw [strong_cons, cstr]
      by_cases h10 : c = 10
      · rw [if_pos h10, if_pos (.inl h10)]
      · rw [if_neg h10]
        cases hb : begins c with
        | true =>
          obtain ⟨_, _, h0, h1, h2⟩ := begins_10 hb
          rw [if_pos rfl, if_neg (by omega), if_neg (by omega), if_pos rfl, cstr_end _ _ (by omega)]
          cases he : endR (0 + 1) r with
          | none => rw [show (0 : Int) + 1 = 1 from rfl] at he; rw [he]
          | some k =>
            rw [show (0 : Int) + 1 = 1 from rfl] at he
            rw [he]
            exact ih _ (by rw [List.length_drop]; omega)
        | false =>
          rw [if_neg (by simp)]
          by_cases h22 : c = 22
          · subst h22
            rw [if_pos rfl, if_pos (by omega), if_neg (by omega), if_neg (by omega), if_neg (by simp)]
            exact ih _ (by omega)
          · rw [if_neg h22]
            by_cases hs : c = 0 ∨ c = 1 ∨ c = 2
            · rw [if_pos ⟨(isStr_iff c).2 hs, rfl⟩]
              unfold side
              rcases hs with rfl | rfl | rfl <;> simp
            · rw [if_neg (by rw [isStr_iff]; exact fun h => hs h.1), if_neg (by omega), if_neg (by omega), if_neg (by simp)]
              exact ih _ (by omega)
theorem cstr_strong (l : List Int) : cstr 0 l = strong l := cstr_strongN _ l (Nat.le_refl _)
theorem inner_cut : ∀ (r : List Int) (d : Int), 0 ≤ d → inner d r = cstr d (match endR (d + 1) r with | some k => r.take k | none => r) := by
  intro r
  induction r with
  | nil => intro d _; rfl
  | cons c r ih =>
    intro d hd
    unfold endR
    by_cases h10 : c = 10
    · rw [inner, if_pos h10, if_pos h10]
      rw [cstr, if_pos h10]
    · rw [inner, if_neg h10, if_neg h10]
      cases hb : begins c with
      | true =>
        rw [if_pos rfl, opened_b hb, if_neg (by omega), ih _ (by omega)]
        cases endR (d + 1 + 1) r with
        | none => simp only [Option.map_none]; rw [cstr, if_neg h10, if_pos hb]
        | some k => simp only [Option.map_some, List.take_succ_cons]; rw [cstr, if_neg h10, if_pos hb]
      | false =>
        rw [if_neg (by simp)]
        by_cases h22 : c = 22
        · subst h22
          rw [if_pos rfl, opened_e]
          by_cases h1 : d = 0
          · rw [if_pos h1, if_pos (by omega)]
            rfl
          · rw [if_neg h1, if_neg (by omega), ih _ (by omega), show d + 1 - 1 = d - 1 + 1 by omega]
            have hd1 : ¬ d - 1 < 0 := by omega
            cases endR (d - 1 + 1) r with
            | none => simp only [Option.map_none]; rw [cstr, if_neg (by omega), hb, if_neg (by simp), if_pos rfl, if_neg hd1]
            | some k => simp only [Option.map_some, List.take_succ_cons]; rw [cstr, if_neg (by omega), hb, if_neg (by simp), if_pos rfl, if_neg hd1]
        · have hd1 : ¬ d + 1 = 0 := by omega
          rw [if_neg h22, opened_n hb h22, if_neg hd1]
          by_cases hs : isStr c = true ∧ d = 0
          · rw [if_pos hs]
            cases endR (d + 1) r with
            | none => simp only [Option.map_none]; rw [cstr, if_neg h10, hb, if_neg (by simp), if_neg h22, if_pos hs]
            | some k => simp only [Option.map_some, List.take_succ_cons]; rw [cstr, if_neg h10, hb, if_neg (by simp), if_neg h22, if_pos hs]
          · rw [if_neg hs, ih _ hd]
            cases endR (d + 1) r with
            | none => simp only [Option.map_none]; rw [cstr, if_neg h10, hb, if_neg (by simp), if_neg h22, if_neg hs]
            | some k => simp only [Option.map_some, List.take_succ_cons]; rw [cstr, if_neg h10, hb, if_neg (by simp), if_neg h22, if_neg hs]
theorem inner_strong (r : List Int) : inner 0 r = strong (match endR 1 r with | some k => r.take k | none => r) := by
  rw [inner_cut _ _ (Int.le_refl _), cstr_strong]
  rfl
theorem inner_01 (r : List Int) : inner 0 r = 0 ∨ inner 0 r = 1 := by
  rw [inner_strong]
  exact strong_01 _ _
theorem side_01 (c : Int) : side c = 0 ∨ side c = 1 := by unfold side; split <;> simp
theorem inner_at {d c : Int} {l : List Int} {k : Nat} (h : l[k]? = some c) : inner d (l.drop k) = if c = 10 then 0 else if begins c = true then inner (d + 1) (l.drop (k + 1)) else if c = 22 then (if d = 0 then 0 else inner (d - 1) (l.drop (k + 1))) else if isStr c = true ∧ d = 0 then side c else inner d (l.drop (k + 1)) := by
  obtain ⟨hi, rfl⟩ := List.getElem?_eq_some_iff.1 h
  rw [List.drop_eq_getElem_cons hi, inner]
theorem cstr_at {d c : Int} {l : List Int} {k : Nat} (h : l[k]? = some c) : cstr d (l.drop k) = if c = 10 then 0 else if begins c = true then cstr (d + 1) (l.drop (k + 1)) else if c = 22 then cstr (if d - 1 < 0 then 0 else d - 1) (l.drop (k + 1)) else if isStr c = true ∧ d = 0 then side c else cstr d (l.drop (k + 1)) := by
  obtain ⟨hi, rfl⟩ := List.getElem?_eq_some_iff.1 h
  rw [List.drop_eq_getElem_cons hi, cstr]

def Fin (l : List Int) (i : Nat) (x : Int × Int) : Prop :=
  x.1 = endI l i ∧ ∀ c, l[i]? = some c → begins c = true → (x.2 = 1 ↔ inner 0 (l.drop (i + 1)) = 1)
structure Iso (l : List Int) (k : Nat) (all : List (Int × Int)) (O : List Nat) : Prop where
  len : all.length = l.length
  lt : ∀ o ∈ O, o < k
  one : O.Nodup
  done : ∀ i, i < k → i ∉ O → ∃ x, all[i]? = some x ∧ Fin l i x
  opn : ∀ (j : Nat) (o : Nat), O[j]? = some o → ∃ f, all[o]? = some (-1, f) ∧ endI l o = endTo ((j : Int) + 1) l k ∧ (f = -1 ∧ inner 0 (l.drop (o + 1)) = inner j (l.drop k) ∨ (f = 0 ∨ f = 1) ∧ inner 0 (l.drop (o + 1)) = f)
theorem Iso.zero {l : List Int} : Iso l 0 (List.replicate l.length (0, 0)) [] := by
  refine ⟨by simp, fun o ho => (by cases ho), List.nodup_nil, fun i hi => by omega, fun j o h => by simp at h⟩

section
variable {l : List Int} {k : Nat} {all : List (Int × Int)} {O : List Nat} {c : Int}
theorem Iso.klt (hc : l[k]? = some c) (h : Iso l k all O) : k < all.length := by rw [h.len]; exact (List.getElem?_eq_some_iff.1 hc).1
theorem Iso.keep (_h : Iso l k all O) {i : Nat} (hi : i < k) (x : Int × Int) : (all.set k x)[i]? = all[i]? := by rw [List.getElem?_set_ne (by omega)]
theorem endI_no (hc : l[k]? = some c) (hb : begins c = false) : endI l k = -1 := by
  unfold endI
  rw [hc]
  simp [hb]
theorem fin_no (hc : l[k]? = some c) (hb : begins c = false) (f : Int) : Fin l k (-1, f) := by
  refine ⟨(endI_no hc hb).symm, fun c' hc' hb' => ?_⟩
  rw [hc] at hc'
  obtain rfl := Option.some.inj hc'
  rw [hb] at hb'
  cases hb'
theorem fin_off {o : Nat} {e f : Int} (he : e = endI l o) (hf : f = -1 ∧ inner 0 (l.drop (o + 1)) = 0 ∨ (f = 0 ∨ f = 1) ∧ inner 0 (l.drop (o + 1)) = f) : Fin l o (e, f) := by
  refine ⟨he, fun _ _ _ => ?_⟩
  show f = 1 ↔ _
  rcases hf with ⟨rfl, h⟩ | ⟨_, h⟩
  · rw [h]; decide
  · rw [h]
theorem Iso.begin_ (h : Iso l k all O) (hc : l[k]? = some c) (hb : begins c = true) : Iso l (k + 1) (all.set k (-1, -1)) (k :: O) := by
  have hk := Iso.klt hc h
  obtain ⟨h10, h22, _⟩ := begins_10 hb
  refine ⟨by rw [List.length_set]; exact h.len, fun o ho => ?_, List.nodup_cons.2 ⟨fun hk' => by have := h.lt k hk'; omega, h.one⟩, fun i hi hn => ?_, fun j o hj => ?_⟩
  · rcases List.mem_cons.1 ho with rfl | ho
    · omega
    · have := h.lt o ho; omega
  · simp only [List.mem_cons, not_or] at hn
    obtain ⟨x, hx, hf⟩ := h.done i (by omega) hn.2
    exact ⟨x, by rw [h.keep (by omega)]; exact hx, hf⟩
  · cases j with
    | zero =>
      simp only [List.getElem?_cons_zero, Option.some.injEq] at hj
      subst hj
      refine ⟨-1, by rw [List.getElem?_set_self hk], ?_, .inl ⟨rfl, rfl⟩⟩
      unfold endI endTo
      rw [hc]
      simp only [hb, if_true]
      rfl
    | succ j =>
      rw [List.getElem?_cons_succ] at hj
      obtain ⟨f, h1, h2, h3⟩ := h.opn j o hj
      have ho := h.lt o (List.mem_of_getElem? hj)
      refine ⟨f, by rw [h.keep ho]; exact h1, ?_, ?_⟩
      · rw [h2, endTo_step hc, if_neg h10, opened_b hb, if_neg (by omega)]
        rfl
      · rcases h3 with ⟨h3, h4⟩ | h3
        · refine .inl ⟨h3, ?_⟩
          rw [h4, inner_at hc, if_neg h10, if_pos hb]
          rfl
        · exact .inr h3
theorem Iso.b_ (h : Iso l k all O) (hc : l[k]? = some 10) : Iso l (k + 1) (all.set k (-1, -1)) [] := by
  have hk := Iso.klt hc h
  refine ⟨by rw [List.length_set]; exact h.len, fun o ho => (by cases ho), List.nodup_nil, fun i hi _ => ?_, fun j o hj => by simp at hj⟩
  rcases Nat.lt_or_ge i k with hik | hik
  · by_cases hO : i ∈ O
    · obtain ⟨j, hj⟩ := List.getElem?_of_mem hO
      obtain ⟨f, h1, h2, h3⟩ := h.opn j i hj
      refine ⟨(-1, f), by rw [h.keep hik]; exact h1, fin_off ?_ ?_⟩
      · rw [h2, endTo_step hc, if_pos rfl]
      · rcases h3 with ⟨h3, h4⟩ | h3
        · exact .inl ⟨h3, by rw [h4, inner_at hc, if_pos rfl]⟩
        · exact .inr h3
    · obtain ⟨x, hx, hf⟩ := h.done i hik hO
      exact ⟨x, by rw [h.keep hik]; exact hx, hf⟩
  · obtain rfl : i = k := by omega
    exact ⟨(-1, -1), by rw [List.getElem?_set_self hk], fin_no hc rfl _⟩
theorem Iso.none_ (h : Iso l k all []) (hc : l[k]? = some c) (hb : begins c = false) : Iso l (k + 1) (all.set k (-1, -1)) [] := by
  have hk := Iso.klt hc h
  refine ⟨by rw [List.length_set]; exact h.len, fun o ho => (by cases ho), List.nodup_nil, fun i hi _ => ?_, fun j o hj => by simp at hj⟩
  rcases Nat.lt_or_ge i k with hik | hik
  · obtain ⟨x, hx, hf⟩ := h.done i hik (by simp)
    exact ⟨x, by rw [h.keep hik]; exact hx, hf⟩
  · obtain rfl : i = k := by omega
    exact ⟨(-1, -1), by rw [List.getElem?_set_self hk], fin_no hc hb _⟩
theorem Iso.pdi_ {o : Nat} {f : Int} (h : Iso l k all (o :: O)) (hc : l[k]? = some 22) (ho : all[o]? = some (-1, f)) : Iso l (k + 1) ((all.set k (-1, -1)).set o (k, f)) O := by
  have hk := Iso.klt hc h
  have hok := h.lt o (List.mem_cons_self ..)
  obtain ⟨hno, hO⟩ := List.nodup_cons.1 h.one
  obtain ⟨f', q1, q2, q3⟩ := h.opn 0 o rfl
  rw [ho] at q1
  obtain rfl : f = f' := by injection q1 with q1; injection q1
  have K : ∀ i, i < k → i ≠ o → ((all.set k (-1, -1)).set o ((k : Int), f))[i]? = all[i]? := fun i hi hne => by rw [List.getElem?_set_ne (by omega), h.keep hi]
  refine ⟨by rw [List.length_set, List.length_set]; exact h.len, fun x hx => by have := h.lt x (List.mem_cons_of_mem _ hx); omega, hO, fun i hi hn => ?_, fun j x hj => ?_⟩
  · rcases Nat.lt_or_ge i k with hik | hik
    · by_cases hio : i = o
      · subst hio
        refine ⟨((k : Int), f), by rw [List.getElem?_set_self (by rw [List.length_set]; omega)], fin_off ?_ ?_⟩
        · rw [q2, endTo_step hc, if_neg (by decide), if_pos (by rw [opened_e]; omega)]
        · rcases q3 with ⟨h3, h4⟩ | h3
          · exact .inl ⟨h3, by rw [h4, inner_at hc, if_neg (by decide), if_neg (by decide), if_pos rfl, if_pos (by omega)]⟩
          · exact .inr h3
      · obtain ⟨x, hx, hf⟩ := h.done i hik (by simp only [List.mem_cons, not_or]; exact ⟨hio, hn⟩)
        exact ⟨x, by rw [K i hik hio]; exact hx, hf⟩
    · obtain rfl : i = k := by omega
      exact ⟨(-1, -1), by rw [List.getElem?_set_ne (by omega), List.getElem?_set_self hk], fin_no hc rfl _⟩
  · obtain ⟨g, h1, h2, h3⟩ := h.opn (j + 1) x (by rw [List.getElem?_cons_succ]; exact hj)
    have hx := h.lt x (List.mem_cons_of_mem _ (List.mem_of_getElem? hj))
    have hxo : x ≠ o := fun e => hno (e ▸ List.mem_of_getElem? hj)
    refine ⟨g, by rw [K x hx hxo]; exact h1, ?_, ?_⟩
    · rw [h2, endTo_step hc, if_neg (by decide), if_neg (by rw [opened_e]; omega), opened_e, show ((j + 1 : Nat) : Int) + 1 - 1 = (j : Int) + 1 by omega]
    · rcases h3 with ⟨h3, h4⟩ | h3
      · refine .inl ⟨h3, ?_⟩
        rw [h4, inner_at hc, if_neg (by decide), if_neg (by decide), if_pos rfl, if_neg (by omega), show ((j + 1 : Nat) : Int) - 1 = (j : Int) by omega]
      · exact .inr h3
theorem Iso.same_ {o : Nat} {f f' : Int} (h : Iso l k all (o :: O)) (hc : l[k]? = some c) (hb : begins c = false) (h10 : c ≠ 10) (h22 : c ≠ 22) (ho : all[o]? = some (-1, f))
    (hf : isStr c = true ∧ f = -1 ∧ f' = side c ∨ ¬ (isStr c = true ∧ f = -1) ∧ f' = f) : Iso l (k + 1) ((all.set k (-1, -1)).set o (-1, f')) (o :: O) := by
  have hk := Iso.klt hc h
  have hok := h.lt o (List.mem_cons_self ..)
  obtain ⟨hno, hO⟩ := List.nodup_cons.1 h.one
  obtain ⟨f1, q1, q2, q3⟩ := h.opn 0 o rfl
  rw [ho] at q1
  obtain rfl : f = f1 := by injection q1 with q1; injection q1
  have K : ∀ i, i < k → i ≠ o → ((all.set k (-1, -1)).set o (-1, f'))[i]? = all[i]? := fun i hi hne => by rw [List.getElem?_set_ne (by omega), h.keep hi]
  refine ⟨by rw [List.length_set, List.length_set]; exact h.len, fun x hx => by have := h.lt x hx; omega, h.one, fun i hi hn => ?_, fun j x hj => ?_⟩
  · have hio : i ≠ o := fun e => hn (e ▸ List.mem_cons_self ..)
    rcases Nat.lt_or_ge i k with hik | hik
    · obtain ⟨x, hx, hf⟩ := h.done i hik hn
      exact ⟨x, by rw [K i hik hio]; exact hx, hf⟩
    · obtain rfl : i = k := by omega
      exact ⟨(-1, -1), by rw [List.getElem?_set_ne (by omega), List.getElem?_set_self hk], fin_no hc hb _⟩
  · cases j with
    | zero =>
      simp only [List.getElem?_cons_zero, Option.some.injEq] at hj
      subst hj
      refine ⟨f', by rw [List.getElem?_set_self (by rw [List.length_set]; omega)], ?_, ?_⟩
      · rw [q2, endTo_step hc, if_neg h10, if_neg (by rw [opened_n hb h22]; omega), opened_n hb h22]
      · rcases q3 with ⟨q3, q4⟩ | ⟨q3, q4⟩
        · rcases hf with ⟨a1, a2, a3⟩ | ⟨a1, a2⟩
          · refine .inr ⟨a3 ▸ side_01 c, ?_⟩
            rw [q4, inner_at hc, if_neg h10, if_neg (by rw [hb]; simp), if_neg h22, if_pos ⟨a1, rfl⟩, a3]
          · refine .inl ⟨a2.trans q3, ?_⟩
            rw [q4, inner_at hc, if_neg h10, if_neg (by rw [hb]; simp), if_neg h22, if_neg (fun q => a1 ⟨q.1, q3⟩)]
        · rcases hf with ⟨a1, a2, a3⟩ | ⟨a1, a2⟩
          · omega
          · subst a2
            exact .inr ⟨q3, q4⟩
    | succ j =>
      rw [List.getElem?_cons_succ] at hj
      obtain ⟨g, h1, h2, h3⟩ := h.opn (j + 1) x (by rw [List.getElem?_cons_succ]; exact hj)
      have hx := h.lt x (List.mem_cons_of_mem _ (List.mem_of_getElem? hj))
      have hxo : x ≠ o := fun e => hno (e ▸ List.mem_of_getElem? hj)
      refine ⟨g, by rw [K x hx hxo]; exact h1, ?_, ?_⟩
      · rw [h2, endTo_step hc, if_neg h10, if_neg (by rw [opened_n hb h22]; omega), opened_n hb h22]
      · rcases h3 with ⟨h3, h4⟩ | h3
        · refine .inl ⟨h3, ?_⟩
          rw [h4, inner_at hc, if_neg h10, if_neg (by rw [hb]; simp), if_neg h22, if_neg (fun q => by have := q.2; omega)]
        · exact .inr h3
theorem Iso.end_ (h : Iso l l.length all O) : ∀ i, i < l.length → ∃ x, all[i]? = some x ∧ Fin l i x := by
  intro i hi
  by_cases hO : i ∈ O
  · obtain ⟨j, hj⟩ := List.getElem?_of_mem hO
    obtain ⟨f, h1, h2, h3⟩ := h.opn j i hj
    refine ⟨(-1, f), h1, fin_off ?_ ?_⟩
    · rw [h2, endTo_end (Nat.le_refl _)]
    · rcases h3 with ⟨h3, h4⟩ | h3
      · refine .inl ⟨h3, ?_⟩
        rw [h4, List.drop_length]
        rfl
      · exact .inr h3
  · exact h.done i hi hO
end
def oddOf (c f : Int) : Int := if c = 20 then 1 else if c = 21 then (if f = 1 then 1 else 0) else 0
theorem known_b (c : Int) : begins (known c) = begins c := by
  unfold known
  split
  · rename_i h
    unfold begins
    rw [Bool.eq_iff_iff]
    simp
    omega
  · rfl
theorem dir_told {l : List Int} {k : Nat} {c : Int} {x : Int × Int} (hc : l[k]? = some c) (hx : Fin l k x) (hb : begins (known c) = true) : dir (known c) (l.drop (k + 1)) = oddOf (known c) x.2 := by
  have h := hx.2 c hc (known_b c ▸ hb)
  unfold dir oddOf
  split
  · rfl
  · split
    · rw [inner_strong] at h
      have h01 := inner_01 (l.drop (k + 1))
      rw [inner_strong] at h01
      by_cases h1 : x.2 = 1
      · rw [if_pos h1]
        exact h.1 h1
      · rw [if_neg h1]
        rcases h01 with h0 | h0
        · exact h0
        · exact absurd (h.2 h0) h1
    · rfl
end Go.Proofs.YtjlfgojblimobaaGreat.M
end

section
namespace Go.Proofs.YtjlfgojblimobaaGreat
open Go.RowKit
set_option maxRecDepth 100000

theorem cbegins_any (c : Int) (w : World) : Calls Tryz.prog 54 #[.int .i64 c] w fun r w' => r = .returned (.bool (M.begins c)) ∧ w = w' := by
  have H := Lib.hid (show M.begins c = (decide (c = 19) || (decide (c = 20) || decide (c = 21))) from rfl)
  go_enter Tryz.func54, Tryz.ntmps54
  go_wp2_with fail
  all_goals
    go_ret
    exact ⟨ret_bool (by rw [H.out, Bool.eq_iff_iff]; simp_all), rfl⟩
theorem ret_mk {a b : Int} {p q : Bool} (h : a = b) (h2 : p = q) : Ending.returned (.tuple #[.int .i64 a, .bool p]) = .returned (.tuple #[.int .i64 b, .bool q]) := by rw [h, h2]
theorem makes_any (c : Int) (w : World) : Calls Tryz.prog 53 #[.int .i64 c] w fun r w' => r = .returned (.tuple #[.int .i64 (M.side c), .bool (M.isStr c)]) ∧ w = w' := by
  have H := Lib.hid (show M.side c = if c = 1 ∨ c = 2 then 1 else 0 from rfl)
  have H2 := Lib.hid (show M.isStr c = (decide (c = 0) || (decide (c = 1) || decide (c = 2))) from rfl)
  go_enter Tryz.func53, Tryz.ntmps53
  go_wp2_with fail
  all_goals
    go_ret2
    exact ⟨ret_mk (by rw [H.out]; simp_all) (by rw [H2.out, Bool.eq_iff_iff]; simp_all), rfl⟩
theorem counted_any (c : Int) (w : World) : Calls Tryz.prog 37 #[.int .i64 c] w fun r w' => r = .returned (.int .i64 (M.known c)) ∧ w = w' := by
  have H := Lib.hid (show M.known c = if c < 0 ∨ 22 < c then 13 else c from rfl)
  go_enter Tryz.func37, Tryz.ntmps37
  go_wp2_with fail
  all_goals
    go_ret
    exact ⟨ret_int (by rw [H.out]; split <;> omega), rfl⟩
set_option maxHeartbeats 4000000 in
theorem cstrong_any (A : Option Addr) (ca n : Nat) (l : List Int) (w : World) (hr : RdS .i64 w w.heap.size A l) (hn : l.length = n) (hl : n ≤ 1000) :
    Calls Tryz.prog 28 #[.slice A n ca] w fun r w' => r = .returned (.int .i64 (M.strong l)) ∧ w = w' := by
  have HR := Lib.hid hr
  have HN := Lib.hid hn
  have hl1 : (n : Int) ≤ 1000 := by omega
  clear hr hn
  go_enter Tryz.func28, Tryz.ntmps28
  go_wp2_with fail
  go_loop [3, 10] (fun dv v => ∃ (i : Nat) (d : Int), i ≤ n ∧ v = .int .i64 i ∧ dv = .int .i64 d ∧ 0 ≤ d ∧ d ≤ i ∧ M.strong l = M.cstr d (l.drop i)) (fun _ v => n - (intOf v).toNat)
  case atStart => exact ⟨0, 0, by omega, by go_num, rfl, by omega, by omega, (M.cstr_strong l).symm⟩
  case round =>
    obtain ⟨i, d, hi, rfl, rfl, hd, hdi, he⟩ := hrel
    by_cases hlt : i < n
    · obtain ⟨ad, c, rfl, hcc, hc, -⟩ := rd_at HR.out (Below.refl _ _) (by rw [HN.out]; exact hlt : i < l.length)
      have hi0 : (0 : Int) ≤ (i : Int) := by omega
      have hi1 : (i : Int) < (n : Int) := by omega
      have HE := Lib.hid (he.trans (M.cstr_at hc))
      have HBC := Lib.hid (cbegins_any c w)
      have HMK := Lib.hid (makes_any c w)
      obtain ⟨b, hb⟩ : ∃ b, M.begins c = b := ⟨_, rfl⟩
      obtain ⟨s, hs⟩ : ∃ s, M.isStr c = s := ⟨_, rfl⟩
      obtain ⟨t, ht⟩ : ∃ t, M.side c = t := ⟨_, rfl⟩
      rw [hb] at HBC HE
      rw [hs] at HMK HE
      rw [ht] at HMK HE
      clear he hc hb hs ht
      by_cases h10 : c = 10
      · rw [if_pos h10] at HE
        subst h10
        go_wp2_with fail
        refine HMK.out.mono ?_
        rintro r w1 ⟨rfl, rfl⟩
        go_wp2_with fail
        go_ret
        exact ⟨ret_int (by rw [HE.out]), rfl⟩
      · rw [if_neg h10] at HE
        cases b with
        | true =>
          rw [if_pos rfl] at HE
          go_wp2_with fail
          refine HMK.out.mono ?_
          rintro r w1 ⟨rfl, rfl⟩
          go_wp2_with fail
          refine HBC.out.mono ?_
          rintro r w1 ⟨rfl, rfl⟩
          go_wp2_with fail
          go_round
          case rel => exact ⟨i + 1, d + 1, by omega, by go_num, rfl, by omega, by omega, HE.out⟩
          case measure => simp [intOf]; omega
        | false =>
          rw [if_neg (by simp)] at HE
          by_cases h22 : c = 22
          · rw [if_pos h22] at HE
            subst h22
            by_cases h1 : d - 1 < 0
            · rw [if_pos h1] at HE
              have hm : max (d - 1) 0 = 0 := by omega
              go_wp2_with fail
              refine HMK.out.mono ?_
              rintro r w1 ⟨rfl, rfl⟩
              go_wp2_with fail
              refine HBC.out.mono ?_
              rintro r w1 ⟨rfl, rfl⟩
              go_wp2_with fail
              go_round
              case rel => exact ⟨i + 1, 0, by omega, by go_num, rfl, by omega, by omega, HE.out⟩
              case measure => simp [intOf]; omega
            · rw [if_neg h1] at HE
              go_wp2_with fail
              refine HMK.out.mono ?_
              rintro r w1 ⟨rfl, rfl⟩
              go_wp2_with fail
              refine HBC.out.mono ?_
              rintro r w1 ⟨rfl, rfl⟩
              go_wp2_with fail
              go_round
              case rel => exact ⟨i + 1, d - 1, by omega, by go_num, rfl, by omega, by omega, HE.out⟩
              case measure => simp [intOf]; omega
          · rw [if_neg h22] at HE
            by_cases h1 : s = true ∧ d = 0
            · rw [if_pos h1] at HE
              obtain ⟨rfl, rfl⟩ := h1
              go_wp2_with fail
              refine HMK.out.mono ?_
              rintro r w1 ⟨rfl, rfl⟩
              go_wp2_with fail
              refine HBC.out.mono ?_
              rintro r w1 ⟨rfl, rfl⟩
              go_wp2_with fail
              go_ret
              exact ⟨ret_int (by rw [HE.out]), rfl⟩
            · rw [if_neg h1] at HE
              cases s with
              | true =>
                have hd0 : ¬ d = 0 := fun e => h1 ⟨rfl, e⟩
                clear h1
                go_wp2_with fail
                refine HMK.out.mono ?_
                rintro r w1 ⟨rfl, rfl⟩
                go_wp2_with fail
                refine HBC.out.mono ?_
                rintro r w1 ⟨rfl, rfl⟩
                go_wp2_with fail
                go_round
                case rel => exact ⟨i + 1, d, by omega, by go_num, rfl, by omega, by omega, HE.out⟩
                case measure => simp [intOf]; omega
              | false =>
                clear h1
                go_wp2_with fail
                refine HMK.out.mono ?_
                rintro r w1 ⟨rfl, rfl⟩
                go_wp2_with fail
                refine HBC.out.mono ?_
                rintro r w1 ⟨rfl, rfl⟩
                go_wp2_with fail
                go_round
                case rel => exact ⟨i + 1, d, by omega, by go_num, rfl, by omega, by omega, HE.out⟩
                case measure => simp [intOf]; omega
    · obtain rfl : i = n := by omega
      have HF := Lib.hid (show M.strong l = 0 by rw [he, List.drop_eq_nil_of_le (by rw [HN.out]; exact Nat.le_refl _)]; rfl)
      clear he
      go_wp2_with fail
      go_ret
      exact ⟨ret_int (by rw [HF.out]), rfl⟩
end Go.Proofs.YtjlfgojblimobaaGreat
end
