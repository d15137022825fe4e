

section
/- How deep scalars are nested, as plain functions on lists of whole numbers: isolates' ends, the first strong, the stack, and the levels. No program is read here. -/
namespace Go.Proofs.Yticiofpbijahbaa.M

def begins (c : Int) : Bool := decide (c = 19) || (decide (c = 20) || decide (c = 21))
def removed (c : Int) : Bool := decide (c = 14) || (decide (c = 16) || (decide (c = 15) || (decide (c = 17) || (decide (c = 18) || decide (c = 9)))))
def known (c : Int) : Int := if c < 0 ∨ 22 < c then 13 else c
/-- How many are open behind a scalar. -/
def opened (o c : Int) : Int := (if begins c = true then o + 1 else o) - (if c = 22 then 1 else 0)
/-- Where the end of what is open lies in what stands behind it. -/
def endR : Int → List Int → Option Nat
  | _, [] => none
  | o, c :: r => if c = 10 then none else if opened o c = 0 then some 0 else (endR (opened o c) r).map (· + 1)
def strongF : Nat → List Int → Int
  | 0, _ => 0
  | _, [] => 0
  | f + 1, c :: r => if c = 10 ∨ c = 0 then 0 else if c = 1 ∨ c = 2 then 1 else if begins c = true then (match endR 1 r with | none => 0 | some k => strongF f (r.drop (k + 1))) else strongF f r
/-- What the first strong makes. -/
def strong (l : List Int) : Int := strongF l.length l
theorem endR_lt {o : Int} {l : List Int} {k : Nat} (h : endR o l = some k) : k < l.length := by
  induction l generalizing o k with
  | nil => cases h
  | cons c r ih =>
    unfold endR at h
    split at h
    · cases h
    · split at h
      · obtain rfl := Option.some.inj h; simp
      · rw [Option.map_eq_some_iff] at h
        obtain ⟨j, hj, rfl⟩ := h
        have := ih hj
        simp
        omega
theorem strongF_fuel : ∀ (f : Nat) (l : List Int), l.length ≤ f → strongF f l = strong l := by
  intro f
  induction f using Nat.strongRecOn with
  | ind f ih =>
    intro l hl
    cases l with
    | nil => cases f <;> rfl
    | cons c r =>
      cases f with
      | zero => simp at hl
      | succ f =>
        unfold strong
        simp only [List.length_cons, strongF]
        split
        · rfl
        · split
          · rfl
          · split
            · cases he : endR 1 r with
              | none => rfl
              | some k =>
                simp only []
                have hk := endR_lt he
                simp only [List.length_cons] at hl
                rw [ih f (by omega) _ (by rw [List.length_drop]; omega), ih r.length (by omega) _ (by rw [List.length_drop]; omega)]
            · simp only [List.length_cons] at hl
              rw [ih f (by omega) _ (by omega)]
              rfl
theorem strong_cons (c : Int) (r : List Int) : strong (c :: r) = if c = 10 ∨ c = 0 then 0 else if c = 1 ∨ c = 2 then 1 else if begins c = true then (match endR 1 r with | none => 0 | some k => strong (r.drop (k + 1))) else strong r := by
  unfold strong
  simp only [List.length_cons, strongF]
  cases he : endR 1 r with
  | none => rfl
  | some k =>
    simp only []
    rw [strongF_fuel _ _ (by rw [List.length_drop]; omega)]
    rfl
theorem strong_01 : ∀ (f : Nat) (l : List Int), strongF f l = 0 ∨ strongF f l = 1 := by
  intro f
  induction f with
  | zero => intro l; exact .inl rfl
  | succ f ih =>
    intro l
    cases l with
    | nil => exact .inl rfl
    | cons c r =>
      unfold strongF
      split
      · exact .inl rfl
      · split
        · exact .inr rfl
        · split
          · split
            · exact .inl rfl
            · exact ih _
          · exact ih _

/-- An entry of the stack: a level, an override, and whether it is an isolate's. -/
structure Ent where
  lv : Int
  ov : Int
  iso : Bool
/-- The stack, its top first, and the three counts. -/
structure Mc where
  s : List Ent
  o : Int
  e : Int
  v : Int
def fresh (base : Int) : Mc := ⟨[⟨base, 13, false⟩], 0, 0, 0⟩
def Mc.top (m : Mc) : Ent := m.s.headD ⟨0, 13, false⟩
def Mc.next (m : Mc) (odd : Int) : Int := if (m.top.lv + 1) % 2 ≠ odd then m.top.lv + 1 + 1 else m.top.lv + 1
def Mc.room (m : Mc) (odd : Int) : Prop := m.next odd ≤ 125 ∧ m.o = 0 ∧ m.e = 0
instance (m : Mc) (odd : Int) : Decidable (m.room odd) := by unfold Mc.room; infer_instance
def Mc.embed (m : Mc) (odd ov : Int) : Mc :=
  if m.room odd then { m with s := ⟨m.next odd, ov, false⟩ :: m.s } else if m.o = 0 then { m with e := m.e + 1 } else m
def Mc.isolate (m : Mc) (odd : Int) : Mc :=
  if m.room odd then { m with v := m.v + 1, s := ⟨m.next odd, 13, true⟩ :: m.s } else { m with o := m.o + 1 }
def Mc.closed (m : Mc) : Mc :=
  if 0 < m.o then { m with o := m.o - 1 } else if m.v = 0 then m else { m with e := 0, s := (m.s.dropWhile fun x => !x.iso).tail, v := m.v - 1 }
def Mc.pop (m : Mc) : Mc :=
  if 0 < m.o then m else if 0 < m.e then { m with e := m.e - 1 } else if 1 < m.s.length ∧ m.top.iso = false then { m with s := m.s.tail } else m
def Mc.does (m : Mc) (c : Int) : Mc :=
  if c = 16 then m.embed 1 13 else if c = 14 then m.embed 0 13 else if c = 17 then m.embed 1 1 else if c = 15 then m.embed 0 0 else if c = 18 then m.pop else m
/-- Whether what begins an isolate makes its level odd: by what stands behind it. -/
def dir (c : Int) (r : List Int) : Int := if c = 20 then 1 else if c = 21 then (strong (match endR 1 r with | some k => r.take k | none => r)) else 0
/-- The machine behind a scalar; its level; its class. -/
def Mc.turn (base odd : Int) (m : Mc) (c : Int) : Mc :=
  if removed c = true then m.does c else if c = 10 then fresh base else if c = 22 then m.closed else if begins c = true then m.isolate odd else m
def Mc.at_ (m : Mc) (c : Int) : Mc := if c = 22 then m.closed else m
def Mc.lev (base : Int) (m : Mc) (c : Int) : Int := if removed c = true then -1 else if c = 10 then base else (m.at_ c).top.lv
def Mc.cls (m : Mc) (c : Int) : Int := if removed c = true then c else if c = 10 then c else if (m.at_ c).top.ov ≠ 13 then (m.at_ c).top.ov else c
/-- The levels and classes of what stands behind a machine. -/
def run (base : Int) : Mc → List Int → List (Int × Int)
  | _, [] => []
  | m, c :: r => (m.lev base (known c), m.cls (known c)) :: run base (m.turn base (dir (known c) r) (known c)) r
/-- The machine behind them. -/
def after (base : Int) : Mc → List Int → Mc
  | m, [] => m
  | m, c :: r => after base (m.turn base (dir (known c) r) (known c)) r
def levels (l : List Int) (base : Int) : Option (List (Int × Int)) :=
  if base < -1 ∨ 1 < base then none else some (run (if base < 0 then strong l else base) (fresh (if base < 0 then strong l else base)) l)
theorem run_len (base : Int) (m : Mc) (l : List Int) : (run base m l).length = l.length := by
  induction l generalizing m with
  | nil => rfl
  | cons c r ih => simp [run, ih]

/-- What holds of every machine: its bottom is no isolate's; it counts its isolates; its levels are from the base's up to the greatest. -/
structure Mc.Ok (base : Int) (m : Mc) : Prop where
  bot : ∃ x y, m.s = x ++ [y] ∧ y.iso = false
  cnt : m.v = (m.s.countP (·.iso) : Nat)
  lvs : ∀ x ∈ m.s, base ≤ x.lv ∧ x.lv ≤ 125
  o0 : 0 ≤ m.o
  e0 : 0 ≤ m.e
theorem fresh_ok {base : Int} (h : base ≤ 125) : (fresh base).Ok base :=
  ⟨⟨[], _, rfl, rfl⟩, rfl, fun x hx => by obtain rfl := List.mem_singleton.1 hx; exact ⟨Int.le_refl _, h⟩, Int.le_refl _, Int.le_refl _⟩
theorem Mc.Ok.top_mem {base : Int} {m : Mc} (h : m.Ok base) : m.top ∈ m.s := by
  obtain ⟨x, y, hs, _⟩ := h.bot
  unfold Mc.top
  rw [hs]
  cases x <;> simp
theorem Mc.Ok.next_in {base : Int} {m : Mc} (h : m.Ok base) (odd : Int) : base ≤ m.next odd := by
  have := (h.lvs _ h.top_mem).1
  unfold Mc.next
  split <;> omega
theorem Mc.Ok.embed {base : Int} {m : Mc} (h : m.Ok base) (odd ov : Int) : (m.embed odd ov).Ok base := by
  unfold Mc.embed
  split
  · rename_i hr
    obtain ⟨x, y, hs, hy⟩ := h.bot
    refine ⟨⟨_ :: x, y, by rw [hs]; rfl, hy⟩, by rw [h.cnt]; simp, fun z hz => ?_, h.o0, h.e0⟩
    rcases List.mem_cons.1 hz with rfl | hz
    · exact ⟨h.next_in odd, hr.1⟩
    · exact h.lvs z hz
  · split
    · exact ⟨h.bot, h.cnt, h.lvs, h.o0, by have := h.e0; show 0 ≤ m.e + 1; omega⟩
    · exact h
theorem Mc.Ok.isolate {base : Int} {m : Mc} (h : m.Ok base) (odd : Int) : (m.isolate odd).Ok base := by
  unfold Mc.isolate
  split
  · rename_i hr
    obtain ⟨x, y, hs, hy⟩ := h.bot
    refine ⟨⟨_ :: x, y, by rw [hs]; rfl, hy⟩, by show m.v + 1 = _; rw [h.cnt]; simp, fun z hz => ?_, h.o0, h.e0⟩
    rcases List.mem_cons.1 hz with rfl | hz
    · exact ⟨h.next_in odd, hr.1⟩
    · exact h.lvs z hz
  · exact ⟨h.bot, h.cnt, h.lvs, by have := h.o0; show 0 ≤ m.o + 1; omega, h.e0⟩
theorem Mc.Ok.pop {base : Int} {m : Mc} (h : m.Ok base) : m.pop.Ok base := by
  unfold Mc.pop
  split
  · exact h
  · split
    · rename_i he
      exact ⟨h.bot, h.cnt, h.lvs, h.o0, by show 0 ≤ m.e - 1; omega⟩
    · split
      · rename_i hl
        obtain ⟨hl, hi⟩ := hl
        obtain ⟨x, y, hs, hy⟩ := h.bot
        cases x with
        | nil => rw [hs] at hl; simp at hl
        | cons z x =>
          have hz : z.iso = false := by unfold Mc.top at hi; rw [hs] at hi; simpa using hi
          refine ⟨⟨x, y, by rw [hs]; rfl, hy⟩, ?_, fun u hu => h.lvs u (List.mem_of_mem_tail hu), h.o0, h.e0⟩
          rw [h.cnt, hs]
          simp [hz]
      · exact h
/-- The stack from its top isolate on. -/
theorem drop_iso {s : List Ent} (h : 0 < s.countP (·.iso)) : ∃ t z u, s = t ++ z :: u ∧ (∀ x ∈ t, x.iso = false) ∧ z.iso = true ∧ s.dropWhile (fun x => !x.iso) = z :: u := by
  induction s with
  | nil => simp at h
  | cons x s ih =>
    cases hx : x.iso
    · rw [List.countP_cons_of_neg (by simp [hx])] at h
      obtain ⟨t, z, u, rfl, h1, h2, h3⟩ := ih h
      refine ⟨x :: t, z, u, rfl, fun y hy => ?_, h2, ?_⟩
      · rcases List.mem_cons.1 hy with rfl | hy
        · exact hx
        · exact h1 y hy
      · rw [List.dropWhile_cons_of_pos (by simp [hx])]
        exact h3
    · exact ⟨[], x, s, rfl, fun y hy => (by cases hy), hx, by rw [List.dropWhile_cons_of_neg (by simp [hx])]⟩
theorem Mc.Ok.closed {base : Int} {m : Mc} (h : m.Ok base) : m.closed.Ok base := by
  unfold Mc.closed
  split
  · exact ⟨h.bot, h.cnt, h.lvs, by show 0 ≤ m.o - 1; omega, h.e0⟩
  · split
    · exact h
    · rename_i hv
      have hc : 0 < m.s.countP (·.iso) := by have := h.cnt; omega
      obtain ⟨t, z, u, hs, ht, hz, hd⟩ := drop_iso hc
      obtain ⟨x, y, hs2, hy⟩ := h.bot
      refine ⟨?_, ?_, fun w hw => ?_, h.o0, Int.le_refl _⟩
      · show ∃ x y, (m.s.dropWhile fun x => !x.iso).tail = x ++ [y] ∧ y.iso = false
        rw [hd, List.tail_cons]
        rcases List.eq_nil_or_concat u with h0 | ⟨u', y', h0⟩
        · subst h0
          rw [hs] at hs2
          have := List.append_inj_right' hs2 rfl
          simp at this
          rw [← this, hz] at hy
          cases hy
        · rw [List.concat_eq_append] at h0
          subst h0
          refine ⟨u', y', rfl, ?_⟩
          rw [hs, ← List.cons_append, ← List.append_assoc] at hs2
          have := List.append_inj_right' hs2 rfl
          simp at this
          rw [this]; exact hy
      · show m.v - 1 = (((m.s.dropWhile fun x => !x.iso).tail.countP (·.iso) : Nat) : Int)
        rw [hd, List.tail_cons, h.cnt, hs, List.countP_append, List.countP_cons_of_pos hz]
        have : t.countP (·.iso) = 0 := by rw [List.countP_eq_zero]; intro x hx; simp [ht x hx]
        have e : List.countP Ent.iso u = u.countP (·.iso) := rfl
        rw [e]
        omega
      · have hw' : w ∈ (m.s.dropWhile fun x => !x.iso).tail := hw
        rw [hd, List.tail_cons] at hw'
        exact h.lvs w (by rw [hs]; simp [hw'])
theorem Mc.Ok.turn {base odd : Int} {m : Mc} (hb : base ≤ 125) (h : m.Ok base) (c : Int) : (m.turn base odd c).Ok base := by
  unfold Mc.turn
  split
  · unfold Mc.does
    (repeat' split) <;> first | exact h.embed _ _ | exact h.pop | exact h
  · split
    · exact fresh_ok hb
    · split
      · exact h.closed
      · split
        · exact h.isolate _
        · exact h
theorem Mc.Ok.at_ {base : Int} {m : Mc} (h : m.Ok base) (c : Int) : (m.at_ c).Ok base := by
  unfold Mc.at_
  split
  · exact h.closed
  · exact h
/-- NEVER TOO DEEP. -/
theorem run_deep {base : Int} (hb : base ≤ 125) : ∀ (l : List Int) (m : Mc), m.Ok base → ∀ (j : Nat) (c : Int) (x : Int × Int), l[j]? = some c → (run base m l)[j]? = some x →
    (removed (known c) = true ∧ x.1 = -1) ∨ (removed (known c) = false ∧ base ≤ x.1 ∧ x.1 ≤ 125) := by
  intro l
  induction l with
  | nil => intro m _ j c x hc _; simp at hc
  | cons d r ih =>
    intro m hm j c x hc hx
    cases j with
    | zero =>
      simp [run] at hc hx
      subst hc hx
      cases hr : removed (known d)
      · refine .inr ⟨rfl, ?_⟩
        show base ≤ m.lev base (known d) ∧ m.lev base (known d) ≤ 125
        unfold Mc.lev
        rw [if_neg (by rw [hr]; simp)]
        split
        · exact ⟨Int.le_refl _, hb⟩
        · exact (hm.at_ _).lvs _ (hm.at_ _).top_mem
      · refine .inl ⟨rfl, ?_⟩
        show m.lev base (known d) = -1
        unfold Mc.lev
        rw [if_pos hr]
    | succ j =>
      simp [run] at hc hx
      exact ih _ (hm.turn hb _) j c x hc hx
theorem removed_known (c : Int) : removed (known c) = removed c := by
  unfold known
  split
  · rename_i h
    unfold removed
    rw [Bool.eq_iff_iff]
    simp
    omega
  · rfl
end Go.Proofs.Yticiofpbijahbaa.M
end
