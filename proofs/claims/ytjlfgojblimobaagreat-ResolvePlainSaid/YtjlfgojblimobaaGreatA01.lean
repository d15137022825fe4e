/- How deep scalars are nested, as plain functions on lists of whole numbers: isolates' ends, the first strong, the stack, and the levels. No program is read here. -/
/- The contracts of the document's Begins, Removed, Known, end, between, Match and Strong. Conditions: the slice reads as a list of classes, at most a thousand long. -/
/- The contracts of the document's Match, Strong and between. Conditions: the slice reads as a list of classes, at most a thousand long. -/
/- The contract of the document's Match. Condition: the slice reads as a list of classes, at most a thousand long. -/
import Derived.Test.YtjlfgojblimobaaGreatA00
section
namespace Go.Proofs.YtjlfgojblimobaaGreat.M

def begins (c : Int) : Bool := decide (c = 19) || (decide (c = 20) || decide (c = 21))
def removed (c : Int) : Bool := decide (c = 14) || (decide (c = 16) || (decide (c = 15) || (decide (c = 17) || (decide (c = 18) || decide (c = 9)))))
def known (c : Int) : Int := if c < 0 ∨ 22 < c then 13 else c
def opened (o c : Int) : Int := (if begins c = true then o + 1 else o) - (if c = 22 then 1 else 0)
def endR : Int → List Int → Option Nat
  | _, [] => none
  | o, c :: r => if c = 10 then none else if opened o c = 0 then some 0 else (endR (opened o c) r).map (· + 1)
def strongF : Nat → List Int → Int
  | 0, _ => 0
  | _, [] => 0
  | f + 1, c :: r => if c = 10 ∨ c = 0 then 0 else if c = 1 ∨ c = 2 then 1 else if begins c = true then (match endR 1 r with | none => 0 | some k => strongF f (r.drop (k + 1))) else strongF f r
def strong (l : List Int) : Int := strongF l.length l
theorem endR_lt {o : Int} {l : List Int} {k : Nat} (h : endR o l = some k) : k < l.length := by
  induction l generalizing o k with
  | nil => cases h
  | cons c r ih =>
    unfold endR at h
    split at h
    · cases h
    · split at h
      · obtain rfl := Option.some.inj h; simp
      · rw [Option.map_eq_some_iff] at h
        obtain ⟨j, hj, rfl⟩ := h
        have := ih hj
        simp
        omega
theorem strongF_fuel : ∀ (f : Nat) (l : List Int), l.length ≤ f → strongF f l = strong l := by
  intro f
  induction f using Nat.strongRecOn with
  | ind f ih =>
    intro l hl
    cases l with
    | nil => cases f <;> rfl
    | cons c r =>
      cases f with
      | zero => simp at hl
      | succ f =>
        unfold strong
        simp only [List.length_cons, strongF]
        split
        · rfl
        · split
          · rfl
          · split
            · cases he : endR 1 r with
              | none => rfl
              | some k =>
                simp only []
                have hk := endR_lt he
                simp only [List.length_cons] at hl
                rw [ih f (by omega) _ (by rw [List.length_drop]; omega), ih r.length (by omega) _ (by rw [List.length_drop]; omega)]
            · simp only [List.length_cons] at hl
              rw [ih f (by omega) _ (by omega)]
              rfl
theorem strong_cons (c : Int) (r : List Int) : strong (c :: r) = if c = 10 ∨ c = 0 then 0 else if c = 1 ∨ c = 2 then 1 else if begins c = true then (match endR 1 r with | none => 0 | some k => strong (r.drop (k + 1))) else strong r := by
  unfold strong
  simp only [List.length_cons, strongF]
  cases he : endR 1 r with
  | none => rfl
  | some k =>
    simp only []
    rw [strongF_fuel _ _ (by rw [List.length_drop]; omega)]
    rfl
theorem strong_01 : ∀ (f : Nat) (l : List Int), strongF f l = 0 ∨ strongF f l = 1 := by
  intro f
  induction f with
  | zero => intro l; exact .inl rfl
  | succ f ih =>
    intro l
    cases l with
    | nil => exact .inl rfl
    | cons c r =>
      unfold strongF
      split
      · exact .inl rfl
      · split
        · exact .inr rfl
        · split
          · split
            · exact .inl rfl
            · exact ih _
          · exact ih _

structure Ent where
  lv : Int
  ov : Int
  iso : Bool
structure Mc where
  s : List Ent
  o : Int
  e : Int
  v : Int
def fresh (base : Int) : Mc := ⟨[⟨base, 13, false⟩], 0, 0, 0⟩
def Mc.top (m : Mc) : Ent := m.s.headD ⟨0, 13, false⟩
def Mc.next (m : Mc) (odd : Int) : Int := if (m.top.lv + 1) % 2 ≠ odd then m.top.lv + 1 + 1 else m.top.lv + 1
def Mc.room (m : Mc) (odd : Int) : Prop := m.next odd ≤ 125 ∧ m.o = 0 ∧ m.e = 0
instance (m : Mc) (odd : Int) : Decidable (m.room odd) := by unfold Mc.room; infer_instance
def Mc.embed (m : Mc) (odd ov : Int) : Mc :=
  if m.room odd then { m with s := ⟨m.next odd, ov, false⟩ :: m.s } else if m.o = 0 then { m with e := m.e + 1 } else m
def Mc.isolate (m : Mc) (odd : Int) : Mc :=
  if m.room odd then { m with v := m.v + 1, s := ⟨m.next odd, 13, true⟩ :: m.s } else { m with o := m.o + 1 }
def Mc.closed (m : Mc) : Mc :=
  if 0 < m.o then { m with o := m.o - 1 } else if m.v = 0 then m else { m with e := 0, s := (m.s.dropWhile fun x => !x.iso).tail, v := m.v - 1 }
def Mc.pop (m : Mc) : Mc :=
  if 0 < m.o then m else if 0 < m.e then { m with e := m.e - 1 } else if 1 < m.s.length ∧ m.top.iso = false then { m with s := m.s.tail } else m
def Mc.does (m : Mc) (c : Int) : Mc :=
  if c = 16 then m.embed 1 13 else if c = 14 then m.embed 0 13 else if c = 17 then m.embed 1 1 else if c = 15 then m.embed 0 0 else if c = 18 then m.pop else m
def dir (c : Int) (r : List Int) : Int := if c = 20 then 1 else if c = 21 then (strong (match endR 1 r with | some k => r.take k | none => r)) else 0
def Mc.turn (base odd : Int) (m : Mc) (c : Int) : Mc :=
  if removed c = true then m.does c else if c = 10 then fresh base else if c = 22 then m.closed else if begins c = true then m.isolate odd else m
def Mc.at_ (m : Mc) (c : Int) : Mc := if c = 22 then m.closed else m
def Mc.lev (base : Int) (m : Mc) (c : Int) : Int := if removed c = true then -1 else if c = 10 then base else (m.at_ c).top.lv
def Mc.cls (m : Mc) (c : Int) : Int := if removed c = true then c else if c = 10 then c else if (m.at_ c).top.ov ≠ 13 then (m.at_ c).top.ov else c
def run (base : Int) : Mc → List Int → List (Int × Int)
  | _, [] => []
  | m, c :: r => (m.lev base (known c), m.cls (known c)) :: run base (m.turn base (dir (known c) r) (known c)) r
def after (base : Int) : Mc → List Int → Mc
  | m, [] => m
  | m, c :: r => after base (m.turn base (dir (known c) r) (known c)) r
def levels (l : List Int) (base : Int) : Option (List (Int × Int)) :=
  if base < -1 ∨ 1 < base then none else some (run (if base < 0 then strong l else base) (fresh (if base < 0 then strong l else base)) l)
theorem run_len (base : Int) (m : Mc) (l : List Int) : (run base m l).length = l.length := by
  induction l generalizing m with
  | nil => rfl
  | cons c r ih => simp [run, ih]

structure Mc.Ok (base : Int) (m : Mc) : Prop where
  bot : ∃ x y, m.s = x ++ [y] ∧ y.iso = false
  cnt : m.v = (m.s.countP (·.iso) : Nat)
  lvs : ∀ x ∈ m.s, base ≤ x.lv ∧ x.lv ≤ 125
  o0 : 0 ≤ m.o
  e0 : 0 ≤ m.e
theorem fresh_ok {base : Int} (h : base ≤ 125) : (fresh base).Ok base :=
  ⟨⟨[], _, rfl, rfl⟩, rfl, fun x hx => by obtain rfl := List.mem_singleton.1 hx; exact ⟨Int.le_refl _, h⟩, Int.le_refl _, Int.le_refl _⟩
theorem Mc.Ok.top_mem {base : Int} {m : Mc} (h : m.Ok base) : m.top ∈ m.s := by
  obtain ⟨x, y, hs, _⟩ := h.bot
  unfold Mc.top
  rw [hs]
  cases x <;> simp
theorem Mc.Ok.next_in {base : Int} {m : Mc} (h : m.Ok base) (odd : Int) : base ≤ m.next odd := by
  have := (h.lvs _ h.top_mem).1
  unfold Mc.next
  split <;> omega
theorem Mc.Ok.embed {base : Int} {m : Mc} (h : m.Ok base) (odd ov : Int) : (m.embed odd ov).Ok base := by
  unfold Mc.embed
  split
  · rename_i hr
    obtain ⟨x, y, hs, hy⟩ := h.bot
    refine ⟨⟨_ :: x, y, by rw [hs]; rfl, hy⟩, by rw [h.cnt]; simp, fun z hz => ?_, h.o0, h.e0⟩
    rcases List.mem_cons.1 hz with rfl | hz
    · exact ⟨h.next_in odd, hr.1⟩
    · exact h.lvs z hz
  · split
    · exact ⟨h.bot, h.cnt, h.lvs, h.o0, by have := h.e0; show 0 ≤ m.e + 1; omega⟩
    · exact h
theorem Mc.Ok.isolate {base : Int} {m : Mc} (h : m.Ok base) (odd : Int) : (m.isolate odd).Ok base := by
  unfold Mc.isolate
  split
  · rename_i hr
    obtain ⟨x, y, hs, hy⟩ := h.bot
    refine ⟨⟨_ :: x, y, by rw [hs]; rfl, hy⟩, by show m.v + 1 = _; rw [h.cnt]; simp, fun z hz => ?_, h.o0, h.e0⟩
    rcases List.mem_cons.1 hz with rfl | hz
    · exact ⟨h.next_in odd, hr.1⟩
    · exact h.lvs z hz
  · exact ⟨h.bot, h.cnt, h.lvs, by have := h.o0; show 0 ≤ m.o + 1; omega, h.e0⟩
theorem Mc.Ok.pop {base : Int} {m : Mc} (h : m.Ok base) : m.pop.Ok base := by
  unfold Mc.pop
  split
  · exact h
  · split
    · rename_i he
      exact ⟨h.bot, h.cnt, h.lvs, h.o0, by show 0 ≤ m.e - 1; omega⟩
    · split
      · rename_i hl
        obtain ⟨hl, hi⟩ := hl
        obtain ⟨x, y, hs, hy⟩ := h.bot
        cases x with
        | nil => rw [hs] at hl; simp at hl
        | cons z x =>
          have hz : z.iso = false := by unfold Mc.top at hi; rw [hs] at hi; simpa using hi
          refine ⟨⟨x, y, by rw [hs]; rfl, hy⟩, ?_, fun u hu => h.lvs u (List.mem_of_mem_tail hu), h.o0, h.e0⟩
          rw [h.cnt, hs]
          simp [hz]
      · exact h
theorem drop_iso {s : List Ent} (h : 0 < s.countP (·.iso)) : ∃ t z u, s = t ++ z :: u ∧ (∀ x ∈ t, x.iso = false) ∧ z.iso = true ∧ s.dropWhile (fun x => !x.iso) = z :: u := by
  induction s with
  | nil => simp at h
  | cons x s ih =>
    cases hx : x.iso
    · rw [List.countP_cons_of_neg (by simp [hx])] at h
      obtain ⟨t, z, u, rfl, h1, h2, h3⟩ := ih h
      refine ⟨x :: t, z, u, rfl, fun y hy => ?_, h2, ?_⟩
      · rcases List.mem_cons.1 hy with rfl | hy
        · exact hx
        · exact h1 y hy
      · rw [List.dropWhile_cons_of_pos (by simp [hx])]
        exact h3
    · exact ⟨[], x, s, rfl, fun y hy => (by cases hy), hx, by rw [List.dropWhile_cons_of_neg (by simp [hx])]⟩
theorem Mc.Ok.closed {base : Int} {m : Mc} (h : m.Ok base) : m.closed.Ok base := by
  unfold Mc.closed
  split
  · exact ⟨h.bot, h.cnt, h.lvs, by show 0 ≤ m.o - 1; omega, h.e0⟩
  · split
    · exact h
    · rename_i hv
      have hc : 0 < m.s.countP (·.iso) := by have := h.cnt; omega
      obtain ⟨t, z, u, hs, ht, hz, hd⟩ := drop_iso hc
      obtain ⟨x, y, hs2, hy⟩ := h.bot
      refine ⟨?_, ?_, fun w hw => ?_, h.o0, Int.le_refl _⟩
      · show ∃ x y, (m.s.dropWhile fun x => !x.iso).tail = x ++ [y] ∧ y.iso = false
        rw [hd, List.tail_cons]
        rcases List.eq_nil_or_concat u with h0 | ⟨u', y', h0⟩
        · subst h0
          rw [hs] at hs2
          have := List.append_inj_right' hs2 rfl
          simp at this
          rw [← this, hz] at hy
          cases hy
        · rw [List.concat_eq_append] at h0
          subst h0
          refine ⟨u', y', rfl, ?_⟩
          rw [hs, ← List.cons_append, ← List.append_assoc] at hs2
          have := List.append_inj_right' hs2 rfl
          simp at this
          rw [this]; exact hy
      · show m.v - 1 = (((m.s.dropWhile fun x => !x.iso).tail.countP (·.iso) : Nat) : Int)
        rw [hd, List.tail_cons, h.cnt, hs, List.countP_append, List.countP_cons_of_pos hz]
        have : t.countP (·.iso) = 0 := by rw [List.countP_eq_zero]; intro x hx; simp [ht x hx]
        have e : List.countP Ent.iso u = u.countP (·.iso) := rfl
        rw [e]
        omega
      · have hw' : w ∈ (m.s.dropWhile fun x => !x.iso).tail := hw
        rw [hd, List.tail_cons] at hw'
        exact h.lvs w (by rw [hs]; simp [hw'])
theorem Mc.Ok.turn {base odd : Int} {m : Mc} (hb : base ≤ 125) (h : m.Ok base) (c : Int) : (m.turn base odd c).Ok base := by
  unfold Mc.turn
  split
  · unfold Mc.does
    (repeat' split) <;> first | exact h.embed _ _ | exact h.pop | exact h
  · split
    · exact fresh_ok hb
    · split
      · exact h.closed
      · split
        · exact h.isolate _
        · exact h
theorem Mc.Ok.at_ {base : Int} {m : Mc} (h : m.Ok base) (c : Int) : (m.at_ c).Ok base := by
  unfold Mc.at_
  split
  · exact h.closed
  · exact h
theorem run_deep {base : Int} (hb : base ≤ 125) : ∀ (l : List Int) (m : Mc), m.Ok base → ∀ (j : Nat) (c : Int) (x : Int × Int), l[j]? = some c → (run base m l)[j]? = some x →
    (removed (known c) = true ∧ x.1 = -1) ∨ (removed (known c) = false ∧ base ≤ x.1 ∧ x.1 ≤ 125) := by
  intro l
  induction l with
  | nil => intro m _ j c x hc _; simp at hc
  | cons d r ih =>
    intro m hm j c x hc hx
    cases j with
    | zero =>
      simp [run] at hc hx
      subst hc hx
      cases hr : removed (known d)
      · refine .inr ⟨rfl, ?_⟩
        show base ≤ m.lev base (known d) ∧ m.lev base (known d) ≤ 125
        unfold Mc.lev
        rw [if_neg (by rw [hr]; simp)]
        split
        · exact ⟨Int.le_refl _, hb⟩
        · exact (hm.at_ _).lvs _ (hm.at_ _).top_mem
      · refine .inl ⟨rfl, ?_⟩
        show m.lev base (known d) = -1
        unfold Mc.lev
        rw [if_pos hr]
    | succ j =>
      simp [run] at hc hx
      exact ih _ (hm.turn hb _) j c x hc hx
theorem removed_known (c : Int) : removed (known c) = removed c := by
  unfold known
  split
  · rename_i h
    unfold removed
    rw [Bool.eq_iff_iff]
    simp
    omega
  · rfl
end Go.Proofs.YtjlfgojblimobaaGreat.M
end

section
namespace Go.Proofs.YtjlfgojblimobaaGreat
open Go.RowKit
set_option maxRecDepth 100000

theorem begins_any (c : Int) (w : World) : Calls Tryz.prog 17 #[.int .i64 c] w fun r w' => r = .returned (.bool (M.begins c)) ∧ w = w' := by
  have H := Lib.hid (show M.begins c = (decide (c = 19) || (decide (c = 20) || decide (c = 21))) from rfl)
  go_enter Tryz.func17, Tryz.ntmps17
  go_wp2_with fail
  all_goals
    go_ret
    exact ⟨ret_bool (by rw [H.out, Bool.eq_iff_iff]; simp_all), rfl⟩
theorem removed_any (c : Int) (w : World) : Calls Tryz.prog 20 #[.int .i64 c] w fun r w' => r = .returned (.bool (M.removed c)) ∧ w = w' := by
  have H := Lib.hid (show M.removed c = (decide (c = 14) || (decide (c = 16) || (decide (c = 15) || (decide (c = 17) || (decide (c = 18) || decide (c = 9)))))) from rfl)
  go_enter Tryz.func20, Tryz.ntmps20
  go_wp2_with fail
  all_goals
    go_ret
    exact ⟨ret_bool (by rw [H.out, Bool.eq_iff_iff]; simp_all), rfl⟩
theorem known_any (c : Int) (w : World) : Calls Tryz.prog 86 #[.int .i64 c] w fun r w' => r = .returned (.int .i64 (M.known c)) ∧ w = w' := by
  have H := Lib.hid (show M.known c = if c < 0 ∨ 22 < c then 13 else c from rfl)
  go_enter Tryz.func86, Tryz.ntmps86
  go_wp2_with fail
  all_goals
    go_ret
    exact ⟨ret_int (by rw [H.out]; split <;> omega), rfl⟩

def M.endI (l : List Int) (k : Nat) : Int := match l[k]? with
  | some c => if M.begins c = true then (match M.endR 1 (l.drop (k + 1)) with | some j => ((k + 1 + j : Nat) : Int) | none => -1) else -1
  | none => -1
def M.endTo (o : Int) (l : List Int) (i : Nat) : Int := match M.endR o (l.drop i) with | some j => ((i + j : Nat) : Int) | none => -1
theorem M.endTo_end {o : Int} {l : List Int} {i : Nat} (h : l.length ≤ i) : M.endTo o l i = -1 := by
  unfold M.endTo
  rw [List.drop_eq_nil_of_le h]
  rfl
theorem M.endTo_step {o c : Int} {l : List Int} {i : Nat} (h : l[i]? = some c) : M.endTo o l i = if c = 10 then -1 else if M.opened o c = 0 then (i : Int) else M.endTo (M.opened o c) l (i + 1) := by
  obtain ⟨hi, rfl⟩ := List.getElem?_eq_some_iff.1 h
  unfold M.endTo
  rw [List.drop_eq_getElem_cons hi, M.endR]
  by_cases h1 : l[i] = 10
  · rw [if_pos h1, if_pos h1]
  · rw [if_neg h1, if_neg h1]
    by_cases h2 : M.opened o l[i] = 0
    · rw [if_pos h2, if_pos h2]
      rfl
    · rw [if_neg h2, if_neg h2]
      cases M.endR (M.opened o l[i]) (l.drop (i + 1)) with
      | none => rfl
      | some j => simp only [Option.map_some]; omega
set_option maxHeartbeats 4000000 in
theorem end_any (A : Option Addr) (ca n k : Nat) (l : List Int) (w : World) (hr : RdS .i64 w w.heap.size A l) (hn : l.length = n) (hl : n ≤ 1000) (hk : k < n) :
    Calls Tryz.prog 55 #[.slice A n ca, .int .i64 k] w fun r w' => r = .returned (.int .i64 (M.endI l k)) ∧ w = w' := by
  obtain ⟨ad, b, hA, hcb, hb, -⟩ := rd_at hr (Below.refl _ _) (hn ▸ hk : k < l.length)
  subst hA
  have HR := Lib.hid hr
  have HN := Lib.hid hn
  have hl1 : (n : Int) ≤ 1000 := by omega
  have hk0 : (0 : Int) ≤ (k : Int) := by omega
  have hk1 : (k : Int) < (n : Int) := by omega
  have HBG := Lib.hid (begins_any b w)
  clear hr hn
  cases hbg : M.begins b
  · rw [hbg] at HBG
    have H := Lib.hid (show M.endI l k = -1 by unfold M.endI; rw [hb]; simp [hbg])
    clear hb hbg
    go_enter Tryz.func55, Tryz.ntmps55
    go_wp2_with fail
    refine HBG.out.mono ?_
    rintro r w1 ⟨rfl, rfl⟩
    go_wp2_with fail
    go_ret
    exact ⟨ret_int (by rw [H.out]), rfl⟩
  · rw [hbg] at HBG
    have H := Lib.hid (show M.endI l k = M.endTo 1 l (k + 1) by unfold M.endI M.endTo; rw [hb]; simp only [hbg, if_true])
    clear hb hbg
    go_enter Tryz.func55, Tryz.ntmps55
    go_wp2_with fail
    refine HBG.out.mono ?_
    rintro r w1 ⟨rfl, rfl⟩
    go_wp2_with fail
    go_loop [6, 7] (fun ov v => ∃ (i : Nat) (o : Int), i ≤ n ∧ v = .int .i64 i ∧ ov = .int .i64 o ∧ 0 < o ∧ o ≤ i ∧ M.endI l k = M.endTo o l i) (fun _ v => n - (intOf v).toNat)
    case atStart => exact ⟨k + 1, 1, by omega, by go_num, rfl, by omega, by omega, H.out⟩
    case round =>
      obtain ⟨i, o, hi, rfl, rfl, ho, hoi, he⟩ := hrel
      by_cases hlt : i < n
      · obtain ⟨ad', c, hA, hcc, hc, -⟩ := rd_at HR.out (Below.refl _ _) (by rw [HN.out]; exact hlt : i < l.length)
        obtain rfl : ad = ad' := by injection hA
        have hi0 : (0 : Int) ≤ (i : Int) := by omega
        have hi1 : (i : Int) < (n : Int) := by omega
        have HE := Lib.hid (he.trans (M.endTo_step hc))
        have HBC := Lib.hid (begins_any c w)
        clear he hc hA
        by_cases h10 : c = 10
        · subst h10
          have HF := Lib.hid (show M.endI l k = -1 by rw [HE.out, if_pos rfl])
          go_wp2_with fail
          go_ret
          exact ⟨ret_int (by rw [HF.out]), rfl⟩
        · have HG := Lib.hid (show M.endI l k = if M.opened o c = 0 then (i : Int) else M.endTo (M.opened o c) l (i + 1) by rw [HE.out, if_neg h10])
          have h10b : (c != 10) = true := by rw [bne_iff_ne]; exact h10
          cases hbg2 : M.begins c
          · rw [hbg2] at HBC
            by_cases h22 : c = 22
            · subst h22
              have HO := Lib.hid (show M.opened o 22 = o - 1 by unfold M.opened; rw [hbg2]; simp)
              clear hbg2
              by_cases h0 : o - 1 = 0
              · have HF := Lib.hid (show M.endI l k = (i : Int) by rw [HG.out, HO.out, if_pos h0])
                have h0b : (o - 1 == 0) = true := by rw [beq_iff_eq]; exact h0
                go_wp2_with fail
                refine HBC.out.mono ?_
                rintro r w1 ⟨rfl, rfl⟩
                go_wp2_with fail
                go_ret
                exact ⟨ret_int (by rw [HF.out]), rfl⟩
              · have HF := Lib.hid (show M.endI l k = M.endTo (o - 1) l (i + 1) by rw [HG.out, HO.out, if_neg h0])
                have h0b : (o - 1 == 0) = false := by rw [beq_eq_false_iff_ne]; exact h0
                go_wp2_with fail
                refine HBC.out.mono ?_
                rintro r w1 ⟨rfl, rfl⟩
                go_wp2_with fail
                go_round
                case rel => exact ⟨i + 1, o - 1, by omega, by go_num, rfl, by omega, by omega, HF.out⟩
                case measure => simp [intOf]; omega
            · have h22b : (c == 22) = false := by rw [beq_eq_false_iff_ne]; exact h22
              have HO := Lib.hid (show M.opened o c = o by unfold M.opened; rw [hbg2, if_neg h22]; simp)
              have HF := Lib.hid (show M.endI l k = M.endTo o l (i + 1) by rw [HG.out, HO.out, if_neg (by omega)])
              have h0b : (o == 0) = false := by rw [beq_eq_false_iff_ne]; omega
              clear hbg2 h22 h10
              go_wp2_with fail
              refine HBC.out.mono ?_
              rintro r w1 ⟨rfl, rfl⟩
              go_wp2_with fail
              go_round
              case rel => exact ⟨i + 1, o, by omega, by go_num, rfl, by omega, by omega, HF.out⟩
              case measure => simp [intOf]; omega
          · rw [hbg2] at HBC
            have h22 : c ≠ 22 := by intro h; subst h; revert hbg2; decide
            have h22b : (c == 22) = false := by rw [beq_eq_false_iff_ne]; exact h22
            have HO := Lib.hid (show M.opened o c = o + 1 by unfold M.opened; rw [hbg2, if_neg h22]; simp)
            have HF := Lib.hid (show M.endI l k = M.endTo (o + 1) l (i + 1) by rw [HG.out, HO.out, if_neg (by omega)])
            have h0b : (o + 1 == 0) = false := by rw [beq_eq_false_iff_ne]; omega
            clear hbg2 h22 h10
            go_wp2_with fail
            refine HBC.out.mono ?_
            rintro r w1 ⟨rfl, rfl⟩
            go_wp2_with fail
            go_round
            case rel => exact ⟨i + 1, o + 1, by omega, by go_num, rfl, by omega, by omega, HF.out⟩
            case measure => simp [intOf]; omega
      · obtain rfl : i = n := by omega
        have HF := Lib.hid (show M.endI l k = -1 by rw [he]; exact M.endTo_end (by rw [HN.out]; exact Nat.le_refl _))
        clear he
        go_wp2_with fail
        go_ret
        exact ⟨ret_int (by rw [HF.out]), rfl⟩
end Go.Proofs.YtjlfgojblimobaaGreat
end

section
namespace Go.Proofs.YtjlfgojblimobaaGreat
open Go.RowKit
set_option maxRecDepth 100000

theorem M.endI_begins {l : List Int} {k : Nat} {c : Int} (h : l[k]? = some c) (hb : M.begins c = true) : M.endI l k = match M.endR 1 (l.drop (k + 1)) with | some j => ((k + 1 + j : Nat) : Int) | none => -1 := by
  unfold M.endI
  rw [h]
  simp only [hb, if_true] <;> rfl
theorem M.strong_at {l : List Int} {k : Nat} {c : Int} (h : l[k]? = some c) : M.strong (l.drop k) = if c = 10 ∨ c = 0 then 0 else if c = 1 ∨ c = 2 then 1 else if M.begins c = true then (match M.endR 1 (l.drop (k + 1)) with | none => 0 | some j => M.strong (l.drop (k + 1 + (j + 1)))) else M.strong (l.drop (k + 1)) := by
  obtain ⟨hk, rfl⟩ := List.getElem?_eq_some_iff.1 h
  rw [List.drop_eq_getElem_cons hk, M.strong_cons]
  cases M.endR 1 (l.drop (k + 1)) with
  | none => rfl
  | some j => simp only [List.drop_drop]
set_option maxHeartbeats 4000000 in
theorem strong_any (A : Option Addr) (ca n : Nat) (l : List Int) (w : World) (hr : RdS .i64 w w.heap.size A l) (hn : l.length = n) (hl : n ≤ 1000) :
    Calls Tryz.prog 29 #[.slice A n ca] w fun r w' => r = .returned (.int .i64 (M.strong l)) ∧ w = w' := by
  have HR := Lib.hid hr
  have HN := Lib.hid hn
  have hl1 : (n : Int) ≤ 1000 := by omega
  clear hr hn
  go_enter Tryz.func29, Tryz.ntmps29
  go_wp2_with fail
  go_loop [3] (fun v => ∃ i : Nat, i ≤ n ∧ v = .int .i64 i ∧ M.strong l = M.strong (l.drop i)) (fun v => n - (intOf v).toNat)
  case atStart => exact ⟨0, Nat.zero_le _, rfl, rfl⟩
  case round =>
    obtain ⟨i, hi, rfl, he⟩ := hrel
    by_cases hlt : i < n
    · obtain ⟨ad, c, hA, hcc, hc, -⟩ := rd_at HR.out (Below.refl _ _) (by rw [HN.out]; exact hlt : i < l.length)
      subst hA
      have hi0 : (0 : Int) ≤ (i : Int) := by omega
      have hi1 : (i : Int) < (n : Int) := by omega
      have HE := Lib.hid (he.trans (M.strong_at hc))
      have HC := Lib.hid hc
      have HBC := Lib.hid (begins_any c w)
      clear he hc
      by_cases h10 : c = 10
      · subst h10
        have HF := Lib.hid (show M.strong l = 0 by rw [HE.out]; rfl)
        go_wp2_with fail
        go_ret
        exact ⟨ret_int (by rw [HF.out]), rfl⟩
      · have h10b : (c != 10) = true := by rw [bne_iff_ne]; exact h10
        by_cases h0 : c = 0
        · subst h0
          have HF := Lib.hid (show M.strong l = 0 by rw [HE.out]; rfl)
          go_wp2_with fail
          go_ret
          exact ⟨ret_int (by rw [HF.out]), rfl⟩
        · have h0b : (c == 0) = false := by rw [beq_eq_false_iff_ne]; exact h0
          by_cases h1 : c = 1
          · subst h1
            have HF := Lib.hid (show M.strong l = 1 by rw [HE.out]; rfl)
            go_wp2_with fail
            go_ret
            exact ⟨ret_int (by rw [HF.out]), rfl⟩
          · have h1b : (c == 1) = false := by rw [beq_eq_false_iff_ne]; exact h1
            by_cases h2 : c = 2
            · subst h2
              have HF := Lib.hid (show M.strong l = 1 by rw [HE.out]; rfl)
              go_wp2_with fail
              go_ret
              exact ⟨ret_int (by rw [HF.out]), rfl⟩
            · have h2b : (c == 2) = false := by rw [beq_eq_false_iff_ne]; exact h2
              have HG := Lib.hid (show M.strong l = if M.begins c = true then (match M.endR 1 (l.drop (i + 1)) with | none => 0 | some j => M.strong (l.drop (i + 1 + (j + 1)))) else M.strong (l.drop (i + 1)) by
                rw [HE.out, if_neg (by omega), if_neg (by omega)])
              clear h10 h0 h1 h2
              cases hbg : M.begins c
              · rw [hbg] at HBC HG
                have HF := Lib.hid (show M.strong l = M.strong (l.drop (i + 1)) by rw [HG.out]; rfl)
                clear hbg
                go_wp2_with fail
                refine HBC.out.mono ?_
                rintro r w1 ⟨rfl, rfl⟩
                go_wp2_with fail
                go_round
                case rel => exact ⟨i + 1, by omega, by go_num, HF.out⟩
                case measure => simp [intOf]; omega
              · rw [hbg] at HBC HG
                have HEND := Lib.hid (end_any (some ad) ca n i l w HR.out HN.out hl hlt)
                have hei := M.endI_begins HC.out hbg
                clear hbg
                cases her : M.endR 1 (l.drop (i + 1)) with
                | none =>
                  rw [her] at hei HG
                  dsimp only at hei
                  rw [hei] at HEND
                  have HF := Lib.hid (show M.strong l = 0 by rw [HG.out]; rfl)
                  clear hei her
                  go_wp2_with fail
                  refine HBC.out.mono ?_
                  rintro r w1 ⟨rfl, rfl⟩
                  go_wp2_with fail
                  refine HEND.out.mono ?_
                  rintro r w1 ⟨rfl, rfl⟩
                  go_wp2_with fail
                  go_ret
                  exact ⟨ret_int (by rw [HF.out]), rfl⟩
                | some j =>
                  have hj := M.endR_lt her
                  rw [List.length_drop, HN.out] at hj
                  rw [her] at hei HG
                  dsimp only at hei
                  rw [hei] at HEND
                  have HF := Lib.hid (show M.strong l = M.strong (l.drop (i + 1 + j + 1)) by rw [HG.out]; rfl)
                  obtain ⟨q, hq⟩ : ∃ q : Nat, i + 1 + j = q := ⟨_, rfl⟩
                  rw [hq] at HEND HF
                  have hq0 : (0 : Int) ≤ (q : Int) := by omega
                  have hq1 : (q : Int) ≤ 1000 := by omega
                  have hqn : q + 1 ≤ n := by omega
                  have hqi : i < q + 1 := by omega
                  clear hei her hq
                  go_wp2_with fail
                  refine HBC.out.mono ?_
                  rintro r w1 ⟨rfl, rfl⟩
                  go_wp2_with fail
                  refine HEND.out.mono ?_
                  rintro r w1 ⟨rfl, rfl⟩
                  go_wp2_with fail
                  go_round
                  case rel => exact ⟨q + 1, hqn, by go_num, HF.out⟩
                  case measure => simp [intOf]; omega
    · obtain rfl : i = n := by omega
      have HF := Lib.hid (show M.strong l = 0 by rw [he, List.drop_eq_nil_of_le (by rw [HN.out]; exact Nat.le_refl _)]; rfl)
      clear he
      go_wp2_with fail
      go_ret
      exact ⟨ret_int (by rw [HF.out]), rfl⟩

theorem map_add (A : Option Addr) (n : Nat) (h : n ≠ 0) : A.map (fun x => x.add n) = A.map (fun x => ⟨x.block, x.off + n, none⟩) := by
  cases A with
  | none => rfl
  | some a => simp only [Option.map_some]; rw [addr_add_pos a n h]
def M.betw (l : List Int) (k : Nat) : List Int := match M.endR 1 (l.drop (k + 1)) with | some j => (l.drop (k + 1)).take j | none => l.drop (k + 1)
def SameOut (t : List Int) (w : World) (r : Ending) (w' : World) : Prop := ∃ A c, r = .returned (.slice A t.length c) ∧ RdS .i64 w w.heap.size A t ∧ w = w'
set_option maxHeartbeats 400000 in
theorem between_any (A : Option Addr) (ca n k : Nat) (l : List Int) (c : Int) (w : World) (hr : RdS .i64 w w.heap.size A l) (hn : l.length = n) (hl : n ≤ 1000) (hca : n ≤ ca) (hk : l[k]? = some c) (hbg : M.begins c = true) :
    Calls Tryz.prog 90 #[.slice A n ca, .int .i64 k] w (SameOut (M.betw l k) w) := by
  have hkn : k < n := by rw [← hn]; exact (List.getElem?_eq_some_iff.1 hk).1
  have HEND := Lib.hid (end_any A ca n k l w hr hn hl hkn)
  have hei := M.endI_begins hk hbg
  have hcut := hr.cut (n := k + 1) (cap := ca) (by rw [hn]; exact hca)
  have hlen : (l.drop (k + 1)).length = n - (k + 1) := by rw [List.length_drop, hn]
  have hl1 : (n : Int) ≤ 1000 := by omega
  have hk0 : (0 : Int) ≤ (k : Int) := by omega
  have hk1 : (k : Int) < (n : Int) := by omega
  have hkc : (n : Int) ≤ (ca : Int) := by omega
  have HCUT := Lib.hid hcut
  clear hcut
  cases her : M.endR 1 (l.drop (k + 1)) with
  | none =>
    have HBT := Lib.hid (show M.betw l k = l.drop (k + 1) by unfold M.betw; rw [her])
    rw [her] at hei
    dsimp only at hei
    rw [hei] at HEND
    have HLEN := Lib.hid hlen
    clear hei her hr hn hk hbg hlen
    by_cases hcap : ca = k + 1
    · subst hcap
      obtain rfl : n = k + 1 := by omega
      go_enter Tryz.func90, Tryz.ntmps90
      go_wp2_with fail
      refine HEND.out.mono ?_
      rintro r w1 ⟨rfl, rfl⟩
      go_wp2_with fail
      go_ret
      refine ⟨A, 0, ?_, ?_, rfl⟩
      · rw [HBT.out, HLEN.out, Nat.sub_self]; rfl
      · rw [HBT.out]
        have h := HCUT.out
        rw [if_pos trivial] at h
        exact h
    · have hc1 : ¬ ca = k + 1 := hcap
      clear hcap
      go_enter Tryz.func90, Tryz.ntmps90
      go_wp2_with fail
      refine HEND.out.mono ?_
      rintro r w1 ⟨rfl, rfl⟩
      go_wp2_with fail
      go_ret
      refine ⟨A.map (fun x => ⟨x.block, x.off + (k + 1), none⟩), ca - (k + 1), ?_, ?_, rfl⟩
      · rw [HBT.out, HLEN.out]; rfl
      · rw [HBT.out]
        have h := HCUT.out
        rw [if_neg hc1, map_add A (k + 1) (by omega)] at h
        exact h
  | some j =>
    have hj := M.endR_lt her
    rw [hlen] at hj
    have HBT := Lib.hid (show M.betw l k = (l.drop (k + 1)).take j by unfold M.betw; rw [her])
    have HLT := Lib.hid (show ((l.drop (k + 1)).take j).length = j by rw [List.length_take, hlen]; omega)
    rw [her] at hei
    dsimp only at hei
    rw [hei] at HEND
    obtain ⟨q, hq⟩ : ∃ q : Nat, k + 1 + j = q := ⟨_, rfl⟩
    rw [hq] at HEND
    have hq0 : (0 : Int) ≤ (q : Int) := by omega
    have hq1 : (k : Int) + 1 ≤ (q : Int) := by omega
    have hq2 : (q : Int) ≤ (ca : Int) := by omega
    have hq3 : k + 1 ≤ q := by omega
    have hq4 : q ≤ ca := by omega
    have hc1 : ¬ ca = k + 1 := by omega
    have HQ := Lib.hid (show q - (k + 1) = j by omega)
    have HCT := Lib.hid ((HCUT.out.take j))
    clear hei her hr hn hk hbg hlen hj hq
    go_enter Tryz.func90, Tryz.ntmps90
    go_wp2_with fail
    refine HEND.out.mono ?_
    rintro r w1 ⟨rfl, rfl⟩
    go_wp2_with fail
    go_ret
    refine ⟨A.map (fun x => ⟨x.block, x.off + (k + 1), none⟩), ca - (k + 1), ?_, ?_, rfl⟩
    · rw [HBT.out, HLT.out, ← HQ.out]; rfl
    · rw [HBT.out]
      have h := HCT.out
      rw [if_neg hc1, map_add A (k + 1) (by omega)] at h
      exact h
end Go.Proofs.YtjlfgojblimobaaGreat
end

section
namespace Go.Proofs.YtjlfgojblimobaaGreat
open Go.RowKit
set_option maxRecDepth 100000

theorem Tryz.infoInt : (Tryz.prog.info? 3).map (fun i => (i.zero, i.size, i.bytes)) = some (some (.int .i64 0), 1, 8) := by kernel_rfl
def M.matchTo (l : List Int) (k : Nat) : List Int := (List.range k).map (M.endI l)
def M.matchI (l : List Int) : List Int := M.matchTo l l.length
theorem M.matchTo_len (l : List Int) (k : Nat) : (M.matchTo l k).length = k := by simp [M.matchTo]
theorem M.matchTo_succ (l : List Int) (k : Nat) : M.matchTo l (k + 1) = M.matchTo l k ++ [M.endI l k] := by simp [M.matchTo, List.range_succ]
set_option maxHeartbeats 4000000 in
theorem refMatch_any (A : Option Addr) (ca n : Nat) (l : List Int) (w : World) (hr : RdS .i64 w w.heap.size A l) (hn : l.length = n) (hl : n ≤ 1000) :
    Calls Tryz.prog 94 #[.slice A n ca] w (RowOut 3 (M.matchI l) w) := by
  obtain ⟨i0, hi, hz0, hz1, hz2⟩ := info_parts Tryz.infoInt
  have HR := Lib.hid hr
  have HN := Lib.hid hn
  have hl1 : (n : Int) ≤ 1000 := by omega
  clear hr hn
  go_enter Tryz.func94, Tryz.ntmps94
  go_wp2_with fail
  go_loopw [3, 4] (fun v i wr => ∃ k : Nat, k ≤ n ∧ i = .int .i64 k ∧ wr.ownsRow w.heap.size 3 1 v k ((M.matchTo l k).map (Value.int .i64)) ∧ Below w.heap.size w wr) (fun _ i _ => n - (intOf i).toNat)
  case atStart => exact ⟨0, Nat.zero_le _, rfl, World.ownsRow_nil _ _ _ _, Below.refl _ _⟩
  case round =>
    obtain ⟨k, hk, rfl, hown, hb⟩ := hrel
    have HO := Lib.hid hown
    have HB := Lib.hid hb
    have hbs := hb.size
    clear hown hb
    by_cases hlt : k < n
    · have HE := Lib.hid (end_any A ca n k l wr ((HR.out.below HB.out).more hbs) HN.out hl hlt)
      obtain ⟨e, he⟩ : ∃ e, M.endI l k = e := ⟨_, rfl⟩
      rw [he] at HE
      have HS := Lib.hid ((M.matchTo_succ l k).trans (by rw [he]))
      have hk1 : (k : Int) < (n : Int) := by omega
      clear he
      go_wp2_with fail
      refine HE.out.mono ?_
      rintro r w1 ⟨rfl, rfl⟩
      go_wp2_with (at_builtin; refine wpList_append_own _ rfl _ _ 25 rfl w.heap.size 3 i0 (.int .i64 0) 1 8 Tryz.underlying25 hi hz0 hz1 hz2 rfl (by decide) _ _ _ rfl (World.ownsRow.alloc HO.out _) ⟨wr.heap.size, 0, none⟩ 1 1 [.int .i64 e] rfl rfl (one_new _ _ _) one_cell (by unfold maxLen; omega) (by omega) (by simp; omega) ?_)
      intro v3 w3 hown3 hgrow3 _
      have HO3 := Lib.hid (show w3.ownsRow w.heap.size 3 1 v3 (k + 1) ((M.matchTo l (k + 1)).map (Value.int .i64)) by rw [HS.out, List.map_append]; exact hown3)
      have HB3 := Lib.hid ((HB.out.alloc hbs _).grown hgrow3 (by simp; omega) (fun q hq => (World.ownsRow.lt HO.out q hq).1))
      clear hown3 hgrow3
      go_wp2_with fail
      go_roundw
      case rel => exact ⟨k + 1, by omega, by go_num, HO3.out, HB3.out⟩
      case measure => simp [intOf]; omega
    · obtain rfl : k = n := by omega
      go_wp2_with fail
      go_ret
      refine ⟨_, rfl, ?_, HB.out⟩
      unfold M.matchI
      rw [M.matchTo_len, HN.out]
      exact HO.out
end Go.Proofs.YtjlfgojblimobaaGreat
end
