/- How the program tells the first strong, and all isolates' ends and first strongs in one go, as plain functions, and that both are what the document says. No program is read here. -/
import Derived.Test.YtdipaiflfhdpoaaRefMatch
namespace Go.Proofs.Ytdipaiflfhdpoaa.M

def isStr (c : Int) : Bool := decide (c = 0) || (decide (c = 1) || decide (c = 2))
def side (c : Int) : Int := if c = 1 ∨ c = 2 then 1 else 0
/-- What the first strong makes, isolates counted. -/
def cstr : Int → List Int → Int
  | _, [] => 0
  | d, c :: r => if c = 10 then 0 else if begins c = true then cstr (d + 1) r else if c = 22 then cstr (if d - 1 < 0 then 0 else d - 1) r else if isStr c = true ∧ d = 0 then side c else cstr d r
/-- What the first strong of an isolate makes, of what is left of it. -/
def inner : Int → List Int → Int
  | _, [] => 0
  | d, c :: r => if c = 10 then 0 else if begins c = true then inner (d + 1) r else if c = 22 then (if d = 0 then 0 else inner (d - 1) r) else if isStr c = true ∧ d = 0 then side c else inner d r
theorem opened_b {o c : Int} (h : begins c = true) : opened o c = o + 1 := by
  unfold opened
  rw [if_pos h, if_neg (by rintro rfl; cases h)]
  omega
theorem opened_e {o : Int} : opened o 22 = o - 1 := rfl
theorem opened_n {o c : Int} (h : begins c = false) (h2 : c ≠ 22) : opened o c = o := by
  unfold opened
  rw [h, if_neg h2]
  simp
theorem begins_10 {c : Int} (h : begins c = true) : c ≠ 10 ∧ c ≠ 22 ∧ c ≠ 0 ∧ c ≠ 1 ∧ c ≠ 2 := by
  refine ⟨?_, ?_, ?_, ?_, ?_⟩ <;> (rintro rfl; cases h)
theorem isStr_iff (c : Int) : isStr c = true ↔ c = 0 ∨ c = 1 ∨ c = 2 := by unfold isStr; simp
theorem cstr_end : ∀ (r : List Int) (d : Int), 1 ≤ d → cstr d r = match endR d r with | none => 0 | some k => cstr 0 (r.drop (k + 1)) := by
  intro r
  induction r with
  | nil => intro d _; rfl
  | cons c r ih =>
    intro d hd
    unfold endR
    by_cases h10 : c = 10
    · rw [cstr, if_pos h10, if_pos h10]
    · rw [cstr, if_neg h10, if_neg h10]
      cases hb : begins c with
      | true =>
        rw [if_pos rfl, opened_b hb, if_neg (by omega), ih _ (by omega)]
        cases endR (d + 1) r <;> rfl
      | false =>
        rw [if_neg (by simp)]
        by_cases h22 : c = 22
        · subst h22
          rw [if_pos rfl, opened_e]
          by_cases h1 : d - 1 = 0
          · rw [if_pos h1, h1]
            rfl
          · rw [if_neg h1, if_neg (by omega), ih _ (by omega)]
            cases endR (d - 1) r <;> rfl
        · rw [if_neg h22, if_neg (by omega), opened_n hb h22, if_neg (by omega), ih _ hd]
          cases endR d r <;> rfl
theorem cstr_strongN : ∀ (n : Nat) (l : List Int), l.length ≤ n → cstr 0 l = strong l := by
  intro n
  induction n with
  | zero =>
    intro l h
    obtain rfl : l = [] := List.eq_nil_of_length_eq_zero (Nat.le_zero.1 h)
    rfl
  | succ n ih =>
    intro l h
    cases l with
    | nil => rfl
    | cons c r =>
      simp only [List.length_cons] at h
      rw [strong_cons, cstr]
      by_cases h10 : c = 10
      · rw [if_pos h10, if_pos (.inl h10)]
      · rw [if_neg h10]
        cases hb : begins c with
        | true =>
          obtain ⟨_, _, h0, h1, h2⟩ := begins_10 hb
          rw [if_pos rfl, if_neg (by omega), if_neg (by omega), if_pos rfl, cstr_end _ _ (by omega)]
          cases he : endR (0 + 1) r with
          | none => rw [show (0 : Int) + 1 = 1 from rfl] at he; rw [he]
          | some k =>
            rw [show (0 : Int) + 1 = 1 from rfl] at he
            rw [he]
            exact ih _ (by rw [List.length_drop]; omega)
        | false =>
          rw [if_neg (by simp)]
          by_cases h22 : c = 22
          · subst h22
            rw [if_pos rfl, if_pos (by omega), if_neg (by omega), if_neg (by omega), if_neg (by simp)]
            exact ih _ (by omega)
          · rw [if_neg h22]
            by_cases hs : c = 0 ∨ c = 1 ∨ c = 2
            · rw [if_pos ⟨(isStr_iff c).2 hs, rfl⟩]
              unfold side
              rcases hs with rfl | rfl | rfl <;> simp
            · rw [if_neg (by rw [isStr_iff]; exact fun h => hs h.1), if_neg (by omega), if_neg (by omega), if_neg (by simp)]
              exact ih _ (by omega)
theorem cstr_strong (l : List Int) : cstr 0 l = strong l := cstr_strongN _ l (Nat.le_refl _)
theorem inner_cut : ∀ (r : List Int) (d : Int), 0 ≤ d → inner d r = cstr d (match endR (d + 1) r with | some k => r.take k | none => r) := by
  intro r
  induction r with
  | nil => intro d _; rfl
  | cons c r ih =>
    intro d hd
    unfold endR
    by_cases h10 : c = 10
    · rw [inner, if_pos h10, if_pos h10]
      rw [cstr, if_pos h10]
    · rw [inner, if_neg h10, if_neg h10]
      cases hb : begins c with
      | true =>
        rw [if_pos rfl, opened_b hb, if_neg (by omega), ih _ (by omega)]
        cases endR (d + 1 + 1) r with
        | none => simp only [Option.map_none]; rw [cstr, if_neg h10, if_pos hb]
        | some k => simp only [Option.map_some, List.take_succ_cons]; rw [cstr, if_neg h10, if_pos hb]
      | false =>
        rw [if_neg (by simp)]
        by_cases h22 : c = 22
        · subst h22
          rw [if_pos rfl, opened_e]
          by_cases h1 : d = 0
          · rw [if_pos h1, if_pos (by omega)]
            rfl
          · rw [if_neg h1, if_neg (by omega), ih _ (by omega), show d + 1 - 1 = d - 1 + 1 by omega]
            have hd1 : ¬ d - 1 < 0 := by omega
            cases endR (d - 1 + 1) r with
            | none => simp only [Option.map_none]; rw [cstr, if_neg (by omega), hb, if_neg (by simp), if_pos rfl, if_neg hd1]
            | some k => simp only [Option.map_some, List.take_succ_cons]; rw [cstr, if_neg (by omega), hb, if_neg (by simp), if_pos rfl, if_neg hd1]
        · have hd1 : ¬ d + 1 = 0 := by omega
          rw [if_neg h22, opened_n hb h22, if_neg hd1]
          by_cases hs : isStr c = true ∧ d = 0
          · rw [if_pos hs]
            cases endR (d + 1) r with
            | none => simp only [Option.map_none]; rw [cstr, if_neg h10, hb, if_neg (by simp), if_neg h22, if_pos hs]
            | some k => simp only [Option.map_some, List.take_succ_cons]; rw [cstr, if_neg h10, hb, if_neg (by simp), if_neg h22, if_pos hs]
          · rw [if_neg hs, ih _ hd]
            cases endR (d + 1) r with
            | none => simp only [Option.map_none]; rw [cstr, if_neg h10, hb, if_neg (by simp), if_neg h22, if_neg hs]
            | some k => simp only [Option.map_some, List.take_succ_cons]; rw [cstr, if_neg h10, hb, if_neg (by simp), if_neg h22, if_neg hs]
theorem inner_strong (r : List Int) : inner 0 r = strong (match endR 1 r with | some k => r.take k | none => r) := by
  rw [inner_cut _ _ (Int.le_refl _), cstr_strong]
  rfl
theorem inner_01 (r : List Int) : inner 0 r = 0 ∨ inner 0 r = 1 := by
  rw [inner_strong]
  exact strong_01 _ _
theorem side_01 (c : Int) : side c = 0 ∨ side c = 1 := by unfold side; split <;> simp
theorem inner_at {d c : Int} {l : List Int} {k : Nat} (h : l[k]? = some c) : inner d (l.drop k) = if c = 10 then 0 else if begins c = true then inner (d + 1) (l.drop (k + 1)) else if c = 22 then (if d = 0 then 0 else inner (d - 1) (l.drop (k + 1))) else if isStr c = true ∧ d = 0 then side c else inner d (l.drop (k + 1)) := by
  obtain ⟨hi, rfl⟩ := List.getElem?_eq_some_iff.1 h
  rw [List.drop_eq_getElem_cons hi, inner]
theorem cstr_at {d c : Int} {l : List Int} {k : Nat} (h : l[k]? = some c) : cstr d (l.drop k) = if c = 10 then 0 else if begins c = true then cstr (d + 1) (l.drop (k + 1)) else if c = 22 then cstr (if d - 1 < 0 then 0 else d - 1) (l.drop (k + 1)) else if isStr c = true ∧ d = 0 then side c else cstr d (l.drop (k + 1)) := by
  obtain ⟨hi, rfl⟩ := List.getElem?_eq_some_iff.1 h
  rw [List.drop_eq_getElem_cons hi, cstr]

/-- What is told of a scalar is what the document says. -/
def Fin (l : List Int) (i : Nat) (x : Int × Int) : Prop :=
  x.1 = endI l i ∧ ∀ c, l[i]? = some c → begins c = true → (x.2 = 1 ↔ inner 0 (l.drop (i + 1)) = 1)
/-- Where the walk over isolates stands behind k scalars: what is told of all, and which are open, the last first. -/
structure Iso (l : List Int) (k : Nat) (all : List (Int × Int)) (O : List Nat) : Prop where
  len : all.length = l.length
  lt : ∀ o ∈ O, o < k
  one : O.Nodup
  done : ∀ i, i < k → i ∉ O → ∃ x, all[i]? = some x ∧ Fin l i x
  opn : ∀ (j : Nat) (o : Nat), O[j]? = some o → ∃ f, all[o]? = some (-1, f) ∧ endI l o = endTo ((j : Int) + 1) l k ∧ (f = -1 ∧ inner 0 (l.drop (o + 1)) = inner j (l.drop k) ∨ (f = 0 ∨ f = 1) ∧ inner 0 (l.drop (o + 1)) = f)
theorem Iso.zero {l : List Int} : Iso l 0 (List.replicate l.length (0, 0)) [] := by
  refine ⟨by simp, fun o ho => (by cases ho), List.nodup_nil, fun i hi => by omega, fun j o h => by simp at h⟩

section
variable {l : List Int} {k : Nat} {all : List (Int × Int)} {O : List Nat} {c : Int}
theorem Iso.klt (hc : l[k]? = some c) (h : Iso l k all O) : k < all.length := by rw [h.len]; exact (List.getElem?_eq_some_iff.1 hc).1
theorem Iso.keep (_h : Iso l k all O) {i : Nat} (hi : i < k) (x : Int × Int) : (all.set k x)[i]? = all[i]? := by rw [List.getElem?_set_ne (by omega)]
theorem endI_no (hc : l[k]? = some c) (hb : begins c = false) : endI l k = -1 := by
  unfold endI
  rw [hc]
  simp [hb]
theorem fin_no (hc : l[k]? = some c) (hb : begins c = false) (f : Int) : Fin l k (-1, f) := by
  refine ⟨(endI_no hc hb).symm, fun c' hc' hb' => ?_⟩
  rw [hc] at hc'
  obtain rfl := Option.some.inj hc'
  rw [hb] at hb'
  cases hb'
/-- What is told of a scalar that is not open any more. -/
theorem fin_off {o : Nat} {e f : Int} (he : e = endI l o) (hf : f = -1 ∧ inner 0 (l.drop (o + 1)) = 0 ∨ (f = 0 ∨ f = 1) ∧ inner 0 (l.drop (o + 1)) = f) : Fin l o (e, f) := by
  refine ⟨he, fun _ _ _ => ?_⟩
  show f = 1 ↔ _
  rcases hf with ⟨rfl, h⟩ | ⟨_, h⟩
  · rw [h]; decide
  · rw [h]
theorem Iso.begin_ (h : Iso l k all O) (hc : l[k]? = some c) (hb : begins c = true) : Iso l (k + 1) (all.set k (-1, -1)) (k :: O) := by
  have hk := Iso.klt hc h
  obtain ⟨h10, h22, _⟩ := begins_10 hb
  refine ⟨by rw [List.length_set]; exact h.len, fun o ho => ?_, List.nodup_cons.2 ⟨fun hk' => by have := h.lt k hk'; omega, h.one⟩, fun i hi hn => ?_, fun j o hj => ?_⟩
  · rcases List.mem_cons.1 ho with rfl | ho
    · omega
    · have := h.lt o ho; omega
  · simp only [List.mem_cons, not_or] at hn
    obtain ⟨x, hx, hf⟩ := h.done i (by omega) hn.2
    exact ⟨x, by rw [h.keep (by omega)]; exact hx, hf⟩
  · cases j with
    | zero =>
      simp only [List.getElem?_cons_zero, Option.some.injEq] at hj
      subst hj
      refine ⟨-1, by rw [List.getElem?_set_self hk], ?_, .inl ⟨rfl, rfl⟩⟩
      unfold endI endTo
      rw [hc]
      simp only [hb, if_true]
      rfl
    | succ j =>
      rw [List.getElem?_cons_succ] at hj
      obtain ⟨f, h1, h2, h3⟩ := h.opn j o hj
      have ho := h.lt o (List.mem_of_getElem? hj)
      refine ⟨f, by rw [h.keep ho]; exact h1, ?_, ?_⟩
      · rw [h2, endTo_step hc, if_neg h10, opened_b hb, if_neg (by omega)]
        rfl
      · rcases h3 with ⟨h3, h4⟩ | h3
        · refine .inl ⟨h3, ?_⟩
          rw [h4, inner_at hc, if_neg h10, if_pos hb]
          rfl
        · exact .inr h3
theorem Iso.b_ (h : Iso l k all O) (hc : l[k]? = some 10) : Iso l (k + 1) (all.set k (-1, -1)) [] := by
  have hk := Iso.klt hc h
  refine ⟨by rw [List.length_set]; exact h.len, fun o ho => (by cases ho), List.nodup_nil, fun i hi _ => ?_, fun j o hj => by simp at hj⟩
  rcases Nat.lt_or_ge i k with hik | hik
  · by_cases hO : i ∈ O
    · obtain ⟨j, hj⟩ := List.getElem?_of_mem hO
      obtain ⟨f, h1, h2, h3⟩ := h.opn j i hj
      refine ⟨(-1, f), by rw [h.keep hik]; exact h1, fin_off ?_ ?_⟩
      · rw [h2, endTo_step hc, if_pos rfl]
      · rcases h3 with ⟨h3, h4⟩ | h3
        · exact .inl ⟨h3, by rw [h4, inner_at hc, if_pos rfl]⟩
        · exact .inr h3
    · obtain ⟨x, hx, hf⟩ := h.done i hik hO
      exact ⟨x, by rw [h.keep hik]; exact hx, hf⟩
  · obtain rfl : i = k := by omega
    exact ⟨(-1, -1), by rw [List.getElem?_set_self hk], fin_no hc rfl _⟩
theorem Iso.none_ (h : Iso l k all []) (hc : l[k]? = some c) (hb : begins c = false) : Iso l (k + 1) (all.set k (-1, -1)) [] := by
  have hk := Iso.klt hc h
  refine ⟨by rw [List.length_set]; exact h.len, fun o ho => (by cases ho), List.nodup_nil, fun i hi _ => ?_, fun j o hj => by simp at hj⟩
  rcases Nat.lt_or_ge i k with hik | hik
  · obtain ⟨x, hx, hf⟩ := h.done i hik (by simp)
    exact ⟨x, by rw [h.keep hik]; exact hx, hf⟩
  · obtain rfl : i = k := by omega
    exact ⟨(-1, -1), by rw [List.getElem?_set_self hk], fin_no hc hb _⟩
theorem Iso.pdi_ {o : Nat} {f : Int} (h : Iso l k all (o :: O)) (hc : l[k]? = some 22) (ho : all[o]? = some (-1, f)) : Iso l (k + 1) ((all.set k (-1, -1)).set o (k, f)) O := by
  have hk := Iso.klt hc h
  have hok := h.lt o (List.mem_cons_self ..)
  obtain ⟨hno, hO⟩ := List.nodup_cons.1 h.one
  obtain ⟨f', q1, q2, q3⟩ := h.opn 0 o rfl
  rw [ho] at q1
  obtain rfl : f = f' := by injection q1 with q1; injection q1
  have K : ∀ i, i < k → i ≠ o → ((all.set k (-1, -1)).set o ((k : Int), f))[i]? = all[i]? := fun i hi hne => by rw [List.getElem?_set_ne (by omega), h.keep hi]
  refine ⟨by rw [List.length_set, List.length_set]; exact h.len, fun x hx => by have := h.lt x (List.mem_cons_of_mem _ hx); omega, hO, fun i hi hn => ?_, fun j x hj => ?_⟩
  · rcases Nat.lt_or_ge i k with hik | hik
    · by_cases hio : i = o
      · subst hio
        refine ⟨((k : Int), f), by rw [List.getElem?_set_self (by rw [List.length_set]; omega)], fin_off ?_ ?_⟩
        · rw [q2, endTo_step hc, if_neg (by decide), if_pos (by rw [opened_e]; omega)]
        · rcases q3 with ⟨h3, h4⟩ | h3
          · exact .inl ⟨h3, by rw [h4, inner_at hc, if_neg (by decide), if_neg (by decide), if_pos rfl, if_pos (by omega)]⟩
          · exact .inr h3
      · obtain ⟨x, hx, hf⟩ := h.done i hik (by simp only [List.mem_cons, not_or]; exact ⟨hio, hn⟩)
        exact ⟨x, by rw [K i hik hio]; exact hx, hf⟩
    · obtain rfl : i = k := by omega
      exact ⟨(-1, -1), by rw [List.getElem?_set_ne (by omega), List.getElem?_set_self hk], fin_no hc rfl _⟩
  · obtain ⟨g, h1, h2, h3⟩ := h.opn (j + 1) x (by rw [List.getElem?_cons_succ]; exact hj)
    have hx := h.lt x (List.mem_cons_of_mem _ (List.mem_of_getElem? hj))
    have hxo : x ≠ o := fun e => hno (e ▸ List.mem_of_getElem? hj)
    refine ⟨g, by rw [K x hx hxo]; exact h1, ?_, ?_⟩
    · rw [h2, endTo_step hc, if_neg (by decide), if_neg (by rw [opened_e]; omega), opened_e, show ((j + 1 : Nat) : Int) + 1 - 1 = (j : Int) + 1 by omega]
    · rcases h3 with ⟨h3, h4⟩ | h3
      · refine .inl ⟨h3, ?_⟩
        rw [h4, inner_at hc, if_neg (by decide), if_neg (by decide), if_pos rfl, if_neg (by omega), show ((j + 1 : Nat) : Int) - 1 = (j : Int) by omega]
      · exact .inr h3
/-- A scalar that neither begins nor ends any: of what stands open the last one's first strong alone may turn. -/
theorem Iso.same_ {o : Nat} {f f' : Int} (h : Iso l k all (o :: O)) (hc : l[k]? = some c) (hb : begins c = false) (h10 : c ≠ 10) (h22 : c ≠ 22) (ho : all[o]? = some (-1, f))
    (hf : isStr c = true ∧ f = -1 ∧ f' = side c ∨ ¬ (isStr c = true ∧ f = -1) ∧ f' = f) : Iso l (k + 1) ((all.set k (-1, -1)).set o (-1, f')) (o :: O) := by
  have hk := Iso.klt hc h
  have hok := h.lt o (List.mem_cons_self ..)
  obtain ⟨hno, hO⟩ := List.nodup_cons.1 h.one
  obtain ⟨f1, q1, q2, q3⟩ := h.opn 0 o rfl
  rw [ho] at q1
  obtain rfl : f = f1 := by injection q1 with q1; injection q1
  have K : ∀ i, i < k → i ≠ o → ((all.set k (-1, -1)).set o (-1, f'))[i]? = all[i]? := fun i hi hne => by rw [List.getElem?_set_ne (by omega), h.keep hi]
  refine ⟨by rw [List.length_set, List.length_set]; exact h.len, fun x hx => by have := h.lt x hx; omega, h.one, fun i hi hn => ?_, fun j x hj => ?_⟩
  · have hio : i ≠ o := fun e => hn (e ▸ List.mem_cons_self ..)
    rcases Nat.lt_or_ge i k with hik | hik
    · obtain ⟨x, hx, hf⟩ := h.done i hik hn
      exact ⟨x, by rw [K i hik hio]; exact hx, hf⟩
    · obtain rfl : i = k := by omega
      exact ⟨(-1, -1), by rw [List.getElem?_set_ne (by omega), List.getElem?_set_self hk], fin_no hc hb _⟩
  · cases j with
    | zero =>
      simp only [List.getElem?_cons_zero, Option.some.injEq] at hj
      subst hj
      refine ⟨f', by rw [List.getElem?_set_self (by rw [List.length_set]; omega)], ?_, ?_⟩
      · rw [q2, endTo_step hc, if_neg h10, if_neg (by rw [opened_n hb h22]; omega), opened_n hb h22]
      · rcases q3 with ⟨q3, q4⟩ | ⟨q3, q4⟩
        · rcases hf with ⟨a1, a2, a3⟩ | ⟨a1, a2⟩
          · refine .inr ⟨a3 ▸ side_01 c, ?_⟩
            rw [q4, inner_at hc, if_neg h10, if_neg (by rw [hb]; simp), if_neg h22, if_pos ⟨a1, rfl⟩, a3]
          · refine .inl ⟨a2.trans q3, ?_⟩
            rw [q4, inner_at hc, if_neg h10, if_neg (by rw [hb]; simp), if_neg h22, if_neg (fun q => a1 ⟨q.1, q3⟩)]
        · rcases hf with ⟨a1, a2, a3⟩ | ⟨a1, a2⟩
          · omega
          · subst a2
            exact .inr ⟨q3, q4⟩
    | succ j =>
      rw [List.getElem?_cons_succ] at hj
      obtain ⟨g, h1, h2, h3⟩ := h.opn (j + 1) x (by rw [List.getElem?_cons_succ]; exact hj)
      have hx := h.lt x (List.mem_cons_of_mem _ (List.mem_of_getElem? hj))
      have hxo : x ≠ o := fun e => hno (e ▸ List.mem_of_getElem? hj)
      refine ⟨g, by rw [K x hx hxo]; exact h1, ?_, ?_⟩
      · rw [h2, endTo_step hc, if_neg h10, if_neg (by rw [opened_n hb h22]; omega), opened_n hb h22]
      · rcases h3 with ⟨h3, h4⟩ | h3
        · refine .inl ⟨h3, ?_⟩
          rw [h4, inner_at hc, if_neg h10, if_neg (by rw [hb]; simp), if_neg h22, if_neg (fun q => by have := q.2; omega)]
        · exact .inr h3
theorem Iso.end_ (h : Iso l l.length all O) : ∀ i, i < l.length → ∃ x, all[i]? = some x ∧ Fin l i x := by
  intro i hi
  by_cases hO : i ∈ O
  · obtain ⟨j, hj⟩ := List.getElem?_of_mem hO
    obtain ⟨f, h1, h2, h3⟩ := h.opn j i hj
    refine ⟨(-1, f), h1, fin_off ?_ ?_⟩
    · rw [h2, endTo_end (Nat.le_refl _)]
    · rcases h3 with ⟨h3, h4⟩ | h3
      · refine .inl ⟨h3, ?_⟩
        rw [h4, List.drop_length]
        rfl
      · exact .inr h3
  · exact h.done i hi hO
end
/-- Which side an isolate's beginning is of, by what is told of it. -/
def oddOf (c f : Int) : Int := if c = 20 then 1 else if c = 21 then (if f = 1 then 1 else 0) else 0
theorem known_b (c : Int) : begins (known c) = begins c := by
  unfold known
  split
  · rename_i h
    unfold begins
    rw [Bool.eq_iff_iff]
    simp
    omega
  · rfl
theorem dir_told {l : List Int} {k : Nat} {c : Int} {x : Int × Int} (hc : l[k]? = some c) (hx : Fin l k x) (hb : begins (known c) = true) : dir (known c) (l.drop (k + 1)) = oddOf (known c) x.2 := by
  have h := hx.2 c hc (known_b c ▸ hb)
  unfold dir oddOf
  split
  · rfl
  · split
    · rw [inner_strong] at h
      have h01 := inner_01 (l.drop (k + 1))
      rw [inner_strong] at h01
      by_cases h1 : x.2 = 1
      · rw [if_pos h1]
        exact h.1 h1
      · rw [if_neg h1]
        rcases h01 with h0 | h0
        · exact h0
        · exact absurd (h.2 h0) h1
    · rfl
end Go.Proofs.Ytdipaiflfhdpoaa.M
