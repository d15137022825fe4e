/- How the program tells the first strong, and all isolates' ends and first strongs in one go, as plain functions, and that both are what the document says. No program is read here. -/
/- The contracts of package explicit's begins, makes, counted and Strong. Condition of the last: the slice reads as a list of classes, at most a thousand long. -/
/- The state of the walk over isolates in memory: the row of what is told of all, and the row of what stands open. No function of the program is walked here. -/
/- The contract of package explicit's isolates: all isolates' ends and first strongs. Condition: the slice reads as a list of classes, at most a thousand long. -/
/- The contract of package explicit's Match. Condition: the slice reads as a list of classes, at most a thousand long. -/
import Derived.Test.YticiofpbijahbaaGBd
import Derived.Laws.OwnMore
section
namespace Go.Proofs.Yticiofpbijahbaa.M

def isStr (c : Int) : Bool := decide (c = 0) || (decide (c = 1) || decide (c = 2))
def side (c : Int) : Int := if c = 1 ∨ c = 2 then 1 else 0
/-- What the first strong makes, isolates counted. -/
def cstr : Int → List Int → Int
  | _, [] => 0
  | d, c :: r => if c = 10 then 0 else if begins c = true then cstr (d + 1) r else if c = 22 then cstr (if d - 1 < 0 then 0 else d - 1) r else if isStr c = true ∧ d = 0 then side c else cstr d r
/-- What the first strong of an isolate makes, of what is left of it. -/
def inner : Int → List Int → Int
  | _, [] => 0
  | d, c :: r => if c = 10 then 0 else if begins c = true then inner (d + 1) r else if c = 22 then (if d = 0 then 0 else inner (d - 1) r) else if isStr c = true ∧ d = 0 then side c else inner d r
theorem opened_b {o c : Int} (h : begins c = true) : opened o c = o + 1 := by
  unfold opened
  rw [if_pos h, if_neg (by rintro rfl; cases h)]
  omega
theorem opened_e {o : Int} : opened o 22 = o - 1 := rfl
theorem opened_n {o c : Int} (h : begins c = false) (h2 : c ≠ 22) : opened o c = o := by
  unfold opened
  rw [h, if_neg h2]
  simp
theorem begins_10 {c : Int} (h : begins c = true) : c ≠ 10 ∧ c ≠ 22 ∧ c ≠ 0 ∧ c ≠ 1 ∧ c ≠ 2 := by
  refine ⟨?_, ?_, ?_, ?_, ?_⟩ <;> (rintro rfl; cases h)
theorem isStr_iff (c : Int) : isStr c = true ↔ c = 0 ∨ c = 1 ∨ c = 2 := by unfold isStr; simp
theorem cstr_end : ∀ (r : List Int) (d : Int), 1 ≤ d → cstr d r = match endR d r with | none => 0 | some k => cstr 0 (r.drop (k + 1)) := by
  intro r
  induction r with
  | nil => intro d _; rfl
  | cons c r ih =>
    intro d hd
    unfold endR
    by_cases h10 : c = 10
    · rw [cstr, if_pos h10, if_pos h10]
    · rw [cstr, if_neg h10, if_neg h10]
      cases hb : begins c with
      | true =>
        rw [if_pos rfl, opened_b hb, if_neg (by omega), ih _ (by omega)]
        cases endR (d + 1) r <;> rfl
      | false =>
        rw [if_neg (by simp)]
        by_cases h22 : c = 22
        · subst h22
          rw [if_pos rfl, opened_e]
          by_cases h1 : d - 1 = 0
          · rw [if_pos h1, h1]
            rfl
          · rw [if_neg h1, if_neg (by omega), ih _ (by omega)]
            cases endR (d - 1) r <;> rfl
        · rw [if_neg h22, if_neg (by omega), opened_n hb h22, if_neg (by omega), ih _ hd]
          cases endR d r <;> rfl
theorem cstr_strongN : ∀ (n : Nat) (l : List Int), l.length ≤ n → cstr 0 l = strong l := by
  intro n
  induction n with
  | zero =>
    intro l h
    obtain rfl : l = [] := List.eq_nil_of_length_eq_zero (Nat.le_zero.1 h)
    rfl
  | succ n ih =>
    intro l h
    cases l with
    | nil => rfl
    | cons c r =>
      simp only [List.length_cons] at h
      rw [strong_cons, cstr]
      by_cases h10 : c = 10
      · rw [if_pos h10, if_pos (.inl h10)]
      · rw [if_neg h10]
        cases hb : begins c with
        | true =>
          obtain ⟨_, _, h0, h1, h2⟩ := begins_10 hb
          rw [if_pos rfl, if_neg (by omega), if_neg (by omega), if_pos rfl, cstr_end _ _ (by omega)]
          cases he : endR (0 + 1) r with
          | none => rw [show (0 : Int) + 1 = 1 from rfl] at he; rw [he]
          | some k =>
            rw [show (0 : Int) + 1 = 1 from rfl] at he
            rw [he]
            exact ih _ (by rw [List.length_drop]; omega)
        | false =>
          rw [if_neg (by simp)]
          by_cases h22 : c = 22
          · subst h22
            rw [if_pos rfl, if_pos (by omega), if_neg (by omega), if_neg (by omega), if_neg (by simp)]
            exact ih _ (by omega)
          · rw [if_neg h22]
            by_cases hs : c = 0 ∨ c = 1 ∨ c = 2
            · rw [if_pos ⟨(isStr_iff c).2 hs, rfl⟩]
              unfold side
              rcases hs with rfl | rfl | rfl <;> simp
            · rw [if_neg (by rw [isStr_iff]; exact fun h => hs h.1), if_neg (by omega), if_neg (by omega), if_neg (by simp)]
              exact ih _ (by omega)
theorem cstr_strong (l : List Int) : cstr 0 l = strong l := cstr_strongN _ l (Nat.le_refl _)
theorem inner_cut : ∀ (r : List Int) (d : Int), 0 ≤ d → inner d r = cstr d (match endR (d + 1) r with | some k => r.take k | none => r) := by
  intro r
  induction r with
  | nil => intro d _; rfl
  | cons c r ih =>
    intro d hd
    unfold endR
    by_cases h10 : c = 10
    · rw [inner, if_pos h10, if_pos h10]
      rw [cstr, if_pos h10]
    · rw [inner, if_neg h10, if_neg h10]
      cases hb : begins c with
      | true =>
        rw [if_pos rfl, opened_b hb, if_neg (by omega), ih _ (by omega)]
        cases endR (d + 1 + 1) r with
        | none => simp only [Option.map_none]; rw [cstr, if_neg h10, if_pos hb]
        | some k => simp only [Option.map_some, List.take_succ_cons]; rw [cstr, if_neg h10, if_pos hb]
      | false =>
        rw [if_neg (by simp)]
        by_cases h22 : c = 22
        · subst h22
          rw [if_pos rfl, opened_e]
          by_cases h1 : d = 0
          · rw [if_pos h1, if_pos (by omega)]
            rfl
          · rw [if_neg h1, if_neg (by omega), ih _ (by omega), show d + 1 - 1 = d - 1 + 1 by omega]
            have hd1 : ¬ d - 1 < 0 := by omega
            cases endR (d - 1 + 1) r with
            | none => simp only [Option.map_none]; rw [cstr, if_neg (by omega), hb, if_neg (by simp), if_pos rfl, if_neg hd1]
            | some k => simp only [Option.map_some, List.take_succ_cons]; rw [cstr, if_neg (by omega), hb, if_neg (by simp), if_pos rfl, if_neg hd1]
        · have hd1 : ¬ d + 1 = 0 := by omega
          rw [if_neg h22, opened_n hb h22, if_neg hd1]
          by_cases hs : isStr c = true ∧ d = 0
          · rw [if_pos hs]
            cases endR (d + 1) r with
            | none => simp only [Option.map_none]; rw [cstr, if_neg h10, hb, if_neg (by simp), if_neg h22, if_pos hs]
            | some k => simp only [Option.map_some, List.take_succ_cons]; rw [cstr, if_neg h10, hb, if_neg (by simp), if_neg h22, if_pos hs]
          · rw [if_neg hs, ih _ hd]
            cases endR (d + 1) r with
            | none => simp only [Option.map_none]; rw [cstr, if_neg h10, hb, if_neg (by simp), if_neg h22, if_neg hs]
            | some k => simp only [Option.map_some, List.take_succ_cons]; rw [cstr, if_neg h10, hb, if_neg (by simp), if_neg h22, if_neg hs]
theorem inner_strong (r : List Int) : inner 0 r = strong (match endR 1 r with | some k => r.take k | none => r) := by
  rw [inner_cut _ _ (Int.le_refl _), cstr_strong]
  rfl
theorem inner_01 (r : List Int) : inner 0 r = 0 ∨ inner 0 r = 1 := by
  rw [inner_strong]
  exact strong_01 _ _
theorem side_01 (c : Int) : side c = 0 ∨ side c = 1 := by unfold side; split <;> simp
theorem inner_at {d c : Int} {l : List Int} {k : Nat} (h : l[k]? = some c) : inner d (l.drop k) = if c = 10 then 0 else if begins c = true then inner (d + 1) (l.drop (k + 1)) else if c = 22 then (if d = 0 then 0 else inner (d - 1) (l.drop (k + 1))) else if isStr c = true ∧ d = 0 then side c else inner d (l.drop (k + 1)) := by
  obtain ⟨hi, rfl⟩ := List.getElem?_eq_some_iff.1 h
  rw [List.drop_eq_getElem_cons hi, inner]
theorem cstr_at {d c : Int} {l : List Int} {k : Nat} (h : l[k]? = some c) : cstr d (l.drop k) = if c = 10 then 0 else if begins c = true then cstr (d + 1) (l.drop (k + 1)) else if c = 22 then cstr (if d - 1 < 0 then 0 else d - 1) (l.drop (k + 1)) else if isStr c = true ∧ d = 0 then side c else cstr d (l.drop (k + 1)) := by
  obtain ⟨hi, rfl⟩ := List.getElem?_eq_some_iff.1 h
  rw [List.drop_eq_getElem_cons hi, cstr]

/-- What is told of a scalar is what the document says. -/
def Fin (l : List Int) (i : Nat) (x : Int × Int) : Prop :=
  x.1 = endI l i ∧ ∀ c, l[i]? = some c → begins c = true → (x.2 = 1 ↔ inner 0 (l.drop (i + 1)) = 1)
/-- Where the walk over isolates stands behind k scalars: what is told of all, and which are open, the last first. -/
structure Iso (l : List Int) (k : Nat) (all : List (Int × Int)) (O : List Nat) : Prop where
  len : all.length = l.length
  lt : ∀ o ∈ O, o < k
  one : O.Nodup
  done : ∀ i, i < k → i ∉ O → ∃ x, all[i]? = some x ∧ Fin l i x
  opn : ∀ (j : Nat) (o : Nat), O[j]? = some o → ∃ f, all[o]? = some (-1, f) ∧ endI l o = endTo ((j : Int) + 1) l k ∧ (f = -1 ∧ inner 0 (l.drop (o + 1)) = inner j (l.drop k) ∨ (f = 0 ∨ f = 1) ∧ inner 0 (l.drop (o + 1)) = f)
theorem Iso.zero {l : List Int} : Iso l 0 (List.replicate l.length (0, 0)) [] := by
  refine ⟨by simp, fun o ho => (by cases ho), List.nodup_nil, fun i hi => by omega, fun j o h => by simp at h⟩

section
variable {l : List Int} {k : Nat} {all : List (Int × Int)} {O : List Nat} {c : Int}
theorem Iso.klt (hc : l[k]? = some c) (h : Iso l k all O) : k < all.length := by rw [h.len]; exact (List.getElem?_eq_some_iff.1 hc).1
theorem Iso.keep (_h : Iso l k all O) {i : Nat} (hi : i < k) (x : Int × Int) : (all.set k x)[i]? = all[i]? := by rw [List.getElem?_set_ne (by omega)]
theorem endI_no (hc : l[k]? = some c) (hb : begins c = false) : endI l k = -1 := by
  unfold endI
  rw [hc]
  simp [hb]
theorem fin_no (hc : l[k]? = some c) (hb : begins c = false) (f : Int) : Fin l k (-1, f) := by
  refine ⟨(endI_no hc hb).symm, fun c' hc' hb' => ?_⟩
  rw [hc] at hc'
  obtain rfl := Option.some.inj hc'
  rw [hb] at hb'
  cases hb'
/-- What is told of a scalar that is not open any more. -/
theorem fin_off {o : Nat} {e f : Int} (he : e = endI l o) (hf : f = -1 ∧ inner 0 (l.drop (o + 1)) = 0 ∨ (f = 0 ∨ f = 1) ∧ inner 0 (l.drop (o + 1)) = f) : Fin l o (e, f) := by
  refine ⟨he, fun _ _ _ => ?_⟩
  show f = 1 ↔ _
  rcases hf with ⟨rfl, h⟩ | ⟨_, h⟩
  · rw [h]; decide
  · rw [h]
theorem Iso.begin_ (h : Iso l k all O) (hc : l[k]? = some c) (hb : begins c = true) : Iso l (k + 1) (all.set k (-1, -1)) (k :: O) := by
  have hk := Iso.klt hc h
  obtain ⟨h10, h22, _⟩ := begins_10 hb
  refine ⟨by rw [List.length_set]; exact h.len, fun o ho => ?_, List.nodup_cons.2 ⟨fun hk' => by have := h.lt k hk'; omega, h.one⟩, fun i hi hn => ?_, fun j o hj => ?_⟩
  · rcases List.mem_cons.1 ho with rfl | ho
    · omega
    · have := h.lt o ho; omega
  · simp only [List.mem_cons, not_or] at hn
    obtain ⟨x, hx, hf⟩ := h.done i (by omega) hn.2
    exact ⟨x, by rw [h.keep (by omega)]; exact hx, hf⟩
  · cases j with
    | zero =>
      simp only [List.getElem?_cons_zero, Option.some.injEq] at hj
      subst hj
      refine ⟨-1, by rw [List.getElem?_set_self hk], ?_, .inl ⟨rfl, rfl⟩⟩
      unfold endI endTo
      rw [hc]
      simp only [hb, if_true]
      rfl
    | succ j =>
      rw [List.getElem?_cons_succ] at hj
      obtain ⟨f, h1, h2, h3⟩ := h.opn j o hj
      have ho := h.lt o (List.mem_of_getElem? hj)
      refine ⟨f, by rw [h.keep ho]; exact h1, ?_, ?_⟩
      · rw [h2, endTo_step hc, if_neg h10, opened_b hb, if_neg (by omega)]
        rfl
      · rcases h3 with ⟨h3, h4⟩ | h3
        · refine .inl ⟨h3, ?_⟩
          rw [h4, inner_at hc, if_neg h10, if_pos hb]
          rfl
        · exact .inr h3
theorem Iso.b_ (h : Iso l k all O) (hc : l[k]? = some 10) : Iso l (k + 1) (all.set k (-1, -1)) [] := by
  have hk := Iso.klt hc h
  refine ⟨by rw [List.length_set]; exact h.len, fun o ho => (by cases ho), List.nodup_nil, fun i hi _ => ?_, fun j o hj => by simp at hj⟩
  rcases Nat.lt_or_ge i k with hik | hik
  · by_cases hO : i ∈ O
    · obtain ⟨j, hj⟩ := List.getElem?_of_mem hO
      obtain ⟨f, h1, h2, h3⟩ := h.opn j i hj
      refine ⟨(-1, f), by rw [h.keep hik]; exact h1, fin_off ?_ ?_⟩
      · rw [h2, endTo_step hc, if_pos rfl]
      · rcases h3 with ⟨h3, h4⟩ | h3
        · exact .inl ⟨h3, by rw [h4, inner_at hc, if_pos rfl]⟩
        · exact .inr h3
    · obtain ⟨x, hx, hf⟩ := h.done i hik hO
      exact ⟨x, by rw [h.keep hik]; exact hx, hf⟩
  · obtain rfl : i = k := by omega
    exact ⟨(-1, -1), by rw [List.getElem?_set_self hk], fin_no hc rfl _⟩
theorem Iso.none_ (h : Iso l k all []) (hc : l[k]? = some c) (hb : begins c = false) : Iso l (k + 1) (all.set k (-1, -1)) [] := by
  have hk := Iso.klt hc h
  refine ⟨by rw [List.length_set]; exact h.len, fun o ho => (by cases ho), List.nodup_nil, fun i hi _ => ?_, fun j o hj => by simp at hj⟩
  rcases Nat.lt_or_ge i k with hik | hik
  · obtain ⟨x, hx, hf⟩ := h.done i hik (by simp)
    exact ⟨x, by rw [h.keep hik]; exact hx, hf⟩
  · obtain rfl : i = k := by omega
    exact ⟨(-1, -1), by rw [List.getElem?_set_self hk], fin_no hc hb _⟩
theorem Iso.pdi_ {o : Nat} {f : Int} (h : Iso l k all (o :: O)) (hc : l[k]? = some 22) (ho : all[o]? = some (-1, f)) : Iso l (k + 1) ((all.set k (-1, -1)).set o (k, f)) O := by
  have hk := Iso.klt hc h
  have hok := h.lt o (List.mem_cons_self ..)
  obtain ⟨hno, hO⟩ := List.nodup_cons.1 h.one
  obtain ⟨f', q1, q2, q3⟩ := h.opn 0 o rfl
  rw [ho] at q1
  obtain rfl : f = f' := by injection q1 with q1; injection q1
  have K : ∀ i, i < k → i ≠ o → ((all.set k (-1, -1)).set o ((k : Int), f))[i]? = all[i]? := fun i hi hne => by rw [List.getElem?_set_ne (by omega), h.keep hi]
  refine ⟨by rw [List.length_set, List.length_set]; exact h.len, fun x hx => by have := h.lt x (List.mem_cons_of_mem _ hx); omega, hO, fun i hi hn => ?_, fun j x hj => ?_⟩
  · rcases Nat.lt_or_ge i k with hik | hik
    · by_cases hio : i = o
      · subst hio
        refine ⟨((k : Int), f), by rw [List.getElem?_set_self (by rw [List.length_set]; omega)], fin_off ?_ ?_⟩
        · rw [q2, endTo_step hc, if_neg (by decide), if_pos (by rw [opened_e]; omega)]
        · rcases q3 with ⟨h3, h4⟩ | h3
          · exact .inl ⟨h3, by rw [h4, inner_at hc, if_neg (by decide), if_neg (by decide), if_pos rfl, if_pos (by omega)]⟩
          · exact .inr h3
      · obtain ⟨x, hx, hf⟩ := h.done i hik (by simp only [List.mem_cons, not_or]; exact ⟨hio, hn⟩)
        exact ⟨x, by rw [K i hik hio]; exact hx, hf⟩
    · obtain rfl : i = k := by omega
      exact ⟨(-1, -1), by rw [List.getElem?_set_ne (by omega), List.getElem?_set_self hk], fin_no hc rfl _⟩
  · obtain ⟨g, h1, h2, h3⟩ := h.opn (j + 1) x (by rw [List.getElem?_cons_succ]; exact hj)
    have hx := h.lt x (List.mem_cons_of_mem _ (List.mem_of_getElem? hj))
    have hxo : x ≠ o := fun e => hno (e ▸ List.mem_of_getElem? hj)
    refine ⟨g, by rw [K x hx hxo]; exact h1, ?_, ?_⟩
    · rw [h2, endTo_step hc, if_neg (by decide), if_neg (by rw [opened_e]; omega), opened_e, show ((j + 1 : Nat) : Int) + 1 - 1 = (j : Int) + 1 by omega]
    · rcases h3 with ⟨h3, h4⟩ | h3
      · refine .inl ⟨h3, ?_⟩
        rw [h4, inner_at hc, if_neg (by decide), if_neg (by decide), if_pos rfl, if_neg (by omega), show ((j + 1 : Nat) : Int) - 1 = (j : Int) by omega]
      · exact .inr h3
/-- A scalar that neither begins nor ends any: of what stands open the last one's first strong alone may turn. -/
theorem Iso.same_ {o : Nat} {f f' : Int} (h : Iso l k all (o :: O)) (hc : l[k]? = some c) (hb : begins c = false) (h10 : c ≠ 10) (h22 : c ≠ 22) (ho : all[o]? = some (-1, f))
    (hf : isStr c = true ∧ f = -1 ∧ f' = side c ∨ ¬ (isStr c = true ∧ f = -1) ∧ f' = f) : Iso l (k + 1) ((all.set k (-1, -1)).set o (-1, f')) (o :: O) := by
  have hk := Iso.klt hc h
  have hok := h.lt o (List.mem_cons_self ..)
  obtain ⟨hno, hO⟩ := List.nodup_cons.1 h.one
  obtain ⟨f1, q1, q2, q3⟩ := h.opn 0 o rfl
  rw [ho] at q1
  obtain rfl : f = f1 := by injection q1 with q1; injection q1
  have K : ∀ i, i < k → i ≠ o → ((all.set k (-1, -1)).set o (-1, f'))[i]? = all[i]? := fun i hi hne => by rw [List.getElem?_set_ne (by omega), h.keep hi]
  refine ⟨by rw [List.length_set, List.length_set]; exact h.len, fun x hx => by have := h.lt x hx; omega, h.one, fun i hi hn => ?_, fun j x hj => ?_⟩
  · have hio : i ≠ o := fun e => hn (e ▸ List.mem_cons_self ..)
    rcases Nat.lt_or_ge i k with hik | hik
    · obtain ⟨x, hx, hf⟩ := h.done i hik hn
      exact ⟨x, by rw [K i hik hio]; exact hx, hf⟩
    · obtain rfl : i = k := by omega
      exact ⟨(-1, -1), by rw [List.getElem?_set_ne (by omega), List.getElem?_set_self hk], fin_no hc hb _⟩
  · cases j with
    | zero =>
      simp only [List.getElem?_cons_zero, Option.some.injEq] at hj
      subst hj
      refine ⟨f', by rw [List.getElem?_set_self (by rw [List.length_set]; omega)], ?_, ?_⟩
      · rw [q2, endTo_step hc, if_neg h10, if_neg (by rw [opened_n hb h22]; omega), opened_n hb h22]
      · rcases q3 with ⟨q3, q4⟩ | ⟨q3, q4⟩
        · rcases hf with ⟨a1, a2, a3⟩ | ⟨a1, a2⟩
          · refine .inr ⟨a3 ▸ side_01 c, ?_⟩
            rw [q4, inner_at hc, if_neg h10, if_neg (by rw [hb]; simp), if_neg h22, if_pos ⟨a1, rfl⟩, a3]
          · refine .inl ⟨a2.trans q3, ?_⟩
            rw [q4, inner_at hc, if_neg h10, if_neg (by rw [hb]; simp), if_neg h22, if_neg (fun q => a1 ⟨q.1, q3⟩)]
        · rcases hf with ⟨a1, a2, a3⟩ | ⟨a1, a2⟩
          · omega
          · subst a2
            exact .inr ⟨q3, q4⟩
    | succ j =>
      rw [List.getElem?_cons_succ] at hj
      obtain ⟨g, h1, h2, h3⟩ := h.opn (j + 1) x (by rw [List.getElem?_cons_succ]; exact hj)
      have hx := h.lt x (List.mem_cons_of_mem _ (List.mem_of_getElem? hj))
      have hxo : x ≠ o := fun e => hno (e ▸ List.mem_of_getElem? hj)
      refine ⟨g, by rw [K x hx hxo]; exact h1, ?_, ?_⟩
      · rw [h2, endTo_step hc, if_neg h10, if_neg (by rw [opened_n hb h22]; omega), opened_n hb h22]
      · rcases h3 with ⟨h3, h4⟩ | h3
        · refine .inl ⟨h3, ?_⟩
          rw [h4, inner_at hc, if_neg h10, if_neg (by rw [hb]; simp), if_neg h22, if_neg (fun q => by have := q.2; omega)]
        · exact .inr h3
theorem Iso.end_ (h : Iso l l.length all O) : ∀ i, i < l.length → ∃ x, all[i]? = some x ∧ Fin l i x := by
  intro i hi
  by_cases hO : i ∈ O
  · obtain ⟨j, hj⟩ := List.getElem?_of_mem hO
    obtain ⟨f, h1, h2, h3⟩ := h.opn j i hj
    refine ⟨(-1, f), h1, fin_off ?_ ?_⟩
    · rw [h2, endTo_end (Nat.le_refl _)]
    · rcases h3 with ⟨h3, h4⟩ | h3
      · refine .inl ⟨h3, ?_⟩
        rw [h4, List.drop_length]
        rfl
      · exact .inr h3
  · exact h.done i hi hO
end
/-- Which side an isolate's beginning is of, by what is told of it. -/
def oddOf (c f : Int) : Int := if c = 20 then 1 else if c = 21 then (if f = 1 then 1 else 0) else 0
theorem known_b (c : Int) : begins (known c) = begins c := by
  unfold known
  split
  · rename_i h
    unfold begins
    rw [Bool.eq_iff_iff]
    simp
    omega
  · rfl
theorem dir_told {l : List Int} {k : Nat} {c : Int} {x : Int × Int} (hc : l[k]? = some c) (hx : Fin l k x) (hb : begins (known c) = true) : dir (known c) (l.drop (k + 1)) = oddOf (known c) x.2 := by
  have h := hx.2 c hc (known_b c ▸ hb)
  unfold dir oddOf
  split
  · rfl
  · split
    · rw [inner_strong] at h
      have h01 := inner_01 (l.drop (k + 1))
      rw [inner_strong] at h01
      by_cases h1 : x.2 = 1
      · rw [if_pos h1]
        exact h.1 h1
      · rw [if_neg h1]
        rcases h01 with h0 | h0
        · exact h0
        · exact absurd (h.2 h0) h1
    · rfl
end Go.Proofs.Yticiofpbijahbaa.M
end

section
namespace Go.Proofs.Yticiofpbijahbaa
open Go.RowKit
set_option maxRecDepth 100000

theorem cbegins_any (c : Int) (w : World) : Calls Try.prog 50 #[.int .i64 c] w fun r w' => r = .returned (.bool (M.begins c)) ∧ w = w' := by
  have H := Lib.hid (show M.begins c = (decide (c = 19) || (decide (c = 20) || decide (c = 21))) from rfl)
  go_enter Try.func50, Try.ntmps50
  go_wp2_with fail
  all_goals
    go_ret
    exact ⟨ret_bool (by rw [H.out, Bool.eq_iff_iff]; simp_all), rfl⟩
theorem ret_mk {a b : Int} {p q : Bool} (h : a = b) (h2 : p = q) : Ending.returned (.tuple #[.int .i64 a, .bool p]) = .returned (.tuple #[.int .i64 b, .bool q]) := by rw [h, h2]
theorem makes_any (c : Int) (w : World) : Calls Try.prog 49 #[.int .i64 c] w fun r w' => r = .returned (.tuple #[.int .i64 (M.side c), .bool (M.isStr c)]) ∧ w = w' := by
  have H := Lib.hid (show M.side c = if c = 1 ∨ c = 2 then 1 else 0 from rfl)
  have H2 := Lib.hid (show M.isStr c = (decide (c = 0) || (decide (c = 1) || decide (c = 2))) from rfl)
  go_enter Try.func49, Try.ntmps49
  go_wp2_with fail
  all_goals
    go_ret2
    exact ⟨ret_mk (by rw [H.out]; simp_all) (by rw [H2.out, Bool.eq_iff_iff]; simp_all), rfl⟩
theorem counted_any (c : Int) (w : World) : Calls Try.prog 36 #[.int .i64 c] w fun r w' => r = .returned (.int .i64 (M.known c)) ∧ w = w' := by
  have H := Lib.hid (show M.known c = if c < 0 ∨ 22 < c then 13 else c from rfl)
  go_enter Try.func36, Try.ntmps36
  go_wp2_with fail
  all_goals
    go_ret
    exact ⟨ret_int (by rw [H.out]; split <;> omega), rfl⟩
set_option maxHeartbeats 4000000 in
theorem cstrong_any (A : Option Addr) (ca n : Nat) (l : List Int) (w : World) (hr : RdS .i64 w w.heap.size A l) (hn : l.length = n) (hl : n ≤ 1000) :
    Calls Try.prog 32 #[.slice A n ca] w fun r w' => r = .returned (.int .i64 (M.strong l)) ∧ w = w' := by
  have HR := Lib.hid hr
  have HN := Lib.hid hn
  have hl1 : (n : Int) ≤ 1000 := by omega
  clear hr hn
  go_enter Try.func32, Try.ntmps32
  go_wp2_with fail
  go_loop [3, 10] (fun dv v => ∃ (i : Nat) (d : Int), i ≤ n ∧ v = .int .i64 i ∧ dv = .int .i64 d ∧ 0 ≤ d ∧ d ≤ i ∧ M.strong l = M.cstr d (l.drop i)) (fun _ v => n - (intOf v).toNat)
  case atStart => exact ⟨0, 0, by omega, by go_num, rfl, by omega, by omega, (M.cstr_strong l).symm⟩
  case round =>
    obtain ⟨i, d, hi, rfl, rfl, hd, hdi, he⟩ := hrel
    by_cases hlt : i < n
    · obtain ⟨ad, c, rfl, hcc, hc, -⟩ := rd_at HR.out (Below.refl _ _) (by rw [HN.out]; exact hlt : i < l.length)
      have hi0 : (0 : Int) ≤ (i : Int) := by omega
      have hi1 : (i : Int) < (n : Int) := by omega
      have HE := Lib.hid (he.trans (M.cstr_at hc))
      have HBC := Lib.hid (cbegins_any c w)
      have HMK := Lib.hid (makes_any c w)
      obtain ⟨b, hb⟩ : ∃ b, M.begins c = b := ⟨_, rfl⟩
      obtain ⟨s, hs⟩ : ∃ s, M.isStr c = s := ⟨_, rfl⟩
      obtain ⟨t, ht⟩ : ∃ t, M.side c = t := ⟨_, rfl⟩
      rw [hb] at HBC HE
      rw [hs] at HMK HE
      rw [ht] at HMK HE
      clear he hc hb hs ht
      by_cases h10 : c = 10
      · rw [if_pos h10] at HE
        subst h10
        go_wp2_with fail
        refine HMK.out.mono ?_
        rintro r w1 ⟨rfl, rfl⟩
        go_wp2_with fail
        go_ret
        exact ⟨ret_int (by rw [HE.out]), rfl⟩
      · rw [if_neg h10] at HE
        cases b with
        | true =>
          rw [if_pos rfl] at HE
          go_wp2_with fail
          refine HMK.out.mono ?_
          rintro r w1 ⟨rfl, rfl⟩
          go_wp2_with fail
          refine HBC.out.mono ?_
          rintro r w1 ⟨rfl, rfl⟩
          go_wp2_with fail
          go_round
          case rel => exact ⟨i + 1, d + 1, by omega, by go_num, rfl, by omega, by omega, HE.out⟩
          case measure => simp [intOf]; omega
        | false =>
          rw [if_neg (by simp)] at HE
          by_cases h22 : c = 22
          · rw [if_pos h22] at HE
            subst h22
            by_cases h1 : d - 1 < 0
            · rw [if_pos h1] at HE
              have hm : max (d - 1) 0 = 0 := by omega
              go_wp2_with fail
              refine HMK.out.mono ?_
              rintro r w1 ⟨rfl, rfl⟩
              go_wp2_with fail
              refine HBC.out.mono ?_
              rintro r w1 ⟨rfl, rfl⟩
              go_wp2_with fail
              go_round
              case rel => exact ⟨i + 1, 0, by omega, by go_num, rfl, by omega, by omega, HE.out⟩
              case measure => simp [intOf]; omega
            · rw [if_neg h1] at HE
              go_wp2_with fail
              refine HMK.out.mono ?_
              rintro r w1 ⟨rfl, rfl⟩
              go_wp2_with fail
              refine HBC.out.mono ?_
              rintro r w1 ⟨rfl, rfl⟩
              go_wp2_with fail
              go_round
              case rel => exact ⟨i + 1, d - 1, by omega, by go_num, rfl, by omega, by omega, HE.out⟩
              case measure => simp [intOf]; omega
          · rw [if_neg h22] at HE
            by_cases h1 : s = true ∧ d = 0
            · rw [if_pos h1] at HE
              obtain ⟨rfl, rfl⟩ := h1
              go_wp2_with fail
              refine HMK.out.mono ?_
              rintro r w1 ⟨rfl, rfl⟩
              go_wp2_with fail
              refine HBC.out.mono ?_
              rintro r w1 ⟨rfl, rfl⟩
              go_wp2_with fail
              go_ret
              exact ⟨ret_int (by rw [HE.out]), rfl⟩
            · rw [if_neg h1] at HE
              cases s with
              | true =>
                have hd0 : ¬ d = 0 := fun e => h1 ⟨rfl, e⟩
                clear h1
                go_wp2_with fail
                refine HMK.out.mono ?_
                rintro r w1 ⟨rfl, rfl⟩
                go_wp2_with fail
                refine HBC.out.mono ?_
                rintro r w1 ⟨rfl, rfl⟩
                go_wp2_with fail
                go_round
                case rel => exact ⟨i + 1, d, by omega, by go_num, rfl, by omega, by omega, HE.out⟩
                case measure => simp [intOf]; omega
              | false =>
                clear h1
                go_wp2_with fail
                refine HMK.out.mono ?_
                rintro r w1 ⟨rfl, rfl⟩
                go_wp2_with fail
                refine HBC.out.mono ?_
                rintro r w1 ⟨rfl, rfl⟩
                go_wp2_with fail
                go_round
                case rel => exact ⟨i + 1, d, by omega, by go_num, rfl, by omega, by omega, HE.out⟩
                case measure => simp [intOf]; omega
    · obtain rfl : i = n := by omega
      have HF := Lib.hid (show M.strong l = 0 by rw [he, List.drop_eq_nil_of_le (by rw [HN.out]; exact Nat.le_refl _)]; rfl)
      clear he
      go_wp2_with fail
      go_ret
      exact ⟨ret_int (by rw [HF.out]), rfl⟩
end Go.Proofs.Yticiofpbijahbaa
end

section
namespace Go.Proofs.Yticiofpbijahbaa
open Go.RowKit

def isoCells (l : List (Int × Int)) : List Value := l.flatMap fun x => [.int .i64 x.1, .int .i64 x.2]
theorem isoCells_cons (x : Int × Int) (r : List (Int × Int)) : isoCells (x :: r) = .int .i64 x.1 :: .int .i64 x.2 :: isoCells r := rfl
theorem isoCells_length (l : List (Int × Int)) : (isoCells l).length = l.length * 2 := by
  induction l with
  | nil => rfl
  | cons x r ih => rw [isoCells_cons]; simp [ih]; omega
theorem isoCells_at {l : List (Int × Int)} {j : Nat} {x : Int × Int} (h : l[j]? = some x) : (isoCells l)[j * 2]? = some (.int .i64 x.1) ∧ (isoCells l)[j * 2 + 1]? = some (.int .i64 x.2) := by
  induction l generalizing j with
  | nil => simp at h
  | cons y r ih =>
    rw [isoCells_cons]
    cases j with
    | zero => simp at h; subst h; exact ⟨rfl, rfl⟩
    | succ j =>
      simp at h
      obtain ⟨a, b⟩ := ih h
      rw [show (j + 1) * 2 = j * 2 + 1 + 1 by omega]
      exact ⟨a, b⟩
theorem isoCells_set0 {l : List (Int × Int)} {j : Nat} {e f : Int} (h : l[j]? = some (e, f)) (a : Int) : (isoCells l).set (j * 2) (.int .i64 a) = isoCells (l.set j (a, f)) := by
  induction l generalizing j with
  | nil => simp at h
  | cons y r ih =>
    cases j with
    | zero => simp at h; subst h; rfl
    | succ j =>
      simp at h
      rw [List.set_cons_succ, isoCells_cons, isoCells_cons, ← ih h, show (j + 1) * 2 = j * 2 + 1 + 1 by omega]
      rfl
theorem isoCells_set1 {l : List (Int × Int)} {j : Nat} {e f : Int} (h : l[j]? = some (e, f)) (a : Int) : (isoCells l).set (j * 2 + 1) (.int .i64 a) = isoCells (l.set j (e, a)) := by
  induction l generalizing j with
  | nil => simp at h
  | cons y r ih =>
    cases j with
    | zero => simp at h; subst h; rfl
    | succ j =>
      simp at h
      rw [List.set_cons_succ, isoCells_cons, isoCells_cons, ← ih h, show (j + 1) * 2 + 1 = j * 2 + 1 + 1 + 1 by omega]
      rfl
theorem isoCells_zero (n : Nat) : (madeCells #[.int .i64 0, .int .i64 0] (n * 2)).toList = isoCells (List.replicate n (0, 0)) := by
  apply List.ext_getElem?
  intro j
  by_cases hj : j < n * 2
  · have h1 : (List.replicate n ((0 : Int), (0 : Int)))[j / 2]? = some (0, 0) := by rw [List.getElem?_replicate, if_pos (by omega)]
    obtain ⟨a, b⟩ := isoCells_at h1
    rcases Nat.mod_two_eq_zero_or_one j with h | h
    · rw [show j / 2 * 2 = j by omega] at a
      rw [a]
      simp [madeCells, hj, h]
    · rw [show j / 2 * 2 + 1 = j by omega] at b
      rw [b]
      simp [madeCells, hj, h]
  · rw [List.getElem?_eq_none (by simp [madeCells]; omega), List.getElem?_eq_none (by rw [isoCells_length, List.length_replicate]; omega)]
structure IsoAt (B : Nat) (w wr : World) (G n : Nat) (all : List (Int × Int)) (vo : Value) (O : List Nat) : Prop where
  below : Below B w wr
  ra : wr.ownsRow B 73 2 (.slice (some ⟨G, 0, none⟩) n n) n (isoCells all)
  ro : wr.ownsRow B 3 1 vo O.length (O.reverse.map fun o : Nat => Value.int .i64 (o : Int))
  ap : vo.ownBlock ≠ some G
section
variable {B : Nat} {w wr w3 : World} {G n : Nat} {all : List (Int × Int)} {vo : Value} {O : List Nat}
theorem IsoAt.len (h : IsoAt B w wr G n all vo O) : all.length = n := by
  have := h.ra.1
  rw [isoCells_length] at this
  omega
theorem IsoAt.glo (h : IsoAt B w wr G n all vo O) : B ≤ G ∧ G < wr.heap.size := World.ownsRow.lt h.ra G rfl
theorem IsoAt.cells (h : IsoAt B w wr G n all vo O) {j : Nat} {e f : Int} (hj : all[j]? = some (e, f)) : wr.cell? ⟨G, j * 2, none⟩ = some (.int .i64 e) ∧ wr.cell? ⟨G, j * 2 + 1, none⟩ = some (.int .i64 f) := by
  obtain ⟨a, b⟩ := isoCells_at hj
  have hl := (List.getElem?_eq_some_iff.1 hj).1
  rw [h.len] at hl
  exact ⟨(h.ra.cellAt _ (by omega)).trans a, (h.ra.cellAt _ (by omega)).trans b⟩
theorem IsoAt.frozen (h : IsoAt B w wr G n all vo O) (j : Nat) : wr.frozen? ⟨G, j, none⟩ = false := h.ra.frozenAt j
theorem IsoAt.end_ (h : IsoAt B w wr G n all vo O) {j : Nat} {e f : Int} (hj : all[j]? = some (e, f)) (a : Int) : IsoAt B w (wr.setCell ⟨G, j * 2, none⟩ (.int .i64 a)) G n (all.set j (a, f)) vo O :=
  ⟨h.below.setCell (p := ⟨G, j * 2, none⟩) h.glo.1 _, by rw [← isoCells_set0 hj]; exact (h.ra.stored _ _).1, ownsRow_setCell_other h.ro h.ap _, h.ap⟩
theorem IsoAt.first (h : IsoAt B w wr G n all vo O) {j : Nat} {e f : Int} (hj : all[j]? = some (e, f)) (a : Int) : IsoAt B w (wr.setCell ⟨G, j * 2 + 1, none⟩ (.int .i64 a)) G n (all.set j (e, a)) vo O :=
  ⟨h.below.setCell (p := ⟨G, j * 2 + 1, none⟩) h.glo.1 _, by rw [← isoCells_set1 hj]; exact (h.ra.stored _ _).1, ownsRow_setCell_other h.ro h.ap _, h.ap⟩
theorem IsoAt.told (h : IsoAt B w wr G n all vo O) {j : Nat} {e f : Int} (hj : all[j]? = some (e, f)) (a b : Int) : IsoAt B w ((wr.setCell ⟨G, j * 2, none⟩ (.int .i64 a)).setCell ⟨G, j * 2 + 1, none⟩ (.int .i64 b)) G n (all.set j (a, b)) vo O := by
  have hl := (List.getElem?_eq_some_iff.1 hj).1
  have q := (h.end_ hj a).first (j := j) (e := a) (f := f) (by rw [List.getElem?_set_self hl]) b
  rwa [List.set_set] at q
theorem IsoAt.none_ (h : IsoAt B w wr G n all vo O) : IsoAt B w wr G n all (.slice none 0 0) [] := ⟨h.below, h.ra, World.ownsRow_nil _ _ _ _, by simp [Value.ownBlock]⟩
/-- The last one that stands open. -/
theorem IsoAt.last {o : Nat} (h : IsoAt B w wr G n all vo (o :: O)) {m : Nat} (hm : O.length = m) : ∃ g cap, vo = .slice (some ⟨g, 0, none⟩) (m + 1) cap ∧ wr.cell? ⟨g, m, none⟩ = some (.int .i64 (o : Int)) ∧ m + 1 ≤ cap ∧ cap ≤ maxLen ∧
    IsoAt B w wr G n all (.slice (some ⟨g, 0, none⟩) m cap) O := by
  subst hm
  have ro := h.ro
  rcases ro.2 with ⟨h0, _⟩ | ⟨g, cap, cur, hv, _, _, hn, hc, _, _⟩
  · have e := ro.1
    subst h0
    simp at *
  · subst hv
    rw [List.length_cons] at ro hn ⊢
    refine ⟨g, cap, rfl, ?_, hn, hc, h.below, h.ra, ?_, h.ap⟩
    · rw [World.ownsRow.cellAt (size := 1) ro O.length (by omega)]
      simp
    · rw [List.reverse_cons, List.map_append] at ro
      exact ownsRow_pop (by simp) ro
/-- One more stands open. -/
theorem IsoAt.push (h : IsoAt B w wr G n all vo O) {o : Nat} {q c : Nat} {x : Obj} (hown : w3.ownsRow B 3 1 (.slice (some ⟨q, 0, none⟩) (O.length + 1) c) (O.length + 1) ((O.reverse.map fun o : Nat => Value.int .i64 (o : Int)) ++ [.int .i64 (o : Int)]))
    (hg : (wr.alloc x).grownBy w3 vo.ownBlock) (hat : vo.ownBlock = some q ∨ q = wr.heap.size + 1) : IsoAt B w w3 G n all (.slice (some ⟨q, 0, none⟩) (O.length + 1) c) (o :: O) := by
  have hG := h.glo
  refine ⟨(h.below.alloc (by omega) x).grown hg (by simp; omega) (fun k hk => (World.ownsRow.lt h.ro k hk).1), World.ownsRow.kept (h.ra.alloc x) hg (.inr (by simp [Value.ownBlock]; exact fun e => h.ap e.symm)), ?_, ?_⟩
  · rw [List.reverse_cons, List.map_append]
    exact hown
  · intro e
    have e2 : q = G := by simpa [Value.ownBlock] using e
    rcases hat with h1 | h1
    · exact h.ap (by rw [h1, e2])
    · omega
end
theorem Try.infoIso : (Try.prog.info? 73).map (fun i => (i.zero, i.size, i.bytes)) = some (some (.agg #[.int .i64 0, .int .i64 0]), 2, 16) := by kernel_rfl
end Go.Proofs.Yticiofpbijahbaa
end

section
namespace Go.Proofs.Yticiofpbijahbaa
open Go.RowKit
set_option maxRecDepth 100000

/-- A row of the callee's own, of what is told of each scalar. -/
def IsosOut (l : List Int) (n : Nat) (w : World) (r : Ending) (w' : World) : Prop :=
  ∃ G all, r = .returned (.slice (some ⟨G, 0, none⟩) n n) ∧ w'.ownsRow w.heap.size 73 2 (.slice (some ⟨G, 0, none⟩) n n) n (isoCells all) ∧ (∀ i, i < n → ∃ x, all[i]? = some x ∧ M.Fin l i x) ∧ Below w.heap.size w w'
theorem set_self_at {α : Type} {l : List α} {i : Nat} {x : α} (h : l[i]? = some x) : l.set i x = l := by
  apply List.ext_getElem?
  intro j
  by_cases e : j = i
  · subst e
    rw [List.getElem?_set_self (List.getElem?_eq_some_iff.1 h).1, h]
  · rw [List.getElem?_set_ne (fun q => e q.symm)]
theorem IsoAt.form {B : Nat} {w wr : World} {G n : Nat} {all : List (Int × Int)} {vo : Value} {O : List Nat} (h : IsoAt B w wr G n all vo O) : ∃ A2 c2, vo = .slice A2 O.length c2 := by
  rcases h.ro.2 with ⟨h1, h0⟩ | ⟨g, cap, cur, hv, _⟩
  · rw [h0]; exact ⟨_, _, h1⟩
  · exact ⟨_, _, hv⟩
set_option maxHeartbeats 8000000 in
theorem isolates_any (A : Option Addr) (ca n : Nat) (l : List Int) (w : World) (hr : RdS .i64 w w.heap.size A l) (hn : l.length = n) (hl : n ≤ 1000) :
    Calls Try.prog 35 #[.slice A n ca] w (IsosOut l n w) := by
  obtain ⟨i0, hi, hz0, hz1, hz2⟩ := info_parts Try.infoIso
  obtain ⟨j0, hj, hy0, hy1, hy2⟩ := info_parts Try.infoInt
  have hmk := run_make (P := Try.prog) w 70 73 i0 (.agg #[.int .i64 0, .int .i64 0]) Try.underlying70 hi hz0 .i64 .i64 n n (by omega) (Int.le_refl _) (by rw [hz2]; omega) (by omega)
  rw [Int.toNat_natCast, hz1] at hmk
  obtain ⟨W1, hW1⟩ : ∃ W1, w.alloc (.cells (madeCells (Value.agg #[.int .i64 0, .int .i64 0]).cells (n * 2)) 73) = W1 := ⟨_, rfl⟩
  have h1 : IsoAt w.heap.size w W1 w.heap.size n (List.replicate n (0, 0)) (.slice none 0 0) [] := by
    rw [← hW1]
    refine ⟨(Below.refl _ _).alloc (Nat.le_refl _) _, ?_, World.ownsRow_nil _ _ _ _, by simp [Value.ownBlock]⟩
    rw [← isoCells_zero]
    exact World.ownsRow_lit w _ n (Nat.le_refl _) (by unfold maxLen; omega) (by simp [madeCells])
  rw [hW1] at hmk
  have HI := Lib.hid h1
  have HR := Lib.hid hr
  have HN := Lib.hid hn
  have hl1 : (n : Int) ≤ 1000 := by omega
  clear hr hn h1 hW1 hz0 hz1 hz2 hi
  go_enter Try.func35, Try.ntmps35
  go_wp2_with fail
  go_loopw [4, 15] (fun uo v wr => ∃ (k : Nat) (all : List (Int × Int)) (O : List Nat) (vo : Value), vo = uo ∧ v = .int .i64 k ∧ k ≤ n ∧ IsoAt w.heap.size w wr w.heap.size n all vo O ∧ M.Iso l k all O) (fun _ v _ => n - (intOf v).toNat)
  case atStart => exact ⟨0, _, [], _, rfl, rfl, Nat.zero_le _, HI.out, by have q := M.Iso.zero (l := l); rw [HN.out] at q; exact q⟩
  case round =>
    obtain ⟨k, all, O, vo, rfl, rfl, hk, hi, hm⟩ := hrel
    have HI2 := Lib.hid hi
    have HM := Lib.hid hm
    have hn := HN.out
    have k0 : (0 : Int) ≤ k := by omega
    by_cases hlt : k < n
    · obtain ⟨ad, c, rfl, hcx, hx, hab⟩ := rd_at HR.out hi.below (by omega : k < l.length)
      have k1 : (k : Int) < n := by omega
      obtain ⟨⟨e0, f0⟩, hat⟩ : ∃ x, all[k]? = some x := ⟨_, List.getElem?_eq_getElem (by rw [hm.len]; omega)⟩
      obtain ⟨c0, c1⟩ := hi.cells hat
      have y0 := hi.frozen (k * 2)
      have y1 := hi.frozen (k * 2 + 1)
      obtain ⟨m, hOm⟩ : ∃ m, O.length = m := ⟨_, rfl⟩
      have hmk2 : m ≤ k := by
        rw [← hOm]
        have := List.Nodup.length_le_of_subset (l₂ := List.range k) hm.one (fun o ho => List.mem_range.2 (hm.lt o ho))
        simpa using this
      have HBC := fun w => Lib.hid (cbegins_any c w)
      have HMK := fun w => Lib.hid (makes_any c w)
      obtain ⟨b, hb⟩ : ∃ b, M.begins c = b := ⟨_, rfl⟩
      obtain ⟨s, hs⟩ : ∃ s, M.isStr c = s := ⟨_, rfl⟩
      obtain ⟨t, ht⟩ : ∃ t, M.side c = t := ⟨_, rfl⟩
      rw [hb] at HBC
      rw [hs, ht] at HMK
      have HX := Lib.hid hx
      have HT := Lib.hid (hi.told hat (-1) (-1))
      have HOm := Lib.hid hOm
      have Hb := Lib.hid hb
      have Hs := Lib.hid hs
      have Ht := Lib.hid ht
      obtain ⟨W2, hW2⟩ : ∃ W2, (wr.setCell ⟨w.heap.size, k * 2, none⟩ (.int .i64 (-1))).setCell ⟨w.heap.size, k * 2 + 1, none⟩ (.int .i64 (-1)) = W2 := ⟨_, rfl⟩
      rw [hW2] at HT
      clear hi hm hx hat hn hOm hb hs ht hab
      obtain ⟨A2, c2, hv⟩ : ∃ A2 c2, vo = .slice A2 m c2 := by rw [← HOm.out]; exact HI2.out.form
      subst hv
      cases b with
      | true =>
        have HB := Lib.hid (HM.out.begin_ HX.out Hb.out)
        go_wp2_with fail
        refine (HMK _).out.mono ?_
        rintro r w2 ⟨rfl, rfl⟩
        go_wp2_with fail
        refine (HBC _).out.mono ?_
        rintro r w3 ⟨rfl, rfl⟩
        go_wp2_with (at_builtin; refine wpList_append_lies _ rfl _ _ 23 rfl w.heap.size 3 j0 (.int .i64 0) 1 8 Try.underlying23 hj hy0 hy1 hy2 rfl (by decide) _ _ _ rfl (World.ownsRow.alloc (HOm.out ▸ HT.out.ro) _) ⟨W2.heap.size, 0, none⟩ 1 1 [.int .i64 k] rfl rfl (one_new _ _ _) one_cell (by omega) (by unfold maxLen; omega) (by omega) (by have := HT.out.glo; simp; omega) (W2.heap.size + 1) (by simp) ?_)
        intro q cap w4 hown hgrow hat _
        have HP := Lib.hid (HT.out.push (o := k) (by rw [HOm.out, List.map_reverse]; exact hown) hgrow hat)
        clear hown hgrow hat
        go_wp2_with fail
        go_roundw
        case rel => exact ⟨k + 1, _, k :: O, _, rfl, by go_num, by omega, by have q := HP.out; rw [HOm.out] at q; exact q, HB.out⟩
        case measure => simp [intOf]; omega
      | false =>
        by_cases h10 : c = 10
        · subst h10
          have HB := Lib.hid (HM.out.b_ HX.out)
          go_wp2_with fail
          refine (HMK _).out.mono ?_
          rintro r w2 ⟨rfl, rfl⟩
          go_wp2_with fail
          refine (HBC _).out.mono ?_
          rintro r w3 ⟨rfl, rfl⟩
          go_wp2_with fail
          go_roundw
          case rel => exact ⟨k + 1, _, [], _, rfl, by go_num, by omega, HT.out.none_, HB.out⟩
          case measure => simp [intOf]; omega
        · cases O with
          | nil =>
            have hm0 : m = 0 := HOm.out.symm
            subst hm0
            have HB := Lib.hid (HM.out.none_ HX.out Hb.out)
            go_wp2_with fail
            refine (HMK _).out.mono ?_
            rintro r w2 ⟨rfl, rfl⟩
            go_wp2_with fail
            refine (HBC _).out.mono ?_
            rintro r w3 ⟨rfl, rfl⟩
            go_wp2_with fail
            go_roundw
            case rel => exact ⟨k + 1, _, [], _, rfl, by go_num, by omega, HT.out, HB.out⟩
            case measure => simp [intOf]; omega
          | cons o O =>
            obtain ⟨m2, hm2⟩ : ∃ m2, O.length = m2 := ⟨_, rfl⟩
            have hmm : m = m2 + 1 := by rw [← HOm.out, List.length_cons, hm2]
            subst hmm
            have hok := HM.out.lt o (List.mem_cons_self ..)
            obtain ⟨f, ho, -, hf01⟩ := HM.out.opn 0 o rfl
            have ho2 : (all.set k (-1, -1))[o]? = some (-1, f) := by rw [HM.out.keep hok]; exact ho
            obtain ⟨g, cap, hv, hco, hcap1, hcap2, hpop⟩ := HT.out.last hm2
            have hv2 : A2 = some ⟨g, 0, none⟩ := by injection hv
            have hv3 : c2 = cap := by injection hv
            subst hv2 hv3
            obtain ⟨x0, x1⟩ := HT.out.cells ho2
            have z0 := HT.out.frozen (o * 2)
            have z1 := HT.out.frozen (o * 2 + 1)
            have hw1 : IntKind.i64.wrap ((m2 : Int) + 1 - 1) = (m2 : Int) := by rw [IntKind.wrap_i64]; omega
            have hm20 : (0 : Int) ≤ (m2 : Int) := by omega
            have ho0 : (0 : Int) ≤ (o : Int) := by omega
            have hon : (o : Int) < (n : Int) := by omega
            have hm21 : (m2 : Int) < (m2 : Int) + 1 := by omega
            have hm22 : m2 < m2 + 1 := by omega
            have hcc3 : (m2 : Int) ≤ (c2 : Int) := by omega
            have hcc4 : m2 ≤ c2 := by omega
            have HPo := Lib.hid hpop
            have Hho := Lib.hid ho
            have Hho2 := Lib.hid ho2
            have Hm2 := Lib.hid hm2
            clear hpop ho ho2 hm2 hf01 hv
            by_cases h22 : c = 22
            · subst h22
              have HB := Lib.hid (HM.out.pdi_ HX.out Hho.out)
              have HE := Lib.hid (HPo.out.end_ Hho2.out k)
              go_wp2_with fail
              refine (HMK _).out.mono ?_
              rintro r w2 ⟨rfl, rfl⟩
              go_wp2_with fail
              refine (HBC _).out.mono ?_
              rintro r w3 ⟨rfl, rfl⟩
              go_wp2_with fail
              go_roundw
              case rel => exact ⟨k + 1, _, O, _, rfl, by go_num, by omega, HE.out, HB.out⟩
              case measure => simp [intOf]; omega
            · cases s with
              | false =>
                have HB := Lib.hid (HM.out.same_ HX.out Hb.out h10 h22 Hho.out (.inr ⟨by rw [Hs.out]; simp, rfl⟩))
                have HQ := Lib.hid (show (all.set k (-1, -1)).set o (-1, f) = all.set k (-1, -1) from set_self_at Hho2.out)
                rw [HQ.out] at HB
                go_wp2_with fail
                refine (HMK _).out.mono ?_
                rintro r w2 ⟨rfl, rfl⟩
                go_wp2_with fail
                refine (HBC _).out.mono ?_
                rintro r w3 ⟨rfl, rfl⟩
                go_wp2_with fail
                go_roundw
                case rel => exact ⟨k + 1, _, o :: O, _, rfl, by go_num, by omega, HT.out, HB.out⟩
                case measure => simp [intOf]; omega
              | true =>
                by_cases hf : f = -1
                · subst hf
                  have HB := Lib.hid (HM.out.same_ HX.out Hb.out h10 h22 Hho.out (.inl ⟨Hs.out, rfl, rfl⟩))
                  rw [Ht.out] at HB
                  have HF := Lib.hid (HT.out.first Hho2.out t)
                  go_wp2_with fail
                  refine (HMK _).out.mono ?_
                  rintro r w2 ⟨rfl, rfl⟩
                  go_wp2_with fail
                  refine (HBC _).out.mono ?_
                  rintro r w3 ⟨rfl, rfl⟩
                  go_wp2_with fail
                  go_roundw
                  case rel => exact ⟨k + 1, _, o :: O, _, rfl, by go_num, by omega, HF.out, HB.out⟩
                  case measure => simp [intOf]; omega
                · have HB := Lib.hid (HM.out.same_ HX.out Hb.out h10 h22 Hho.out (.inr ⟨fun q => hf q.2, rfl⟩))
                  have HQ := Lib.hid (show (all.set k (-1, -1)).set o (-1, f) = all.set k (-1, -1) from set_self_at Hho2.out)
                  rw [HQ.out] at HB
                  go_wp2_with fail
                  refine (HMK _).out.mono ?_
                  rintro r w2 ⟨rfl, rfl⟩
                  go_wp2_with fail
                  refine (HBC _).out.mono ?_
                  rintro r w3 ⟨rfl, rfl⟩
                  go_wp2_with fail
                  go_roundw
                  case rel => exact ⟨k + 1, _, o :: O, _, rfl, by go_num, by omega, HT.out, HB.out⟩
                  case measure => simp [intOf]; omega
    · obtain rfl : k = n := by omega
      clear hi hm hn
      go_wp2_with fail
      go_ret
      refine ⟨_, all, rfl, HI2.out.ra, fun i hi => ?_, HI2.out.below⟩
      have q := HM.out
      rw [← HN.out] at q hi
      exact q.end_ i hi
end Go.Proofs.Yticiofpbijahbaa
end

section
namespace Go.Proofs.Yticiofpbijahbaa
open Go.RowKit
set_option maxRecDepth 100000

/-- The first k ends, then noughts. -/
theorem M.match_fill {l : List Int} {k n : Nat} (hk : k < n) : (M.matchTo l k ++ List.replicate (n - k) 0).set k (M.endI l k) = M.matchTo l (k + 1) ++ List.replicate (n - (k + 1)) 0 := by
  rw [M.matchTo_succ, List.set_append_right _ _ (by rw [M.matchTo_len]; exact Nat.le_refl _), M.matchTo_len, Nat.sub_self]
  obtain ⟨m, hm⟩ : ∃ m, n - k = m + 1 := ⟨n - k - 1, by omega⟩
  rw [hm, List.replicate_succ, List.set_cons_zero, List.append_assoc, show n - (k + 1) = m by omega]
  rfl
theorem rep_cells (n : Nat) : (madeCells (Value.int IntKind.i64 0).cells (n * 1)).toList = (List.replicate n (0 : Int)).map (Value.int .i64) := by
  rw [Nat.mul_one, List.map_replicate]
  exact toList_madeCells_one _ _
set_option maxHeartbeats 8000000 in
theorem cmatch_any (A : Option Addr) (ca n : Nat) (l : List Int) (w : World) (hr : RdS .i64 w w.heap.size A l) (hn : l.length = n) (hl : n ≤ 1000) :
    Calls Try.prog 16 #[.slice A n ca] w (RowOut 3 (M.matchI l) w) := by
  obtain ⟨i0, hi, hz0, hz1, hz2⟩ := info_parts Try.infoInt
  have hmk := run_make (P := Try.prog) w 23 3 i0 (.int .i64 0) Try.underlying23 hi hz0 .i64 .i64 n n (by omega) (Int.le_refl _) (by rw [hz2]; omega) (by omega)
  rw [Int.toNat_natCast, hz1] at hmk
  obtain ⟨W1, hW1⟩ : ∃ W1, w.alloc (.cells (madeCells (Value.int .i64 0).cells (n * 1)) 3) = W1 := ⟨_, rfl⟩
  have h1 : W1.ownsRow w.heap.size 3 1 (.slice (some ⟨w.heap.size, 0, none⟩) n n) n ((M.matchTo l 0 ++ List.replicate (n - 0) 0).map (Value.int .i64)) := by
    rw [← hW1, show M.matchTo l 0 ++ List.replicate (n - 0) 0 = List.replicate n 0 from rfl, ← rep_cells]
    exact World.ownsRow_lit w _ n (Nat.le_refl _) (by unfold maxLen; omega) (by simp [madeCells])
  have hb1 : Below w.heap.size w W1 := by rw [← hW1]; exact (Below.refl _ _).alloc (Nat.le_refl _) _
  have hs1 : w.heap.size < W1.heap.size := by rw [← hW1]; simp
  rw [hW1] at hmk
  have HI := Lib.hid (isolates_any A ca n l W1 ((hr.below hb1).more hb1.size) hn hl)
  have H1 := Lib.hid h1
  have HB := Lib.hid hb1
  have HN := Lib.hid hn
  have hl1 : (n : Int) ≤ 1000 := by omega
  clear hr hn h1 hW1 hz0 hz1 hz2 hi hb1
  go_enter Try.func16, Try.ntmps16
  go_wp2_with fail
  refine HI.out.mono ?_
  rintro r w2 ⟨G, all, rfl, hra, hfin, hb2⟩
  have HRA := Lib.hid hra
  have HF := Lib.hid hfin
  have HB2 := Lib.hid hb2
  have hsz := hb2.size
  clear hra hfin hb2
  have H2 := Lib.hid (own_below H1.out HB2.out)
  have HB3 := Lib.hid (HB.out.trans (HB2.out.mono (Nat.le_of_lt hs1)))
  have hG := World.ownsRow.lt HRA.out G rfl
  go_wp2_with fail
  go_loopw [12] (fun v wr => ∃ k : Nat, v = .int .i64 k ∧ k ≤ n ∧ wr.ownsRow w.heap.size 3 1 (.slice (some ⟨w.heap.size, 0, none⟩) n n) n ((M.matchTo l k ++ List.replicate (n - k) 0).map (Value.int .i64)) ∧ wr.ownsRow W1.heap.size 73 2 (.slice (some ⟨G, 0, none⟩) n n) n (isoCells all) ∧ Below w.heap.size w wr) (fun v _ => n - (intOf v).toNat)
  case atStart => exact ⟨0, rfl, Nat.zero_le _, H2.out, HRA.out, HB3.out⟩
  case round =>
    obtain ⟨k, rfl, hk, ho, hra, hb⟩ := hrel
    have HO := Lib.hid ho
    have HA := Lib.hid hra
    have HB4 := Lib.hid hb
    have k0 : (0 : Int) ≤ k := by omega
    by_cases hlt : k < n
    · have k1 : (k : Int) < n := by omega
      obtain ⟨⟨e, f⟩, hx, hfx⟩ := HF.out k hlt
      have he : e = M.endI l k := hfx.1
      obtain ⟨q0, q1⟩ := isoCells_at hx
      have c0 : wr.cell? ⟨G, k * 2, none⟩ = some (.int .i64 e) := (hra.cellAt _ (by omega)).trans q0
      have c1 : wr.cell? ⟨G, k * 2 + 1, none⟩ = some (.int .i64 f) := (hra.cellAt _ (by omega)).trans q1
      obtain ⟨y, hy⟩ : ∃ y, (M.matchTo l k ++ List.replicate (n - k) 0)[k]? = some y := ⟨_, List.getElem?_eq_getElem (by simp [M.matchTo_len]; omega)⟩
      have cy : wr.cell? ⟨w.heap.size, k, none⟩ = some (.int .i64 y) := (ho.cellAt _ (by omega)).trans (by rw [List.getElem?_map, hy]; rfl)
      have fy := ho.frozenAt k
      have hfill := M.match_fill (l := l) hlt
      rw [← he] at hfill
      have HFI := Lib.hid hfill
      have hgw := (World.ownsRow.lt ho w.heap.size rfl).2
      have hgw2 : G < wr.heap.size := (World.ownsRow.lt hra G rfl).2
      have HO5 := Lib.hid ((World.ownsRow.stored ho k (.int .i64 e)).1.alloc (.cells #[.int .i64 e, .int .i64 f] 73))
      have HA5 := Lib.hid ((ownsRow_setCell_other (a := ⟨w.heap.size, k, none⟩) hra (by simp [Value.ownBlock]; omega) (.int .i64 e)).alloc (.cells #[.int .i64 e, .int .i64 f] 73))
      have HB5 := Lib.hid ((hb.setCell (p := ⟨w.heap.size, k, none⟩) (Nat.le_refl _) (.int .i64 e)).alloc (by simp [World.setCell]; omega) (.cells #[.int .i64 e, .int .i64 f] 73))
      clear ho hra hb q0 q1 hy hfx hx hfill he hs1 hsz hG
      go_wp2_with fail
      go_roundw
      case rel => exact ⟨k + 1, by go_num, by omega, by rw [← HFI.out, List.map_set]; exact HO5.out, HA5.out, HB5.out⟩
      case measure => simp [intOf]; omega
    · obtain rfl : k = n := by omega
      clear ho hra hb
      go_wp2_with fail
      go_ret
      refine ⟨_, rfl, ?_, HB4.out⟩
      have q := HO.out
      rw [Nat.sub_self, List.replicate_zero, List.append_nil] at q
      unfold M.matchI
      rw [M.matchTo_len, HN.out]
      exact q
end Go.Proofs.Yticiofpbijahbaa
end
