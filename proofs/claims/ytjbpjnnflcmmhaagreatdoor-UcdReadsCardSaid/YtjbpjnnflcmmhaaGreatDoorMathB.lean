/- There and back, on lists: the lines of right entries are parsed to them, also with blanks and comments. No function of the program is walked here. -/
import Derived.Test.YtjbpjnnflcmmhaaGreatDoorText
namespace Go.Proofs.YtjbpjnnflcmmhaaGreatDoor.M

/-- A figure's byte. -/
def isFig (c : UInt8) : Bool := decide (48 ≤ c.toNat ∧ c.toNat ≤ 57 ∨ 65 ≤ c.toNat ∧ c.toNat ≤ 70)
theorem figure_digU {d : Nat} (h : d < 16) : figure (digU d) = some d := by
  have : ∀ d : Fin 16, figure (digU d.val) = some d.val := by decide
  exact this ⟨d, h⟩
theorem isFig_digU {d : Nat} (h : d < 16) : isFig (digU d) = true := by
  have : ∀ d : Fin 16, isFig (digU d.val) = true := by decide
  exact this ⟨d, h⟩
theorem up_fig (n j : Nat) : ∀ c ∈ up n j, isFig c = true := by
  induction j with
  | zero => intro c hc; cases hc
  | succ j ih =>
    intro c hc
    simp only [up, List.mem_cons] at hc
    rcases hc with rfl | hc
    · exact isFig_digU (Nat.mod_lt _ (by omega))
    · exact ih c hc
theorem figs_fig {n : Nat} : ∀ c ∈ figs n, isFig c = true := up_fig _ _
theorem fig_ne {c : UInt8} (h : isFig c = true) (x : UInt8) (hx : isFig x = false) : c ≠ x := fun e => by rw [e, hx] at h; cases h
theorem sign_ne {c : UInt8} (h : sign c = true) (x : UInt8) (hx : sign x = false) : c ≠ x := fun e => by rw [e, hx] at h; cases h
theorem hexv_up (n j : Nat) : ∀ acc, hexv (up n j) acc = some (acc * 16 ^ j + n % 16 ^ j) := by
  induction j with
  | zero => intro acc; simp [up, hexv, Nat.mod_one]
  | succ j ih =>
    intro acc
    rw [up, hexv, figure_digU (Nat.mod_lt _ (by omega))]
    simp only
    rw [ih, Nat.mod_pow_succ, Nat.pow_succ]
    congr 1
    rw [Nat.add_mul, Nat.mul_comm 16 acc, Nat.mul_assoc, Nat.mul_comm 16 (16 ^ j), Nat.mul_comm (n / 16 ^ j % 16), Nat.add_assoc, Nat.add_comm (16 ^ j * _)]
theorem lt_pow {n : Nat} (hn : n ≤ 1114111) : n < 16 ^ ndig n := by
  unfold ndig
  (repeat' split) <;> omega
theorem hex_figs {n : Nat} (hn : n ≤ 1114111) : hex (figs n) = some n := by
  have h6 := ndig_le n
  have hl := @figs_length n
  unfold hex
  rw [if_pos (by omega)]
  have hv : hexv (figs n) 0 = some n := by
    unfold figs
    rw [hexv_up, Nat.zero_mul, Nat.zero_add, Nat.mod_eq_of_lt (Nat.lt_of_lt_of_le (lt_pow hn) (Nat.pow_le_pow_right (by omega) (by omega)))]
  rw [hv]
  simp [hn]

theorem index_dots (s t : List UInt8) (h : (46 : UInt8) ∉ s) : Lib.index (s ++ 46 :: 46 :: t) [46, 46] = s.length := by
  induction s with
  | nil => simp [Lib.index, List.isPrefixOf]
  | cons x r ih =>
    simp only [List.mem_cons, not_or] at h
    have hp : List.isPrefixOf [46, 46] (x :: (r ++ 46 :: 46 :: t)) = false := by
      simp [List.isPrefixOf]
      intro e
      exact absurd e h.1
    rw [List.cons_append]
    simp only [Lib.index, hp, ih h.2]
    rw [if_neg (by simp), if_neg (by simp)]
    simp
theorem index_nodots (s : List UInt8) (h : (46 : UInt8) ∉ s) : Lib.index s [46, 46] = -1 := by
  induction s with
  | nil => rfl
  | cons x r ih =>
    simp only [List.mem_cons, not_or] at h
    have hp : List.isPrefixOf [46, 46] (x :: r) = false := by
      cases r with
      | nil => simp [List.isPrefixOf]
      | cons y r =>
        simp [List.isPrefixOf]
        intro e
        exact absurd e h.1
    simp [Lib.index, hp, ih h.2]
/-- A first field. -/
def firstF (a b : Nat) : List UInt8 := figs a ++ (if b = a then [] else [46, 46] ++ figs b)
theorem nodot {n : Nat} : (46 : UInt8) ∉ figs n := fun h => fig_ne (figs_fig _ h) 46 (by decide) rfl
theorem ends_first {a b : Nat} (hab : a ≤ b) (hb : b ≤ 1114111) : ends (firstF a b) = some (a, b) := by
  unfold ends firstF Lib.cut
  by_cases h : b = a
  · subst h
    rw [if_pos rfl, List.append_nil, index_nodots _ nodot]
    simp [hex_figs hb]
  · rw [if_neg h]
    have e : figs a ++ ([46, 46] ++ figs b) = figs a ++ 46 :: 46 :: figs b := rfl
    rw [e, index_dots _ _ nodot, if_pos (by omega)]
    have e1 : ((figs a).length : Int).toNat = (figs a).length := by omega
    rw [e1]
    have e2 : (figs a ++ 46 :: 46 :: figs b).take (figs a).length = figs a := by simp
    have e3 : (figs a ++ 46 :: 46 :: figs b).drop ((figs a).length + ([46, 46] : List UInt8).length) = figs b := by
      rw [List.drop_append]
      simp
    simp only [e2, if_true]
    rw [hex_figs (show a ≤ 1114111 by omega), e3, hex_figs hb]
    simp [hab]

/-- Blanks alone. -/
def blank (l : List UInt8) : Prop := ∀ c ∈ l, c = 32 ∨ c = 9
/-- Neither of its ends is a blank, and it is not empty. -/
def solid (l : List UInt8) : Prop := l ≠ [] ∧ (∀ c, l.head? = some c → c ≠ 32 ∧ c ≠ 9) ∧ (∀ c, l.getLast? = some c → c ≠ 32 ∧ c ≠ 9)
theorem is_blank {c : UInt8} : [(32 : UInt8), 9].contains c = true ↔ (c = 32 ∨ c = 9) := by simp
theorem drop_blank {a l : List UInt8} (ha : blank a) (hl : ∀ c, l.head? = some c → c ≠ 32 ∧ c ≠ 9) : (a ++ l).dropWhile ([(32 : UInt8), 9].contains ·) = l := by
  induction a with
  | nil =>
    cases l with
    | nil => rfl
    | cons x r =>
      have := hl x rfl
      rw [List.nil_append, List.dropWhile_cons_of_neg]
      rw [is_blank]
      intro h
      rcases h with h | h
      · exact this.1 h
      · exact this.2 h
  | cons x r ih =>
    rw [List.cons_append, List.dropWhile_cons_of_pos (is_blank.2 (ha x (by simp)))]
    exact ih (fun c hc => ha c (by simp [hc]))
theorem trim_solid {a l b : List UInt8} (ha : blank a) (hb : blank b) (hl : solid l) : trim (a ++ l ++ b) = l := by
  obtain ⟨hne, hh, ht⟩ := hl
  unfold trim Lib.trimS
  have hr : Lib.trimRightS (a ++ l ++ b) [32, 9] = a ++ l := by
    unfold Lib.trimRightS
    rw [List.reverse_append, List.reverse_append, drop_blank (fun c hc => hb c (List.mem_reverse.1 hc)), ← List.reverse_append, List.reverse_reverse]
    intro c hc
    apply ht
    rw [← hc]
    cases hrev : l.reverse with
    | nil => exact absurd (List.reverse_eq_nil_iff.1 hrev) hne
    | cons x r => rw [← List.head?_reverse, hrev]; rfl
  rw [hr]
  exact drop_blank ha hh
theorem trim_blank {a : List UInt8} (ha : blank a) : trim a = [] := by
  unfold trim Lib.trimS Lib.trimRightS Lib.trimLeftS
  have h1 : a.reverse.dropWhile ([(32 : UInt8), 9].contains ·) = [] := by
    have := drop_blank (a := a.reverse) (l := []) (fun c hc => ha c (List.mem_reverse.1 hc)) (fun c hc => by cases hc)
    rwa [List.append_nil] at this
  rw [h1]
  rfl
theorem solid_of {l : List UInt8} (hne : l ≠ []) (h : ∀ c ∈ l, c ≠ 32 ∧ c ≠ 9) : solid l :=
  ⟨hne, fun c hc => h c (List.mem_of_head? hc), fun c hc => h c (List.mem_of_getLast? hc)⟩
theorem word_signs {l : List UInt8} (h : word l = true) : l ≠ [] ∧ ∀ c ∈ l, sign c = true := by
  simp [word] at h
  exact ⟨fun e => by subst e; simp at h, h.2⟩
theorem word_solid {l : List UInt8} (h : word l = true) : solid l := by
  obtain ⟨hne, hs⟩ := word_signs h
  exact solid_of hne fun c hc => ⟨sign_ne (hs c hc) 32 (by decide), sign_ne (hs c hc) 9 (by decide)⟩
theorem figs_ne (n : Nat) : figs n ≠ [] := by
  intro h
  have := @figs_length n
  rw [h] at this
  simp at this
  omega
/-- What a first field is made of. -/
theorem first_mem {a b : Nat} : ∀ c ∈ firstF a b, isFig c = true ∨ c = 46 := by
  intro c hc
  unfold firstF at hc
  rw [List.mem_append] at hc
  rcases hc with hc | hc
  · exact .inl (figs_fig c hc)
  · split at hc
    · cases hc
    · simp only [List.cons_append, List.nil_append, List.mem_cons] at hc
      rcases hc with rfl | rfl | hc
      · exact .inr rfl
      · exact .inr rfl
      · exact .inl (figs_fig c hc)
theorem first_ne {a b : Nat} (x : UInt8) (h1 : isFig x = false) (h2 : x ≠ 46) : x ∉ firstF a b := fun h => by
  rcases first_mem x h with h | h
  · rw [h1] at h; cases h
  · exact h2 h
theorem first_solid (a b : Nat) : solid (firstF a b) := by
  refine solid_of ?_ fun c hc => ⟨fun e => first_ne (a := a) (b := b) 32 (by decide) (by decide) (e ▸ hc), fun e => first_ne (a := a) (b := b) 9 (by decide) (by decide) (e ▸ hc)⟩
  unfold firstF
  intro h
  exact figs_ne a (List.append_eq_nil_iff.1 h).1

theorem blank_no {l : List UInt8} (h : blank l) (x : UInt8) (h1 : x ≠ 32) (h2 : x ≠ 9) : x ∉ l := fun hx => by
  rcases h x hx with h | h
  · exact h1 h
  · exact h2 h
theorem word_no {l : List UInt8} (h : word l = true) (x : UInt8) (hx : sign x = false) : x ∉ l := fun hm => by
  have := (word_signs h).2 x hm
  rw [hx] at this
  cases this

/-- What counts of an entry's line, with whatever blanks about its fields' ends. -/
def noisy (e : E) (b1 b2 b3 b4 : List UInt8) : List UInt8 :=
  firstF e.a.toNat e.b.toNat ++ b1 ++ 59 :: (if e.x.data.toList = [] then b2 ++ e.v.data.toList else b2 ++ e.v.data.toList ++ b3 ++ 59 :: (b4 ++ e.x.data.toList))
theorem right_parts {e : E} (h : right e = true) : 0 ≤ e.a ∧ e.a ≤ e.b ∧ e.b ≤ 1114111 ∧ word e.v.data.toList = true ∧ (e.x.data.toList = [] ∨ word e.x.data.toList = true) := by
  simp only [right, rising, Bool.and_eq_true, decide_eq_true_eq, Bool.or_eq_true] at h
  obtain ⟨⟨⟨h1, h2, h3⟩, h4⟩, h5⟩ := h
  exact ⟨h1, h2, h3, h4, h5⟩
theorem entry_noisy {e : E} (h : right e = true) {b1 b2 b3 b4 : List UInt8} (h1 : blank b1) (h2 : blank b2) (h3 : blank b3) (h4 : blank b4) : entry (noisy e b1 b2 b3 b4) = some e := by
  obtain ⟨ha, hab, hb, hv, hx⟩ := right_parts h
  have hf : (59 : UInt8) ∉ firstF e.a.toNat e.b.toNat ++ b1 := by
    rw [List.mem_append, not_or]
    exact ⟨first_ne 59 (by decide) (by decide), blank_no h1 59 (by decide) (by decide)⟩
  have hends : ends (trim (firstF e.a.toNat e.b.toNat ++ b1)) = some (e.a.toNat, e.b.toNat) := by
    have := trim_solid (a := []) (b := b1) (fun c hc => by cases hc) h1 (first_solid e.a.toNat e.b.toNat)
    rw [List.nil_append] at this
    rw [this]
    exact ends_first (by omega) (by omega)
  have hea : ((e.a.toNat : Nat) : Int) = e.a := by omega
  have heb : ((e.b.toNat : Nat) : Int) = e.b := by omega
  unfold noisy
  rw [← make_eq, parts_at _ hf]
  by_cases hx0 : e.x.data.toList = []
  · rw [if_pos hx0, parts_free (by rw [List.mem_append, not_or]; exact ⟨blank_no h2 59 (by decide) (by decide), word_no hv 59 (by decide)⟩)]
    have ht : trim (b2 ++ e.v.data.toList) = e.v.data.toList := by
      have := trim_solid (b := []) h2 (fun c hc => by cases hc) (word_solid hv)
      rwa [List.append_nil] at this
    simp only [make, hends, ht, hv, if_true, hea, heb, bytes_self]
    congr 1
    have : e.x = ByteArray.empty := by rw [← bytes_self e.x, hx0]; rfl
    rw [← this]
  · have hxw : word e.x.data.toList = true := hx.resolve_left hx0
    rw [if_neg hx0, parts_at _ (by rw [List.mem_append, List.mem_append, not_or, not_or]; exact ⟨⟨blank_no h2 59 (by decide) (by decide), word_no hv 59 (by decide)⟩, blank_no h3 59 (by decide) (by decide)⟩),
      parts_free (by rw [List.mem_append, not_or]; exact ⟨blank_no h4 59 (by decide) (by decide), word_no hxw 59 (by decide)⟩)]
    have ht : trim (b2 ++ e.v.data.toList ++ b3) = e.v.data.toList := trim_solid h2 h3 (word_solid hv)
    have ht2 : trim (b4 ++ e.x.data.toList) = e.x.data.toList := by
      have := trim_solid (b := []) h4 (fun c hc => by cases hc) (word_solid hxw)
      rwa [List.append_nil] at this
    simp only [make, hends, ht, ht2, hv, hxw, Bool.and_self, if_true, hea, heb, bytes_self]
theorem line_noisy {e : E} (h : right e = true) : line e = noisy e [32] [32] [32] [32] := by
  obtain ⟨ha, hab, hb, hv, hx⟩ := right_parts h
  unfold line noisy firstF
  have hiff : (e.b = e.a) ↔ (e.b.toNat = e.a.toNat) := by omega
  by_cases h1 : e.b = e.a
  · rw [if_pos h1, if_pos (hiff.1 h1)]
    split <;> simp
  · rw [if_neg h1, if_neg (fun k => h1 (hiff.2 k))]
    split <;> simp
/-- Its bytes. -/
theorem noisy_mem {e : E} (h : right e = true) {b1 b2 b3 b4 : List UInt8} (h1 : blank b1) (h2 : blank b2) (h3 : blank b3) (h4 : blank b4) (x : UInt8) (k1 : isFig x = false) (k2 : sign x = false) (k3 : x ≠ 46) (k4 : x ≠ 32) (k5 : x ≠ 9) (k6 : x ≠ 59) : x ∉ noisy e b1 b2 b3 b4 := by
  obtain ⟨_, _, _, hv, hx⟩ := right_parts h
  unfold noisy
  have f := first_ne (a := e.a.toNat) (b := e.b.toNat) x k1 k3
  have g1 := blank_no h1 x k4 k5
  have g2 := blank_no h2 x k4 k5
  have g3 := blank_no h3 x k4 k5
  have g4 := blank_no h4 x k4 k5
  have gv := word_no hv x k2
  split
  · simp only [List.mem_append, List.mem_cons, not_or]
    exact ⟨⟨f, g1⟩, k6, g2, gv⟩
  · rename_i hx0
    have gx := word_no (hx.resolve_left hx0) x k2
    simp only [List.mem_append, List.mem_cons, not_or]
    exact ⟨⟨f, g1⟩, k6, ⟨⟨g2, gv⟩, g3⟩, k6, g4, gx⟩
theorem last_app (p : List UInt8) {q : List UInt8} (hq : q ≠ []) : (p ++ q).getLast? = q.getLast? := by
  rw [List.getLast?_append]
  cases h : q.getLast? with
  | none => exact absurd (List.getLast?_eq_none_iff.1 h) hq
  | some x => rfl
theorem noisy_solid {e : E} (h : right e = true) (b1 b2 b3 b4 : List UInt8) : solid (noisy e b1 b2 b3 b4) := by
  obtain ⟨_, _, _, hv, hx⟩ := right_parts h
  have hf := first_solid e.a.toNat e.b.toNat
  refine ⟨?_, ?_, ?_⟩
  · unfold noisy; simp
  · intro c hc
    apply hf.2.1
    rw [← hc]
    unfold noisy
    cases hff : firstF e.a.toNat e.b.toNat with
    | nil => exact absurd hff hf.1
    | cons y r => rfl
  · intro c hc
    unfold noisy at hc
    split at hc
    · have e1 : firstF e.a.toNat e.b.toNat ++ b1 ++ 59 :: (b2 ++ e.v.data.toList) = (firstF e.a.toNat e.b.toNat ++ b1 ++ 59 :: b2) ++ e.v.data.toList := by simp
      rw [e1, last_app _ (word_signs hv).1] at hc
      exact (word_solid hv).2.2 c hc
    · rename_i hx0
      have hxw := hx.resolve_left hx0
      have e1 : firstF e.a.toNat e.b.toNat ++ b1 ++ 59 :: (b2 ++ e.v.data.toList ++ b3 ++ 59 :: (b4 ++ e.x.data.toList)) = (firstF e.a.toNat e.b.toNat ++ b1 ++ 59 :: (b2 ++ e.v.data.toList ++ b3 ++ 59 :: b4)) ++ e.x.data.toList := by simp
      rw [e1, last_app _ (word_signs hxw).1] at hc
      exact (word_solid hxw).2.2 c hc

/-- A line that is an entry's, with blanks, and with a comment or none behind it. -/
theorem counted_noisy {e : E} (h : right e = true) {b0 b1 b2 b3 b4 b5 : List UInt8} (h0 : blank b0) (h1 : blank b1) (h2 : blank b2) (h3 : blank b3) (h4 : blank b4) (h5 : blank b5) (tail : List UInt8) (ht : tail = [] ∨ ∃ c, tail = 35 :: c) :
    counted (b0 ++ noisy e b1 b2 b3 b4 ++ b5 ++ tail) = noisy e b1 b2 b3 b4 := by
  unfold counted
  have hno : ∀ c ∈ b0 ++ noisy e b1 b2 b3 b4 ++ b5, (c != 35) = true := by
    intro c hc
    rw [bne_iff_ne]
    rintro rfl
    rw [List.mem_append, List.mem_append] at hc
    rcases hc with (hc | hc) | hc
    · exact blank_no h0 35 (by decide) (by decide) hc
    · exact noisy_mem h h1 h2 h3 h4 35 (by decide) (by decide) (by decide) (by decide) (by decide) (by decide) hc
    · exact blank_no h5 35 (by decide) (by decide) hc
  have htw : (b0 ++ noisy e b1 b2 b3 b4 ++ b5 ++ tail).takeWhile (· != 35) = b0 ++ noisy e b1 b2 b3 b4 ++ b5 := by
    rw [List.takeWhile_append_of_pos hno]
    rcases ht with rfl | ⟨c, rfl⟩
    · simp
    · simp
  rw [htw]
  exact trim_solid h0 h5 (noisy_solid h b1 b2 b3 b4)
theorem counted_blank {b : List UInt8} (h : blank b) (tail : List UInt8) (ht : tail = [] ∨ ∃ c, tail = 35 :: c) : counted (b ++ tail) = [] := by
  unfold counted
  have hno : ∀ c ∈ b, (c != 35) = true := by
    intro c hc
    rw [bne_iff_ne]
    rintro rfl
    exact blank_no h 35 (by decide) (by decide) hc
  have htw : (b ++ tail).takeWhile (· != 35) = b := by
    rw [List.takeWhile_append_of_pos hno]
    rcases ht with rfl | ⟨c, rfl⟩
    · simp
    · simp
  rw [htw]
  exact trim_blank h

theorem blank_nil : blank [] := fun c hc => by cases hc
theorem blank_one : blank [32] := fun c hc => by simp at hc; exact .inl hc
theorem counted_line {e : E} (h : right e = true) : counted (line e) = line e := by
  have := counted_noisy h blank_nil blank_one blank_one blank_one blank_one blank_nil [] (.inl rfl)
  rw [List.nil_append, List.append_nil, List.append_nil, ← line_noisy h] at this
  exact this
theorem entry_line {e : E} (h : right e = true) : entry (line e) = some e := by
  rw [line_noisy h]
  exact entry_noisy h blank_one blank_one blank_one blank_one
theorem line_ne {e : E} (h : right e = true) : line e ≠ [] := by rw [line_noisy h]; exact (noisy_solid h _ _ _ _).1
theorem line_no10 {e : E} (h : right e = true) : (10 : UInt8) ∉ line e := by
  rw [line_noisy h]
  exact noisy_mem h blank_one blank_one blank_one blank_one 10 (by decide) (by decide) (by decide) (by decide) (by decide) (by decide)

/-- One line more is read. -/
theorem parseGo_line {e : E} (h : right e = true) {s : List UInt8} (hs : counted s = line e ∨ (∃ b1 b2 b3 b4, blank b1 ∧ blank b2 ∧ blank b3 ∧ blank b4 ∧ counted s = noisy e b1 b2 b3 b4)) (rest : List (List UInt8)) (acc : List E) :
    parseGo (s :: rest) acc = if acc.length = 600 then none else parseGo rest (acc ++ [e]) := by
  have hc : counted s ≠ [] ∧ entry (counted s) = some e := by
    rcases hs with hs | ⟨b1, b2, b3, b4, h1, h2, h3, h4, hs⟩
    · rw [hs]; exact ⟨line_ne h, entry_line h⟩
    · rw [hs]; exact ⟨(noisy_solid h _ _ _ _).1, entry_noisy h h1 h2 h3 h4⟩
  rw [parseGo, if_neg hc.1, hc.2]

/-- The lines of entries, one behind the other. -/
def lines (l : List E) : List UInt8 := l.flatMap fun e => line e ++ [10]
theorem textGo_eq (l : List E) (acc : List UInt8) : textGo l acc = if l.all right then some (acc ++ lines l) else none := by
  induction l generalizing acc with
  | nil => simp [textGo, lines]
  | cons e r ih =>
    rw [textGo]
    cases h : right e with
    | false => simp [h]
    | true =>
      simp only [if_true, ih, List.all_cons, h, Bool.true_and]
      simp [lines]
theorem text_eq (l : List E) : text l = if l.length ≤ 600 ∧ l.all right = true then some (lines l) else none := by
  unfold text
  by_cases h : 600 < l.length
  · rw [if_pos h, if_neg (fun k => by omega)]
  · rw [if_neg h, textGo_eq]
    by_cases h2 : l.all right = true
    · rw [if_pos h2, if_pos ⟨by omega, h2⟩]; rfl
    · rw [if_neg h2, if_neg (fun k => h2 k.2)]
theorem parts_lines {l : List E} (h : l.all right = true) : parts 10 (lines l) = l.map line ++ [[]] := by
  induction l with
  | nil => rfl
  | cons e r ih =>
    simp only [List.all_cons, Bool.and_eq_true] at h
    have e1 : lines (e :: r) = line e ++ 10 :: lines r := by simp [lines]
    rw [e1, parts_at _ (line_no10 h.1), ih h.2]
    rfl
theorem parseGo_lines {l : List E} (h : l.all right = true) : ∀ acc, acc.length + l.length ≤ 600 → ∀ rest, parseGo (l.map line ++ rest) acc = parseGo rest (acc ++ l) := by
  induction l with
  | nil => intro acc _ rest; simp
  | cons e r ih =>
    intro acc hl rest
    simp only [List.all_cons, Bool.and_eq_true] at h
    simp only [List.length_cons] at hl
    rw [List.map_cons, List.cons_append, parseGo_line h.1 (.inl (counted_line h.1)), if_neg (by omega), ih h.2 _ (by simp; omega)]
    simp
theorem parseGo_nil (acc : List E) : parseGo [[]] acc = some acc := by
  have h0 : counted [] = [] := counted_blank blank_nil [] (.inl rfl)
  rw [parseGo, if_pos h0]
  rfl
theorem parse_text {l : List E} {b : List UInt8} (h : text l = some b) : parse b = some l := by
  rw [text_eq] at h
  split at h
  · rename_i hk
    obtain rfl : lines l = b := by injection h
    unfold parse
    rw [parts_lines hk.2, parseGo_lines hk.2 [] (by simpa using hk.1), parseGo_nil]
    simp
  · cases h
theorem text_inj {l m : List E} {b c : List UInt8} (h1 : text l = some b) (h2 : text m = some c) : b = c ↔ l = m := by
  constructor
  · rintro rfl
    have := (parse_text h1).symm.trans (parse_text h2)
    injection this
  · rintro rfl
    rw [h1] at h2
    injection h2
end Go.Proofs.YtjbpjnnflcmmhaaGreatDoor.M
