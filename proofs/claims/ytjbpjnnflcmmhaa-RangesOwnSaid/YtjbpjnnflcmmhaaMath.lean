/- The document's tables of scalars, on lists of bytes: lines, fields, figures, words, entries. No program is read here. -/
import Derived.Lib.SlTrimSet
import Derived.Lib.IndexMore
import Derived.Lib.Split
namespace Go.Proofs.Ytjbpjnnflcmmhaa.M

/-- What stands between the bytes c. -/
def parts (c : UInt8) : List UInt8 → List (List UInt8)
  | [] => [[]]
  | x :: r => if x = c then [] :: parts c r else match parts c r with
    | [] => [[x]]
    | h :: t => (x :: h) :: t
theorem parts_ne (c : UInt8) (l : List UInt8) : parts c l ≠ [] := by
  cases l with
  | nil => simp [parts]
  | cons x r =>
    unfold parts
    split
    · simp
    · split <;> simp
theorem parts_free {c : UInt8} {l : List UInt8} (h : c ∉ l) : parts c l = [l] := by
  induction l with
  | nil => rfl
  | cons x r ih =>
    simp only [List.mem_cons, not_or] at h
    unfold parts
    rw [if_neg (fun e => h.1 e.symm), ih h.2]
theorem parts_at {c : UInt8} {p : List UInt8} (q : List UInt8) (h : c ∉ p) : parts c (p ++ c :: q) = p :: parts c q := by
  induction p with
  | nil => simp [parts]
  | cons x r ih =>
    simp only [List.mem_cons, not_or] at h
    rw [List.cons_append, parts, if_neg (fun e => h.1 e.symm), ih h.2]
theorem parts_length_pos (c : UInt8) (l : List UInt8) : 1 ≤ (parts c l).length := by
  have := parts_ne c l
  cases h : parts c l with
  | nil => exact absurd h this
  | cons a b => simp

/-- Where a byte first stands. -/
theorem index_byte (l : List UInt8) (c : UInt8) : (Lib.index l [c] = -1 ∧ c ∉ l) ∨ ∃ p q, l = p ++ c :: q ∧ c ∉ p ∧ Lib.index l [c] = p.length := by
  induction l with
  | nil => left; exact ⟨rfl, by simp⟩
  | cons x r ih =>
    by_cases hx : x = c
    · subst hx
      right
      refine ⟨[], r, rfl, by simp, ?_⟩
      simp [Lib.index, List.isPrefixOf]
    · have hpre : List.isPrefixOf [c] (x :: r) = false := by
        simp [List.isPrefixOf]; exact fun e => hx e.symm
      rcases ih with ⟨hi, hn⟩ | ⟨p, q, rfl, hp, hi⟩
      · left
        refine ⟨?_, by simp only [List.mem_cons, not_or]; exact ⟨fun e => hx e.symm, hn⟩⟩
        simp [Lib.index, hpre, hi]
      · right
        refine ⟨x :: p, q, rfl, by simp only [List.mem_cons, not_or]; exact ⟨fun e => hx e.symm, hp⟩, ?_⟩
        simp only [Lib.index, hpre, hi]
        rw [if_neg (by simp), if_neg (by simp)]
        simp
theorem indexByte_eq (l : List UInt8) (c : UInt8) : Lib.indexByte l c = Lib.index l [c] := by
  induction l with
  | nil => rfl
  | cons x r ih =>
    simp only [Lib.indexByte, Lib.index, ih]
    have : List.isPrefixOf [c] (x :: r) = (x == c) := by
      simp [List.isPrefixOf]; rw [Bool.eq_iff_iff]; simp; exact eq_comm
    rw [this]

/-- The cuts of SplitN: all of them, if they are not too many; else as many as may be. -/
theorem splitK_all (c : UInt8) : ∀ (k : Nat) (s : List UInt8), (parts c s).length ≤ k + 1 → Lib.splitK [c] 0 k s = parts c s := by
  intro k
  induction k with
  | zero =>
    intro s h
    rcases index_byte s c with ⟨_, hn⟩ | ⟨p, q, rfl, hp, _⟩
    · rw [parts_free hn]; rfl
    · rw [parts_at q hp] at h
      have := parts_length_pos c q
      simp only [List.length_cons] at h
      omega
  | succ k ih =>
    intro s h
    rcases index_byte s c with ⟨hi, hn⟩ | ⟨p, q, rfl, hp, hi⟩
    · rw [parts_free hn]; simp [Lib.splitK, hi]
    · rw [parts_at q hp] at h ⊢
      unfold Lib.splitK
      rw [hi, if_neg (by simp)]
      have e1 : ((p.length : Int)).toNat = p.length := by omega
      rw [e1]
      have e2 : (p ++ c :: q).take (p.length + 0) = p := by simp
      have e3 : (p ++ c :: q).drop (p.length + [c].length) = q := by simp
      rw [e2, e3, ih q (by simpa using h)]
theorem splitK_many (c : UInt8) : ∀ (k : Nat) (s : List UInt8), k + 1 < (parts c s).length → (Lib.splitK [c] 0 k s).length = k + 1 := by
  intro k
  induction k with
  | zero => intro s _; rfl
  | succ k ih =>
    intro s h
    rcases index_byte s c with ⟨_, hn⟩ | ⟨p, q, rfl, hp, hi⟩
    · rw [parts_free hn] at h; simp at h
    · rw [parts_at q hp] at h
      unfold Lib.splitK
      rw [hi, if_neg (by simp)]
      have e1 : ((p.length : Int)).toNat = p.length := by omega
      rw [e1]
      have e3 : (p ++ c :: q).drop (p.length + [c].length) = q := by simp
      rw [e3]
      simp only [List.length_cons]
      rw [ih q (by simpa using h)]
theorem parts_length_le (c : UInt8) (l : List UInt8) : (parts c l).length ≤ l.length + 1 := by
  induction l with
  | nil => simp [parts]
  | cons x r ih =>
    unfold parts
    split
    · simp; omega
    · split
      · simp
      · rename_i h t e
        rw [e] at ih
        simp at ih ⊢
        omega

/-- Without the blanks at its ends. -/
abbrev trim (l : List UInt8) : List UInt8 := Lib.trimS l [32, 9]
/-- What counts of a line. -/
def counted (l : List UInt8) : List UInt8 := trim (l.takeWhile (· != 35))
theorem takeWhile_index (l : List UInt8) (c : UInt8) : (Lib.index l [c] = -1 ∧ l.takeWhile (· != c) = l) ∨ ∃ i : Nat, Lib.index l [c] = i ∧ i < l.length ∧ l.takeWhile (· != c) = l.take i := by
  have free : ∀ p : List UInt8, c ∉ p → p.takeWhile (· != c) = p := fun p hp => by
    have := List.takeWhile_append_of_pos (p := (· != c)) (l₁ := p) (l₂ := []) (fun x hx => by simp only [bne_iff_ne, ne_eq]; exact fun e => hp (e ▸ hx))
    simpa using this
  rcases index_byte l c with ⟨hi, hn⟩ | ⟨p, q, rfl, hp, hi⟩
  · exact .inl ⟨hi, free l hn⟩
  · refine .inr ⟨p.length, hi, by simp, ?_⟩
    rw [List.takeWhile_append_of_pos (fun x hx => by simp only [bne_iff_ne, ne_eq]; exact fun e => hp (e ▸ hx))]
    simp

/-- A hexadecimal figure's number. -/
def figure (c : UInt8) : Option Nat := if 48 ≤ c.toNat ∧ c.toNat ≤ 57 then some (c.toNat - 48) else if 65 ≤ c.toNat ∧ c.toNat ≤ 70 then some (c.toNat - 55) else none
theorem figure_lt {c : UInt8} {d : Nat} (h : figure c = some d) : d < 16 := by
  unfold figure at h
  split at h
  · simp at h; omega
  · split at h
    · simp at h; omega
    · cases h
def hexv : List UInt8 → Nat → Option Nat
  | [], n => some n
  | c :: r, n => match figure c with
    | some d => hexv r (16 * n + d)
    | none => none
/-- The number of 4 to 6 hexadecimal figures. -/
def hex (l : List UInt8) : Option Nat := if 4 ≤ l.length ∧ l.length ≤ 6 then
    (match hexv l 0 with
     | some n => if n ≤ 1114111 then some n else none
     | none => none)
  else none
theorem hex_le {l : List UInt8} {n : Nat} (h : hex l = some n) : n ≤ 1114111 := by
  unfold hex at h
  split at h
  · split at h
    · split at h
      · cases h; assumption
      · cases h
    · cases h
  · cases h

/-- A letter, a figure or an underscore. -/
def sign (c : UInt8) : Bool := decide (97 ≤ c.toNat ∧ c.toNat ≤ 122 ∨ 65 ≤ c.toNat ∧ c.toNat ≤ 90 ∨ 48 ≤ c.toNat ∧ c.toNat ≤ 57 ∨ c.toNat = 95)
def word (l : List UInt8) : Bool := decide (1 ≤ l.length) && decide (l.length ≤ 16) && l.all sign

/-- An entry. -/
structure E where
  a : Int
  b : Int
  v : ByteArray
  x : ByteArray
def rising (a b : Int) : Bool := decide (0 ≤ a ∧ a ≤ b ∧ b ≤ 1114111)
def right (e : E) : Bool := rising e.a e.b && word e.v.data.toList && (decide (e.x.data.toList = []) || word e.x.data.toList)

/-- The numbers of a first field. -/
def ends (s : List UInt8) : Option (Nat × Nat) :=
  match hex (Lib.cut s [46, 46]).1, hex (if (Lib.cut s [46, 46]).2.2 then (Lib.cut s [46, 46]).2.1 else (Lib.cut s [46, 46]).1) with
  | some a, some b => if a ≤ b then some (a, b) else none
  | _, _ => none
theorem ends_le {s : List UInt8} {a b : Nat} (h : ends s = some (a, b)) : a ≤ b ∧ b ≤ 1114111 := by
  unfold ends at h
  split at h
  · rename_i a' b' ha hb
    split at h
    · rename_i hle
      simp only [Option.some.injEq, Prod.mk.injEq] at h
      obtain ⟨rfl, rfl⟩ := h
      exact ⟨hle, hex_le hb⟩
    · cases h
  · cases h
def bytes (l : List UInt8) : ByteArray := ⟨l.toArray⟩
theorem bytes_list (l : List UInt8) : (bytes l).data.toList = l := by simp [bytes]
theorem bytes_self (s : ByteArray) : bytes s.data.toList = s := by cases s; simp [bytes]

/-- The entry of what counts of a line. -/
def entry (s : List UInt8) : Option E :=
  match parts 59 s with
  | [f, g] => match ends (trim f) with
    | some (a, b) => if word (trim g) then some ⟨a, b, bytes (trim g), ByteArray.empty⟩ else none
    | none => none
  | [f, g, h] => match ends (trim f) with
    | some (a, b) => if word (trim g) && word (trim h) then some ⟨a, b, bytes (trim g), bytes (trim h)⟩ else none
    | none => none
  | _ => none

/-- The entries of lines, behind those that are had. -/
def parseGo : List (List UInt8) → List E → Option (List E)
  | [], acc => some acc
  | s :: r, acc => if counted s = [] then parseGo r acc else if acc.length = 600 then none else match entry (counted s) with
    | none => none
    | some e => parseGo r (acc ++ [e])
def parse (l : List UInt8) : Option (List E) := parseGo (parts 10 l) []
end Go.Proofs.Ytjbpjnnflcmmhaa.M
