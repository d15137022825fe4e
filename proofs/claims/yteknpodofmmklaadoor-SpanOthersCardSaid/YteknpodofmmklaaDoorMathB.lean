/- Whole texts: what a list of bytes is decoded to, and the first place that is wrong, as plain functions; how they unfold step by step. -/
import Derived.Test.YteknpodofmmklaaDoorMath
namespace Go.Proofs.YteknpodofmmklaaDoor.M

theorem first_len {l : List Int} {c : Int} {n : Nat} (h : firstM l = some (c, n)) : 1 ≤ n ∧ n ≤ l.length ∧ n ≤ 4 ∧ scal c = true ∧ cnt c = n := by
  cases l with
  | nil => simp [firstM] at h
  | cons x r =>
    have ha := first_asked x r c n h
    have hle := askd_le x
    simp only [firstM] at h
    split at h
    · cases h
    · rename_i hb
      split at h
      · cases h
      · split at h
        · rename_i hs
          simp only [Option.some.injEq, Prod.mk.injEq] at h
          obtain ⟨rfl, rfl⟩ := h
          simp only [List.length_cons]
          exact ⟨by omega, by omega, hle, hs.1, hs.2⟩
        · cases h

def decF : Nat → List Int → Option (List Int)
  | 0, _ => some []
  | f + 1, bs => if bs = [] then some [] else match firstM bs with
    | none => none
    | some (c, n) => (decF f (bs.drop n)).map (c :: ·)
def dec (bs : List Int) : Option (List Int) := decF bs.length bs
def wrongF : Nat → List Int → Option Nat
  | 0, _ => none
  | f + 1, bs => if bs = [] then none else match firstM bs with
    | none => some 0
    | some (_, n) => (wrongF f (bs.drop n)).map (n + ·)
def wrong (bs : List Int) : Option Nat := wrongF bs.length bs

theorem decF_fuel (f : Nat) : ∀ bs : List Int, bs.length ≤ f → decF f bs = dec bs := by
  induction f using Nat.strongRecOn with
  | ind f ih =>
    intro bs hf
    cases bs with
    | nil => cases f <;> simp [decF, dec]
    | cons x r =>
      cases f with
      | zero => simp at hf
      | succ f =>
        unfold dec
        simp only [List.length_cons, decF]
        rw [if_neg (by simp), if_neg (by simp)]
        cases hfm : firstM (x :: r) with
        | none => rfl
        | some p =>
          obtain ⟨c, n⟩ := p
          obtain ⟨h1, h2, _⟩ := first_len hfm
          simp only [List.length_cons] at h2 hf
          simp only []
          rw [ih f (by omega) _ (by rw [List.length_drop, List.length_cons]; omega), ih r.length (by omega) _ (by rw [List.length_drop, List.length_cons]; omega)]
theorem wrongF_fuel (f : Nat) : ∀ bs : List Int, bs.length ≤ f → wrongF f bs = wrong bs := by
  induction f using Nat.strongRecOn with
  | ind f ih =>
    intro bs hf
    cases bs with
    | nil => cases f <;> simp [wrongF, wrong]
    | cons x r =>
      cases f with
      | zero => simp at hf
      | succ f =>
        unfold wrong
        simp only [List.length_cons, wrongF]
        rw [if_neg (by simp), if_neg (by simp)]
        cases hfm : firstM (x :: r) with
        | none => rfl
        | some p =>
          obtain ⟨c, n⟩ := p
          obtain ⟨h1, h2, _⟩ := first_len hfm
          simp only [List.length_cons] at h2 hf
          simp only []
          rw [ih f (by omega) _ (by rw [List.length_drop, List.length_cons]; omega), ih r.length (by omega) _ (by rw [List.length_drop, List.length_cons]; omega)]

theorem dec_nil : dec [] = some [] := rfl
theorem dec_none {bs : List Int} (h0 : bs ≠ []) (h : firstM bs = none) : dec bs = none := by
  cases bs with
  | nil => exact absurd rfl h0
  | cons x r => simp [dec, decF, h]
theorem dec_some {bs : List Int} {c : Int} {n : Nat} (h : firstM bs = some (c, n)) : dec bs = (dec (bs.drop n)).map (c :: ·) := by
  cases bs with
  | nil => simp [firstM] at h
  | cons x r =>
    obtain ⟨h1, h2, _⟩ := first_len h
    simp only [dec, List.length_cons, decF, h]
    rw [if_neg (by simp), decF_fuel _ _ (by rw [List.length_drop, List.length_cons]; omega)]
    rfl
theorem wrong_nil : wrong [] = none := rfl
theorem wrong_none {bs : List Int} (h0 : bs ≠ []) (h : firstM bs = none) : wrong bs = some 0 := by
  cases bs with
  | nil => exact absurd rfl h0
  | cons x r => simp [wrong, wrongF, h]
theorem wrong_some {bs : List Int} {c : Int} {n : Nat} (h : firstM bs = some (c, n)) : wrong bs = (wrong (bs.drop n)).map (n + ·) := by
  cases bs with
  | nil => simp [firstM] at h
  | cons x r =>
    obtain ⟨h1, h2, _⟩ := first_len h
    simp only [wrong, List.length_cons, wrongF, h]
    rw [if_neg (by simp), wrongF_fuel _ _ (by rw [List.length_drop, List.length_cons]; omega)]
    rfl

/-- Behind k bytes the rest is still to be looked through. -/
def WrTo (bs : List Int) (k : Nat) : Prop := wrong bs = (wrong (bs.drop k)).map (k + ·)
theorem wrTo_zero (bs : List Int) : WrTo bs 0 := by
  unfold WrTo
  cases h : wrong bs <;> simp [h]
theorem wrTo_step {bs : List Int} {k n : Nat} {c : Int} (h : WrTo bs k) (hf : firstM (bs.drop k) = some (c, n)) : WrTo bs (k + n) := by
  unfold WrTo at *
  rw [h, wrong_some hf, List.drop_drop]
  cases wrong (bs.drop (k + n)) <;> simp [Nat.add_assoc]
theorem wrTo_bad {bs : List Int} {k : Nat} (h : WrTo bs k) (hk : k < bs.length) (hf : firstM (bs.drop k) = none) : wrong bs = some k := by
  unfold WrTo at h
  rw [h, wrong_none (by simp; omega) hf]
  rfl
theorem wrTo_end {bs : List Int} {k : Nat} (h : WrTo bs k) (hk : bs.length ≤ k) : wrong bs = none := by
  unfold WrTo at h
  rw [h, List.drop_of_length_le hk, wrong_nil]
  rfl
/-- Behind k bytes, decoded to l, the rest is still to be decoded. -/
def DecTo (bs : List Int) (k : Nat) (l : List Int) : Prop := dec bs = (dec (bs.drop k)).map (l ++ ·)
theorem decTo_zero (bs : List Int) : DecTo bs 0 [] := by
  unfold DecTo
  cases h : dec bs <;> simp [h]
theorem decTo_step {bs l : List Int} {k n : Nat} {c : Int} (h : DecTo bs k l) (hf : firstM (bs.drop k) = some (c, n)) : DecTo bs (k + n) (l ++ [c]) := by
  unfold DecTo at *
  rw [h, dec_some hf, List.drop_drop]
  cases dec (bs.drop (k + n)) <;> simp
theorem decTo_bad {bs l : List Int} {k : Nat} (h : DecTo bs k l) (hk : k < bs.length) (hf : firstM (bs.drop k) = none) : dec bs = none := by
  unfold DecTo at h
  rw [h, dec_none (by simp; omega) hf]
  rfl
theorem decTo_end {bs l : List Int} {k : Nat} (h : DecTo bs k l) (hk : bs.length ≤ k) : dec bs = some l := by
  unfold DecTo at h
  rw [h, List.drop_of_length_le hk, dec_nil]
  simp
theorem scal_range {c : Int} (h : scal c = true) : 0 ≤ c ∧ c ≤ 1114111 := by
  simp [scal] at h
  exact ⟨h.1, h.2.1⟩
theorem cnt_range (c : Int) : 1 ≤ cnt c ∧ cnt c ≤ 4 := by
  unfold cnt
  (repeat' split) <;> omega
theorem cnt_eq1 {c : Int} (_h0 : 0 ≤ c) (h1 : c ≤ 127) : cnt c = 1 := by rw [cnt, if_pos (by omega)]
theorem cnt_eq2 {c : Int} (h0 : 128 ≤ c) (h1 : c ≤ 2047) : cnt c = 2 := by rw [cnt, if_neg (by omega), if_pos (by omega)]
theorem cnt_eq3 {c : Int} (h0 : 2048 ≤ c) (h1 : c ≤ 65535) : cnt c = 3 := by rw [cnt, if_neg (by omega), if_neg (by omega), if_pos (by omega)]
theorem cnt_eq4 {c : Int} (h0 : 65536 ≤ c) (_h1 : c ≤ 1114111) : cnt c = 4 := by rw [cnt, if_neg (by omega), if_neg (by omega), if_neg (by omega)]
theorem bytes_eq1 {c : Int} (_h0 : 0 ≤ c) (h1 : c ≤ 127) : bytes1 c = [c] := by rw [bytes1, if_pos (by omega)]
theorem bytes_eq2 {c : Int} (h0 : 128 ≤ c) (h1 : c ≤ 2047) : bytes1 c = [192 + c / 64, 128 + c % 64] := by rw [bytes1, if_neg (by omega), if_pos (by omega)]
theorem bytes_eq3 {c : Int} (h0 : 2048 ≤ c) (h1 : c ≤ 65535) : bytes1 c = [224 + c / 4096, 128 + c / 64 % 64, 128 + c % 64] := by rw [bytes1, if_neg (by omega), if_neg (by omega), if_pos (by omega)]
theorem bytes_eq4 {c : Int} (h0 : 65536 ≤ c) (_h1 : c ≤ 1114111) : bytes1 c = [240 + c / 262144, 128 + c / 4096 % 64, 128 + c / 64 % 64, 128 + c % 64] := by rw [bytes1, if_neg (by omega), if_neg (by omega), if_neg (by omega)]
/-- The bytes of a list, one scalar's behind the other's; none, if one is no scalar. -/
def allScal (l : List Int) : Bool := l.all scal
def encAll (l : List Int) : List Int := l.flatMap bytes1
def enc (l : List Int) : Option (List Int) := if allScal l = true then some (encAll l) else none
theorem bytes1_len (c : Int) : 1 ≤ (bytes1 c).length ∧ (bytes1 c).length ≤ 4 := by
  unfold bytes1
  (repeat' split) <;> simp
theorem encAll_len (l : List Int) : (encAll l).length ≤ 4 * l.length := by
  induction l with
  | nil => simp [encAll]
  | cons c r ih =>
    have := (bytes1_len c).2
    simp only [encAll, List.flatMap_cons, List.length_append, List.length_cons] at *
    omega
theorem encAll_append (a b : List Int) : encAll (a ++ b) = encAll a ++ encAll b := by simp [encAll]
theorem allScal_append (a b : List Int) : allScal (a ++ b) = (allScal a && allScal b) := by simp [allScal]
theorem enc_step (l : List Int) (k : Nat) (x : Int) (h : l[k]? = some x) (hs : scal x = true) : allScal (l.take (k + 1)) = allScal (l.take k) ∧ encAll (l.take (k + 1)) = encAll (l.take k) ++ bytes1 x := by
  rw [take_at l k x h, allScal_append, encAll_append]
  simp [allScal, encAll, hs]
theorem enc_bad (l : List Int) (k : Nat) (x : Int) (h : l[k]? = some x) (hs : scal x = false) : enc l = none := by
  have hm : x ∈ l := List.mem_of_getElem? h
  have : allScal l = false := by
    simp only [allScal, List.all_eq_false]
    exact ⟨x, hm, by simp [hs]⟩
  simp [enc, this]
theorem enc_end (l : List Int) (k : Nat) (hk : l.length ≤ k) (h : allScal (l.take k) = true) : enc l = some (encAll (l.take k)) := by
  rw [List.take_of_length_le hk] at *
  simp [enc, h]
end Go.Proofs.YteknpodofmmklaaDoor.M
