/- There and back: what is encoded is decoded, what is decoded has just these bytes; and one text behind another: plain lemmas on the document's UTF-8. -/
import Derived.Test.YteknpodofmmklaaDoorMathC
namespace Go.Proofs.YteknpodofmmklaaDoor.M

def Bytes (l : List Int) : Prop := ∀ x ∈ l, 0 ≤ x ∧ x ≤ 255
theorem Bytes.drop {l : List Int} (h : Bytes l) (n : Nat) : Bytes (l.drop n) := fun x hx => h x (List.mem_of_mem_drop hx)
theorem Bytes.tail {x : Int} {l : List Int} (h : Bytes (x :: l)) : Bytes l := fun y hy => h y (by simp [hy])

theorem askd_1 {h : Int} (h1 : h ≤ 127) : askd h = 1 := by rw [askd, if_pos (by omega)]
theorem askd_2 {h : Int} (h0 : 192 ≤ h) (h1 : h ≤ 223) : askd h = 2 := by rw [askd, if_neg (by omega), if_neg (by omega), if_pos (by omega)]
theorem askd_3 {h : Int} (h0 : 224 ≤ h) (h1 : h ≤ 239) : askd h = 3 := by rw [askd, if_neg (by omega), if_neg (by omega), if_neg (by omega), if_pos (by omega)]
theorem askd_4 {h : Int} (h0 : 240 ≤ h) (h1 : h ≤ 247) : askd h = 4 := by rw [askd, if_neg (by omega), if_neg (by omega), if_neg (by omega), if_neg (by omega), if_pos (by omega)]
theorem cont1 (c x : Int) (h0 : 128 ≤ x) (h1 : x ≤ 191) : cont c [x] = some (c * 64 + (x - 128)) := by simp [cont, tail_yes h0 h1]
theorem cont2 (c x y : Int) (h0 : 128 ≤ x) (h1 : x ≤ 191) (k0 : 128 ≤ y) (k1 : y ≤ 191) : cont c [x, y] = some ((c * 64 + (x - 128)) * 64 + (y - 128)) := by
  simp [cont, tail_yes h0 h1, tail_yes k0 k1]
theorem cont3 (c x y z : Int) (h0 : 128 ≤ x) (h1 : x ≤ 191) (k0 : 128 ≤ y) (k1 : y ≤ 191) (l0 : 128 ≤ z) (l1 : z ≤ 191) : cont c [x, y, z] = some (((c * 64 + (x - 128)) * 64 + (y - 128)) * 64 + (z - 128)) := by
  simp [cont, tail_yes h0 h1, tail_yes k0 k1, tail_yes l0 l1]

theorem first_bytes {c : Int} (hs : scal c = true) (r : List Int) : firstM (bytes1 c ++ r) = some (c, (bytes1 c).length) := by
  obtain ⟨h0, h1⟩ := scal_range hs
  rcases (show c ≤ 127 ∨ (128 ≤ c ∧ c ≤ 2047) ∨ (2048 ≤ c ∧ c ≤ 65535) ∨ 65536 ≤ c by omega) with hh | ⟨hh, hh'⟩ | ⟨hh, hh'⟩ | hh
  · rw [bytes_eq1 h0 hh]
    have ha := askd_1 hh
    rw [List.cons_append, first_cont_some c _ 1 c ha (by omega) (by simp) (by simp [headOf, cont]), if_pos ⟨hs, cnt_eq1 h0 hh⟩]
    rfl
  · rw [bytes_eq2 hh hh']
    have ha := askd_2 (h := 192 + c / 64) (by omega) (by omega)
    have hc : cont (192 + c / 64 - headOf 2) (([128 + c % 64] ++ r).take (2 - 1)) = some c := by
      rw [show ([128 + c % 64] ++ r).take (2 - 1) = [128 + c % 64] from rfl, cont1 _ _ (by omega) (by omega)]
      simp [headOf]; omega
    rw [show ([192 + c / 64, 128 + c % 64] : List Int) ++ r = (192 + c / 64) :: ([128 + c % 64] ++ r) from rfl, first_cont_some _ _ 2 c ha (by omega) (by simp) hc, if_pos ⟨hs, cnt_eq2 hh hh'⟩]
    rfl
  · rw [bytes_eq3 hh hh']
    have ha := askd_3 (h := 224 + c / 4096) (by omega) (by omega)
    have hc : cont (224 + c / 4096 - headOf 3) (([128 + c / 64 % 64, 128 + c % 64] ++ r).take (3 - 1)) = some c := by
      rw [show ([128 + c / 64 % 64, 128 + c % 64] ++ r).take (3 - 1) = [128 + c / 64 % 64, 128 + c % 64] from rfl, cont2 _ _ _ (by omega) (by omega) (by omega) (by omega)]
      simp [headOf]; omega
    rw [show ([224 + c / 4096, 128 + c / 64 % 64, 128 + c % 64] : List Int) ++ r = (224 + c / 4096) :: ([128 + c / 64 % 64, 128 + c % 64] ++ r) from rfl, first_cont_some _ _ 3 c ha (by omega) (by simp) hc, if_pos ⟨hs, cnt_eq3 hh hh'⟩]
    rfl
  · rw [bytes_eq4 hh h1]
    have ha := askd_4 (h := 240 + c / 262144) (by omega) (by omega)
    have hc : cont (240 + c / 262144 - headOf 4) (([128 + c / 4096 % 64, 128 + c / 64 % 64, 128 + c % 64] ++ r).take (4 - 1)) = some c := by
      rw [show ([128 + c / 4096 % 64, 128 + c / 64 % 64, 128 + c % 64] ++ r).take (4 - 1) = [128 + c / 4096 % 64, 128 + c / 64 % 64, 128 + c % 64] from rfl, cont3 _ _ _ _ (by omega) (by omega) (by omega) (by omega) (by omega) (by omega)]
      simp [headOf]; omega
    rw [show ([240 + c / 262144, 128 + c / 4096 % 64, 128 + c / 64 % 64, 128 + c % 64] : List Int) ++ r = (240 + c / 262144) :: ([128 + c / 4096 % 64, 128 + c / 64 % 64, 128 + c % 64] ++ r) from rfl, first_cont_some _ _ 4 c ha (by omega) (by simp) hc, if_pos ⟨hs, cnt_eq4 hh h1⟩]
    rfl

theorem cont_inv {c d x : Int} {r : List Int} (h : cont c (x :: r) = some d) : (128 ≤ x ∧ x ≤ 191) ∧ cont (c * 64 + (x - 128)) r = some d := by
  simp only [cont] at h
  split at h
  · rename_i ht
    exact ⟨by simpa [isTail] using ht, h⟩
  · cases h
theorem cnt_lo {c : Int} {n : Nat} (h : cnt c = n) : (n = 1 → c ≤ 127) ∧ (n = 2 → 128 ≤ c ∧ c ≤ 2047) ∧ (n = 3 → 2048 ≤ c ∧ c ≤ 65535) ∧ (n = 4 → 65536 ≤ c) := by
  unfold cnt at h
  (repeat' split at h) <;> subst h <;> simp <;> omega
theorem askd_inv {h : Int} {n : Nat} (ha : askd h = n) : (n = 1 → h ≤ 127) ∧ (n = 2 → 192 ≤ h ∧ h ≤ 223) ∧ (n = 3 → 224 ≤ h ∧ h ≤ 239) ∧ (n = 4 → 240 ≤ h ∧ h ≤ 247) := by
  unfold askd at ha
  (repeat' split at ha) <;> subst ha <;> simp <;> omega
/-- What first finds is a scalar whose bytes stand in front. -/
theorem first_inv {bs : List Int} {c : Int} {n : Nat} (hb : Bytes bs) (h : firstM bs = some (c, n)) : bs = bytes1 c ++ bs.drop n ∧ n = (bytes1 c).length := by
  obtain ⟨hn1, hn2, hn4, hs, hcn⟩ := first_len h
  obtain ⟨h0, h1⟩ := scal_range hs
  cases bs with
  | nil => simp [firstM] at h
  | cons x r =>
    have ha := first_asked x r c n h
    obtain ⟨x0, x1⟩ := hb x (by simp)
    have hcl := cnt_lo hcn
    have hai := askd_inv ha
    have hct : cont (x - headOf n) (r.take (n - 1)) = some c := by
      simp only [firstM, ha] at h
      split at h
      · cases h
      · split at h
        · cases h
        · split at h
          · rename_i d hd _
            simp only [Option.some.injEq, Prod.mk.injEq] at h
            rw [← h.1]; exact hd
          · cases h
    simp only [List.length_cons] at hn2
    rcases (show n = 1 ∨ n = 2 ∨ n = 3 ∨ n = 4 by omega) with rfl | rfl | rfl | rfl
    · simp [headOf, cont] at hct
      subst hct
      rw [bytes_eq1 h0 (hcl.1 rfl)]
      simp
    · obtain ⟨l0, l1⟩ := hcl.2.1 rfl
      match r, hn2, hct with
      | y :: r', _, hct =>
        obtain ⟨y01, hct⟩ := cont_inv (show cont (x - headOf 2) [y] = some c from hct)
        simp [headOf, cont] at hct
        rw [bytes_eq2 l0 l1]
        simp
        omega
    · obtain ⟨l0, l1⟩ := hcl.2.2.1 rfl
      match r, hn2, hct with
      | y :: z :: r', _, hct =>
        obtain ⟨y01, hct⟩ := cont_inv (show cont (x - headOf 3) [y, z] = some c from hct)
        obtain ⟨z01, hct⟩ := cont_inv hct
        simp [headOf, cont] at hct
        rw [bytes_eq3 l0 l1]
        simp
        omega
      | [y], hn2, _ => simp at hn2
    · have l0 := hcl.2.2.2 rfl
      match r, hn2, hct with
      | y :: z :: u :: r', _, hct =>
        obtain ⟨y01, hct⟩ := cont_inv (show cont (x - headOf 4) [y, z, u] = some c from hct)
        obtain ⟨z01, hct⟩ := cont_inv hct
        obtain ⟨u01, hct⟩ := cont_inv hct
        simp [headOf, cont] at hct
        rw [bytes_eq4 l0 h1]
        simp
        omega
      | [y, z], hn2, _ => simp at hn2
      | [y], hn2, _ => simp at hn2

theorem dec_bytes {c : Int} (hs : scal c = true) (r : List Int) : dec (bytes1 c ++ r) = (dec r).map (c :: ·) := by
  rw [dec_some (first_bytes hs r)]
  simp
theorem dec_encAll (l : List Int) (h : allScal l = true) : dec (encAll l) = some l := by
  induction l with
  | nil => rfl
  | cons c r ih =>
    simp only [allScal, List.all_cons, Bool.and_eq_true] at h
    have e : encAll (c :: r) = bytes1 c ++ encAll r := by simp [encAll]
    rw [e, dec_bytes h.1, ih h.2]
    rfl
theorem dec_enc {l bs : List Int} (h : enc l = some bs) : dec bs = some l := by
  unfold enc at h
  split at h
  · rename_i ha
    obtain rfl : encAll l = bs := by injection h
    exact dec_encAll l ha
  · cases h
theorem enc_range {l bs : List Int} (h : enc l = some bs) : Bytes bs := by
  unfold enc at h
  split at h
  · rename_i ha
    obtain rfl : encAll l = bs := by injection h
    intro x hx
    simp only [encAll, List.mem_flatMap] at hx
    obtain ⟨c, hc, hx⟩ := hx
    simp only [allScal, List.all_eq_true] at ha
    exact bytes1_range (ha c hc) x hx
  · cases h
theorem enc_len {l bs : List Int} (h : enc l = some bs) : bs.length ≤ 4 * l.length := by
  unfold enc at h
  split at h
  · obtain rfl : encAll l = bs := by injection h
    exact encAll_len l
  · cases h
theorem enc_dec_fuel (k : Nat) : ∀ bs m : List Int, bs.length ≤ k → Bytes bs → dec bs = some m → allScal m = true ∧ encAll m = bs ∧ m.length ≤ bs.length := by
  induction k with
  | zero =>
    intro bs m hk _ hd
    have : bs = [] := List.eq_nil_of_length_eq_zero (by omega)
    subst this
    rw [dec_nil] at hd
    obtain rfl : [] = m := by injection hd
    exact ⟨rfl, rfl, Nat.le_refl _⟩
  | succ k ih =>
    intro bs m hk hb hd
    cases hbs : bs with
    | nil =>
      subst hbs
      rw [dec_nil] at hd
      obtain rfl : [] = m := by injection hd
      exact ⟨rfl, rfl, Nat.le_refl _⟩
    | cons x r =>
      rw [← hbs]
      cases hf : firstM bs with
      | none => rw [dec_none (by rw [hbs]; simp) hf] at hd; cases hd
      | some p =>
        obtain ⟨c, n⟩ := p
        obtain ⟨hn1, hn2, _, hs, _⟩ := first_len hf
        obtain ⟨he, hn⟩ := first_inv hb hf
        rw [dec_some hf] at hd
        cases hr : dec (bs.drop n) with
        | none => rw [hr] at hd; cases hd
        | some m' =>
          rw [hr] at hd
          obtain rfl : c :: m' = m := by injection hd
          obtain ⟨h1, h2, h3⟩ := ih (bs.drop n) m' (by rw [List.length_drop]; omega) (hb.drop n) hr
          refine ⟨by simp only [allScal, List.all_cons, hs, Bool.true_and]; exact h1, ?_, ?_⟩
          · have e : encAll (c :: m') = bytes1 c ++ encAll m' := by simp [encAll]
            rw [e, h2]; exact he.symm
          · rw [List.length_drop] at h3
            simp only [List.length_cons]
            omega
theorem enc_dec {bs m : List Int} (hb : Bytes bs) (h : dec bs = some m) : enc m = some bs ∧ m.length ≤ bs.length := by
  obtain ⟨h1, h2, h3⟩ := enc_dec_fuel bs.length bs m (Nat.le_refl _) hb h
  exact ⟨by simp [enc, h1, h2], h3⟩
theorem wrong_dec_fuel (k : Nat) : ∀ bs : List Int, bs.length ≤ k → (wrong bs = none ↔ dec bs ≠ none) := by
  induction k with
  | zero =>
    intro bs hk
    have : bs = [] := List.eq_nil_of_length_eq_zero (by omega)
    subst this
    simp [wrong_nil, dec_nil]
  | succ k ih =>
    intro bs hk
    cases hbs : bs with
    | nil => simp [wrong_nil, dec_nil]
    | cons x r =>
      rw [← hbs]
      cases hf : firstM bs with
      | none => rw [dec_none (by rw [hbs]; simp) hf, wrong_none (by rw [hbs]; simp) hf]; simp
      | some p =>
        obtain ⟨c, n⟩ := p
        obtain ⟨hn1, hn2, _⟩ := first_len hf
        have := ih (bs.drop n) (by rw [List.length_drop]; omega)
        rw [dec_some hf, wrong_some hf]
        cases hw : wrong (bs.drop n) <;> cases hd : dec (bs.drop n) <;> simp [hw, hd] at this ⊢
theorem wrong_dec (bs : List Int) : wrong bs = none ↔ dec bs ≠ none := wrong_dec_fuel bs.length bs (Nat.le_refl _)

theorem wrong_lt_fuel (k : Nat) : ∀ (bs : List Int) (j : Nat), bs.length ≤ k → wrong bs = some j → j < bs.length := by
  induction k with
  | zero =>
    intro bs j hk h
    have : bs = [] := List.eq_nil_of_length_eq_zero (by omega)
    subst this
    rw [wrong_nil] at h
    cases h
  | succ k ih =>
    intro bs j hk h
    cases hbs : bs with
    | nil => subst hbs; rw [wrong_nil] at h; cases h
    | cons x r =>
      rw [← hbs]
      cases hf : firstM bs with
      | none =>
        rw [wrong_none (by rw [hbs]; simp) hf] at h
        obtain rfl : 0 = j := by injection h
        rw [hbs]; simp
      | some p =>
        obtain ⟨c, n⟩ := p
        obtain ⟨hn1, hn2, _⟩ := first_len hf
        rw [wrong_some hf] at h
        cases hr : wrong (bs.drop n) with
        | none => rw [hr] at h; cases h
        | some j' =>
          rw [hr] at h
          obtain rfl : n + j' = j := by injection h
          have := ih (bs.drop n) j' (by rw [List.length_drop]; omega) hr
          rw [List.length_drop] at this
          omega
theorem wrong_lt {bs : List Int} {j : Nat} (h : wrong bs = some j) : j < bs.length := wrong_lt_fuel bs.length bs j (Nat.le_refl _) h
theorem first_append {a : List Int} {c : Int} {n : Nat} (b : List Int) (h : firstM a = some (c, n)) : firstM (a ++ b) = some (c, n) := by
  obtain ⟨hn1, hn2, _⟩ := first_len h
  cases a with
  | nil => simp [firstM] at h
  | cons x r =>
    have ha := first_asked x r c n h
    simp only [List.length_cons] at hn2
    simp only [firstM, List.cons_append, ha, List.length_append] at h ⊢
    rw [if_neg (by omega)] at h ⊢
    rw [List.take_append_of_le_length (by omega)]
    exact h
theorem dec_append_fuel (k : Nat) : ∀ a b l : List Int, a.length ≤ k → dec a = some l → dec (a ++ b) = (dec b).map (l ++ ·) := by
  induction k with
  | zero =>
    intro a b l hk hd
    have : a = [] := List.eq_nil_of_length_eq_zero (by omega)
    subst this
    rw [dec_nil] at hd
    obtain rfl : [] = l := by injection hd
    cases h : dec b <;> simp [h]
  | succ k ih =>
    intro a b l hk hd
    cases has : a with
    | nil =>
      subst has
      rw [dec_nil] at hd
      obtain rfl : [] = l := by injection hd
      cases h : dec b <;> simp [h]
    | cons x r =>
      rw [← has]
      cases hf : firstM a with
      | none => rw [dec_none (by rw [has]; simp) hf] at hd; cases hd
      | some p =>
        obtain ⟨c, n⟩ := p
        obtain ⟨hn1, hn2, _⟩ := first_len hf
        rw [dec_some hf] at hd
        cases hr : dec (a.drop n) with
        | none => rw [hr] at hd; cases hd
        | some m' =>
          rw [hr] at hd
          obtain rfl : c :: m' = l := by injection hd
          rw [dec_some (first_append b hf), List.drop_append_of_le_length hn2, ih (a.drop n) b m' (by rw [List.length_drop]; omega) hr]
          cases dec b <;> simp
theorem dec_append {a l : List Int} (b : List Int) (h : dec a = some l) : dec (a ++ b) = (dec b).map (l ++ ·) := dec_append_fuel a.length a b l (Nat.le_refl _) h
theorem wrong_append_fuel (k : Nat) : ∀ a b : List Int, a.length ≤ k → wrong a = none → wrong (a ++ b) = (wrong b).map (a.length + ·) := by
  induction k with
  | zero =>
    intro a b hk _
    have : a = [] := List.eq_nil_of_length_eq_zero (by omega)
    subst this
    cases h : wrong b <;> simp [h]
  | succ k ih =>
    intro a b hk hw
    cases has : a with
    | nil => cases h : wrong b <;> simp [h]
    | cons x r =>
      rw [← has]
      cases hf : firstM a with
      | none => rw [wrong_none (by rw [has]; simp) hf] at hw; cases hw
      | some p =>
        obtain ⟨c, n⟩ := p
        obtain ⟨hn1, hn2, _⟩ := first_len hf
        rw [wrong_some hf] at hw
        cases hr : wrong (a.drop n) with
        | some m' => rw [hr] at hw; cases hw
        | none =>
          rw [wrong_some (first_append b hf), List.drop_append_of_le_length hn2, ih (a.drop n) b (by rw [List.length_drop]; omega) hr]
          cases wrong b <;> simp [List.length_drop]
          omega
theorem wrong_append {a : List Int} (b : List Int) (h : wrong a = none) : wrong (a ++ b) = (wrong b).map (a.length + ·) := wrong_append_fuel a.length a b (Nat.le_refl _) h
end Go.Proofs.YteknpodofmmklaaDoor.M
