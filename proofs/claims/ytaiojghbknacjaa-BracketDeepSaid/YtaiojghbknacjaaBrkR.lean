/- What brackets become, as plain functions on lists of whole numbers, and what of it is said of both of a pair. No program is read here. -/
import Derived.Test.YtaiojghbknacjaaBrkM
namespace Go.Proofs.Ytaiojghbknacjaa.M

/-- A strong side: 0, 1, or none (13). -/
def sg (c : Int) : Int := if c = 1 ∨ c = 3 ∨ c = 6 then 1 else if c = 0 then 0 else 13
/-- The nearest strong one of what stands ahead (nearest first). -/
def ahd (f : Int) : List Int → Int
  | [] => f
  | x :: r => if sg x = 13 then ahd f r else sg x
/-- Is there one of a side in what stands from a place on, m long? -/
def btw (side : Int) (l : List Int) : Nat → Nat → Bool
  | 0, _ => false
  | m + 1, i => if sg (l.getD i 0) = side then true else btw side l m (i + 1)
/-- The marks that came behind a place, m at most. -/
def mk (came : List Int) (side : Int) : Nat → Nat → List Int → List Int
  | 0, _, l => l
  | m + 1, i, l => if came[i]? = some 8 then mk came side m (i + 1) (l.set i side) else l
def bec (came : List Int) (l : List Int) (at_ : Nat) (side : Int) : List Int := mk came side (l.length - (at_ + 1)) (at_ + 1) (l.set at_ side)
def toOf (side other f : Int) (out : List Int) (p q : Nat) : Int :=
  if btw side out (q - (p + 1)) (p + 1) = true then side
  else if btw other out (q - (p + 1)) (p + 1) = true then (if ahd f (out.take p).reverse = other then other else side) else 13
def res1 (came : List Int) (side other f : Int) (out : List Int) (a : Int × Int) : List Int :=
  if toOf side other f out a.1.toNat a.2.toNat = 13 then out
  else bec came (bec came out a.1.toNat (toOf side other f out a.1.toNat a.2.toNat)) a.2.toNat (toOf side other f out a.1.toNat a.2.toNat)
/-- Behind the first k pairs. -/
def resTo (came l : List Int) (ms : List (Int × Int)) (side other f : Int) (k : Nat) : List Int := ((prs l ms).take k).foldl (res1 came side other f) l
def res (came l : List Int) (ms : List (Int × Int)) (level f : Int) : List Int :=
  resTo came l ms (if level % 2 = 1 then 1 else 0) (if level % 2 = 1 then 0 else 1) f (prs l ms).length
def resOk (came l : List Int) (level f : Int) : Prop := came.length = l.length ∧ 0 ≤ level ∧ (f = 0 ∨ f = 1)
instance (came l : List Int) (level f : Int) : Decidable (resOk came l level f) := by unfold resOk; infer_instance
section
variable {came l out : List Int} {ms : List (Int × Int)} {side other f x c : Int} {m i j k : Nat}
theorem mk_len : (mk came side m i l).length = l.length := by
  induction m generalizing i l with
  | zero => rfl
  | succ m ih =>
    unfold mk
    split
    · rw [ih, List.length_set]
    · rfl
theorem bec_len : (bec came l i side).length = l.length := by unfold bec; rw [mk_len, List.length_set]
theorem mk_at : (mk came side m i l)[j]? = l[j]? ∨ ((mk came side m i l)[j]? = some side ∧ i ≤ j ∧ came[j]? = some 8) := by
  induction m generalizing i l with
  | zero => exact .inl rfl
  | succ m ih =>
    unfold mk
    split
    · rename_i h
      rcases ih (i := i + 1) (l := l.set i side) with h1 | ⟨h1, h2, h3⟩
      · by_cases e : i = j
        · subst e
          by_cases hl : i < l.length
          · rw [List.getElem?_set_self hl] at h1
            exact .inr ⟨h1, Nat.le_refl _, h⟩
          · rw [h1, List.set_eq_of_length_le (by omega)]
            exact .inl rfl
        · rw [h1, List.getElem?_set_ne e]
          exact .inl rfl
      · exact .inr ⟨h1, by omega, h3⟩
    · exact .inl rfl
theorem bec_at : (bec came l i side)[j]? = l[j]? ∨ ((bec came l i side)[j]? = some side ∧ (j = i ∨ (i < j ∧ came[j]? = some 8))) := by
  unfold bec
  rcases mk_at (came := came) (side := side) (m := l.length - (i + 1)) (i := i + 1) (l := l.set i side) (j := j) with h | ⟨h, h1, h2⟩
  · by_cases e : i = j
    · subst e
      by_cases hl : i < l.length
      · rw [List.getElem?_set_self hl] at h
        exact .inr ⟨h, .inl rfl⟩
      · rw [h, List.set_eq_of_length_le (by omega)]
        exact .inl rfl
    · rw [h, List.getElem?_set_ne e]
      exact .inl rfl
  · exact .inr ⟨h, .inr ⟨by omega, h2⟩⟩
theorem bec_self (h : i < l.length) : (bec came l i side)[i]? = some side := by
  unfold bec
  rcases mk_at (came := came) (side := side) (m := l.length - (i + 1)) (i := i + 1) (l := l.set i side) (j := i) with h1 | ⟨_, h1, _⟩
  · rw [h1, List.getElem?_set_self h]
  · omega
theorem res1_len {a : Int × Int} : (res1 came side other f out a).length = out.length := by
  unfold res1
  split
  · rfl
  · rw [bec_len, bec_len]
theorem resTo_zero : resTo came l ms side other f 0 = l := rfl
theorem resTo_succ {a : Int × Int} (h : (prs l ms)[k]? = some a) : resTo came l ms side other f (k + 1) = res1 came side other f (resTo came l ms side other f k) a := by
  obtain ⟨hk, rfl⟩ := List.getElem?_eq_some_iff.1 h
  unfold resTo
  rw [List.take_succ_eq_append_getElem hk, List.foldl_append]
  rfl
theorem resTo_len : (resTo came l ms side other f k).length = l.length := by
  induction k with
  | zero => rfl
  | succ k ih =>
    by_cases h : k < (prs l ms).length
    · rw [resTo_succ (List.getElem?_eq_getElem h), res1_len, ih]
    · unfold resTo at ih ⊢
      rw [List.take_of_length_le (by omega)] at ih ⊢
      exact ih
theorem toOf_or (hs : side = 0 ∨ side = 1) (ho : other = 0 ∨ other = 1) {p q : Nat} : toOf side other f out p q = 13 ∨ toOf side other f out p q = 0 ∨ toOf side other f out p q = 1 := by
  unfold toOf
  split
  · omega
  · split
    · split <;> omega
    · exact .inl rfl
/-- What holds behind the first k pairs. -/
structure RInv (came l : List Int) (ms : List (Int × Int)) (k : Nat) (out : List Int) : Prop where
  any : ∀ (i : Nat) (x : Int), out[i]? = some x → l[i]? = some x ∨ x = 0 ∨ x = 1
  stay : ∀ i : Nat, came[i]? ≠ some 8 → (∀ (t : Nat) (a : Int × Int), t < k → (prs l ms)[t]? = some a → a.1 ≠ i ∧ a.2 ≠ i) → out[i]? = l[i]?
  both : ∀ (t p q : Nat), t < k → (prs l ms)[t]? = some ((p : Int), (q : Int)) → came[p]? ≠ some 8 → came[q]? ≠ some 8 → out[p]? = out[q]?
/-- Places of pairs are no other pair's. -/
theorem prs_apart {t t' p q p' q' : Nat} (h : (prs l ms)[t]? = some ((p : Int), (q : Int))) (h' : (prs l ms)[t']? = some ((p' : Int), (q' : Int))) (ht : t ≠ t') : p ≠ p' ∧ q ≠ q' ∧ p ≠ q' ∧ q ≠ p' := by
  obtain ⟨_, _, e, e1, _, _, _, _, _, id, m1, m2⟩ := prs_at h
  injection e with ea eb
  obtain rfl := Int.ofNat_inj.1 ea
  obtain rfl := Int.ofNat_inj.1 eb
  obtain ⟨_, _, e', e1', _, _, _, _, _, id', m1', m2'⟩ := prs_at h'
  injection e' with ea' eb'
  obtain rfl := Int.ofNat_inj.1 ea'
  obtain rfl := Int.ofNat_inj.1 eb'
  have hne : p ≠ q' ∧ q ≠ p' := by
    constructor
    · intro e
      subst e
      rw [m1] at m2'
      injection m2' with e
      injection e with e
      omega
    · intro e
      subst e
      rw [m2] at m1'
      injection m1' with e
      injection e with e
      omega
  have hpq : p ≠ p' ∧ q ≠ q' := by
    rcases Nat.lt_or_ge t t' with hlt | hge
    · have := prs_nested h h' hlt
      dsimp only at this
      omega
    · have := prs_nested h' h (by omega)
      dsimp only at this
      omega
  exact ⟨hpq.1, hpq.2, hne.1, hne.2⟩
theorem RInv.next (hs : side = 0 ∨ side = 1) (ho : other = 0 ∨ other = 1) (hl : out.length = l.length) {a : Int × Int} (ha : (prs l ms)[k]? = some a) (h : RInv came l ms k out) : RInv came l ms (k + 1) (res1 came side other f out a) := by
  obtain ⟨p, q, rfl, hpq, hq, -, l1, l2, -, -⟩ := prs_at ha
  have h12 : ∀ t, t < k → ∀ a', (prs l ms)[t]? = some a' → a'.1 ≠ (p : Int) ∧ a'.2 ≠ (p : Int) ∧ a'.1 ≠ (q : Int) ∧ a'.2 ≠ (q : Int) := fun t ht a' ha' => by
    obtain ⟨p', q', rfl, -⟩ := prs_at ha'
    have := prs_apart ha' ha (by omega)
    dsimp only
    omega
  unfold res1
  dsimp only
  rw [Int.toNat_natCast, Int.toNat_natCast]
  obtain ⟨to, hto⟩ : ∃ to, toOf side other f out p q = to := ⟨_, rfl⟩
  have h3 := toOf_or (out := out) (f := f) hs ho (p := p) (q := q)
  rw [hto] at h3 ⊢
  by_cases h13 : to = 13
  · rw [if_pos h13]
    refine ⟨h.any, fun i hi hno => h.stay i hi fun t a ht => hno t a (by omega), fun t p' q' ht hp c1 c2 => ?_⟩
    by_cases e : t = k
    · subst e
      rw [ha] at hp
      injection hp with hp
      injection hp with e1 e2
      obtain rfl := Int.ofNat_inj.1 e1
      obtain rfl := Int.ofNat_inj.1 e2
      have s1 := h.stay p c1 fun t a' ht ha' => ⟨(h12 t ht a' ha').1, (h12 t ht a' ha').2.1⟩
      have s2 := h.stay q c2 fun t a' ht ha' => ⟨(h12 t ht a' ha').2.2.1, (h12 t ht a' ha').2.2.2⟩
      rw [s1, s2, l1, l2]
    · exact h.both t p' q' (by omega) hp c1 c2
  · rw [if_neg h13]
    have hto1 : to = 0 ∨ to = 1 := by omega
    have hat : ∀ i : Nat, (bec came (bec came out p to) q to)[i]? = out[i]? ∨ ((bec came (bec came out p to) q to)[i]? = some to ∧ (i = p ∨ i = q ∨ came[i]? = some 8)) := fun i => by
      rcases bec_at (came := came) (l := bec came out p to) (i := q) (side := to) (j := i) with e | ⟨e, e1⟩
      · rcases bec_at (came := came) (l := out) (i := p) (side := to) (j := i) with e2 | ⟨e2, e3⟩
        · exact .inl (e.trans e2)
        · exact .inr ⟨e.trans e2, by rcases e3 with e3 | e3 <;> simp [e3]⟩
      · exact .inr ⟨e, by rcases e1 with e1 | e1 <;> simp [e1]⟩
    refine ⟨fun i x hx => ?_, fun i hi hno => ?_, fun t p' q' ht hp c1 c2 => ?_⟩
    · rcases hat i with e | ⟨e, -⟩
      · rw [e] at hx
        exact h.any i x hx
      · rw [e] at hx
        injection hx with hx
        subst hx
        exact .inr hto1
    · have hk := hno k _ (by omega) ha
      dsimp only at hk
      rcases hat i with e | ⟨-, e⟩
      · rw [e]
        exact h.stay i hi fun t a ht => hno t a (by omega)
      · rcases e with e | e | e
        · omega
        · omega
        · exact absurd e hi
    · by_cases e : t = k
      · subst e
        rw [ha] at hp
        injection hp with hp
        injection hp with e1 e2
        obtain rfl := Int.ofNat_inj.1 e1
        obtain rfl := Int.ofNat_inj.1 e2
        have hqq : (bec came (bec came out p to) q to)[q]? = some to := bec_self (by rw [bec_len]; omega)
        rw [hqq]
        rcases bec_at (came := came) (l := bec came out p to) (i := q) (side := to) (j := p) with e | ⟨e, -⟩
        · rw [e]
          exact bec_self (by omega)
        · exact e
      · obtain ⟨g1, g2, g3, g4⟩ := h12 t (by omega) _ hp
        dsimp only at g1 g2 g3 g4
        have b1 := (hat p').resolve_right fun ⟨_, e⟩ => by
          rcases e with e | e | e
          · omega
          · omega
          · exact c1 e
        have b2 := (hat q').resolve_right fun ⟨_, e⟩ => by
          rcases e with e | e | e
          · omega
          · omega
          · exact c2 e
        rw [b1, b2]
        exact h.both t p' q' (by omega) hp c1 c2
theorem resTo_inv (hs : side = 0 ∨ side = 1) (ho : other = 0 ∨ other = 1) (hk : k ≤ (prs l ms).length) : RInv came l ms k (resTo came l ms side other f k) := by
  induction k with
  | zero => exact ⟨fun i x h => .inl h, fun _ _ _ => rfl, fun t p q ht => by omega⟩
  | succ k ih =>
    have ha := List.getElem?_eq_getElem (l := prs l ms) (i := k) (by omega)
    rw [resTo_succ ha]
    exact (ih (by omega)).next hs ho resTo_len ha
theorem res_inv (level : Int) : RInv came l ms (prs l ms).length (res came l ms level f) := by
  unfold res
  exact resTo_inv (by split <;> simp) (by split <;> simp) (Nat.le_refl _)
theorem res_len {level : Int} : (res came l ms level f).length = l.length := resTo_len
end
end Go.Proofs.Ytaiojghbknacjaa.M
