/- The code's way to pairs, and to what becomes of them, as plain functions, and that it is the document's: pairs found by the places that close are a permutation of those by the places that open; a place that is its side by now, with the marks behind it, is not turned again. No program is read here. -/
import Derived.Test.YtaiojghbknacjaaBrkR
namespace Go.Proofs.Ytaiojghbknacjaa.M

/-- The pairs as they are found, by the places that close. -/
def cgo (kd mid : Nat → Int) : Nat → Nat → List Nat → List (Int × Int) → List (Int × Int)
  | 0, _, _, acc => acc
  | m + 1, i, st, acc =>
    if kd i = 1 then (if st.length = 63 then acc else cgo kd mid m (i + 1) (i :: st) acc)
    else if kd i = 2 then (match st.dropWhile (fun p => decide (mid p ≠ mid i)) with | [] => cgo kd mid m (i + 1) st acc | p :: r => cgo kd mid m (i + 1) r (acc ++ [((p : Int), (i : Int))]))
    else cgo kd mid m (i + 1) st acc
section
variable {kd mid : Nat → Int} {i m : Nat} {st : List Nat} {pa : List Int} {acc : List (Int × Int)}
theorem prsFrom_set {p : Nat} {q : Int} (h : pa[p]? = some 0) (hq : 0 < q) : (prsFrom i (pa.set p q)).Perm ((((i + p : Nat) : Int), q) :: prsFrom i pa) := by
  induction pa generalizing i p with
  | nil => simp at h
  | cons x r ih =>
    cases p with
    | zero =>
      rw [List.getElem?_cons_zero] at h
      injection h with h
      subst h
      rw [List.set_cons_zero]
      unfold prsFrom
      rw [if_pos hq, if_neg (by omega)]
      exact List.Perm.refl _
    | succ p =>
      rw [List.getElem?_cons_succ] at h
      have h1 := ih (i := i + 1) h
      rw [show i + 1 + p = i + (p + 1) by omega] at h1
      rw [List.set_cons_succ]
      unfold prsFrom
      split
      · exact (List.Perm.cons _ h1).trans (List.Perm.swap _ _ _)
      · exact h1
theorem cgo_perm (h : PInv kd mid i st pa) (hl : i + m ≤ pa.length) (hp : acc.Perm (prsFrom 0 pa)) : (cgo kd mid m i st acc).Perm (prsFrom 0 (pgo kd mid m i st pa)) := by
  induction m generalizing i st pa acc with
  | zero => exact hp
  | succ m ih =>
    unfold cgo pgo
    split
    · rename_i hk
      split
      · exact hp
      · exact ih (h.open_ hk (h.later (Nat.le_refl _) (by omega))) (by omega) hp
    · split
      · rename_i hk
        split
        · rename_i hd
          rw [hd]
          exact ih h.skip (by omega) hp
        · rename_i p r hd
          rw [hd]
          obtain ⟨a, ha, -⟩ := dropWhile_tail hd
          obtain ⟨h1, -, h3⟩ := h.stk p (by rw [ha]; simp)
          have h4 := prsFrom_set (i := 0) (q := (i : Int)) h3 (by omega)
          rw [Nat.zero_add] at h4
          refine ih (h.close hk hd) (by rw [List.length_set]; omega) ?_
          exact (List.perm_append_comm.trans (List.Perm.cons _ hp)).trans h4.symm
      · exact ih h.skip (by omega) hp
theorem cgo_none (h : ∀ j, i ≤ j → kd j = 0) : cgo kd mid m i st acc = acc := by
  induction m generalizing i with
  | zero => rfl
  | succ m ih =>
    unfold cgo
    have h0 := h i (Nat.le_refl _)
    rw [if_neg (by omega), if_neg (by omega)]
    exact ih fun j hj => h j (by omega)
end
/-- Of two that are permutations of one another, and both in order, the one strictly so, both are one. -/
theorem perm_rise {l l' : List (Int × Int)} (hp : l'.Perm l) (h : l.Pairwise fun a b => a.1 < b.1) (h' : l'.Pairwise fun a b => a.1 ≤ b.1) : l' = l := by
  induction l generalizing l' with
  | nil => exact List.Perm.eq_nil hp
  | cons a r ih =>
    cases l' with
    | nil => exact absurd hp.symm (by simp)
    | cons b r' =>
      obtain ⟨h1, h2⟩ := List.pairwise_cons.1 h
      obtain ⟨h3, h4⟩ := List.pairwise_cons.1 h'
      have hab : b = a := by
        rcases List.mem_cons.1 (hp.mem_iff.1 (List.mem_cons_self (a := b) (l := r'))) with e | hb
        · exact e
        · rcases List.mem_cons.1 (hp.mem_iff.2 (List.mem_cons_self (a := a) (l := r))) with e | ha
          · exact e.symm
          · have := h1 b hb
            have := h3 a ha
            omega
      subst hab
      rw [ih ((List.perm_cons _).1 hp) h2 h4]
section
variable {l : List Int} {ms : List (Int × Int)}
theorem cprs_perm : (cgo (kd l ms) (mid ms) l.length 0 [] []).Perm (prs l ms) := by
  unfold prs partner
  refine cgo_perm (PInv.zero _ _ _) (by rw [List.length_replicate]; omega) ?_
  have h : ∀ n i, prsFrom i (List.replicate n 0) = [] := fun n => by
    induction n with
    | zero => intro i; rfl
    | succ n ih =>
      intro i
      rw [List.replicate_succ]
      unfold prsFrom
      rw [if_neg (by omega)]
      exact ih _
  rw [h]
theorem prs_rise : (prs l ms).Pairwise fun a b => a.1 < b.1 := prsFrom_rise.1
theorem kd_none {i : Nat} (h : ms.length ≤ i) : kd l ms i = 0 := by
  unfold kd
  rw [List.getElem?_eq_none h]
  split <;> rfl
end
/-- One place reaches another: all behind it, up to that, came as marks. -/
def Rch (came : List Int) (i j : Nat) : Prop := i ≤ j ∧ ∀ y, i < y → y ≤ j → came[y]? = some 8
section
variable {came l out : List Int} {ms : List (Int × Int)} {side other f x c to : Int} {m i j k p q : Nat}
theorem Rch.trans (h : Rch came i j) (h' : Rch came j k) : Rch came i k :=
  ⟨Nat.le_trans h.1 h'.1, fun y h1 h2 => by
    by_cases e : y ≤ j
    · exact h.2 y h1 e
    · exact h'.2 y (by omega) h2⟩
theorem Rch.later (h : Rch came i j) (h1 : i ≤ k) (h2 : k ≤ j) : Rch came k j := ⟨h2, fun y h3 h4 => h.2 y (by omega) h4⟩
theorem Rch.shorter (h : Rch came i j) (h1 : i ≤ k) (h2 : k ≤ j) : Rch came i k := ⟨h1, fun y h3 h4 => h.2 y h3 (by omega)⟩
theorem mk_on (hm : i ≤ j) (hj : j < i + m) (hl : j < l.length) (h : ∀ y, i ≤ y → y ≤ j → came[y]? = some 8) : (mk came side m i l)[j]? = some side := by
  induction m generalizing i l with
  | zero => omega
  | succ m ih =>
    unfold mk
    rw [if_pos (h i (Nat.le_refl _) hm)]
    by_cases e : i = j
    · subst e
      rcases mk_at (came := came) (side := side) (m := m) (i := i + 1) (l := l.set i side) (j := i) with h1 | ⟨_, h1, _⟩
      · rw [h1, List.getElem?_set_self hl]
      · omega
    · exact ih (by omega) (by omega) (by rw [List.length_set]; exact hl) fun y h1 h2 => h y (by omega) h2
theorem mk_off (h : ¬ (i ≤ j ∧ ∀ y, i ≤ y → y ≤ j → came[y]? = some 8)) : (mk came side m i l)[j]? = l[j]? := by
  induction m generalizing i l with
  | zero => rfl
  | succ m ih =>
    unfold mk
    split
    · rename_i h8
      have hne : i ≠ j := fun e => h ⟨by omega, fun y h1 h2 => by
        have : y = i := by omega
        rw [this]
        exact h8⟩
      rw [ih fun ⟨h1, h2⟩ => h ⟨by omega, fun y h3 h4 => by
        by_cases e : y = i
        · rw [e]
          exact h8
        · exact h2 y (by omega) h4⟩, List.getElem?_set_ne hne]
    · rfl
theorem bec_on (hj : j < l.length) (h : Rch came i j) : (bec came l i side)[j]? = some side := by
  by_cases e : i = j
  · subst e
    exact bec_self hj
  · unfold bec
    have := h.1
    exact mk_on (by omega) (by omega) (by rw [List.length_set]; exact hj) fun y h1 h2 => h.2 y (by omega) h2
theorem bec_off (h : ¬ Rch came i j) : (bec came l i side)[j]? = l[j]? := by
  have hne : i ≠ j := fun e => h ⟨by omega, fun y h1 h2 => by omega⟩
  unfold bec
  rw [mk_off fun ⟨h1, h2⟩ => h ⟨by omega, fun y h3 h4 => h2 y (by omega) h4⟩, List.getElem?_set_ne hne]
/-- Where all that a place reaches is the side, nothing turns. -/
theorem bec_idle (h : ∀ x, x < out.length → Rch came i x → out[x]? = some side) : bec came out i side = out := by
  refine List.ext_getElem? fun x => ?_
  by_cases hx : x < out.length
  · by_cases hr : Rch came i x
    · rw [bec_on hx hr, h x hx hr]
    · exact bec_off hr
  · rw [List.getElem?_eq_none (by rw [bec_len]; omega), List.getElem?_eq_none (by omega)]
/-- The code's way: a place that is the side stays. -/
def cset (came out : List Int) (at_ : Nat) (side : Int) : List Int := if out[at_]? = some side then out else bec came out at_ side
structure JInv (came l : List Int) (ms : List (Int × Int)) (k : Nat) (out : List Int) : Prop where
  tch : ∀ z, l[z]? = some 13 → out[z]? ≠ some 13 → ∃ t p q : Nat, t < k ∧ (prs l ms)[t]? = some ((p : Int), (q : Int)) ∧ (Rch came p z ∨ Rch came q z)
  uni : ∀ z, (∀ t p q : Nat, t < k → (prs l ms)[t]? = some ((p : Int), (q : Int)) → p < z) → l[z]? = some 13 → out[z]? ≠ some 13 → ∀ x, x < l.length → Rch came z x → out[x]? = out[z]?
theorem JInv.zero : JInv came l ms 0 l := ⟨fun _ h h' => absurd h h', fun _ _ h h' => absurd h h'⟩
theorem before {t p' q' : Nat} (h : (prs l ms)[k]? = some ((p : Int), (q : Int))) (ht : t < k) (h' : (prs l ms)[t]? = some ((p' : Int), (q' : Int))) : p' < p ∧ (q < q' ∨ q' < p) := by
  have := prs_nested h' h ht
  dsimp only at this
  omega
theorem prs_places (h : (prs l ms)[k]? = some ((p : Int), (q : Int))) : p < q ∧ q < l.length ∧ l[p]? = some 13 ∧ l[q]? = some 13 := by
  obtain ⟨p', q', e, h1, h2, -, h3, h4, -⟩ := prs_at h
  injection e with e1 e2
  obtain rfl := Int.ofNat_inj.1 e1
  obtain rfl := Int.ofNat_inj.1 e2
  exact ⟨h1, h2, h3, h4⟩
theorem JInv.next (h : JInv came l ms k out) (hl : out.length = l.length) (hk : (prs l ms)[k]? = some ((p : Int), (q : Int))) : JInv came l ms (k + 1) (bec came (bec came out p to) q to) := by
  obtain ⟨hpq, hq, hlp, hlq⟩ := prs_places hk
  have on : ∀ z, z < l.length → Rch came p z ∨ Rch came q z → (bec came (bec came out p to) q to)[z]? = some to := fun z hz hr => by
    by_cases hrq : Rch came q z
    · exact bec_on (by rw [bec_len, hl]; exact hz) hrq
    · rw [bec_off hrq]
      exact bec_on (by rw [hl]; exact hz) (hr.resolve_right hrq)
  have off : ∀ z, ¬ Rch came p z → ¬ Rch came q z → (bec came (bec came out p to) q to)[z]? = out[z]? := fun z h1 h2 => by rw [bec_off h2, bec_off h1]
  refine ⟨fun z h13 hne => ?_, fun z hz h13 hne x hx hr => ?_⟩
  · by_cases h1 : Rch came p z
    · exact ⟨k, p, q, by omega, hk, .inl h1⟩
    · by_cases h2 : Rch came q z
      · exact ⟨k, p, q, by omega, hk, .inr h2⟩
      · rw [off z h1 h2] at hne
        obtain ⟨t, p', q', ht, h3, h4⟩ := h.tch z h13 hne
        exact ⟨t, p', q', by omega, h3, h4⟩
  · have hzl : z < l.length := (List.getElem?_eq_some_iff.1 h13).1
    have hpz : p < z := hz k p q (by omega) hk
    by_cases h1 : Rch came p z
    · rw [on z hzl (.inl h1), on x hx (.inl (h1.trans hr))]
    · by_cases h2 : Rch came q z
      · rw [on z hzl (.inr h2), on x hx (.inr (h2.trans hr))]
      · rw [off z h1 h2] at hne ⊢
        have hzx := hr.1
        have h3 : ¬ Rch came p x := fun h3 => h1 (h3.shorter (by omega) hzx)
        have h4 : ¬ Rch came q x := fun h4 => by
          have hqx := h4.1
          by_cases e : q ≤ z
          · exact h2 (h4.shorter e hzx)
          · obtain ⟨t, p', q', ht, h5, h6⟩ := h.tch z h13 hne
            obtain ⟨h7, h8⟩ := before hk ht h5
            rcases h6 with h6 | h6
            · exact h1 (h6.later (by omega) (by omega))
            · have := h6.1
              rcases h8 with h8 | h8
              · omega
              · exact h1 (h6.later (by omega) (by omega))
        rw [off x h3 h4]
        exact h.uni z (fun t p' q' ht h5 => hz t p' q' (by omega) h5) h13 hne x hx hr
theorem JInv.more (h : JInv came l ms k out) : JInv came l ms (k + 1) out :=
  ⟨fun z h13 hne => by
    obtain ⟨t, p', q', ht, h3, h4⟩ := h.tch z h13 hne
    exact ⟨t, p', q', by omega, h3, h4⟩, fun z hz => h.uni z fun t p' q' ht h5 => hz t p' q' (by omega) h5⟩
/-- The first place of a pair. -/
theorem cset_fst (h : JInv came l ms k out) (hl : out.length = l.length) (hk : (prs l ms)[k]? = some ((p : Int), (q : Int))) (hto : to = 0 ∨ to = 1) : cset came out p to = bec came out p to := by
  obtain ⟨hpq, hq, hlp, hlq⟩ := prs_places hk
  unfold cset
  split
  · rename_i e
    refine (bec_idle fun x hx hr => ?_).symm
    rw [h.uni p (fun t p' q' ht h5 => (before hk ht h5).1) hlp (by rw [e]; intro e; injection e with e; omega) x (by omega) hr, e]
  · rfl
/-- And the second one. -/
theorem cset_snd (h : JInv came l ms k out) (hl : out.length = l.length) (hk : (prs l ms)[k]? = some ((p : Int), (q : Int))) (hto : to = 0 ∨ to = 1) : cset came (bec came out p to) q to = bec came (bec came out p to) q to := by
  obtain ⟨hpq, hq, hlp, hlq⟩ := prs_places hk
  unfold cset
  split
  · rename_i e
    refine (bec_idle fun x hx hr => ?_).symm
    rw [bec_len] at hx
    by_cases h1 : Rch came p x
    · exact bec_on hx h1
    · rw [bec_off h1]
      have h2 : ¬ Rch came p q := fun h2 => h1 (h2.trans hr)
      rw [bec_off h2] at e
      rw [h.uni q (fun t p' q' ht h5 => by have := (before hk ht h5).1; omega) hlq (by rw [e]; intro e; injection e with e; omega) x (by omega) hr, e]
  · rfl
theorem resTo_j (hk : k ≤ (prs l ms).length) : JInv came l ms k (resTo came l ms side other f k) := by
  induction k with
  | zero => exact JInv.zero
  | succ k ih =>
    have ha := List.getElem?_eq_getElem (l := prs l ms) (i := k) (by omega)
    obtain ⟨p, q, e, -⟩ := prs_at ha
    rw [resTo_succ ha, e]
    rw [e] at ha
    unfold res1
    dsimp only
    rw [Int.toNat_natCast, Int.toNat_natCast]
    split
    · exact (ih (by omega)).more
    · exact (ih (by omega)).next resTo_len ha
/-- What is ahead is a side, where the first one is. -/
theorem ahd_or (hf : f = 0 ∨ f = 1) (r : List Int) : ahd f r = 0 ∨ ahd f r = 1 := by
  induction r with
  | nil => exact hf
  | cons x r ih =>
    unfold ahd
    split
    · exact ih
    · rename_i h
      unfold sg at h ⊢
      split
      · exact .inr rfl
      · split
        · exact .inl rfl
        · rename_i h1 h2
          rw [if_neg h1, if_neg h2] at h
          exact absurd rfl h
/-- The code's way to what a pair becomes. -/
theorem toOf_is (hf : f = 0 ∨ f = 1) (hso : (side = 0 ∧ other = 1) ∨ (side = 1 ∧ other = 0)) : toOf side other f out p q = if btw side out (q - (p + 1)) (p + 1) = true then side else if btw other out (q - (p + 1)) (p + 1) = true then ahd f (out.take p).reverse else 13 := by
  unfold toOf
  split
  · rfl
  · split
    · have := ahd_or hf (out.take p).reverse
      split <;> omega
    · rfl
end
end Go.Proofs.Ytaiojghbknacjaa.M
