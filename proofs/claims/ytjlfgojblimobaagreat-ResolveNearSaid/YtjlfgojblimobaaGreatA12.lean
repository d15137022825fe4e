/- Isolates' ends: no two isolates have one; what stands in one is balanced. No program is read here. -/
/- Things in a row, some of which go on an earlier one: the first of each chain, what a chain has up to a place, and that it has no gap. No program is read here. -/
/- Level runs and sequences as plain functions: what each run is like, and how one run more makes the sequences grow. No program is read here. -/
/- Sequences as plain functions of the runs that are gone through: how one run more makes them grow, and which goes on which. No program is read here. -/
/- The contracts of package runs' isBase, begins, removed, side and fit. Conditions: side's levels are from 0 to a thousand; fit's slices read as lists, at most a thousand long. -/
/- The contract of package runs' fit. Condition: both slices read as lists, at most a thousand long. -/
import Derived.Test.YtjlfgojblimobaaGreatA01
import Derived.Test.YtjlfgojblimobaaGreatA02
import Derived.Test.YtjlfgojblimobaaGreatA03
section
namespace Go.Proofs.YtjlfgojblimobaaGreat.M

theorem opened_in {d c : Int} (hd : 0 ≤ d) (h : opened (1 + d) c ≠ 0) : 0 ≤ opened d c := by
  by_cases h22 : c = 22
  · subst h22
    rw [opened_22] at h ⊢
    omega
  · unfold opened
    rw [if_neg h22]
    split <;> omega
theorem endR_in : ∀ (r : List Int) {d : Int} {k : Nat}, 0 ≤ d → endR (1 + d) r = some k → ∃ x z, r = x ++ 22 :: z ∧ x.length = k ∧ bal d x := by
  intro r
  induction r with
  | nil => intro d k _ h; cases h
  | cons c r ih =>
    intro d k hd h
    unfold endR at h
    by_cases h10 : c = 10
    · rw [if_pos h10] at h; cases h
    · rw [if_neg h10] at h
      by_cases h0 : opened (1 + d) c = 0
      · rw [if_pos h0] at h
        injection h with h
        have h22 : c = 22 := by
          unfold opened at h0
          split at h0
          · split at h0
            · assumption
            · omega
          · split at h0
            · assumption
            · omega
        subst h22
        have hd0 : d = 0 := by rw [opened_22] at h0; omega
        subst hd0
        exact ⟨[], r, rfl, h, rfl⟩
      · rw [if_neg h0, Option.map_eq_some_iff] at h
        obtain ⟨j, hj, rfl⟩ := h
        have hin := opened_in hd h0
        rw [opened_add] at hj h0
        obtain ⟨x, z, rfl, rfl, hb⟩ := ih hin hj
        refine ⟨c :: x, z, rfl, rfl, h10, fun h22 => ?_, hb⟩
        subst h22
        rw [opened_22] at h0
        omega
theorem bal_one : ∀ (x : List Int) {d e : Int}, bal d x → bal e x → d = e := by
  intro x
  induction x with
  | nil => intro d e h1 h2; exact Eq.trans h1 (Eq.symm h2)
  | cons c x ih =>
    intro d e h1 h2
    have h3 := ih h1.2.2 h2.2.2
    have h4 := opened_add d 0 c
    have h5 := opened_add e 0 c
    rw [Int.add_zero] at h4 h5
    omega
theorem bal_part : ∀ (x y : List Int) {d : Int}, 0 ≤ d → bal d (x ++ y) → ∃ e, 0 ≤ e ∧ bal e y := by
  intro x
  induction x with
  | nil => intro y d hd h; exact ⟨d, hd, h⟩
  | cons c x ih =>
    intro y d hd h
    obtain ⟨h1, h2, h3⟩ := h
    refine ih y ?_ h3
    unfold opened
    by_cases h22 : c = 22
    · have := h2 h22
      (repeat' split) <;> omega
    · rw [if_neg h22]; split <;> omega
theorem endI_parts {l : List Int} {k e : Nat} (h : endI l k = e) : ∃ c x z, l = l.take k ++ c :: (x ++ 22 :: z) ∧ l[k]? = some c ∧ begins c = true ∧ e = k + 1 + x.length ∧ bal 0 x ∧ l.drop (k + 1) = x ++ 22 :: z := by
  unfold endI at h
  split at h
  · rename_i c hc
    by_cases hb : begins c = true
    · rw [if_pos hb] at h
      cases he : endR 1 (l.drop (k + 1)) with
      | none => rw [he] at h; simp only [] at h; omega
      | some j =>
        rw [he] at h
        simp only [] at h
        obtain ⟨x, z, hx, hl, hbal⟩ := endR_in (l.drop (k + 1)) (Int.le_refl 0) he
        refine ⟨c, x, z, ?_, hc, hb, by omega, hbal, hx⟩
        obtain ⟨hk, rfl⟩ := List.getElem?_eq_some_iff.1 hc
        rw [← hx, ← List.drop_eq_getElem_cons hk, List.take_append_drop]
    · rw [if_neg hb] at h; omega
  · omega
theorem endI_late (l : List Int) (k : Nat) : endI l k = -1 ∨ (k : Int) < endI l k := by
  unfold endI
  split
  · split
    · split
      · omega
      · omega
    · omega
  · omega
theorem endI_lt {l : List Int} {k : Nat} : endI l k < l.length := by
  unfold endI
  split
  · rename_i c hc
    have hk := (List.getElem?_eq_some_iff.1 hc).1
    split
    · split
      · rename_i j hj
        have := endR_lt hj
        rw [List.length_drop] at this
        omega
      · omega
    · omega
  · omega
theorem endI_one {l : List Int} {a b : Nat} (h : endI l a = endI l b) (h0 : 0 ≤ endI l a) : a = b := by
  have key : ∀ a b : Nat, a < b → endI l a = endI l b → 0 ≤ endI l a → False := by
    intro a b hab h h0
    obtain ⟨e, he⟩ : ∃ e : Nat, endI l a = e := ⟨(endI l a).toNat, by omega⟩
    obtain ⟨c, x, z, hl, hc, hb, hlen, hbal, hd⟩ := endI_parts he
    obtain ⟨c', x', z', hl', hc', hb', hlen', hbal', hd'⟩ := endI_parts (h ▸ he)
    -- the second begins within the first
    obtain ⟨n, hn⟩ : ∃ n, b = a + 1 + n := ⟨b - (a + 1), by omega⟩
    have e1 : (x ++ 22 :: z).drop (n + 1) = x' ++ 22 :: z' := by rw [← hd', ← hd, List.drop_drop]; congr 1; omega
    have e2 : (x ++ 22 :: z)[n]? = some c' := by rw [← hd, List.getElem?_drop, ← hc']; congr 1; omega
    have hnx : n < x.length := by omega
    have e3 : x[n]? = some c' := by rw [List.getElem?_append_left hnx] at e2; exact e2
    have e4 : x.drop (n + 1) ++ 22 :: z = x' ++ 22 :: z' := by
      rw [← e1, List.drop_append_of_le_length (by omega)]
    have e5 : x.drop (n + 1) = x' := List.append_inj_left e4 (by rw [List.length_drop]; omega)
    obtain ⟨hn', hcn⟩ := List.getElem?_eq_some_iff.1 e3
    have e6 : x = x.take n ++ c' :: x' := by
      rw [← e5, ← hcn, ← List.drop_eq_getElem_cons hn', List.take_append_drop]
    rw [e6] at hbal
    obtain ⟨d, hd0, hbd⟩ := bal_part _ _ (Int.le_refl 0) hbal
    have h3 := hbd.2.2
    rw [opened_begin hb'] at h3
    have := bal_one _ h3 hbal'
    omega
  rcases Nat.lt_trichotomy a b with h1 | h1 | h1
  · exact (key a b h1 h h0).elim
  · exact h1
  · exact (key b a h1 h.symm (h ▸ h0)).elim
end Go.Proofs.YtjlfgojblimobaaGreat.M
end

section
namespace Go.Proofs.YtjlfgojblimobaaGreat.M

section
variable (T F : Nat → Int)
def pv (t : Nat) : Option Nat := (List.range t).find? fun i => decide (T i = F t)
theorem pv_some {T F : Nat → Int} {t i : Nat} (h : pv T F t = some i) : i < t ∧ T i = F t := by
  unfold pv at h
  have h1 := List.mem_of_find?_eq_some h
  have h2 := List.find?_some h
  exact ⟨List.mem_range.1 h1, by simpa using h2⟩
theorem pv_none {T F : Nat → Int} {t : Nat} (h : pv T F t = none) : ∀ i, i < t → T i ≠ F t := by
  intro i hi
  unfold pv at h
  rw [List.find?_eq_none] at h
  have := h i (List.mem_range.2 hi)
  simpa using this
def hd (t : Nat) : Nat := match _h : pv T F t with
  | some i => hd i
  | none => t
termination_by t
decreasing_by exact (pv_some _h).1
end

structure Chains (T F : Nat → Int) (m : Nat) : Prop where
  up : ∀ i j, i < j → j < m → F i < F j
  one : ∀ i j, i < m → j < m → T i = T j → 0 ≤ T i → i = j
  f0 : ∀ i, i < m → 0 ≤ F i
  late : ∀ i, i < m → T i < 0 ∨ F i < T i

section
variable {T F : Nat → Int} {m : Nat}
theorem hd_some {t i : Nat} (h : pv T F t = some i) : hd T F t = hd T F i := by
  rw [hd]
  split
  · rename_i j hj
    rw [h] at hj
    injection hj with hj
    rw [hj]
  · rename_i hn
    rw [h] at hn
    cases hn
theorem hd_none {t : Nat} (h : pv T F t = none) : hd T F t = t := by
  rw [hd]
  split
  · rename_i j hj
    rw [h] at hj
    cases hj
  · rfl
theorem hd_le (t : Nat) : hd T F t ≤ t := by
  induction t using Nat.strongRecOn with
  | ind t ih =>
    cases h : pv T F t with
    | none => rw [hd_none h]; exact Nat.le_refl _
    | some i =>
      rw [hd_some h]
      have := ih i (pv_some h).1
      have := (pv_some h).1
      omega
theorem hd_head (t : Nat) : pv T F (hd T F t) = none := by
  induction t using Nat.strongRecOn with
  | ind t ih =>
    cases h : pv T F t with
    | none => rw [hd_none h]; exact h
    | some i => rw [hd_some h]; exact ih i (pv_some h).1
theorem Chains.f_one (hc : Chains T F m) {i j : Nat} (hi : i < m) (hj : j < m) (h : F i = F j) : i = j := by
  rcases Nat.lt_trichotomy i j with h1 | h1 | h1
  · have := hc.up i j h1 hj; omega
  · exact h1
  · have := hc.up j i h1 hi; omega
theorem Chains.pv_of (hc : Chains T F m) {i t : Nat} (ht : t < m) (hi : i < m) (h : T i = F t) : i < t ∧ pv T F t = some i := by
  have h0 := hc.f0 t ht
  have hit : i < t := by
    rcases hc.late i hi with h1 | h1
    · omega
    · rcases Nat.lt_trichotomy i t with h2 | h2 | h2
      · exact h2
      · subst h2; omega
      · have := hc.up t i h2 hi; omega
  refine ⟨hit, ?_⟩
  cases hp : pv T F t with
  | none => exact absurd h (pv_none hp i hit)
  | some j =>
    obtain ⟨hj, he⟩ := pv_some hp
    rw [hc.one j i (by omega) hi (by rw [he, h]) (by rw [he]; exact h0)]
theorem Chains.next (hc : Chains T F m) : ∀ j, j < m → ∀ q, q < j → hd T F q = hd T F j → ∃ s, pv T F s = some q ∧ s ≤ j := by
  intro j
  induction j using Nat.strongRecOn with
  | ind j ih =>
    intro hj q hq he
    cases hp : pv T F j with
    | none =>
      rw [hd_none hp] at he
      have := hd_le (T := T) (F := F) q
      omega
    | some p =>
      obtain ⟨hpj, hT⟩ := pv_some hp
      have hep := hd_some hp
      rcases Nat.lt_trichotomy q p with h1 | h1 | h1
      · obtain ⟨s, h2, h3⟩ := ih p hpj (by omega) q h1 (by rw [he, hep])
        exact ⟨s, h2, by omega⟩
      · subst h1
        exact ⟨j, hp, Nat.le_refl _⟩
      · obtain ⟨s, h2, h3⟩ := ih q hq (by omega) p h1 (by rw [he, hep])
        have h4 := (pv_some h2).2
        have := hc.f_one (i := s) (j := j) (by omega) hj (by rw [← h4, hT])
        omega
theorem Chains.gap (hc : Chains T F m) {t p : Nat} (ht : t < m) (h : pv T F t = some p) : ∀ j, p < j → j < t → hd T F j ≠ hd T F p := by
  intro j h1 h2 he
  obtain ⟨s, h3, h4⟩ := hc.next j (by omega) p h1 he.symm
  have := hc.f_one (i := s) (j := t) (by omega) ht (by rw [← (pv_some h3).2, (pv_some h).2])
  omega
theorem Chains.end_ (hc : Chains T F m) {c : Nat} (h : ∀ t, t < m → pv T F t ≠ some c) : ∀ j, c < j → j < m → hd T F j ≠ hd T F c := by
  intro j h1 h2 he
  obtain ⟨s, h3, h4⟩ := hc.next j h2 c h1 he.symm
  exact h s (by omega) h3

variable (T F) in
def heads (t : Nat) : List Nat := (List.range t).filter fun i => (pv T F i).isNone
variable (T F) in
def mem (t i : Nat) : List Nat := (List.range t).filter fun j => decide (hd T F j = i)
theorem heads_no {t : Nat} (h : pv T F t = none) : heads T F (t + 1) = heads T F t ++ [t] := by
  unfold heads; rw [List.range_succ, List.filter_append]; simp [h]
theorem heads_go {t i : Nat} (h : pv T F t = some i) : heads T F (t + 1) = heads T F t := by
  unfold heads; rw [List.range_succ, List.filter_append]; simp [h]
theorem mem_in {t i : Nat} (h : hd T F t = i) : mem T F (t + 1) i = mem T F t i ++ [t] := by
  unfold mem; rw [List.range_succ, List.filter_append]; simp [h]
theorem mem_out {t i : Nat} (h : hd T F t ≠ i) : mem T F (t + 1) i = mem T F t i := by
  unfold mem; rw [List.range_succ, List.filter_append]; simp [h]
theorem mem_first (t : Nat) : mem T F t t = [] := by
  unfold mem
  rw [List.filter_eq_nil_iff]
  intro j hj
  have := hd_le (T := T) (F := F) j
  have := List.mem_range.1 hj
  simp
  omega
theorem heads_len_le {i t : Nat} (h : i ≤ t) : ∃ r, heads T F t = heads T F i ++ r := by
  induction t with
  | zero => obtain rfl : i = 0 := by omega
            exact ⟨[], by simp⟩
  | succ t ih =>
    rcases Nat.lt_or_ge i (t + 1) with h1 | h1
    · obtain ⟨r, hr⟩ := ih (by omega)
      cases hp : pv T F t with
      | none => exact ⟨r ++ [t], by rw [heads_no hp, hr, List.append_assoc]⟩
      | some p => exact ⟨r, by rw [heads_go hp, hr]⟩
    · obtain rfl : i = t + 1 := by omega
      exact ⟨[], by simp⟩
theorem heads_at {i t : Nat} (h : i < t) (hp : pv T F i = none) : (heads T F t)[(heads T F i).length]? = some i := by
  obtain ⟨r, hr⟩ := heads_len_le (T := T) (F := F) (show i + 1 ≤ t from h)
  rw [hr, heads_no hp, List.append_assoc, List.getElem?_append_right (Nat.le_refl _)]
  simp
theorem heads_lt {t x : Nat} (h : x ∈ heads T F t) : x < t ∧ pv T F x = none := by
  unfold heads at h
  rw [List.mem_filter] at h
  exact ⟨List.mem_range.1 h.1, by simpa using h.2⟩
theorem heads_nodup (t : Nat) : (heads T F t).Nodup := List.filter_sublist.nodup List.nodup_range
theorem mem_far {c t i : Nat} (h : c ≤ t) (hn : ∀ j, c ≤ j → j < t → hd T F j ≠ i) : mem T F t i = mem T F c i := by
  induction t with
  | zero => obtain rfl : c = 0 := by omega
            rfl
  | succ t ih =>
    rcases Nat.lt_or_ge c (t + 1) with h1 | h1
    · rw [mem_out (hn t (by omega) (by omega)), ih (by omega) (fun j h2 h3 => hn j h2 (by omega))]
    · obtain rfl : c = t + 1 := by omega
      rfl
theorem Chains.mem_next (hc : Chains T F m) {t p : Nat} (ht : t < m) (h : pv T F t = some p) : mem T F t (hd T F p) = mem T F p (hd T F p) ++ [p] := by
  rw [← mem_in rfl]
  exact mem_far (pv_some h).1 (fun j h1 h2 => hc.gap ht h j (by omega) h2)
theorem Chains.mem_end (hc : Chains T F m) {c : Nat} (hcm : c < m) (h : ∀ t, t < m → pv T F t ≠ some c) : mem T F m (hd T F c) = mem T F c (hd T F c) ++ [c] := by
  rw [← mem_in rfl]
  exact mem_far hcm (fun j h1 h2 => hc.end_ h j (by omega) h2)
end
end Go.Proofs.YtjlfgojblimobaaGreat.M
end

section
namespace Go.Proofs.YtjlfgojblimobaaGreat.M

structure Rn where
  pl : List Int
  lv : Int
  ah : Int
  be : Int
structure Sq where
  pl : List Int
  lv : Int
  fi : Int
  la : Int
def cutR (b : Int) : Nat → Rn → List Int → List Rn
  | _, c, [] => if c.pl = [] then [] else [{ c with be := b }]
  | i, c, x :: r => if x = -1 then cutR b (i + 1) c r
    else if c.pl ≠ [] ∧ x ≠ c.lv then { c with be := x } :: cutR b (i + 1) ⟨[(i : Int)], x, c.lv, 0⟩ r
    else cutR b (i + 1) ⟨c.pl ++ [(i : Int)], x, c.ah, c.be⟩ r
def runs (lv : List Int) (b : Int) : List Rn := cutR b 0 ⟨[], 0, b, 0⟩ lv
def near (b : Int) : List Int → Int
  | [] => b
  | x :: r => if x = -1 then near b r else x
def idxs : Nat → List Int → List Int
  | _, [] => []
  | i, x :: r => if x = -1 then idxs (i + 1) r else (i : Int) :: idxs (i + 1) r
def Rn.fs (r : Rn) : Int := r.pl.headD 0
def Rn.ls (r : Rn) : Int := r.pl.getLastD 0
structure RnOk (b : Int) (lv : List Int) (r : Rn) : Prop where
  ne : r.pl ≠ []
  at_ : ∀ p ∈ r.pl, ∃ j : Nat, p = j ∧ lv[j]? = some r.lv
  no : r.lv ≠ -1
  ah : r.ah = near b (lv.take r.fs.toNat).reverse
  be : r.be = near b (lv.drop (r.ls.toNat + 1))
structure CurOk (b : Int) (lv : List Int) (k : Nat) (c : Rn) : Prop where
  none : c.pl = [] → c.ah = near b (lv.take k).reverse
  at_ : ∀ p ∈ c.pl, ∃ j : Nat, p = j ∧ j < k ∧ lv[j]? = some c.lv
  no : c.pl ≠ [] → c.lv ≠ -1
  ah : c.pl ≠ [] → c.ah = near b (lv.take c.fs.toNat).reverse
  bk : c.pl ≠ [] → ∀ d, near d (lv.take k).reverse = c.lv
  fw : c.pl ≠ [] → ∀ d, near d (lv.drop (c.ls.toNat + 1)) = near d (lv.drop k)
theorem take_next {lv : List Int} {k : Nat} {x : Int} (h : lv[k]? = some x) : (lv.take (k + 1)).reverse = x :: (lv.take k).reverse := by
  obtain ⟨hk, rfl⟩ := List.getElem?_eq_some_iff.1 h
  rw [List.take_succ_eq_append_getElem hk]
  simp
theorem drop_next {lv : List Int} {k : Nat} {x : Int} (h : lv[k]? = some x) : lv.drop k = x :: lv.drop (k + 1) := by
  obtain ⟨hk, rfl⟩ := List.getElem?_eq_some_iff.1 h
  exact List.drop_eq_getElem_cons hk
theorem near_gap (d : Int) (r : List Int) : near d ((-1) :: r) = near d r := by unfold near; rw [if_pos rfl]; cases r <;> rfl
theorem near_on {d x : Int} {r : List Int} (h : x ≠ -1) : near d (x :: r) = x := by unfold near; rw [if_neg h]
section
variable {b : Int} {lv : List Int} {k : Nat} {c : Rn} {x : Int}
theorem CurOk.first (b : Int) (lv : List Int) : CurOk b lv 0 ⟨[], 0, b, 0⟩ :=
  ⟨fun _ => by simp [near], fun p hp => (by cases hp), fun h => absurd rfl h, fun h => absurd rfl h, fun h => absurd rfl h, fun h => absurd rfl h⟩
theorem CurOk.skip (h : CurOk b lv k c) (hx : lv[k]? = some (-1)) : CurOk b lv (k + 1) c := by
  refine ⟨fun hn => ?_, fun p hp => ?_, h.no, h.ah, fun hn d => ?_, fun hn d => ?_⟩
  · rw [take_next hx, near_gap, h.none hn]
  · obtain ⟨j, h1, h2, h3⟩ := h.at_ p hp
    exact ⟨j, h1, by omega, h3⟩
  · rw [take_next hx, near_gap, h.bk hn]
  · rw [h.fw hn, drop_next hx, near_gap]
theorem CurOk.part (h : CurOk b lv k c) (hx : lv[k]? = some x) (h1 : x ≠ -1) (hn : c.pl ≠ []) : CurOk b lv (k + 1) ⟨[(k : Int)], x, c.lv, 0⟩ := by
  refine ⟨fun h => (by cases h), fun p hp => ?_, fun _ => h1, fun _ => ?_, fun _ d => ?_, fun _ d => ?_⟩
  · obtain rfl := List.mem_singleton.1 hp
    exact ⟨k, rfl, by omega, hx⟩
  · show c.lv = near b (lv.take ((k : Int)).toNat).reverse
    rw [Int.toNat_natCast, h.bk hn]
  · rw [take_next hx, near_on h1]
  · show near d (lv.drop (((k : Int)).toNat + 1)) = _
    rw [Int.toNat_natCast]
theorem fs_snoc {l : List Int} {y : Int} (h : l ≠ []) : (l ++ [y]).headD 0 = l.headD 0 := by
  cases l with
  | nil => exact absurd rfl h
  | cons a l => rfl
theorem ls_snoc {l : List Int} {y : Int} : (l ++ [y]).getLastD 0 = y := by simp [List.getLastD_eq_getLast?]
theorem CurOk.more (h : CurOk b lv k c) (hx : lv[k]? = some x) (h1 : x ≠ -1) (hn : c.pl = [] ∨ x = c.lv) : CurOk b lv (k + 1) ⟨c.pl ++ [(k : Int)], x, c.ah, c.be⟩ := by
  refine ⟨fun h => by simp at h, fun p hp => ?_, fun _ => h1, fun _ => ?_, fun _ d => ?_, fun _ d => ?_⟩
  · rcases List.mem_append.1 hp with hp | hp
    · obtain ⟨j, h2, h3, h4⟩ := h.at_ p hp
      rcases hn with hn | hn
      · rw [hn] at hp; cases hp
      · exact ⟨j, h2, by omega, by rw [hn]; exact h4⟩
    · obtain rfl := List.mem_singleton.1 hp
      exact ⟨k, rfl, by omega, hx⟩
  · show c.ah = near b (lv.take ((c.pl ++ [(k : Int)]).headD 0).toNat).reverse
    by_cases he : c.pl = []
    · rw [he, h.none he]
      simp
    · rw [fs_snoc he, h.ah he]
      rfl
  · rw [take_next hx, near_on h1]
  · show near d (lv.drop (((c.pl ++ [(k : Int)]).getLastD 0).toNat + 1)) = _
    rw [ls_snoc, Int.toNat_natCast]
theorem CurOk.done (h : CurOk b lv k c) (hn : c.pl ≠ []) {y : Int} (hy : near b (lv.drop k) = y) : RnOk b lv { c with be := y } :=
  ⟨hn, fun p hp => by obtain ⟨j, h1, _, h3⟩ := h.at_ p hp; exact ⟨j, h1, h3⟩, h.no hn, h.ah hn, by show y = near b (lv.drop (c.ls.toNat + 1)); rw [h.fw hn, hy]⟩
end
theorem cut_ok {b : Int} {lv : List Int} : ∀ (r : List Int) (k : Nat) (c : Rn), r = lv.drop k → CurOk b lv k c → ∀ R ∈ cutR b k c r, RnOk b lv R := by
  intro r
  induction r with
  | nil =>
    intro k c hr h R hR
    unfold cutR at hR
    split at hR
    · cases hR
    · obtain rfl := List.mem_singleton.1 hR
      rename_i hn
      exact h.done hn (by rw [← hr]; rfl)
  | cons x r ih =>
    intro k c hr h R hR
    have hx : lv[k]? = some x := by
      have := congrArg (fun l => l[0]?) hr
      simp at this
      exact this.symm
    have hr' : r = lv.drop (k + 1) := by
      have := drop_next hx
      rw [this] at hr
      injection hr
    unfold cutR at hR
    split at hR
    · rename_i h1
      subst h1
      exact ih _ _ hr' (h.skip hx) R hR
    · rename_i h1
      split at hR
      · rename_i h2
        rcases List.mem_cons.1 hR with rfl | hR
        · exact h.done h2.1 (by rw [← hr, near_on h1])
        · exact ih _ _ hr' (h.part hx h1 h2.1) R hR
      · rename_i h2
        refine ih _ _ hr' (h.more hx h1 ?_) R hR
        by_cases he : c.pl = []
        · exact .inl he
        · exact .inr (by false_or_by_contra; rename_i h3; exact h2 ⟨he, h3⟩)
theorem runs_ok {b : Int} {lv : List Int} : ∀ R ∈ runs lv b, RnOk b lv R := cut_ok lv 0 _ rfl (CurOk.first b lv)
theorem cut_all {b : Int} : ∀ (r : List Int) (k : Nat) (c : Rn), (cutR b k c r).flatMap (·.pl) = c.pl ++ idxs k r := by
  intro r
  induction r with
  | nil =>
    intro k c
    unfold cutR idxs
    split
    · rename_i h; simp [h]
    · simp
  | cons x r ih =>
    intro k c
    unfold cutR idxs
    split
    · exact ih _ _
    · split
      · rw [List.flatMap_cons, ih]
        rfl
      · rw [ih]
        simp
theorem runs_all (lv : List Int) (b : Int) : (runs lv b).flatMap (·.pl) = idxs 0 lv := cut_all lv 0 _
theorem idxs_mem : ∀ (r : List Int) (k : Nat) (p : Int), p ∈ idxs k r ↔ ∃ j : Nat, p = ((k + j : Nat) : Int) ∧ ∃ x, r[j]? = some x ∧ x ≠ -1 := by
  intro r
  induction r with
  | nil => intro k p; simp [idxs]
  | cons x r ih =>
    intro k p
    unfold idxs
    constructor
    · intro h
      split at h
      · obtain ⟨j, hj, y, hy, hn⟩ := (ih _ _).1 h
        exact ⟨j + 1, by omega, y, hy, hn⟩
      · rename_i h1
        rcases List.mem_cons.1 h with rfl | h
        · exact ⟨0, rfl, x, rfl, h1⟩
        · obtain ⟨j, hj, y, hy, hn⟩ := (ih _ _).1 h
          exact ⟨j + 1, by omega, y, hy, hn⟩
    · rintro ⟨j, hj, y, hy, hn⟩
      cases j with
      | zero =>
        simp at hy
        subst hy
        rw [if_neg hn]
        exact List.mem_cons.2 (.inl hj)
      | succ j =>
        have : p ∈ idxs (k + 1) r := (ih _ _).2 ⟨j, by omega, y, by simpa using hy, hn⟩
        split
        · exact this
        · exact List.mem_cons_of_mem _ this
theorem idxs_up : ∀ (r : List Int) (k : Nat), (idxs k r).Pairwise (· < ·) := by
  intro r
  induction r with
  | nil => intro k; exact List.Pairwise.nil
  | cons x r ih =>
    intro k
    unfold idxs
    split
    · exact ih _
    · refine List.pairwise_cons.2 ⟨fun p hp => ?_, ih _⟩
      obtain ⟨j, hj, _⟩ := (idxs_mem _ _ _).1 hp
      omega
end Go.Proofs.YtjlfgojblimobaaGreat.M
end

section
namespace Go.Proofs.YtjlfgojblimobaaGreat.M

def rn (rs : List Rn) (i : Nat) : Rn := rs.getD i ⟨[], 0, 0, 0⟩
def sd (a b : Int) : Int := if max a b % 2 = 0 then 0 else 1
def goes (l : List Int) (rs : List Rn) (i : Nat) : Int := endI l (rn rs i).ls.toNat
def from_ (rs : List Rn) (i : Nat) : Int := (rn rs i).fs
def bh (l : List Int) (b : Int) (r : Rn) : Int := if begins (l.getD r.ls.toNat 0) = true then b else r.be
def sq (l : List Int) (b : Int) (rs : List Rn) (t i : Nat) : Sq :=
  ⟨(mem (goes l rs) (from_ rs) t i).flatMap fun j => (rn rs j).pl, (rn rs i).lv, sd (rn rs i).lv (rn rs i).ah, sd (rn rs i).lv (bh l b (rn rs ((mem (goes l rs) (from_ rs) t i).getLastD 0)))⟩
def sqs (l : List Int) (b : Int) (rs : List Rn) (t : Nat) : List Sq := (heads (goes l rs) (from_ rs) t).map (sq l b rs t)
def sqOf (l : List Int) (rs : List Rn) (i : Nat) : Nat := (heads (goes l rs) (from_ rs) (hd (goes l rs) (from_ rs) i)).length
def mp (l : List Int) (rs : List Rn) : Nat → Int → Option Nat
  | 0, _ => none
  | t + 1, e => if goes l rs t ≠ -1 ∧ e = goes l rs t then some (sqOf l rs t) else mp l rs t e
def Sq.with_ (l : List Int) (b : Int) (s : Sq) (r : Rn) : Sq := ⟨s.pl ++ r.pl, s.lv, s.fi, sd s.lv (bh l b r)⟩
def Sq.begun (r : Rn) : Sq := ⟨[], r.lv, sd r.lv r.ah, 0⟩

section
variable {l : List Int} {b : Int} {rs : List Rn}
theorem sqs_no {t : Nat} (h : pv (goes l rs) (from_ rs) t = none) : sqOf l rs t = (sqs l b rs t).length ∧ sqs l b rs (t + 1) = sqs l b rs t ++ [(Sq.begun (rn rs t)).with_ l b (rn rs t)] := by
  refine ⟨by unfold sqOf sqs; rw [hd_none h, List.length_map], ?_⟩
  unfold sqs
  rw [heads_no h, List.map_append]
  congr 1
  · refine List.map_congr_left fun i hi => ?_
    have h1 := (heads_lt hi).1
    unfold sq
    rw [mem_out (by rw [hd_none h]; omega)]
  · unfold sq
    rw [List.map_singleton, mem_in (hd_none h), mem_first]
    simp [Sq.with_, Sq.begun]
theorem sqs_go {t p : Nat} (h : pv (goes l rs) (from_ rs) t = some p) :
    sqOf l rs t = sqOf l rs p ∧ ∃ s, (sqs l b rs t)[sqOf l rs p]? = some s ∧ sqs l b rs (t + 1) = (sqs l b rs t).set (sqOf l rs p) (s.with_ l b (rn rs t)) := by
  have hpt := (pv_some h).1
  have hhd := hd_some h
  have h1 := heads_at (T := goes l rs) (F := from_ rs) (i := hd (goes l rs) (from_ rs) p) (t := t) (by have := hd_le (T := goes l rs) (F := from_ rs) p; omega) (hd_head p)
  refine ⟨by unfold sqOf; rw [hhd], sq l b rs t (hd (goes l rs) (from_ rs) p), by unfold sqs sqOf; rw [List.getElem?_map, h1]; rfl, ?_⟩
  refine List.ext_getElem? fun j => ?_
  unfold sqs
  rw [heads_go h, List.getElem?_map]
  by_cases hj : j = sqOf l rs p
  · subst hj
    have hlt : sqOf l rs p < ((heads (goes l rs) (from_ rs) t).map (sq l b rs t)).length := by
      rw [List.length_map]; exact (List.getElem?_eq_some_iff.1 h1).1
    rw [List.getElem?_set_self hlt]
    have h2 : (heads (goes l rs) (from_ rs) t)[sqOf l rs p]? = some (hd (goes l rs) (from_ rs) p) := h1
    rw [h2]
    simp only [Option.map_some]
    congr 1
    unfold sq Sq.with_
    rw [mem_in hhd, List.flatMap_append]
    simp
  · rw [List.getElem?_set_ne (fun e => hj e.symm), List.getElem?_map]
    cases hx : (heads (goes l rs) (from_ rs) t)[j]? with
    | none => rfl
    | some i =>
      simp only [Option.map_some]
      congr 1
      have hne : hd (goes l rs) (from_ rs) t ≠ i := fun e => by
        have hnd := heads_nodup (T := goes l rs) (F := from_ rs) t
        have h2 : (heads (goes l rs) (from_ rs) t)[sqOf l rs p]? = some i := by rw [← e, hhd]; exact h1
        exact hj ((List.getElem?_inj (List.getElem?_eq_some_iff.1 hx).1 hnd).1 (by rw [hx, h2]))
      unfold sq
      rw [mem_out hne]
theorem mp_none {e : Int} : ∀ t, (∀ i, i < t → goes l rs i ≠ e) → mp l rs t e = none := by
  intro t
  induction t with
  | zero => intro _; rfl
  | succ t ih =>
    intro h
    unfold mp
    rw [if_neg (fun k => h t (by omega) k.2.symm)]
    exact ih fun i hi => h i (by omega)
theorem mp_some {e : Int} {p : Nat} (he : e ≠ -1) (hp : goes l rs p = e) : ∀ t, p < t → (∀ i, i < t → goes l rs i = e → i = p) → mp l rs t e = some (sqOf l rs p) := by
  intro t
  induction t with
  | zero => intro h; omega
  | succ t ih =>
    intro h h1
    unfold mp
    by_cases ht : t = p
    · subst ht
      rw [if_pos ⟨by rw [hp]; exact he, hp.symm⟩]
    · rw [if_neg (fun k => ht (h1 t (by omega) k.2.symm))]
      exact ih (by omega) fun i hi => h1 i (by omega)
theorem mp_at {m t : Nat} (hc : Chains (goes l rs) (from_ rs) m) (ht : t < m) : mp l rs t (from_ rs t) = (pv (goes l rs) (from_ rs) t).map (sqOf l rs) := by
  have h0 := hc.f0 t ht
  cases h : pv (goes l rs) (from_ rs) t with
  | none => rw [mp_none t (pv_none h)]; rfl
  | some p =>
    obtain ⟨h1, h2⟩ := pv_some h
    rw [mp_some (by omega) h2 t h1 (fun i hi hg => hc.one i p (by omega) (by omega) (by rw [hg, h2]) (by omega))]
    rfl
theorem rn_mem {i : Nat} (h : i < rs.length) : rn rs i ∈ rs := by
  unfold rn
  rw [List.getD_eq_getElem?_getD, List.getElem?_eq_getElem h]
  exact List.getElem_mem h
theorem rn_at {i : Nat} {r : Rn} (h : rs[i]? = some r) : rn rs i = r := by
  unfold rn
  rw [List.getD_eq_getElem?_getD, h]
  rfl
end
theorem RnOk.fs_in {b : Int} {lv : List Int} {r : Rn} (h : RnOk b lv r) : r.fs ∈ r.pl := by
  have := h.ne
  unfold Rn.fs
  cases hp : r.pl with
  | nil => exact absurd hp this
  | cons x y => simp
theorem RnOk.ls_in {b : Int} {lv : List Int} {r : Rn} (h : RnOk b lv r) : r.ls ∈ r.pl := by
  have := h.ne
  unfold Rn.ls
  rw [List.getLastD_eq_getLast?, List.getLast?_eq_some_getLast this]
  exact List.getLast_mem this
theorem runs_apart (lv : List Int) (b : Int) : (∀ r ∈ runs lv b, r.pl.Pairwise (· < ·)) ∧ (runs lv b).Pairwise fun r s => ∀ x ∈ r.pl, ∀ y ∈ s.pl, x < y := by
  have h := idxs_up lv 0
  rw [← runs_all lv b, List.pairwise_flatMap] at h
  exact h
theorem rn_apart {lv : List Int} {b : Int} {i j : Nat} (h : i < j) (hj : j < (runs lv b).length) : ∀ x ∈ (rn (runs lv b) i).pl, ∀ y ∈ (rn (runs lv b) j).pl, x < y := by
  have h1 := List.pairwise_iff_getElem.1 (runs_apart lv b).2 i j (by omega) hj h
  rw [rn_at (List.getElem?_eq_getElem (by omega)), rn_at (List.getElem?_eq_getElem hj)]
  exact h1
theorem fs_le {r : Rn} (h : r.pl.Pairwise (· < ·)) : ∀ x ∈ r.pl, r.fs ≤ x := by
  intro x hx
  unfold Rn.fs
  cases hp : r.pl with
  | nil => rw [hp] at hx; cases hx
  | cons y z =>
    rw [hp] at hx h
    rcases List.mem_cons.1 hx with rfl | hx
    · exact Int.le_refl _
    · have := (List.pairwise_cons.1 h).1 x hx
      simp; omega
theorem runs_chains (l lv : List Int) (b : Int) : Chains (goes l (runs lv b)) (from_ (runs lv b)) (runs lv b).length := by
  have ok : ∀ i, i < (runs lv b).length → RnOk b lv (rn (runs lv b) i) := fun i hi => runs_ok _ (rn_mem hi)
  have nat : ∀ i, i < (runs lv b).length → ∀ p ∈ (rn (runs lv b) i).pl, 0 ≤ p := fun i hi p hp => by
    obtain ⟨j, rfl, _⟩ := (ok i hi).at_ p hp; omega
  refine ⟨fun i j h hj => rn_apart h hj _ (ok i (by omega)).fs_in _ (ok j hj).fs_in, fun i j hi hj h h0 => ?_, fun i hi => nat i hi _ (ok i hi).fs_in, fun i hi => ?_⟩
  · have h1 := endI_one h h0
    have h2 := nat i hi _ (ok i hi).ls_in
    have h3 := nat j hj _ (ok j hj).ls_in
    have h4 : (rn (runs lv b) i).ls = (rn (runs lv b) j).ls := by omega
    rcases Nat.lt_trichotomy i j with h5 | h5 | h5
    · have := rn_apart h5 hj _ (ok i hi).ls_in _ (ok j hj).ls_in; omega
    · exact h5
    · have := rn_apart h5 hi _ (ok j hj).ls_in _ (ok i hi).ls_in; omega
  · have h2 := nat i hi _ (ok i hi).ls_in
    have h1 := fs_le ((runs_apart lv b).1 _ (rn_mem hi)) _ (ok i hi).ls_in
    unfold goes from_
    have := endI_late l (rn (runs lv b) i).ls.toNat
    omega
structure Fits (l lv : List Int) (b : Int) : Prop where
  base : b = 0 ∨ b = 1
  len : l.length = lv.length
  at_ : ∀ (i : Nat) (c x : Int), l[i]? = some c → lv[i]? = some x → -1 ≤ x ∧ x ≤ 125 ∧ (x = -1 ↔ removed c = true)
def seqs (l lv : List Int) (b : Int) : List Sq := sqs l b (runs lv b) (runs lv b).length
end Go.Proofs.YtjlfgojblimobaaGreat.M
end

section
namespace Go.Proofs.YtjlfgojblimobaaGreat
open Go.RowKit
set_option maxRecDepth 100000

theorem isBase_any (b : Int) (w : World) : Calls Tryz.prog 68 #[.int .i64 b] w fun r w' => r = .returned (.bool (decide (b = 0) || decide (b = 1))) ∧ w = w' := by
  go_enter Tryz.func68, Tryz.ntmps68
  go_wp2_with fail
  all_goals
    go_ret
    exact ⟨ret_bool (by rw [Bool.eq_iff_iff]; simp_all), rfl⟩
theorem rbegins_any (c : Int) (w : World) : Calls Tryz.prog 73 #[.int .i64 c] w fun r w' => r = .returned (.bool (M.begins c)) ∧ w = w' := by
  have H := Lib.hid (show M.begins c = (decide (c = 19) || (decide (c = 20) || decide (c = 21))) from rfl)
  go_enter Tryz.func73, Tryz.ntmps73
  go_wp2_with fail
  all_goals
    go_ret
    exact ⟨ret_bool (by rw [H.out, Bool.eq_iff_iff]; simp_all), rfl⟩
theorem rremoved_any (c : Int) (w : World) : Calls Tryz.prog 107 #[.int .i64 c] w fun r w' => r = .returned (.bool (M.removed c)) ∧ w = w' := by
  have H := Lib.hid (show M.removed c = (decide (c = 14) || (decide (c = 16) || (decide (c = 15) || (decide (c = 17) || (decide (c = 18) || decide (c = 9)))))) from rfl)
  go_enter Tryz.func107, Tryz.ntmps107
  go_wp2_with fail
  all_goals
    go_ret
    exact ⟨ret_bool (by rw [H.out, Bool.eq_iff_iff]; simp_all), rfl⟩
theorem rside_any (a b : Int) (w : World) (ha : 0 ≤ a) (ha1 : a ≤ 1000) (hb : 0 ≤ b) (hb1 : b ≤ 1000) : Calls Tryz.prog 72 #[.int .i64 a, .int .i64 b] w fun r w' => r = .returned (.int .i64 (M.sd a b)) ∧ w = w' := by
  have H := Lib.hid (show M.sd a b = if max a b % 2 = 0 then 0 else 1 from rfl)
  rcases Int.lt_or_le a b with h | h
  · rw [Int.max_eq_right (by omega)] at H
    rcases Int.emod_two_eq b with h2 | h2
    · go_enter Tryz.func72, Tryz.ntmps72
      go_wp2_with fail
      go_ret
      exact ⟨ret_int (by rw [H.out, if_pos h2]), rfl⟩
    · go_enter Tryz.func72, Tryz.ntmps72
      go_wp2_with fail
      go_ret
      exact ⟨ret_int (by rw [H.out, if_neg (by omega)]), rfl⟩
  · rw [Int.max_eq_left (by omega)] at H
    rcases Int.emod_two_eq a with h2 | h2
    · go_enter Tryz.func72, Tryz.ntmps72
      go_wp2_with fail
      go_ret
      exact ⟨ret_int (by rw [H.out, if_pos h2]), rfl⟩
    · go_enter Tryz.func72, Tryz.ntmps72
      go_wp2_with fail
      go_ret
      exact ⟨ret_int (by rw [H.out, if_neg (by omega)]), rfl⟩
end Go.Proofs.YtjlfgojblimobaaGreat
end

section
namespace Go.Proofs.YtjlfgojblimobaaGreat
open Go.RowKit
set_option maxRecDepth 100000

def M.okc (c x : Int) : Prop := -1 ≤ x ∧ x ≤ 125 ∧ (x = -1 ↔ M.removed c = true)
def M.FitTo (l lv : List Int) (k : Nat) : Prop := ∀ (i : Nat) (c x : Int), i < k → l[i]? = some c → lv[i]? = some x → M.okc c x
theorem M.FitTo.next {l lv : List Int} {k : Nat} {c x : Int} (h : M.FitTo l lv k) (hc : l[k]? = some c) (hx : lv[k]? = some x) (ho : M.okc c x) : M.FitTo l lv (k + 1) := fun i c' x' hi hc' hx' => by
  rcases Nat.lt_or_ge i k with h1 | h1
  · exact h i c' x' h1 hc' hx'
  · obtain rfl : i = k := by omega
    rw [hc] at hc'
    rw [hx] at hx'
    obtain rfl := Option.some.inj hc'
    obtain rfl := Option.some.inj hx'
    exact ho
def M.FitL (l lv : List Int) : Prop := l.length = lv.length ∧ M.FitTo l lv lv.length
theorem M.fits_iff {l lv : List Int} {b : Int} : M.Fits l lv b ↔ (b = 0 ∨ b = 1) ∧ M.FitL l lv :=
  ⟨fun h => ⟨h.base, h.len, fun i c x _ hc hx => h.at_ i c x hc hx⟩, fun h => ⟨h.1, h.2.1, fun i c x hc hx => h.2.2 i c x ((List.getElem?_eq_some_iff.1 hx).1) hc hx⟩⟩
def Tells (p : Prop) (w : World) (r : Ending) (w' : World) : Prop := ∃ b : Bool, r = .returned (.bool b) ∧ (b = true ↔ p) ∧ w = w'
set_option maxHeartbeats 4000000 in
theorem fit_any (A B : Option Addr) (ca cb n m : Nat) (l lv : List Int) (w : World) (hr : RdS .i64 w w.heap.size A l) (hn : l.length = n) (hl : n ≤ 1000) (hr2 : RdS .i64 w w.heap.size B lv) (hm : lv.length = m) (hl2 : m ≤ 1000) :
    Calls Tryz.prog 69 #[.slice A n ca, .slice B m cb] w (Tells (M.FitL l lv) w) := by
  have HR := Lib.hid hr
  have HR2 := Lib.hid hr2
  have HN := Lib.hid hn
  have HM := Lib.hid hm
  have hl1 : (n : Int) ≤ 1000 := by omega
  clear hr hr2 hn hm
  by_cases hnm : n = m
  · subst hnm
    go_enter Tryz.func69, Tryz.ntmps69
    go_wp2_with fail
    go_loop [14] (fun v => ∃ k : Nat, k ≤ n ∧ v = .int .i64 k ∧ M.FitTo l lv k) (fun v => n - (intOf v).toNat)
    case atStart => exact ⟨0, Nat.zero_le _, rfl, fun i _ _ hi => by omega⟩
    case round =>
      obtain ⟨k, hk, rfl, hto⟩ := hrel
      have HT := Lib.hid hto
      have hk0 : (0 : Int) ≤ (k : Int) := by omega
      clear hto
      by_cases hlt : k < n
      · obtain ⟨ad, c, rfl, hcc, hc, -⟩ := rd_at HR.out (Below.refl _ _) (by rw [HN.out]; exact hlt : k < l.length)
        obtain ⟨ad2, x, rfl, hcx, hx, -⟩ := rd_at HR2.out (Below.refl _ _) (by rw [HM.out]; exact hlt : k < lv.length)
        have hk1 : (k : Int) < (n : Int) := by omega
        have HC := Lib.hid hc
        have HX := Lib.hid hx
        have HRM := Lib.hid (rremoved_any c w)
        obtain ⟨b, hb⟩ : ∃ b, M.removed c = b := ⟨_, rfl⟩
        rw [hb] at HRM
        have HB := Lib.hid hb
        clear hc hx hb
        by_cases h1 : x < -1
        · have HF := Lib.hid (show ¬ M.FitL l lv from fun h => by have := (h.2 k c x (by rw [HM.out]; omega) HC.out HX.out).1; omega)
          go_wp2_with fail
          go_ret
          exact ⟨false, rfl, ⟨fun h => by (cases h), fun h => absurd h HF.out⟩, rfl⟩
        · by_cases h2 : 125 < x
          · have HF := Lib.hid (show ¬ M.FitL l lv from fun h => by have := (h.2 k c x (by rw [HM.out]; omega) HC.out HX.out).2.1; omega)
            go_wp2_with fail
            go_ret
            exact ⟨false, rfl, ⟨fun h => by (cases h), fun h => absurd h HF.out⟩, rfl⟩
          · by_cases h3 : x = -1
            · subst h3
              cases b with
              | true =>
                have HT2 := Lib.hid (HT.out.next HC.out HX.out ⟨by omega, by omega, by simp [HB.out]⟩)
                go_wp2_with fail
                refine HRM.out.mono ?_
                rintro r w1 ⟨rfl, rfl⟩
                go_wp2_with fail
                go_round
                case rel => exact ⟨k + 1, by omega, by go_num, HT2.out⟩
                case measure => simp [intOf]; omega
              | false =>
                have HF := Lib.hid (show ¬ M.FitL l lv from fun h => by have := (h.2 k c _ (by rw [HM.out]; omega) HC.out HX.out).2.2.1 rfl; rw [HB.out] at this; cases this)
                go_wp2_with fail
                refine HRM.out.mono ?_
                rintro r w1 ⟨rfl, rfl⟩
                go_wp2_with fail
                go_ret
                exact ⟨false, rfl, ⟨fun h => by (cases h), fun h => absurd h HF.out⟩, rfl⟩
            · have h3' : (x == -1) = false := by simp [h3]
              cases b with
              | true =>
                have HF := Lib.hid (show ¬ M.FitL l lv from fun h => by have := (h.2 k c _ (by rw [HM.out]; omega) HC.out HX.out).2.2.2 HB.out; omega)
                go_wp2_with fail
                refine HRM.out.mono ?_
                rintro r w1 ⟨rfl, rfl⟩
                go_wp2_with fail
                go_ret
                exact ⟨false, rfl, ⟨fun h => by (cases h), fun h => absurd h HF.out⟩, rfl⟩
              | false =>
                have HT2 := Lib.hid (HT.out.next HC.out HX.out ⟨by omega, by omega, by rw [HB.out]; simp [h3]⟩)
                go_wp2_with fail
                refine HRM.out.mono ?_
                rintro r w1 ⟨rfl, rfl⟩
                go_wp2_with fail
                go_round
                case rel => exact ⟨k + 1, by omega, by go_num, HT2.out⟩
                case measure => simp [intOf]; omega
      · obtain rfl : k = n := by omega
        have hk1 : ¬ (k : Int) < (k : Int) := by omega
        go_wp2_with fail
        go_ret
        exact ⟨true, rfl, ⟨fun _ => ⟨by rw [HN.out, HM.out], by rw [HM.out]; exact HT.out⟩, fun _ => rfl⟩, rfl⟩
  · have hnm' : ¬ (n : Int) = m := by omega
    have HF := Lib.hid (show ¬ M.FitL l lv from fun h => by have := h.1; rw [HN.out, HM.out] at this; exact hnm this)
    have hl21 : (m : Int) ≤ 1000 := by omega
    go_enter Tryz.func69, Tryz.ntmps69
    go_wp2_with fail
    go_ret
    exact ⟨false, rfl, ⟨fun h => by (cases h), fun h => absurd h HF.out⟩, rfl⟩
end Go.Proofs.YtjlfgojblimobaaGreat
end
