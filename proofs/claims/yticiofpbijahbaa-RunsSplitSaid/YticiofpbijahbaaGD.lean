/- Level runs and sequences as plain functions: what each run is like, and how one run more makes the sequences grow. No program is read here. -/
/- Sequences as plain functions of the runs that are gone through: how one run more makes them grow, and which goes on which. No program is read here. -/
import Derived.Test.YticiofpbijahbaaGC
section
/- Things in a row, some of which go on an earlier one: the first of each chain, what a chain has up to a place, and that it has no gap. No program is read here. -/
namespace Go.Proofs.Yticiofpbijahbaa.M

section
variable (T F : Nat → Int)
/-- Which one a thing goes on. -/
def pv (t : Nat) : Option Nat := (List.range t).find? fun i => decide (T i = F t)
theorem pv_some {T F : Nat → Int} {t i : Nat} (h : pv T F t = some i) : i < t ∧ T i = F t := by
  unfold pv at h
  have h1 := List.mem_of_find?_eq_some h
  have h2 := List.find?_some h
  exact ⟨List.mem_range.1 h1, by simpa using h2⟩
theorem pv_none {T F : Nat → Int} {t : Nat} (h : pv T F t = none) : ∀ i, i < t → T i ≠ F t := by
  intro i hi
  unfold pv at h
  rw [List.find?_eq_none] at h
  have := h i (List.mem_range.2 hi)
  simpa using this
/-- The first one of a thing's chain. -/
def hd (t : Nat) : Nat := match _h : pv T F t with
  | some i => hd i
  | none => t
termination_by t
decreasing_by exact (pv_some _h).1
end

/-- What makes chains plain. -/
structure Chains (T F : Nat → Int) (m : Nat) : Prop where
  up : ∀ i j, i < j → j < m → F i < F j
  one : ∀ i j, i < m → j < m → T i = T j → 0 ≤ T i → i = j
  f0 : ∀ i, i < m → 0 ≤ F i
  late : ∀ i, i < m → T i < 0 ∨ F i < T i

section
variable {T F : Nat → Int} {m : Nat}
theorem hd_some {t i : Nat} (h : pv T F t = some i) : hd T F t = hd T F i := by
  rw [hd]
  split
  · rename_i j hj
    rw [h] at hj
    injection hj with hj
    rw [hj]
  · rename_i hn
    rw [h] at hn
    cases hn
theorem hd_none {t : Nat} (h : pv T F t = none) : hd T F t = t := by
  rw [hd]
  split
  · rename_i j hj
    rw [h] at hj
    cases hj
  · rfl
theorem hd_le (t : Nat) : hd T F t ≤ t := by
  induction t using Nat.strongRecOn with
  | ind t ih =>
    cases h : pv T F t with
    | none => rw [hd_none h]; exact Nat.le_refl _
    | some i =>
      rw [hd_some h]
      have := ih i (pv_some h).1
      have := (pv_some h).1
      omega
theorem hd_head (t : Nat) : pv T F (hd T F t) = none := by
  induction t using Nat.strongRecOn with
  | ind t ih =>
    cases h : pv T F t with
    | none => rw [hd_none h]; exact h
    | some i => rw [hd_some h]; exact ih i (pv_some h).1
theorem Chains.f_one (hc : Chains T F m) {i j : Nat} (hi : i < m) (hj : j < m) (h : F i = F j) : i = j := by
  rcases Nat.lt_trichotomy i j with h1 | h1 | h1
  · have := hc.up i j h1 hj; omega
  · exact h1
  · have := hc.up j i h1 hi; omega
theorem Chains.pv_of (hc : Chains T F m) {i t : Nat} (ht : t < m) (hi : i < m) (h : T i = F t) : i < t ∧ pv T F t = some i := by
  have h0 := hc.f0 t ht
  have hit : i < t := by
    rcases hc.late i hi with h1 | h1
    · omega
    · rcases Nat.lt_trichotomy i t with h2 | h2 | h2
      · exact h2
      · subst h2; omega
      · have := hc.up t i h2 hi; omega
  refine ⟨hit, ?_⟩
  cases hp : pv T F t with
  | none => exact absurd h (pv_none hp i hit)
  | some j =>
    obtain ⟨hj, he⟩ := pv_some hp
    rw [hc.one j i (by omega) hi (by rw [he, h]) (by rw [he]; exact h0)]
/-- Of two of one chain the first has one that goes on it, no later than the other. -/
theorem Chains.next (hc : Chains T F m) : ∀ j, j < m → ∀ q, q < j → hd T F q = hd T F j → ∃ s, pv T F s = some q ∧ s ≤ j := by
  intro j
  induction j using Nat.strongRecOn with
  | ind j ih =>
    intro hj q hq he
    cases hp : pv T F j with
    | none =>
      rw [hd_none hp] at he
      have := hd_le (T := T) (F := F) q
      omega
    | some p =>
      obtain ⟨hpj, hT⟩ := pv_some hp
      have hep := hd_some hp
      rcases Nat.lt_trichotomy q p with h1 | h1 | h1
      · obtain ⟨s, h2, h3⟩ := ih p hpj (by omega) q h1 (by rw [he, hep])
        exact ⟨s, h2, by omega⟩
      · subst h1
        exact ⟨j, hp, Nat.le_refl _⟩
      · obtain ⟨s, h2, h3⟩ := ih q hq (by omega) p h1 (by rw [he, hep])
        have h4 := (pv_some h2).2
        have := hc.f_one (i := s) (j := j) (by omega) hj (by rw [← h4, hT])
        omega
theorem Chains.gap (hc : Chains T F m) {t p : Nat} (ht : t < m) (h : pv T F t = some p) : ∀ j, p < j → j < t → hd T F j ≠ hd T F p := by
  intro j h1 h2 he
  obtain ⟨s, h3, h4⟩ := hc.next j (by omega) p h1 he.symm
  have := hc.f_one (i := s) (j := t) (by omega) ht (by rw [← (pv_some h3).2, (pv_some h).2])
  omega
theorem Chains.end_ (hc : Chains T F m) {c : Nat} (h : ∀ t, t < m → pv T F t ≠ some c) : ∀ j, c < j → j < m → hd T F j ≠ hd T F c := by
  intro j h1 h2 he
  obtain ⟨s, h3, h4⟩ := hc.next j h2 c h1 he.symm
  exact h s (by omega) h3

variable (T F) in
/-- The first ones of all chains, up to a place. -/
def heads (t : Nat) : List Nat := (List.range t).filter fun i => (pv T F i).isNone
variable (T F) in
/-- What one's chain has, up to a place. -/
def mem (t i : Nat) : List Nat := (List.range t).filter fun j => decide (hd T F j = i)
theorem heads_no {t : Nat} (h : pv T F t = none) : heads T F (t + 1) = heads T F t ++ [t] := by
  unfold heads; rw [List.range_succ, List.filter_append]; simp [h]
theorem heads_go {t i : Nat} (h : pv T F t = some i) : heads T F (t + 1) = heads T F t := by
  unfold heads; rw [List.range_succ, List.filter_append]; simp [h]
theorem mem_in {t i : Nat} (h : hd T F t = i) : mem T F (t + 1) i = mem T F t i ++ [t] := by
  unfold mem; rw [List.range_succ, List.filter_append]; simp [h]
theorem mem_out {t i : Nat} (h : hd T F t ≠ i) : mem T F (t + 1) i = mem T F t i := by
  unfold mem; rw [List.range_succ, List.filter_append]; simp [h]
theorem mem_first (t : Nat) : mem T F t t = [] := by
  unfold mem
  rw [List.filter_eq_nil_iff]
  intro j hj
  have := hd_le (T := T) (F := F) j
  have := List.mem_range.1 hj
  simp
  omega
theorem heads_len_le {i t : Nat} (h : i ≤ t) : ∃ r, heads T F t = heads T F i ++ r := by
  induction t with
  | zero => obtain rfl : i = 0 := by omega
            exact ⟨[], by simp⟩
  | succ t ih =>
    rcases Nat.lt_or_ge i (t + 1) with h1 | h1
    · obtain ⟨r, hr⟩ := ih (by omega)
      cases hp : pv T F t with
      | none => exact ⟨r ++ [t], by rw [heads_no hp, hr, List.append_assoc]⟩
      | some p => exact ⟨r, by rw [heads_go hp, hr]⟩
    · obtain rfl : i = t + 1 := by omega
      exact ⟨[], by simp⟩
/-- Where a first one stands among all. -/
theorem heads_at {i t : Nat} (h : i < t) (hp : pv T F i = none) : (heads T F t)[(heads T F i).length]? = some i := by
  obtain ⟨r, hr⟩ := heads_len_le (T := T) (F := F) (show i + 1 ≤ t from h)
  rw [hr, heads_no hp, List.append_assoc, List.getElem?_append_right (Nat.le_refl _)]
  simp
theorem heads_lt {t x : Nat} (h : x ∈ heads T F t) : x < t ∧ pv T F x = none := by
  unfold heads at h
  rw [List.mem_filter] at h
  exact ⟨List.mem_range.1 h.1, by simpa using h.2⟩
theorem heads_nodup (t : Nat) : (heads T F t).Nodup := List.filter_sublist.nodup List.nodup_range
theorem mem_lt {t i j : Nat} (h : j ∈ mem T F t i) : j < t ∧ hd T F j = i := by
  unfold mem at h
  rw [List.mem_filter] at h
  exact ⟨List.mem_range.1 h.1, by simpa using h.2⟩
theorem mem_far {c t i : Nat} (h : c ≤ t) (hn : ∀ j, c ≤ j → j < t → hd T F j ≠ i) : mem T F t i = mem T F c i := by
  induction t with
  | zero => obtain rfl : c = 0 := by omega
            rfl
  | succ t ih =>
    rcases Nat.lt_or_ge c (t + 1) with h1 | h1
    · rw [mem_out (hn t (by omega) (by omega)), ih (by omega) (fun j h2 h3 => hn j h2 (by omega))]
    · obtain rfl : c = t + 1 := by omega
      rfl
/-- What goes on a thing stands right behind it in the chain. -/
theorem Chains.mem_next (hc : Chains T F m) {t p : Nat} (ht : t < m) (h : pv T F t = some p) : mem T F t (hd T F p) = mem T F p (hd T F p) ++ [p] := by
  rw [← mem_in rfl]
  exact mem_far (pv_some h).1 (fun j h1 h2 => hc.gap ht h j (by omega) h2)
theorem Chains.mem_end (hc : Chains T F m) {c : Nat} (hcm : c < m) (h : ∀ t, t < m → pv T F t ≠ some c) : mem T F m (hd T F c) = mem T F c (hd T F c) ++ [c] := by
  rw [← mem_in rfl]
  exact mem_far hcm (fun j h1 h2 => hc.end_ h j (by omega) h2)
end
end Go.Proofs.Yticiofpbijahbaa.M
end

section
namespace Go.Proofs.Yticiofpbijahbaa.M

/-- A level run: its places, its level, and the levels that it stands between. -/
structure Rn where
  pl : List Int
  lv : Int
  ah : Int
  be : Int
/-- A sequence: its places, its level, its sides. -/
structure Sq where
  pl : List Int
  lv : Int
  fi : Int
  la : Int
/-- The runs of what is left, behind one that is begun. -/
def cutR (b : Int) : Nat → Rn → List Int → List Rn
  | _, c, [] => if c.pl = [] then [] else [{ c with be := b }]
  | i, c, x :: r => if x = -1 then cutR b (i + 1) c r
    else if c.pl ≠ [] ∧ x ≠ c.lv then { c with be := x } :: cutR b (i + 1) ⟨[(i : Int)], x, c.lv, 0⟩ r
    else cutR b (i + 1) ⟨c.pl ++ [(i : Int)], x, c.ah, c.be⟩ r
def runs (lv : List Int) (b : Int) : List Rn := cutR b 0 ⟨[], 0, b, 0⟩ lv
/-- The first level that is no gap's. -/
def near (b : Int) : List Int → Int
  | [] => b
  | x :: r => if x = -1 then near b r else x
/-- The places of what is not removed. -/
def idxs : Nat → List Int → List Int
  | _, [] => []
  | i, x :: r => if x = -1 then idxs (i + 1) r else (i : Int) :: idxs (i + 1) r
def Rn.fs (r : Rn) : Int := r.pl.headD 0
def Rn.ls (r : Rn) : Int := r.pl.getLastD 0
/-- What holds of each run. -/
structure RnOk (b : Int) (lv : List Int) (r : Rn) : Prop where
  ne : r.pl ≠ []
  at_ : ∀ p ∈ r.pl, ∃ j : Nat, p = j ∧ lv[j]? = some r.lv
  no : r.lv ≠ -1
  ah : r.ah = near b (lv.take r.fs.toNat).reverse
  be : r.be = near b (lv.drop (r.ls.toNat + 1))
structure CurOk (b : Int) (lv : List Int) (k : Nat) (c : Rn) : Prop where
  none : c.pl = [] → c.ah = near b (lv.take k).reverse
  at_ : ∀ p ∈ c.pl, ∃ j : Nat, p = j ∧ j < k ∧ lv[j]? = some c.lv
  no : c.pl ≠ [] → c.lv ≠ -1
  ah : c.pl ≠ [] → c.ah = near b (lv.take c.fs.toNat).reverse
  bk : c.pl ≠ [] → ∀ d, near d (lv.take k).reverse = c.lv
  fw : c.pl ≠ [] → ∀ d, near d (lv.drop (c.ls.toNat + 1)) = near d (lv.drop k)
theorem take_next {lv : List Int} {k : Nat} {x : Int} (h : lv[k]? = some x) : (lv.take (k + 1)).reverse = x :: (lv.take k).reverse := by
  obtain ⟨hk, rfl⟩ := List.getElem?_eq_some_iff.1 h
  rw [List.take_succ_eq_append_getElem hk]
  simp
theorem drop_next {lv : List Int} {k : Nat} {x : Int} (h : lv[k]? = some x) : lv.drop k = x :: lv.drop (k + 1) := by
  obtain ⟨hk, rfl⟩ := List.getElem?_eq_some_iff.1 h
  exact List.drop_eq_getElem_cons hk
theorem near_gap (d : Int) (r : List Int) : near d ((-1) :: r) = near d r := by unfold near; rw [if_pos rfl]; cases r <;> rfl
theorem near_on {d x : Int} {r : List Int} (h : x ≠ -1) : near d (x :: r) = x := by unfold near; rw [if_neg h]
section
variable {b : Int} {lv : List Int} {k : Nat} {c : Rn} {x : Int}
theorem CurOk.first (b : Int) (lv : List Int) : CurOk b lv 0 ⟨[], 0, b, 0⟩ :=
  ⟨fun _ => by simp [near], fun p hp => (by cases hp), fun h => absurd rfl h, fun h => absurd rfl h, fun h => absurd rfl h, fun h => absurd rfl h⟩
theorem CurOk.skip (h : CurOk b lv k c) (hx : lv[k]? = some (-1)) : CurOk b lv (k + 1) c := by
  refine ⟨fun hn => ?_, fun p hp => ?_, h.no, h.ah, fun hn d => ?_, fun hn d => ?_⟩
  · rw [take_next hx, near_gap, h.none hn]
  · obtain ⟨j, h1, h2, h3⟩ := h.at_ p hp
    exact ⟨j, h1, by omega, h3⟩
  · rw [take_next hx, near_gap, h.bk hn]
  · rw [h.fw hn, drop_next hx, near_gap]
theorem CurOk.part (h : CurOk b lv k c) (hx : lv[k]? = some x) (h1 : x ≠ -1) (hn : c.pl ≠ []) : CurOk b lv (k + 1) ⟨[(k : Int)], x, c.lv, 0⟩ := by
  refine ⟨fun h => (by cases h), fun p hp => ?_, fun _ => h1, fun _ => ?_, fun _ d => ?_, fun _ d => ?_⟩
  · obtain rfl := List.mem_singleton.1 hp
    exact ⟨k, rfl, by omega, hx⟩
  · show c.lv = near b (lv.take ((k : Int)).toNat).reverse
    rw [Int.toNat_natCast, h.bk hn]
  · rw [take_next hx, near_on h1]
  · show near d (lv.drop (((k : Int)).toNat + 1)) = _
    rw [Int.toNat_natCast]
theorem fs_snoc {l : List Int} {y : Int} (h : l ≠ []) : (l ++ [y]).headD 0 = l.headD 0 := by
  cases l with
  | nil => exact absurd rfl h
  | cons a l => rfl
theorem ls_snoc {l : List Int} {y : Int} : (l ++ [y]).getLastD 0 = y := by simp [List.getLastD_eq_getLast?]
theorem CurOk.more (h : CurOk b lv k c) (hx : lv[k]? = some x) (h1 : x ≠ -1) (hn : c.pl = [] ∨ x = c.lv) : CurOk b lv (k + 1) ⟨c.pl ++ [(k : Int)], x, c.ah, c.be⟩ := by
  refine ⟨fun h => by simp at h, fun p hp => ?_, fun _ => h1, fun _ => ?_, fun _ d => ?_, fun _ d => ?_⟩
  · rcases List.mem_append.1 hp with hp | hp
    · obtain ⟨j, h2, h3, h4⟩ := h.at_ p hp
      rcases hn with hn | hn
      · rw [hn] at hp; cases hp
      · exact ⟨j, h2, by omega, by rw [hn]; exact h4⟩
    · obtain rfl := List.mem_singleton.1 hp
      exact ⟨k, rfl, by omega, hx⟩
  · show c.ah = near b (lv.take ((c.pl ++ [(k : Int)]).headD 0).toNat).reverse
    by_cases he : c.pl = []
    · rw [he, h.none he]
      simp
    · rw [fs_snoc he, h.ah he]
      rfl
  · rw [take_next hx, near_on h1]
  · show near d (lv.drop (((c.pl ++ [(k : Int)]).getLastD 0).toNat + 1)) = _
    rw [ls_snoc, Int.toNat_natCast]
theorem CurOk.done (h : CurOk b lv k c) (hn : c.pl ≠ []) {y : Int} (hy : near b (lv.drop k) = y) : RnOk b lv { c with be := y } :=
  ⟨hn, fun p hp => by obtain ⟨j, h1, _, h3⟩ := h.at_ p hp; exact ⟨j, h1, h3⟩, h.no hn, h.ah hn, by show y = near b (lv.drop (c.ls.toNat + 1)); rw [h.fw hn, hy]⟩
end
theorem cut_ok {b : Int} {lv : List Int} : ∀ (r : List Int) (k : Nat) (c : Rn), r = lv.drop k → CurOk b lv k c → ∀ R ∈ cutR b k c r, RnOk b lv R := by
  intro r
  induction r with
  | nil =>
    intro k c hr h R hR
    unfold cutR at hR
    split at hR
    · cases hR
    · obtain rfl := List.mem_singleton.1 hR
      rename_i hn
      exact h.done hn (by rw [← hr]; rfl)
  | cons x r ih =>
    intro k c hr h R hR
    have hx : lv[k]? = some x := by
      have := congrArg (fun l => l[0]?) hr
      simp at this
      exact this.symm
    have hr' : r = lv.drop (k + 1) := by
      have := drop_next hx
      rw [this] at hr
      injection hr
    unfold cutR at hR
    split at hR
    · rename_i h1
      subst h1
      exact ih _ _ hr' (h.skip hx) R hR
    · rename_i h1
      split at hR
      · rename_i h2
        rcases List.mem_cons.1 hR with rfl | hR
        · exact h.done h2.1 (by rw [← hr, near_on h1])
        · exact ih _ _ hr' (h.part hx h1 h2.1) R hR
      · rename_i h2
        refine ih _ _ hr' (h.more hx h1 ?_) R hR
        by_cases he : c.pl = []
        · exact .inl he
        · exact .inr (by false_or_by_contra; rename_i h3; exact h2 ⟨he, h3⟩)
theorem runs_ok {b : Int} {lv : List Int} : ∀ R ∈ runs lv b, RnOk b lv R := cut_ok lv 0 _ rfl (CurOk.first b lv)
theorem cut_all {b : Int} : ∀ (r : List Int) (k : Nat) (c : Rn), (cutR b k c r).flatMap (·.pl) = c.pl ++ idxs k r := by
  intro r
  induction r with
  | nil =>
    intro k c
    unfold cutR idxs
    split
    · rename_i h; simp [h]
    · simp
  | cons x r ih =>
    intro k c
    unfold cutR idxs
    split
    · exact ih _ _
    · split
      · rw [List.flatMap_cons, ih]
        rfl
      · rw [ih]
        simp
theorem runs_all (lv : List Int) (b : Int) : (runs lv b).flatMap (·.pl) = idxs 0 lv := cut_all lv 0 _
theorem idxs_mem : ∀ (r : List Int) (k : Nat) (p : Int), p ∈ idxs k r ↔ ∃ j : Nat, p = ((k + j : Nat) : Int) ∧ ∃ x, r[j]? = some x ∧ x ≠ -1 := by
  intro r
  induction r with
  | nil => intro k p; simp [idxs]
  | cons x r ih =>
    intro k p
    unfold idxs
    constructor
    · intro h
      split at h
      · obtain ⟨j, hj, y, hy, hn⟩ := (ih _ _).1 h
        exact ⟨j + 1, by omega, y, hy, hn⟩
      · rename_i h1
        rcases List.mem_cons.1 h with rfl | h
        · exact ⟨0, rfl, x, rfl, h1⟩
        · obtain ⟨j, hj, y, hy, hn⟩ := (ih _ _).1 h
          exact ⟨j + 1, by omega, y, hy, hn⟩
    · rintro ⟨j, hj, y, hy, hn⟩
      cases j with
      | zero =>
        simp at hy
        subst hy
        rw [if_neg hn]
        exact List.mem_cons.2 (.inl hj)
      | succ j =>
        have : p ∈ idxs (k + 1) r := (ih _ _).2 ⟨j, by omega, y, by simpa using hy, hn⟩
        split
        · exact this
        · exact List.mem_cons_of_mem _ this
theorem idxs_up : ∀ (r : List Int) (k : Nat), (idxs k r).Pairwise (· < ·) := by
  intro r
  induction r with
  | nil => intro k; exact List.Pairwise.nil
  | cons x r ih =>
    intro k
    unfold idxs
    split
    · exact ih _
    · refine List.pairwise_cons.2 ⟨fun p hp => ?_, ih _⟩
      obtain ⟨j, hj, _⟩ := (idxs_mem _ _ _).1 hp
      omega
end Go.Proofs.Yticiofpbijahbaa.M
end

section
namespace Go.Proofs.Yticiofpbijahbaa.M

def rn (rs : List Rn) (i : Nat) : Rn := rs.getD i ⟨[], 0, 0, 0⟩
/-- The side of two levels. -/
def sd (a b : Int) : Int := if max a b % 2 = 0 then 0 else 1
/-- Where the isolate ends that a run's last one begins. -/
def goes (l : List Int) (rs : List Rn) (i : Nat) : Int := endI l (rn rs i).ls.toNat
def from_ (rs : List Rn) (i : Nat) : Int := (rn rs i).fs
/-- The level behind a run's sequence. -/
def bh (l : List Int) (b : Int) (r : Rn) : Int := if begins (l.getD r.ls.toNat 0) = true then b else r.be
def sq (l : List Int) (b : Int) (rs : List Rn) (t i : Nat) : Sq :=
  ⟨(mem (goes l rs) (from_ rs) t i).flatMap fun j => (rn rs j).pl, (rn rs i).lv, sd (rn rs i).lv (rn rs i).ah, sd (rn rs i).lv (bh l b (rn rs ((mem (goes l rs) (from_ rs) t i).getLastD 0)))⟩
/-- The sequences of the first t runs. -/
def sqs (l : List Int) (b : Int) (rs : List Rn) (t : Nat) : List Sq := (heads (goes l rs) (from_ rs) t).map (sq l b rs t)
/-- Which sequence a run is in. -/
def sqOf (l : List Int) (rs : List Rn) (i : Nat) : Nat := (heads (goes l rs) (from_ rs) (hd (goes l rs) (from_ rs) i)).length
/-- Which sequence goes on with a place. -/
def mp (l : List Int) (rs : List Rn) : Nat → Int → Option Nat
  | 0, _ => none
  | t + 1, e => if goes l rs t ≠ -1 ∧ e = goes l rs t then some (sqOf l rs t) else mp l rs t e
/-- A sequence behind one more run. -/
def Sq.with_ (l : List Int) (b : Int) (s : Sq) (r : Rn) : Sq := ⟨s.pl ++ r.pl, s.lv, s.fi, sd s.lv (bh l b r)⟩
/-- A sequence that a run begins, without that run. -/
def Sq.begun (r : Rn) : Sq := ⟨[], r.lv, sd r.lv r.ah, 0⟩

section
variable {l : List Int} {b : Int} {rs : List Rn}
theorem sqs_no {t : Nat} (h : pv (goes l rs) (from_ rs) t = none) : sqOf l rs t = (sqs l b rs t).length ∧ sqs l b rs (t + 1) = sqs l b rs t ++ [(Sq.begun (rn rs t)).with_ l b (rn rs t)] := by
  refine ⟨by unfold sqOf sqs; rw [hd_none h, List.length_map], ?_⟩
  unfold sqs
  rw [heads_no h, List.map_append]
  congr 1
  · refine List.map_congr_left fun i hi => ?_
    have h1 := (heads_lt hi).1
    unfold sq
    rw [mem_out (by rw [hd_none h]; omega)]
  · unfold sq
    rw [List.map_singleton, mem_in (hd_none h), mem_first]
    simp [Sq.with_, Sq.begun]
theorem sqs_go {t p : Nat} (h : pv (goes l rs) (from_ rs) t = some p) :
    sqOf l rs t = sqOf l rs p ∧ ∃ s, (sqs l b rs t)[sqOf l rs p]? = some s ∧ sqs l b rs (t + 1) = (sqs l b rs t).set (sqOf l rs p) (s.with_ l b (rn rs t)) := by
  have hpt := (pv_some h).1
  have hhd := hd_some h
  have h1 := heads_at (T := goes l rs) (F := from_ rs) (i := hd (goes l rs) (from_ rs) p) (t := t) (by have := hd_le (T := goes l rs) (F := from_ rs) p; omega) (hd_head p)
  refine ⟨by unfold sqOf; rw [hhd], sq l b rs t (hd (goes l rs) (from_ rs) p), by unfold sqs sqOf; rw [List.getElem?_map, h1]; rfl, ?_⟩
  refine List.ext_getElem? fun j => ?_
  unfold sqs
  rw [heads_go h, List.getElem?_map]
  by_cases hj : j = sqOf l rs p
  · subst hj
    have hlt : sqOf l rs p < ((heads (goes l rs) (from_ rs) t).map (sq l b rs t)).length := by
      rw [List.length_map]; exact (List.getElem?_eq_some_iff.1 h1).1
    rw [List.getElem?_set_self hlt]
    have h2 : (heads (goes l rs) (from_ rs) t)[sqOf l rs p]? = some (hd (goes l rs) (from_ rs) p) := h1
    rw [h2]
    simp only [Option.map_some]
    congr 1
    unfold sq Sq.with_
    rw [mem_in hhd, List.flatMap_append]
    simp
  · rw [List.getElem?_set_ne (fun e => hj e.symm), List.getElem?_map]
    cases hx : (heads (goes l rs) (from_ rs) t)[j]? with
    | none => rfl
    | some i =>
      simp only [Option.map_some]
      congr 1
      have hne : hd (goes l rs) (from_ rs) t ≠ i := fun e => by
        have hnd := heads_nodup (T := goes l rs) (F := from_ rs) t
        have h2 : (heads (goes l rs) (from_ rs) t)[sqOf l rs p]? = some i := by rw [← e, hhd]; exact h1
        exact hj ((List.getElem?_inj (List.getElem?_eq_some_iff.1 hx).1 hnd).1 (by rw [hx, h2]))
      unfold sq
      rw [mem_out hne]
theorem mp_none {e : Int} : ∀ t, (∀ i, i < t → goes l rs i ≠ e) → mp l rs t e = none := by
  intro t
  induction t with
  | zero => intro _; rfl
  | succ t ih =>
    intro h
    unfold mp
    rw [if_neg (fun k => h t (by omega) k.2.symm)]
    exact ih fun i hi => h i (by omega)
theorem mp_some {e : Int} {p : Nat} (he : e ≠ -1) (hp : goes l rs p = e) : ∀ t, p < t → (∀ i, i < t → goes l rs i = e → i = p) → mp l rs t e = some (sqOf l rs p) := by
  intro t
  induction t with
  | zero => intro h; omega
  | succ t ih =>
    intro h h1
    unfold mp
    by_cases ht : t = p
    · subst ht
      rw [if_pos ⟨by rw [hp]; exact he, hp.symm⟩]
    · rw [if_neg (fun k => ht (h1 t (by omega) k.2.symm))]
      exact ih (by omega) fun i hi => h1 i (by omega)
theorem mp_at {m t : Nat} (hc : Chains (goes l rs) (from_ rs) m) (ht : t < m) : mp l rs t (from_ rs t) = (pv (goes l rs) (from_ rs) t).map (sqOf l rs) := by
  have h0 := hc.f0 t ht
  cases h : pv (goes l rs) (from_ rs) t with
  | none => rw [mp_none t (pv_none h)]; rfl
  | some p =>
    obtain ⟨h1, h2⟩ := pv_some h
    rw [mp_some (by omega) h2 t h1 (fun i hi hg => hc.one i p (by omega) (by omega) (by rw [hg, h2]) (by omega))]
    rfl
theorem rn_mem {i : Nat} (h : i < rs.length) : rn rs i ∈ rs := by
  unfold rn
  rw [List.getD_eq_getElem?_getD, List.getElem?_eq_getElem h]
  exact List.getElem_mem h
theorem rn_at {i : Nat} {r : Rn} (h : rs[i]? = some r) : rn rs i = r := by
  unfold rn
  rw [List.getD_eq_getElem?_getD, h]
  rfl
end
theorem RnOk.fs_in {b : Int} {lv : List Int} {r : Rn} (h : RnOk b lv r) : r.fs ∈ r.pl := by
  have := h.ne
  unfold Rn.fs
  cases hp : r.pl with
  | nil => exact absurd hp this
  | cons x y => simp
theorem RnOk.ls_in {b : Int} {lv : List Int} {r : Rn} (h : RnOk b lv r) : r.ls ∈ r.pl := by
  have := h.ne
  unfold Rn.ls
  rw [List.getLastD_eq_getLast?, List.getLast?_eq_some_getLast this]
  exact List.getLast_mem this
/-- Runs stand one behind the other. -/
theorem runs_apart (lv : List Int) (b : Int) : (∀ r ∈ runs lv b, r.pl.Pairwise (· < ·)) ∧ (runs lv b).Pairwise fun r s => ∀ x ∈ r.pl, ∀ y ∈ s.pl, x < y := by
  have h := idxs_up lv 0
  rw [← runs_all lv b, List.pairwise_flatMap] at h
  exact h
theorem rn_apart {lv : List Int} {b : Int} {i j : Nat} (h : i < j) (hj : j < (runs lv b).length) : ∀ x ∈ (rn (runs lv b) i).pl, ∀ y ∈ (rn (runs lv b) j).pl, x < y := by
  have h1 := List.pairwise_iff_getElem.1 (runs_apart lv b).2 i j (by omega) hj h
  rw [rn_at (List.getElem?_eq_getElem (by omega)), rn_at (List.getElem?_eq_getElem hj)]
  exact h1
theorem fs_le {r : Rn} (h : r.pl.Pairwise (· < ·)) : ∀ x ∈ r.pl, r.fs ≤ x := by
  intro x hx
  unfold Rn.fs
  cases hp : r.pl with
  | nil => rw [hp] at hx; cases hx
  | cons y z =>
    rw [hp] at hx h
    rcases List.mem_cons.1 hx with rfl | hx
    · exact Int.le_refl _
    · have := (List.pairwise_cons.1 h).1 x hx
      simp; omega
theorem runs_chains (l lv : List Int) (b : Int) : Chains (goes l (runs lv b)) (from_ (runs lv b)) (runs lv b).length := by
  have ok : ∀ i, i < (runs lv b).length → RnOk b lv (rn (runs lv b) i) := fun i hi => runs_ok _ (rn_mem hi)
  have nat : ∀ i, i < (runs lv b).length → ∀ p ∈ (rn (runs lv b) i).pl, 0 ≤ p := fun i hi p hp => by
    obtain ⟨j, rfl, _⟩ := (ok i hi).at_ p hp; omega
  refine ⟨fun i j h hj => rn_apart h hj _ (ok i (by omega)).fs_in _ (ok j hj).fs_in, fun i j hi hj h h0 => ?_, fun i hi => nat i hi _ (ok i hi).fs_in, fun i hi => ?_⟩
  · have h1 := endI_one h h0
    have h2 := nat i hi _ (ok i hi).ls_in
    have h3 := nat j hj _ (ok j hj).ls_in
    have h4 : (rn (runs lv b) i).ls = (rn (runs lv b) j).ls := by omega
    rcases Nat.lt_trichotomy i j with h5 | h5 | h5
    · have := rn_apart h5 hj _ (ok i hi).ls_in _ (ok j hj).ls_in; omega
    · exact h5
    · have := rn_apart h5 hi _ (ok j hj).ls_in _ (ok i hi).ls_in; omega
  · have h2 := nat i hi _ (ok i hi).ls_in
    have h1 := fs_le ((runs_apart lv b).1 _ (rn_mem hi)) _ (ok i hi).ls_in
    unfold goes from_
    have := endI_late l (rn (runs lv b) i).ls.toNat
    omega
/-- Whether levels may be those of classes. -/
structure Fits (l lv : List Int) (b : Int) : Prop where
  base : b = 0 ∨ b = 1
  len : l.length = lv.length
  at_ : ∀ (i : Nat) (c x : Int), l[i]? = some c → lv[i]? = some x → -1 ≤ x ∧ x ≤ 125 ∧ (x = -1 ↔ removed c = true)
/-- All sequences. -/
def seqs (l lv : List Int) (b : Int) : List Sq := sqs l b (runs lv b) (runs lv b).length
end Go.Proofs.Yticiofpbijahbaa.M
end
