/- Where lines may end, on lists of whole numbers: what clusters count as, the rules, and the places. No program is read here. -/
import Derived.Test.YtfackeiommiejaaBase
namespace Go.Proofs.Ytfackeiommiejaa
namespace M
/-- Marks go with it: neither a Space, nor a Zero, nor an End. -/
def bears (a : Int) : Bool := decide (a ≠ 8 ∧ a ≠ 9 ∧ a ≠ 11)
/-- A Letter or a Figure. -/
def word (a : Int) : Bool := decide (a = 0 ∨ a = 1)
/-- What a cluster counts as, behind one that counts as a. -/
def cnt (a k : Int) : Int := if k < 0 ∨ 11 < k then 0 else if k ≠ 10 then k else if bears a = true then a else 0
structure P where
  a : Int
  b : Int
  h : Int
  m : Bool
def P.next (p : P) (k : Int) : P := ⟨p.b, cnt p.b k, if p.b = 8 then p.h else p.b, decide (k = 10)⟩
def P.init : P := ⟨0, 11, 0, false⟩
def st (l : List Int) : P := l.foldl P.next P.init
theorem st_snoc (l : List Int) (k : Int) : st (l ++ [k]) = (st l).next k := by unfold st; rw [List.foldl_append]; rfl
theorem st_nil : st [] = P.init := rfl
theorem st_take {l : List Int} {i : Nat} {x : Int} (h : l[i]? = some x) : st (l.take (i + 1)) = (st (l.take i)).next x := by
  obtain ⟨h1, h2⟩ := List.getElem?_eq_some_iff.1 h
  rw [List.take_succ_eq_append_getElem h1, h2, st_snoc]
/-- Does the j-th rule speak? -/
def rl (j : Nat) (p : P) : Bool := match j with
  | 0 => p.m && bears p.a
  | 1 => decide (p.a = 11)
  | 2 => decide (p.b = 11 ∨ p.b = 8 ∨ p.b = 9)
  | 3 => decide (p.h = 9)
  | 4 => decide (p.b = 4)
  | 5 => decide (p.h = 3)
  | 6 => decide (p.a = 8)
  | 7 => decide (p.a = 7 ∨ p.b = 7)
  | 8 => decide (p.b = 5 ∨ p.b = 6)
  | 9 => word p.a && word p.b
  | _ => decide (p.a = 5 ∧ p.b = 1)
/-- What it says. -/
def says (j : Nat) : Int := match j with
  | 1 => 2
  | 3 => 1
  | 6 => 1
  | _ => 0
def sayFrom (p : P) : Nat → Nat → Int
  | 0, _ => 1
  | n + 1, j => if rl j p = true then says j else sayFrom p n (j + 1)
def say (p : P) : Int := sayFrom p 11 0
theorem sayFrom_no {p : P} {n j : Nat} (h : rl j p = false) : sayFrom p (n + 1) j = sayFrom p n (j + 1) := by
  show (if rl j p = true then says j else sayFrom p n (j + 1)) = _
  rw [h]; rfl
theorem sayFrom_yes {p : P} {n j : Nat} (h : rl j p = true) : sayFrom p (n + 1) j = says j := by
  show (if rl j p = true then says j else sayFrom p n (j + 1)) = _
  rw [h]; rfl
/-- Whether a line may end ahead of the i-th. -/
def how (l : List Int) (i : Nat) : Int :=
  if i = 0 ∨ l.length < i then 0 else if i = l.length then 2 else say (st (l.take (i + 1)))
def atI (l : List Int) (i : Int) : Int := if i ≤ 0 then 0 else how l i.toNat
def allTo (l : List Int) (k : Nat) : List Int := (List.range k).map fun j => how l (j + 1)
def all (l : List Int) : List Int := allTo l l.length
def cntsTo (l : List Int) (k : Nat) : List Int := (List.range k).map fun j => (st (l.take (j + 1))).b
def cnts (l : List Int) : List Int := cntsTo l l.length
/-- The least place from i on at which a line may end; the length, if there is none. -/
def nextFrom (l : List Int) : Nat → Nat → Nat
  | 0, i => i
  | n + 1, i => if how l i ≠ 0 then i else nextFrom l n (i + 1)
/-- The next place above from. -/
def nextN (l : List Int) (i : Nat) : Nat := if l.length ≤ i then l.length else nextFrom l (l.length - (i + 1)) (i + 1)
def nextI (l : List Int) (i : Int) : Int := nextN l i.toNat

theorem allTo_succ (l : List Int) (k : Nat) : allTo l (k + 1) = allTo l k ++ [how l (k + 1)] := by
  unfold allTo; rw [List.range_succ, List.map_append]; rfl
theorem allTo_len (l : List Int) (k : Nat) : (allTo l k).length = k := by unfold allTo; simp
theorem all_len (l : List Int) : (all l).length = l.length := allTo_len _ _
theorem all_at {l : List Int} {i : Nat} (h : i < l.length) : (all l)[i]? = some (how l (i + 1)) := by
  unfold all allTo; simp [h]
theorem cntsTo_succ (l : List Int) (k : Nat) : cntsTo l (k + 1) = cntsTo l k ++ [(st (l.take (k + 1))).b] := by
  unfold cntsTo; rw [List.range_succ, List.map_append]; rfl
theorem cntsTo_len (l : List Int) (k : Nat) : (cntsTo l k).length = k := by unfold cntsTo; simp
theorem cnts_len (l : List Int) : (cnts l).length = l.length := cntsTo_len _ _
theorem cnts_at {l : List Int} {i : Nat} (h : i < l.length) : (cnts l)[i]? = some (st (l.take (i + 1))).b := by
  unfold cnts cntsTo; simp [h]
theorem how_in {l : List Int} {i : Nat} (h0 : 0 < i) (h : i < l.length) : how l i = say (st (l.take (i + 1))) := by
  unfold how; rw [if_neg (by omega), if_neg (by omega)]
theorem how_len {l : List Int} (h0 : 0 < l.length) : how l l.length = 2 := by
  unfold how; rw [if_neg (by omega), if_pos rfl]

/-- The state behind a list's first i, begun at a place that hangs on nothing ahead of it. -/
def Good (p : P) (l : List Int) (i : Nat) : Prop := p.b = (st (l.take i)).b ∧ (p.b = 8 → p.h = (st (l.take i)).h)
theorem Good.next {p : P} {l : List Int} {i : Nat} {x : Int} (h : Good p l i) (hx : l[i]? = some x) : p.next x = st (l.take (i + 1)) := by
  rw [st_take hx]
  obtain ⟨h1, h2⟩ := h
  unfold P.next
  rw [← h1]
  by_cases h8 : p.b = 8
  · rw [if_pos h8, if_pos h8, h2 h8]
  · rw [if_neg h8, if_neg h8]
theorem good_st (l : List Int) (i : Nat) : Good (st (l.take i)) l i := ⟨rfl, fun _ => rfl⟩
theorem cnt_free {a a' k : Int} (h : k ≠ 10) : cnt a k = cnt a' k := by
  unfold cnt
  split
  · rfl
  · rfl
theorem cnt_space {a k : Int} (h : k ≠ 8) (hk : k ≠ 10) : cnt a k ≠ 8 := by
  unfold cnt
  split
  · omega
  · exact h
theorem good_start {l : List Int} {j : Nat} {x : Int} (hx : l[j]? = some x) (h : j = 0 ∨ (x ≠ 8 ∧ x ≠ 10)) : Good (P.init.next x) l (j + 1) := by
  rcases h with h | ⟨h8, h10⟩
  · subst h
    rw [show P.init.next x = st (l.take (0 + 1)) by rw [st_take hx]; rfl]
    exact good_st _ _
  · unfold Good
    rw [st_take hx]
    exact ⟨cnt_free h10, fun h => absurd h (cnt_space h8 h10)⟩
/-- What the walk over places has behind it: nothing yet, or a state that is good. -/
def Walked (p : P) (l : List Int) (j i : Nat) : Prop := (i = j ∧ p = P.init ∧ (j = 0 ∨ ∀ x, l[j]? = some x → x ≠ 8 ∧ x ≠ 10)) ∨ (j < i ∧ Good p l i)
theorem Walked.next {p : P} {l : List Int} {j i : Nat} {x : Int} (h : Walked p l j i) (hx : l[i]? = some x) : Walked (p.next x) l j (i + 1) := by
  rcases h with ⟨rfl, rfl, h⟩ | ⟨h1, h2⟩
  · refine .inr ⟨by omega, good_start hx ?_⟩
    rcases h with h | h
    · exact .inl h
    · exact .inr (h x hx)
  · refine .inr ⟨by omega, ?_⟩
    rw [h2.next hx]
    exact good_st _ _
theorem Walked.how {p : P} {l : List Int} {j i : Nat} {x : Int} (h : Walked p l j i) (hx : l[i]? = some x) (hi : j < i) : say (p.next x) = how l i := by
  have hl := (List.getElem?_eq_some_iff.1 hx).1
  rcases h with ⟨rfl, _⟩ | ⟨h1, h2⟩
  · omega
  · rw [h2.next hx, how_in (by omega) hl]

theorem nextFrom_le (l : List Int) : ∀ n i, nextFrom l n i ≤ i + n
  | 0, i => Nat.le_refl _
  | n + 1, i => by
    unfold nextFrom
    split
    · omega
    · have := nextFrom_le l n (i + 1); omega
theorem nextN_le (l : List Int) (i : Nat) : nextN l i ≤ l.length := by
  unfold nextN
  split
  · exact Nat.le_refl _
  · have := nextFrom_le l (l.length - (i + 1)) (i + 1); omega
end M
end Go.Proofs.Ytfackeiommiejaa
