/- The document's UTF-8 as plain functions on lists of numbers, and what follows from them: no program is read here. -/
namespace Go.Proofs.YteknpodofmmklaaDoor.M

def scal (c : Int) : Bool := decide (0 ≤ c ∧ c ≤ 1114111 ∧ (c < 55296 ∨ 57343 < c))
def cnt (c : Int) : Nat := if c < 128 then 1 else if c < 2048 then 2 else if c < 65536 then 3 else 4
def cntTo (c : Int) (k : Nat) : Nat := if k = 0 then 0 else if k = 1 then 1 else if k = 2 then (if c < 128 then 1 else 2) else if k = 3 then (if c < 128 then 1 else if c < 2048 then 2 else 3) else cnt c
def bytes1 (c : Int) : List Int :=
  if c < 128 then [c] else if c < 2048 then [192 + c / 64, 128 + c % 64]
  else if c < 65536 then [224 + c / 4096, 128 + c / 64 % 64, 128 + c % 64]
  else [240 + c / 262144, 128 + c / 4096 % 64, 128 + c / 64 % 64, 128 + c % 64]
def askd (h : Int) : Nat := if h ≤ 127 then 1 else if h ≤ 191 then 0 else if h ≤ 223 then 2 else if h ≤ 239 then 3 else if h ≤ 247 then 4 else 0
def headOf (n : Nat) : Int := if n = 1 then 0 else if n = 2 then 192 else if n = 3 then 224 else 240
def isTail (x : Int) : Bool := decide (128 ≤ x ∧ x ≤ 191)
def cont (c : Int) : List Int → Option Int
  | [] => some c
  | x :: r => if isTail x = true then cont (c * 64 + (x - 128)) r else none
/-- The scalar with whose bytes a list begins, and how many they are. -/
def firstM (bs : List Int) : Option (Int × Nat) :=
  match bs with
  | [] => none
  | h :: r =>
    if askd h = 0 ∨ r.length + 1 < askd h then none
    else match cont (h - headOf (askd h)) (r.take (askd h - 1)) with
      | none => none
      | some c => if scal c = true ∧ cnt c = askd h then some (c, askd h) else none

theorem cont_snoc (c : Int) (l : List Int) (x : Int) : cont c (l ++ [x]) = (cont c l).bind fun d => if isTail x = true then some (d * 64 + (x - 128)) else none := by
  induction l generalizing c with
  | nil => simp [cont]
  | cons y r ih =>
    simp only [List.cons_append, cont]
    split
    · exact ih _
    · rfl
theorem cont_none_append (c : Int) (l r : List Int) (h : cont c l = none) : cont c (l ++ r) = none := by
  induction l generalizing c with
  | nil => simp [cont] at h
  | cons y s ih =>
    simp only [List.cons_append, cont] at h ⊢
    split
    · rename_i hy; rw [if_pos hy] at h; exact ih _ h
    · rfl
theorem take_at (r : List Int) (k : Nat) (x : Int) (h : r[k]? = some x) : r.take (k + 1) = r.take k ++ [x] := by
  obtain ⟨hk, hx⟩ := List.getElem?_eq_some_iff.1 h
  rw [List.take_succ_eq_append_getElem hk, hx]
theorem cont_step (c : Int) (r : List Int) (k : Nat) (x : Int) (h : r[k]? = some x) : cont c (r.take (k + 1)) = (cont c (r.take k)).bind fun d => if isTail x = true then some (d * 64 + (x - 128)) else none := by
  rw [take_at r k x h, cont_snoc]
theorem cont_cut (c : Int) (r : List Int) (k n : Nat) (hk : k ≤ n) (h : cont c (r.take k) = none) : cont c (r.take n) = none := by
  have : r.take n = r.take k ++ (r.take n).drop k := by
    rw [show r.take k = (r.take n).take k by rw [List.take_take, Nat.min_eq_left hk], List.take_append_drop]
  rw [this]
  exact cont_none_append _ _ _ h
theorem tail_low {x : Int} (h : x < 128) : isTail x = false := by simp [isTail]; omega
theorem tail_high {x : Int} (h : 191 < x) : isTail x = false := by simp [isTail]; omega
theorem tail_yes {x : Int} (h : 128 ≤ x) (h' : x ≤ 191) : isTail x = true := by simp [isTail]; omega
theorem first_cont_none (h : Int) (r : List Int) (n k : Nat) (hn : askd h = n) (hn1 : 1 ≤ n) (hk : k + 1 ≤ n - 1) (hn2 : n ≤ r.length + 1) (hc : cont (h - headOf n) (r.take (k + 1)) = none) : firstM (h :: r) = none := by
  simp only [firstM]
  rw [hn, if_neg (by omega), cont_cut _ r _ _ hk hc]
theorem first_cont_some (h : Int) (r : List Int) (n : Nat) (c : Int) (hn : askd h = n) (hn1 : 1 ≤ n) (hn2 : n ≤ r.length + 1) (hc : cont (h - headOf n) (r.take (n - 1)) = some c) :
    firstM (h :: r) = if scal c = true ∧ cnt c = n then some (c, n) else none := by
  simp only [firstM]
  rw [hn, if_neg (by omega), hc]
theorem first_asked (h : Int) (r : List Int) (c : Int) (n : Nat) (hf : firstM (h :: r) = some (c, n)) : askd h = n := by
  simp only [firstM] at hf
  split at hf
  · cases hf
  · split at hf
    · cases hf
    · split at hf
      · simp only [Option.some.injEq, Prod.mk.injEq] at hf; exact hf.2
      · cases hf
theorem first_ascii (h : Int) (h0 : 0 ≤ h) (h1 : h ≤ 127) : firstM [h] = some (h, 1) := by
  have ha : askd h = 1 := by simp [askd]; omega
  have hs : scal h = true := by simp [scal]; omega
  have hc : cnt h = 1 := by simp [cnt]; omega
  rw [first_cont_some h [] 1 h ha (by omega) (by simp) (by simp [headOf, cont]), if_pos ⟨hs, hc⟩]
theorem askd_le (h : Int) : askd h ≤ 4 := by unfold askd; (repeat' split) <;> omega
theorem headOf_le (h : Int) {n : Nat} (h0 : 0 ≤ h) (h1 : h ≤ 255) (hn : askd h = n) (hn1 : 1 ≤ n) : 0 ≤ h - headOf n ∧ h - headOf n ≤ 127 ∧ 0 ≤ headOf n ∧ headOf n ≤ 240 := by
  unfold askd at hn
  unfold headOf
  (repeat' split at hn) <;> subst hn <;> simp <;> omega

theorem cntTo_at2 {c : Int} (h : 128 ≤ c) : cntTo c 2 = 2 := by unfold cntTo; (repeat' split) <;> omega
theorem cntTo_at3 {c : Int} (h : 2048 ≤ c) : cntTo c 3 = 3 := by unfold cntTo; (repeat' split) <;> omega
theorem cntTo_at4 {c : Int} (h : 65536 ≤ c) : cntTo c 4 = 4 := by unfold cntTo cnt; (repeat' split) <;> omega
theorem cntTo_no2 {c : Int} (h : ¬ 128 ≤ c) : cntTo c 2 = cntTo c 1 := by unfold cntTo; (repeat' split) <;> omega
theorem cntTo_no3 {c : Int} (h : ¬ 2048 ≤ c) : cntTo c 3 = cntTo c 2 := by unfold cntTo; (repeat' split) <;> omega
theorem cntTo_no4 {c : Int} (h : ¬ 65536 ≤ c) : cntTo c 4 = cntTo c 3 := by unfold cntTo cnt; (repeat' split) <;> omega

end Go.Proofs.YteknpodofmmklaaDoor.M
