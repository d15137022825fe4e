/- What each of the seven rules makes of a list of classes, as plain functions on lists of whole numbers, and what all make. No program is read here. -/
/- The contracts of the document's strong, isolates, beside and separates. Conditions: the slices read as lists, at most a thousand long. -/
/- The contract of the document's beside. Conditions: the slice reads as a list, at most a thousand long; an ET stands there. -/
/- The contract of the document's at. Conditions: the slices read as lists, at most a thousand long; what is made is as long as the place's number. -/
/- The contracts of the document's Rule and All. Conditions: the slice reads as a list of classes, at most a thousand long. -/
import Derived.Test.YtjlfgojblimobaaGreatA00
import Derived.Handy
section
namespace Go.Proofs.YtjlfgojblimobaaGreat.S10.M

def stg (f : Int) : List Int → Int
  | [] => f
  | x :: r => if x = 0 ∨ x = 1 ∨ x = 2 then x else stg f r
def iso (c : Int) : Prop := c = 19 ∨ c = 20 ∨ c = 21 ∨ c = 22
instance (c : Int) : Decidable (iso c) := by unfold iso; infer_instance
def en5 : List Int → Bool
  | [] => false
  | x :: r => if x = 5 then en5 r else decide (x = 3)
def sep (o : List Int) (c : Int) (q : List Int) : Int := match o, q with
  | a :: _, b :: _ => if a = b ∧ (a = 3 ∨ c = 7 ∧ a = 6) then a else c
  | _, _ => c
def wat (n f : Int) (p o : List Int) (c : Int) (q : List Int) : Int :=
  if n = 1 ∧ c = 8 then (match o with | [] => f | a :: _ => if iso a then 13 else a)
  else if n = 2 ∧ c = 3 ∧ stg f p = 2 then 6
  else if n = 3 ∧ c = 2 then 1
  else if n = 4 ∧ (c = 4 ∨ c = 7) then sep o c q
  else if n = 5 ∧ c = 5 ∧ (en5 p = true ∨ en5 q = true) then 3
  else if n = 6 ∧ (c = 4 ∨ c = 5 ∨ c = 7) then 13
  else if n = 7 ∧ c = 3 ∧ stg f p = 0 then 0
  else c
def wgo (n f : Int) : List Int → List Int → List Int → List Int
  | _, _, [] => []
  | p, o, c :: q => wat n f p o c q :: wgo n f (c :: p) (wat n f p o c q :: o) q
def wrule (n f : Int) (l : List Int) : List Int := wgo n f [] [] l
def wall (f : Int) (l : List Int) : List Int := wrule 7 f (wrule 6 f (wrule 5 f (wrule 4 f (wrule 3 f (wrule 2 f (wrule 1 f l))))))
section
variable {n f : Int} {p o q l r : List Int}
theorem wgo_len : (wgo n f p o q).length = q.length := by
  induction q generalizing p o with
  | nil => rfl
  | cons c q ih => unfold wgo; rw [List.length_cons, ih, List.length_cons]
theorem wrule_len : (wrule n f l).length = l.length := wgo_len
theorem wall_len : (wall f l).length = l.length := by unfold wall; simp only [wrule_len]
def wto (f : Int) : Nat → List Int → List Int
  | 0, l => l
  | k + 1, l => wrule ((k : Int) + 1) f (wto f k l)
theorem wto_len {k : Nat} : (wto f k l).length = l.length := by
  induction k with
  | zero => rfl
  | succ k ih => unfold wto; rw [wrule_len, ih]
theorem wto_all : wto f 7 l = wall f l := rfl
theorem stg_cons (f x : Int) (r : List Int) : stg f (x :: r) = if x = 0 ∨ x = 1 ∨ x = 2 then x else stg f r := rfl
theorem en5_cons (x : Int) (r : List Int) : en5 (x :: r) = if x = 5 then en5 r else decide (x = 3) := rfl
theorem wgo_cons (n f : Int) (p o : List Int) (c : Int) (q : List Int) : wgo n f p o (c :: q) = wat n f p o c q :: wgo n f (c :: p) (wat n f p o c q :: o) q := rfl
theorem sep_cons (a c b : Int) (o q : List Int) : sep (a :: o) c (b :: q) = if a = b ∧ (a = 3 ∨ c = 7 ∧ a = 6) then a else c := rfl
theorem sep_no (o : List Int) (c : Int) : sep o c [] = c := by cases o <;> rfl
theorem sep_no0 (c : Int) (q : List Int) : sep [] c q = c := by cases q <;> rfl
end
end Go.Proofs.YtjlfgojblimobaaGreat.S10.M
end

section
namespace Go.Proofs.YtjlfgojblimobaaGreat.S10
open Go.RowKit
set_option maxRecDepth 100000

theorem M.take_next' {l : List Int} {k : Nat} {x : Int} (h : l[k]? = some x) : (l.take (k + 1)).reverse = x :: (l.take k).reverse := by
  obtain ⟨hk, rfl⟩ := List.getElem?_eq_some_iff.1 h
  rw [List.take_succ_eq_append_getElem hk]
  simp
theorem M.drop_next' {l : List Int} {k : Nat} {x : Int} (h : l[k]? = some x) : l.drop k = x :: l.drop (k + 1) := by
  obtain ⟨hk, rfl⟩ := List.getElem?_eq_some_iff.1 h
  exact List.drop_eq_getElem_cons hk
set_option maxHeartbeats 4000000 in
theorem refStg_any (A : Option Addr) (ca n at_ : Nat) (l : List Int) (f : Int) (w : World) (hr : RdS .i64 w w.heap.size A l) (hn : l.length = n) (hl : n ≤ 1000) (hat : at_ ≤ n) :
    Calls Tryz.prog 128 #[.slice A n ca, .int .i64 at_, .int .i64 f] w fun r w' => r = .returned (.int .i64 (M.stg f (l.take at_).reverse)) ∧ w = w' := by
  have HR := Lib.hid hr
  have HN := Lib.hid hn
  have hl1 : (n : Int) ≤ 1000 := by omega
  have ha1 : (at_ : Int) ≤ n := by omega
  have ha0 : (0 : Int) ≤ at_ := by omega
  obtain ⟨R, hR⟩ : ∃ R, M.stg f (l.take at_).reverse = R := ⟨_, rfl⟩
  rw [hR]
  have HRR := Lib.hid hR
  clear hr hn hR
  go_enter Tryz.func128, Tryz.ntmps128
  have hw0 : IntKind.i64.wrap ((at_ : Int) - 1) = (at_ : Int) - 1 := by rw [IntKind.wrap_i64]; omega
  go_wp2_with fail
  go_loop [7] (fun v => ∃ (k : Nat) (q : Int), k ≤ at_ ∧ v = .int .i64 q ∧ q + 1 = k ∧ M.stg f (l.take k).reverse = R) (fun v => (intOf v + 1).toNat)
  case atStart => exact ⟨at_, (at_ : Int) - 1, Nat.le_refl _, by go_num, by omega, HRR.out⟩
  case round =>
    obtain ⟨k, q, hkm, rfl, hq, hto⟩ := hrel
    have HT := Lib.hid hto
    clear hto
    cases k with
    | zero =>
      have H1 := Lib.hid (show f = R from HT.out)
      have hq0 : ¬ 0 ≤ q := by omega
      clear hq
      go_wp2_with fail
      go_ret
      exact ⟨ret_int H1.out, rfl⟩
    | succ k =>
      obtain rfl : q = (k : Nat) := by omega
      have hk0' : (0 : Int) ≤ (k : Int) := by omega
      obtain ⟨ad2, x, rfl, hcx, hx, -⟩ := rd_at HR.out (Below.refl _ _) (by rw [HN.out]; omega : k < l.length)
      have hk1 : (k : Int) < (n : Int) := by omega
      have hd := M.take_next' hx
      have h1 := HT.out
      rw [hd, M.stg_cons] at h1
      have H1 := Lib.hid h1
      have hw1 : IntKind.i64.wrap ((k : Int) - 1) = (k : Int) - 1 := by rw [IntKind.wrap_i64]; omega
      clear hx hd h1
      clear hq
      by_cases hx3 : x = 0 ∨ x = 1 ∨ x = 2
      · rw [if_pos hx3] at H1
        rcases hx3 with rfl | rfl | rfl
        all_goals
          go_wp2_with fail
          go_ret
          exact ⟨ret_int H1.out, rfl⟩
      · rw [if_neg hx3] at H1
        have b0 : (x == 0) = false := by simp; omega
        have b1 : (x == 1) = false := by simp; omega
        have b2 : (x == 2) = false := by simp; omega
        clear hx3
        go_wp2_with fail
        go_round
        case rel => exact ⟨k, (k : Int) - 1, by omega, rfl, by omega, H1.out⟩
        case measure => simp [intOf]
theorem refIso_any (c : Int) (w : World) : Calls Tryz.prog 127 #[.int .i64 c] w fun r w' => r = .returned (.bool (decide (M.iso c))) ∧ w = w' := by
  have H := Lib.hid (show M.iso c ↔ (c = 19 ∨ c = 20 ∨ c = 21 ∨ c = 22) from Iff.rfl)
  go_enter Tryz.func127, Tryz.ntmps127
  go_wp2_with fail
  all_goals (go_ret; exact ⟨ret_bool (by rw [Bool.eq_iff_iff, decide_eq_true_iff, H.out]; simp_all), rfl⟩)
set_option maxHeartbeats 4000000 in
theorem refSep_any (A B : Option Addr) (ca cb n k : Nat) (l o : List Int) (c : Int) (w : World) (hr : RdS .i64 w w.heap.size A l) (hn : l.length = n) (hl : n ≤ 1000) (hr2 : RdS .i64 w w.heap.size B o) (ho : o.length = k) (hc : l[k]? = some c) :
    Calls Tryz.prog 129 #[.slice A n ca, .slice B k cb, .int .i64 k] w fun r w' => r = .returned (.int .i64 (M.sep o.reverse c (l.drop (k + 1)))) ∧ w = w' := by
  have hk := (List.getElem?_eq_some_iff.1 hc).1
  obtain ⟨ad, c', rfl, hcc, hc', -⟩ := rd_at hr (Below.refl _ _) hk
  obtain rfl : c = c' := by rw [hc] at hc'; injection hc'
  obtain ⟨R, hR⟩ : ∃ R, M.sep o.reverse c (l.drop (k + 1)) = R := ⟨_, rfl⟩
  rw [hR]
  have hl1 : (n : Int) ≤ 1000 := by omega
  have hk1 : (k : Int) < n := by omega
  have hk0 : (0 : Int) ≤ k := by omega
  by_cases hz : k = 0
  · have ho0 : o = [] := List.eq_nil_of_length_eq_zero (by omega)
    have H1 := Lib.hid (show c = R by rw [← hR, ho0]; exact (M.sep_no0 _ _).symm)
    have b0 : ((k : Int) == 0) = true := by simp; omega
    clear hr hn hr2 ho hc hc' hR ho0 hz
    go_enter Tryz.func129, Tryz.ntmps129
    go_wp2_with fail
    go_ret
    exact ⟨ret_int H1.out, rfl⟩
  · obtain ⟨j, hj⟩ : ∃ j : Nat, k = j + 1 := ⟨k - 1, by omega⟩
    obtain ⟨m, hm⟩ : ∃ m : Nat, m = k + 1 := ⟨k + 1, rfl⟩
    have b0 : ((k : Int) == 0) = false := by simp; omega
    have hw1 : IntKind.i64.wrap ((k : Int) + 1) = (m : Int) := by rw [IntKind.wrap_i64]; omega
    have hw2 : IntKind.i64.wrap ((k : Int) - 1) = (j : Int) := by rw [IntKind.wrap_i64]; omega
    have hj0 : (0 : Int) ≤ j := by omega
    have hj1 : (j : Int) < k := by omega
    by_cases hend : m = n
    · have H1 := Lib.hid (show c = R by rw [← hR, List.drop_eq_nil_of_le (by omega)]; exact (M.sep_no _ _).symm)
      have b1 : ((m : Int) == (n : Int)) = true := by simp; omega
      clear hr hn hr2 ho hc hc' hR hend hj hm hz
      go_enter Tryz.func129, Tryz.ntmps129
      go_wp2_with fail
      go_ret
      exact ⟨ret_int H1.out, rfl⟩
    · obtain ⟨ad2, a, rfl, hca, ha, -⟩ := rd_at hr2 (Below.refl _ _) (by omega : j < o.length)
      obtain ⟨ad3, b, hA3, hcb, hb, -⟩ := rd_at hr (Below.refl _ _) (by omega : m < l.length)
      obtain rfl : ad = ad3 := by injection hA3
      have ho' : o.reverse = a :: (o.take j).reverse := by
        rw [← M.take_next' ha, List.take_of_length_le (by omega)]
      rw [ho', ← hm, M.drop_next' hb, M.sep_cons] at hR
      have HRR := Lib.hid hR
      have b1 : ((m : Int) == (n : Int)) = false := by simp; omega
      have hm1 : (m : Int) < n := by omega
      have hm0 : (0 : Int) ≤ m := by omega
      clear hr hn hr2 ho hc hc' hR hend ho' ha hb hA3 hj hm hz
      go_enter Tryz.func129, Tryz.ntmps129
      go_wp2_with fail
      all_goals (go_ret; exact ⟨ret_int (by rw [← HRR.out]; simp_all), rfl⟩)
end Go.Proofs.YtjlfgojblimobaaGreat.S10
end

section
namespace Go.Proofs.YtjlfgojblimobaaGreat.S10
open Go.RowKit
set_option maxRecDepth 100000

set_option maxHeartbeats 8000000 in
theorem refBeside_any (A : Option Addr) (ca n i : Nat) (l : List Int) (w : World) (hr : RdS .i64 w w.heap.size A l) (hn : l.length = n) (hl : n ≤ 1000) (h5 : l[i]? = some 5) :
    Calls Tryz.prog 130 #[.slice A n ca, .int .i64 i] w fun r w' => r = .returned (.bool (M.en5 (l.take i).reverse || M.en5 (l.drop (i + 1)))) ∧ w = w' := by
  have hi := (List.getElem?_eq_some_iff.1 h5).1
  obtain ⟨ad, _, rfl, -⟩ := rd_at hr (Below.refl _ _) hi
  have HR := Lib.hid hr
  have HN := Lib.hid hn
  have hl1 : (n : Int) ≤ 1000 := by omega
  have hi1 : (i : Int) < n := by omega
  have hi0 : (0 : Int) ≤ i := by omega
  obtain ⟨X, hX⟩ : ∃ X, M.en5 (l.take i).reverse = X := ⟨_, rfl⟩
  obtain ⟨Y, hY⟩ : ∃ Y, M.en5 (l.drop (i + 1)) = Y := ⟨_, rfl⟩
  have HX := Lib.hid (show M.en5 (l.take (i + 1)).reverse = X by rw [M.take_next' h5, M.en5_cons, if_pos rfl, hX])
  have HY := Lib.hid (show M.en5 (l.drop i) = Y by rw [M.drop_next' h5, M.en5_cons, if_pos rfl, hY])
  rw [hX, hY]
  clear hr hn hX hY h5 hi
  go_enter Tryz.func130, Tryz.ntmps130
  go_wp2_with fail
  go_loop [5] (fun v => ∃ (k : Nat) (q : Int), k ≤ i + 1 ∧ v = .int .i64 q ∧ q + 1 = k ∧ M.en5 (l.take k).reverse = X) (fun v => (intOf v + 1).toNat)
  case atStart => exact ⟨i + 1, (i : Int), Nat.le_refl _, rfl, by omega, HX.out⟩
  case round =>
    obtain ⟨k, q, hki, rfl, hq, hto⟩ := hrel
    have HT := Lib.hid hto
    clear hto
    cases k with
    | zero =>
      have hq0 : ¬ 0 ≤ q := by omega
      have HX1 := Lib.hid (show false = X from HT.out)
      clear hq
      go_wp2_with fail
      go_loop [6] (fun v => ∃ (m : Nat), m ≤ n ∧ v = .int .i64 m ∧ M.en5 (l.drop m) = Y) (fun v => n - (intOf v).toNat)
      case atStart => exact ⟨i, by omega, rfl, HY.out⟩
      case round =>
        obtain ⟨m, hmn, rfl, hto⟩ := hrel
        have HT2 := Lib.hid hto
        have hm0 : (0 : Int) ≤ m := by omega
        clear hto
        by_cases hlt : m < n
        · have hm1 : (m : Int) < n := by omega
          obtain ⟨ad', y, e', hcy, hy, -⟩ := rd_at HR.out (Below.refl _ _) (by rw [HN.out]; exact hlt : m < l.length)
          obtain rfl : ad = ad' := by injection e'
          have h1 := HT2.out
          rw [M.drop_next' hy, M.en5_cons] at h1
          have H1' := Lib.hid h1
          clear hy h1 e'
          by_cases h5 : y = 5
          · subst h5
            rw [if_pos rfl] at H1'
            go_wp2_with fail
            go_round
            case rel => exact ⟨m + 1, by omega, by go_num, H1'.out⟩
            case measure => simp [intOf]; omega
          · rw [if_neg h5] at H1'
            have b5' : (y == 5) = false := by simp; omega
            have HY1 := Lib.hid (show (y == 3) = Y by rw [← H1'.out]; rfl)
            clear h5
            go_wp2_with fail
            all_goals (go_ret; exact ⟨ret_bool (by rw [← HX1.out, ← HY1.out]; try simp_all), rfl⟩)
        · obtain rfl : m = n := by omega
          have hm1 : ¬ (m : Int) < (m : Int) := by omega
          have h1 := HT2.out
          rw [List.drop_eq_nil_of_le (by rw [HN.out]; exact Nat.le_refl _)] at h1
          have HY1 := Lib.hid (show false = Y from h1)
          clear h1
          go_wp2_with fail
          all_goals (go_ret; exact ⟨ret_bool (by rw [← HX1.out, ← HY1.out]; try simp_all), rfl⟩)
    | succ k =>
      obtain rfl : q = (k : Nat) := by omega
      have hk0 : (0 : Int) ≤ k := by omega
      have hk1 : (k : Int) < n := by omega
      obtain ⟨ad', x, e', hcx, hx, -⟩ := rd_at HR.out (Below.refl _ _) (by rw [HN.out]; omega : k < l.length)
      obtain rfl : ad = ad' := by injection e'
      have h1 := HT.out
      rw [M.take_next' hx, M.en5_cons] at h1
      have H1 := Lib.hid h1
      clear hx h1 hq e'
      by_cases h5 : x = 5
      · subst h5
        rw [if_pos rfl] at H1
        have hw1 : IntKind.i64.wrap ((k : Int) - 1) = (k : Int) - 1 := by rw [IntKind.wrap_i64]; omega
        go_wp2_with fail
        go_round
        case rel => exact ⟨k, (k : Int) - 1, by omega, rfl, by omega, H1.out⟩
        case measure => simp [intOf]
      · rw [if_neg h5] at H1
        have b5 : (x == 5) = false := by simp; omega
        have HX1 := Lib.hid (show (x == 3) = X by rw [← H1.out]; rfl)
        clear h5
        go_wp2_with fail
        go_loop [6] (fun v => ∃ (m : Nat), m ≤ n ∧ v = .int .i64 m ∧ M.en5 (l.drop m) = Y) (fun v => n - (intOf v).toNat)
        case atStart => exact ⟨i, by omega, rfl, HY.out⟩
        case round =>
          obtain ⟨m, hmn, rfl, hto⟩ := hrel
          have HT2 := Lib.hid hto
          have hm0 : (0 : Int) ≤ m := by omega
          clear hto
          by_cases hlt : m < n
          · have hm1 : (m : Int) < n := by omega
            obtain ⟨ad', y, e', hcy, hy, -⟩ := rd_at HR.out (Below.refl _ _) (by rw [HN.out]; exact hlt : m < l.length)
            obtain rfl : ad = ad' := by injection e'
            have h1 := HT2.out
            rw [M.drop_next' hy, M.en5_cons] at h1
            have H1' := Lib.hid h1
            clear hy h1 e'
            by_cases h5 : y = 5
            · subst h5
              rw [if_pos rfl] at H1'
              go_wp2_with fail
              go_round
              case rel => exact ⟨m + 1, by omega, by go_num, H1'.out⟩
              case measure => simp [intOf]; omega
            · rw [if_neg h5] at H1'
              have b5' : (y == 5) = false := by simp; omega
              have HY1 := Lib.hid (show (y == 3) = Y by rw [← H1'.out]; rfl)
              clear h5
              go_wp2_with fail
              all_goals (go_ret; exact ⟨ret_bool (by rw [← HX1.out, ← HY1.out]; try simp_all), rfl⟩)
          · obtain rfl : m = n := by omega
            have hm1 : ¬ (m : Int) < (m : Int) := by omega
            have h1 := HT2.out
            rw [List.drop_eq_nil_of_le (by rw [HN.out]; exact Nat.le_refl _)] at h1
            have HY1 := Lib.hid (show false = Y from h1)
            clear h1
            go_wp2_with fail
            all_goals (go_ret; exact ⟨ret_bool (by rw [← HX1.out, ← HY1.out]; try simp_all), rfl⟩)
end Go.Proofs.YtjlfgojblimobaaGreat.S10
end

section
namespace Go.Proofs.YtjlfgojblimobaaGreat.S10
open Go.RowKit
set_option maxRecDepth 100000
set_option maxHeartbeats 8000000 in
theorem refAt_any (A B : Option Addr) (ca cb n k : Nat) (l o : List Int) (c nn f : Int) (w : World) (hr : RdS .i64 w w.heap.size A l) (hn : l.length = n) (hl : n ≤ 1000) (hr2 : RdS .i64 w w.heap.size B o) (ho : o.length = k) (hc : l[k]? = some c) :
    Calls Tryz.prog 98 #[.int .i64 nn, .slice A n ca, .slice B k cb, .int .i64 k, .int .i64 f] w fun r w' => r = .returned (.int .i64 (M.wat nn f (l.take k).reverse o.reverse c (l.drop (k + 1)))) ∧ w = w' := by
  have hk := (List.getElem?_eq_some_iff.1 hc).1
  obtain ⟨ad, c', rfl, hcc, hc', -⟩ := rd_at hr (Below.refl _ _) hk
  obtain rfl : c = c' := by rw [hc] at hc'; injection hc'
  have HST := Lib.hid (refStg_any (some ad) ca n k l f w hr hn hl (by omega))
  have HSEP := Lib.hid (refSep_any (some ad) B ca cb n k l o c w hr hn hl hr2 ho hc)
  have HBE := Lib.hid (fun h5 : c = 5 => refBeside_any (some ad) ca n k l w hr hn hl (by rw [hc, h5]))
  obtain ⟨R, hR⟩ : ∃ R, M.wat nn f (l.take k).reverse o.reverse c (l.drop (k + 1)) = R := ⟨_, rfl⟩
  rw [hR]
  have hl1 : (n : Int) ≤ 1000 := by omega
  have hk1 : (k : Int) < n := by omega
  have hk0 : (0 : Int) ≤ k := by omega
  obtain ⟨S, hS⟩ : ∃ S, M.stg f (l.take k).reverse = S := ⟨_, rfl⟩
  obtain ⟨T, hT⟩ : ∃ T, M.sep o.reverse c (l.drop (k + 1)) = T := ⟨_, rfl⟩
  obtain ⟨E, hE⟩ : ∃ E, (M.en5 (l.take k).reverse || M.en5 (l.drop (k + 1))) = E := ⟨_, rfl⟩
  rw [hS] at HST
  rw [hT] at HSEP
  rw [hE] at HBE
  have hE' : (M.en5 (l.take k).reverse = true ∨ M.en5 (l.drop (k + 1)) = true) ↔ E = true := by rw [← hE, Bool.or_eq_true]
  unfold M.wat at hR
  rw [hS, hT] at hR
  simp only [hE'] at hR
  by_cases n1 : nn = 1
  · subst n1
    by_cases h8 : c = 8
    · subst h8
      rw [if_pos ⟨rfl, rfl⟩] at hR
      by_cases hz : k = 0
      · have ho0 : o = [] := List.eq_nil_of_length_eq_zero (by omega)
        have b0 : ((k : Int) == 0) = true := by simp; omega
        rw [ho0] at hR
        have H1 := Lib.hid (show f = R from hR)
        clear hR ho0 hz
        clear hr hn hr2 ho hc hc' hE hE' hS hT
        go_enter Tryz.func98, Tryz.ntmps98
        go_wp2_with fail
        go_ret
        exact ⟨ret_int H1.out, rfl⟩
      · obtain ⟨j, hj⟩ : ∃ j : Nat, k = j + 1 := ⟨k - 1, by omega⟩
        have b0 : ((k : Int) == 0) = false := by simp; omega
        have hw2 : IntKind.i64.wrap ((k : Int) - 1) = (j : Int) := by rw [IntKind.wrap_i64]; omega
        have hj0 : (0 : Int) ≤ j := by omega
        have hj1 : (j : Int) < k := by omega
        obtain ⟨ad2, a, rfl, hca, ha, -⟩ := rd_at hr2 (Below.refl _ _) (by omega : j < o.length)
        have ho' : o.reverse = a :: (o.take j).reverse := by
          rw [← M.take_next' ha, List.take_of_length_le (by omega)]
        rw [ho'] at hR
        dsimp only at hR
        have HI := Lib.hid (refIso_any a w)
        by_cases hi : M.iso a
        · rw [if_pos hi] at hR
          rw [decide_eq_true hi] at HI
          have H1 := Lib.hid hR
          clear hR hi ho' ha hj hz
          clear hr hn hr2 ho hc hc' hE hE' hS hT
          go_enter Tryz.func98, Tryz.ntmps98
          go_wp2_with fail
          refine HI.out.mono ?_
          rintro r w1 ⟨rfl, rfl⟩
          go_wp2_with fail
          go_ret
          exact ⟨ret_int H1.out, rfl⟩
        · rw [if_neg hi] at hR
          rw [decide_eq_false hi] at HI
          have H1 := Lib.hid hR
          clear hR hi ho' ha hj hz
          clear hr hn hr2 ho hc hc' hE hE' hS hT
          go_enter Tryz.func98, Tryz.ntmps98
          go_wp2_with fail
          refine HI.out.mono ?_
          rintro r w1 ⟨rfl, rfl⟩
          go_wp2_with fail
          go_ret
          exact ⟨ret_int H1.out, rfl⟩
    · have b8 : (c == 8) = false := by simp; omega
      rw [if_neg (by omega), if_neg (by omega), if_neg (by omega), if_neg (by omega), if_neg (by omega), if_neg (by omega), if_neg (by omega)] at hR
      have H1 := Lib.hid hR
      clear hR
      clear hr hn hr2 ho hc hc' hE hE' hS hT
      go_enter Tryz.func98, Tryz.ntmps98
      go_wp2_with fail
      go_ret
      exact ⟨ret_int H1.out, rfl⟩
  by_cases n2 : nn = 2
  · subst n2
    by_cases h3 : c = 3
    · subst h3
      by_cases hs : S = 2
      · subst hs
        rw [if_neg (by omega), if_pos (by omega)] at hR
        have H1 := Lib.hid hR
        clear hR
        clear hr hn hr2 ho hc hc' hE hE' hS hT
        go_enter Tryz.func98, Tryz.ntmps98
        go_wp2_with fail
        refine HST.out.mono ?_
        rintro r w1 ⟨rfl, rfl⟩
        go_wp2_with fail
        go_ret
        exact ⟨ret_int H1.out, rfl⟩
      · have bs : (S == 2) = false := by simp; omega
        rw [if_neg (by omega), if_neg (by omega), if_neg (by omega), if_neg (by omega), if_neg (by omega), if_neg (by omega), if_neg (by omega)] at hR
        have H1 := Lib.hid hR
        clear hR
        clear hs
        clear hr hn hr2 ho hc hc' hE hE' hS hT
        go_enter Tryz.func98, Tryz.ntmps98
        go_wp2_with fail
        refine HST.out.mono ?_
        rintro r w1 ⟨rfl, rfl⟩
        go_wp2_with fail
        go_ret
        exact ⟨ret_int H1.out, rfl⟩
    · have b3 : (c == 3) = false := by simp; omega
      rw [if_neg (by omega), if_neg (by omega), if_neg (by omega), if_neg (by omega), if_neg (by omega), if_neg (by omega), if_neg (by omega)] at hR
      have H1 := Lib.hid hR
      clear hR
      clear h3
      clear hr hn hr2 ho hc hc' hE hE' hS hT
      go_enter Tryz.func98, Tryz.ntmps98
      go_wp2_with fail
      go_ret
      exact ⟨ret_int H1.out, rfl⟩
  by_cases n3 : nn = 3
  · subst n3
    by_cases h2 : c = 2
    · subst h2
      rw [if_neg (by omega), if_neg (by omega), if_pos (by omega)] at hR
      have H1 := Lib.hid hR
      clear hR
      clear hr hn hr2 ho hc hc' hE hE' hS hT
      go_enter Tryz.func98, Tryz.ntmps98
      go_wp2_with fail
      go_ret
      exact ⟨ret_int H1.out, rfl⟩
    · have b2 : (c == 2) = false := by simp; omega
      rw [if_neg (by omega), if_neg (by omega), if_neg (by omega), if_neg (by omega), if_neg (by omega), if_neg (by omega), if_neg (by omega)] at hR
      have H1 := Lib.hid hR
      clear hR
      clear h2
      clear hr hn hr2 ho hc hc' hE hE' hS hT
      go_enter Tryz.func98, Tryz.ntmps98
      go_wp2_with fail
      go_ret
      exact ⟨ret_int H1.out, rfl⟩
  by_cases n4 : nn = 4
  · subst n4
    by_cases h4 : c = 4 ∨ c = 7
    · rcases h4 with rfl | rfl
      all_goals
        rw [if_neg (by omega), if_neg (by omega), if_neg (by omega), if_pos (by omega)] at hR
        have H1 := Lib.hid hR
        clear hR
        clear hr hn hr2 ho hc hc' hE hE' hS hT
        go_enter Tryz.func98, Tryz.ntmps98
        go_wp2_with fail
        refine HSEP.out.mono ?_
        rintro r w1 ⟨rfl, rfl⟩
        go_wp2_with fail
        go_ret
        exact ⟨ret_int H1.out, rfl⟩
    · have b4 : (c == 4) = false := by simp; omega
      have b7 : (c == 7) = false := by simp; omega
      rw [if_neg (by omega), if_neg (by omega), if_neg (by omega), if_neg (by omega), if_neg (by omega), if_neg (by omega), if_neg (by omega)] at hR
      have H1 := Lib.hid hR
      clear hR
      clear h4
      clear hr hn hr2 ho hc hc' hE hE' hS hT
      go_enter Tryz.func98, Tryz.ntmps98
      go_wp2_with fail
      go_ret
      exact ⟨ret_int H1.out, rfl⟩
  by_cases n5 : nn = 5
  · subst n5
    by_cases h5 : c = 5
    · subst h5
      have HB := Lib.hid (HBE.out rfl)
      clear HBE
      cases E with
      | true =>
        rw [if_neg (by omega), if_neg (by omega), if_neg (by omega), if_neg (by omega), if_pos ⟨rfl, rfl, rfl⟩] at hR
        have H1 := Lib.hid hR
        clear hR
        clear hr hn hr2 ho hc hc' hE hE' hS hT
        go_enter Tryz.func98, Tryz.ntmps98
        go_wp2_with fail
        refine HB.out.mono ?_
        rintro r w1 ⟨rfl, rfl⟩
        go_wp2_with fail
        go_ret
        exact ⟨ret_int H1.out, rfl⟩
      | false =>
        rw [if_neg (by omega), if_neg (by omega), if_neg (by omega), if_neg (by omega), if_neg (by simp), if_neg (by omega), if_neg (by omega)] at hR
        have H1 := Lib.hid hR
        clear hR
        clear hr hn hr2 ho hc hc' hE hE' hS hT
        go_enter Tryz.func98, Tryz.ntmps98
        go_wp2_with fail
        refine HB.out.mono ?_
        rintro r w1 ⟨rfl, rfl⟩
        go_wp2_with fail
        go_ret
        exact ⟨ret_int H1.out, rfl⟩
    · have b5 : (c == 5) = false := by simp; omega
      rw [if_neg (by omega), if_neg (by omega), if_neg (by omega), if_neg (by omega), if_neg (by omega), if_neg (by omega), if_neg (by omega)] at hR
      have H1 := Lib.hid hR
      clear hR
      clear h5
      clear hr hn hr2 ho hc hc' hE hE' hS hT
      go_enter Tryz.func98, Tryz.ntmps98
      go_wp2_with fail
      go_ret
      exact ⟨ret_int H1.out, rfl⟩
  by_cases n6 : nn = 6
  · subst n6
    by_cases h6 : c = 4 ∨ c = 5 ∨ c = 7
    · rcases h6 with rfl | rfl | rfl
      all_goals
        rw [if_neg (by omega), if_neg (by omega), if_neg (by omega), if_neg (by omega), if_neg (by omega), if_pos (by omega)] at hR
        have H1 := Lib.hid hR
        clear hR
        clear hr hn hr2 ho hc hc' hE hE' hS hT
        go_enter Tryz.func98, Tryz.ntmps98
        go_wp2_with fail
        go_ret
        exact ⟨ret_int H1.out, rfl⟩
    · have b4 : (c == 4) = false := by simp; omega
      have b5 : (c == 5) = false := by simp; omega
      have b7 : (c == 7) = false := by simp; omega
      rw [if_neg (by omega), if_neg (by omega), if_neg (by omega), if_neg (by omega), if_neg (by omega), if_neg (by omega), if_neg (by omega)] at hR
      have H1 := Lib.hid hR
      clear hR
      clear h6
      clear hr hn hr2 ho hc hc' hE hE' hS hT
      go_enter Tryz.func98, Tryz.ntmps98
      go_wp2_with fail
      go_ret
      exact ⟨ret_int H1.out, rfl⟩
  by_cases n7 : nn = 7
  · subst n7
    by_cases h3 : c = 3
    · subst h3
      by_cases hs : S = 0
      · subst hs
        rw [if_neg (by omega), if_neg (by omega), if_neg (by omega), if_neg (by omega), if_neg (by omega), if_neg (by omega), if_pos (by omega)] at hR
        have H1 := Lib.hid hR
        clear hR
        clear hr hn hr2 ho hc hc' hE hE' hS hT
        go_enter Tryz.func98, Tryz.ntmps98
        go_wp2_with fail
        refine HST.out.mono ?_
        rintro r w1 ⟨rfl, rfl⟩
        go_wp2_with fail
        go_ret
        exact ⟨ret_int H1.out, rfl⟩
      · have bs : (S == 0) = false := by simp; omega
        rw [if_neg (by omega), if_neg (by omega), if_neg (by omega), if_neg (by omega), if_neg (by omega), if_neg (by omega), if_neg (by omega)] at hR
        have H1 := Lib.hid hR
        clear hR
        clear hs
        clear hr hn hr2 ho hc hc' hE hE' hS hT
        go_enter Tryz.func98, Tryz.ntmps98
        go_wp2_with fail
        refine HST.out.mono ?_
        rintro r w1 ⟨rfl, rfl⟩
        go_wp2_with fail
        go_ret
        exact ⟨ret_int H1.out, rfl⟩
    · have b3 : (c == 3) = false := by simp; omega
      rw [if_neg (by omega), if_neg (by omega), if_neg (by omega), if_neg (by omega), if_neg (by omega), if_neg (by omega), if_neg (by omega)] at hR
      have H1 := Lib.hid hR
      clear hR
      clear h3
      clear hr hn hr2 ho hc hc' hE hE' hS hT
      go_enter Tryz.func98, Tryz.ntmps98
      go_wp2_with fail
      go_ret
      exact ⟨ret_int H1.out, rfl⟩
  have m1 : (nn == 1) = false := by simp; omega
  have m2 : (nn == 2) = false := by simp; omega
  have m3 : (nn == 3) = false := by simp; omega
  have m4 : (nn == 4) = false := by simp; omega
  have m5 : (nn == 5) = false := by simp; omega
  have m6 : (nn == 6) = false := by simp; omega
  have m7 : (nn == 7) = false := by simp; omega
  rw [if_neg (by omega), if_neg (by omega), if_neg (by omega), if_neg (by omega), if_neg (by omega), if_neg (by omega), if_neg (by omega)] at hR
  have H1 := Lib.hid hR
  clear hR
  clear n1 n2 n3 n4 n5 n6 n7
  clear hr hn hr2 ho hc hc' hE hE' hS hT
  go_enter Tryz.func98, Tryz.ntmps98
  go_wp2_with fail
  go_ret
  exact ⟨ret_int H1.out, rfl⟩
end Go.Proofs.YtjlfgojblimobaaGreat.S10
end

section
namespace Go.Proofs.YtjlfgojblimobaaGreat.S10
open Go.RowKit
set_option maxRecDepth 100000

theorem Tryz.infoCls : (Tryz.prog.info? 39).map (fun i => (i.zero, i.size, i.bytes)) = some (some (.int .i64 0), 1, 8) := by kernel_rfl
def RuleOut (ok : Prop) (t : List Int) (w : World) (r : Ending) (w' : World) : Prop :=
  Below w.heap.size w w' ∧
  (ok → ∃ v, r = .returned (.tuple #[v, .int .i64 0]) ∧ w'.ownsRow w.heap.size 39 1 v t.length (t.map (Value.int .i64))) ∧
  (¬ ok → r = .returned (.tuple #[.slice none 0 0, .int .i64 1]))
def M.may (n f : Int) : Prop := (1 ≤ n ∧ n ≤ 7) ∧ (f = 0 ∨ f = 1)
set_option maxHeartbeats 4000000 in
theorem refRule_no (A : Option Addr) (ca n : Nat) (nn f : Int) (l : List Int) (w : World) (h : ¬ M.may nn f) :
    Calls Tryz.prog 47 #[.int .i64 nn, .slice A n ca, .int .i64 f] w (RuleOut (M.may nn f) (M.wrule nn f l) w) := by
  have HM := Lib.hid h
  have hf : 1 ≤ nn → nn ≤ 7 → ¬ (f = 0 ∨ f = 1) := fun h1 h7 hf => h ⟨⟨h1, h7⟩, hf⟩
  clear h
  by_cases h1 : nn < 1
  · clear hf
    go_enter Tryz.func47, Tryz.ntmps47
    go_wp2_with fail
    go_returns
    exact ⟨Below.refl _ _, fun h => absurd h HM.out, fun _ => rfl⟩
  · by_cases h7 : 7 < nn
    · clear hf
      go_enter Tryz.func47, Tryz.ntmps47
      go_wp2_with fail
      go_returns
      exact ⟨Below.refl _ _, fun h => absurd h HM.out, fun _ => rfl⟩
    · have hf := hf (by omega) (by omega)
      have b0 : (f != 0) = true := by simp; omega
      have b1 : (f != 1) = true := by simp; omega
      clear hf
      go_enter Tryz.func47, Tryz.ntmps47
      go_wp2_with fail
      go_returns
      exact ⟨Below.refl _ _, fun h => absurd h HM.out, fun _ => rfl⟩
set_option maxHeartbeats 8000000 in
theorem refRule_ok (A : Option Addr) (ca n : Nat) (nn f : Int) (l : List Int) (w : World) (hr : RdS .i64 w w.heap.size A l) (hn : l.length = n) (hl : n ≤ 1000) (h : M.may nn f) :
    Calls Tryz.prog 47 #[.int .i64 nn, .slice A n ca, .int .i64 f] w (RuleOut (M.may nn f) (M.wrule nn f l) w) := by
  obtain ⟨i0, hi, hz0, hz1, hz2⟩ := info_parts Tryz.infoCls
  have HM := Lib.hid h
  have HR := Lib.hid hr
  have HN := Lib.hid hn
  have hl1 : (n : Int) ≤ 1000 := by omega
  have hn1 : ¬ nn < 1 := by have := h.1; omega
  have hn7 : ¬ 7 < nn := by have := h.1; omega
  have hf : f = 0 ∨ f = 1 := h.2
  clear hr hn h
  rcases hf with rfl | rfl
  · obtain ⟨f, hff⟩ : ∃ f : Int, f = 0 := ⟨_, rfl⟩
    have b0 : (f != 0) = false := by rw [hff]; rfl
    have b1 : (f != 1) = true := by rw [hff]; rfl
    rw [← hff] at HM ⊢
    clear hff
    go_enter Tryz.func47, Tryz.ntmps47
    go_wp2_with fail
    go_loopw [8, 9] (fun o v wr => ∃ (k : Nat) (O : List Int), v = .int .i64 k ∧ k ≤ n ∧ O.length = k ∧ wr.ownsRow w.heap.size 39 1 o O.length (O.map (Value.int .i64)) ∧ M.wrule nn f l = O ++ M.wgo nn f (l.take k).reverse O.reverse (l.drop k) ∧ Below w.heap.size w wr) (fun _ v _ => n - (intOf v).toNat)
    case atStart => exact ⟨0, [], rfl, Nat.zero_le _, rfl, ⟨rfl, .inl ⟨rfl, rfl⟩⟩, rfl, Below.refl _ _⟩
    case round =>
      obtain ⟨k, O, rfl, hk, hO, ho, hw, hb⟩ := hrel
      have HB := Lib.hid hb
      have HO := Lib.hid ho
      have HOL := Lib.hid hO
      have HW := Lib.hid hw
      have k0 : (0 : Int) ≤ k := by omega
      obtain ⟨B, cB, rfl, hrO, -, -, -⟩ := reads_own ho
      by_cases hlt : k < n
      · have k1 : (k : Int) < n := by omega
        obtain ⟨c, hc⟩ : ∃ c, l[k]? = some c := ⟨_, List.getElem?_eq_getElem (by rw [HN.out]; exact hlt)⟩
        obtain ⟨x, hx⟩ : ∃ x, M.wat nn f (l.take k).reverse O.reverse c (l.drop (k + 1)) = x := ⟨_, rfl⟩
        have hC := refAt_any A B ca cB n k l O c nn f wr ((HR.out.below hb).more hb.size) HN.out hl hrO hO hc
        rw [hx] at hC
        have HC := Lib.hid hC
        have hw2 : M.wrule nn f l = (O ++ [x]) ++ M.wgo nn f (l.take (k + 1)).reverse (O ++ [x]).reverse (l.drop (k + 1)) := by
          rw [hw, M.drop_next' hc, M.wgo_cons, M.take_next' hc, List.reverse_append, hx]
          simp
        have HW2 := Lib.hid hw2
        have hbs := hb.size
        have hO1 := hO
        rw [hO]
        clear hb ho hO hw hrO hc hx hC hw2
        go_wp2_with fail
        refine HC.out.mono ?_
        rintro r w2 ⟨rfl, rfl⟩
        go_wp2_with (at_builtin; refine wpList_append_own _ rfl _ _ 22 rfl w.heap.size 39 i0 (.int .i64 0) 1 8 Tryz.underlying22 hi hz0 hz1 hz2 rfl (by decide) _ _ _ rfl (World.ownsRow.alloc (HOL.out ▸ HO.out) _) ⟨wr.heap.size, 0, none⟩ 1 1 [.int .i64 x] rfl rfl (one_new _ _ _) one_cell (by unfold maxLen; omega) (by omega) (by simp; omega) ?_)
        intro v4 w4 ho4 hg4 _
        have hb4 : Below w.heap.size w w4 := grow_below0 (HB.out.alloc hbs _) (World.ownsRow.alloc (HOL.out ▸ HO.out) _) hg4 (by simp; omega)
        have HB4 := Lib.hid hb4
        have hlen : (O ++ [x]).length = k + 1 := by rw [List.length_append, hO1]; rfl
        have hmap : O.map (Value.int .i64) ++ [Value.int .i64 x] = (O ++ [x]).map (Value.int .i64) := by rw [List.map_append]; rfl
        rw [hmap] at ho4
        have HO4 := Lib.hid ho4
        have HLEN := Lib.hid hlen
        clear ho4 hg4 hb4 hlen hmap hO1
        go_wp2_with fail
        go_roundw
        case rel => exact ⟨k + 1, O ++ [x], by go_num, by omega, HLEN.out, by rw [HLEN.out]; exact HO4.out, HW2.out, HB4.out⟩
        case measure => simp [intOf]; omega
      · obtain rfl : k = n := by omega
        have k1 : ¬ (k : Int) < (k : Int) := by omega
        have he : M.wrule nn f l = O := by
          rw [hw, List.drop_eq_nil_of_le (by rw [HN.out]; exact Nat.le_refl _)]
          exact List.append_nil _
        have HE := Lib.hid he
        clear hb ho hO hw hrO he
        go_wp2_with fail
        go_returns
        refine ⟨HB.out, fun _ => ⟨_, rfl, ?_⟩, fun h => absurd HM.out h⟩
        rw [HE.out]
        exact HO.out
  · obtain ⟨f, hff⟩ : ∃ f : Int, f = 1 := ⟨_, rfl⟩
    have b0 : (f != 0) = true := by rw [hff]; rfl
    have b1 : (f != 1) = false := by rw [hff]; rfl
    rw [← hff] at HM ⊢
    clear hff
    go_enter Tryz.func47, Tryz.ntmps47
    go_wp2_with fail
    go_loopw [8, 9] (fun o v wr => ∃ (k : Nat) (O : List Int), v = .int .i64 k ∧ k ≤ n ∧ O.length = k ∧ wr.ownsRow w.heap.size 39 1 o O.length (O.map (Value.int .i64)) ∧ M.wrule nn f l = O ++ M.wgo nn f (l.take k).reverse O.reverse (l.drop k) ∧ Below w.heap.size w wr) (fun _ v _ => n - (intOf v).toNat)
    case atStart => exact ⟨0, [], rfl, Nat.zero_le _, rfl, ⟨rfl, .inl ⟨rfl, rfl⟩⟩, rfl, Below.refl _ _⟩
    case round =>
      obtain ⟨k, O, rfl, hk, hO, ho, hw, hb⟩ := hrel
      have HB := Lib.hid hb
      have HO := Lib.hid ho
      have HOL := Lib.hid hO
      have HW := Lib.hid hw
      have k0 : (0 : Int) ≤ k := by omega
      obtain ⟨B, cB, rfl, hrO, -, -, -⟩ := reads_own ho
      by_cases hlt : k < n
      · have k1 : (k : Int) < n := by omega
        obtain ⟨c, hc⟩ : ∃ c, l[k]? = some c := ⟨_, List.getElem?_eq_getElem (by rw [HN.out]; exact hlt)⟩
        obtain ⟨x, hx⟩ : ∃ x, M.wat nn f (l.take k).reverse O.reverse c (l.drop (k + 1)) = x := ⟨_, rfl⟩
        have hC := refAt_any A B ca cB n k l O c nn f wr ((HR.out.below hb).more hb.size) HN.out hl hrO hO hc
        rw [hx] at hC
        have HC := Lib.hid hC
        have hw2 : M.wrule nn f l = (O ++ [x]) ++ M.wgo nn f (l.take (k + 1)).reverse (O ++ [x]).reverse (l.drop (k + 1)) := by
          rw [hw, M.drop_next' hc, M.wgo_cons, M.take_next' hc, List.reverse_append, hx]
          simp
        have HW2 := Lib.hid hw2
        have hbs := hb.size
        have hO1 := hO
        rw [hO]
        clear hb ho hO hw hrO hc hx hC hw2
        go_wp2_with fail
        refine HC.out.mono ?_
        rintro r w2 ⟨rfl, rfl⟩
        go_wp2_with (at_builtin; refine wpList_append_own _ rfl _ _ 22 rfl w.heap.size 39 i0 (.int .i64 0) 1 8 Tryz.underlying22 hi hz0 hz1 hz2 rfl (by decide) _ _ _ rfl (World.ownsRow.alloc (HOL.out ▸ HO.out) _) ⟨wr.heap.size, 0, none⟩ 1 1 [.int .i64 x] rfl rfl (one_new _ _ _) one_cell (by unfold maxLen; omega) (by omega) (by simp; omega) ?_)
        intro v4 w4 ho4 hg4 _
        have hb4 : Below w.heap.size w w4 := grow_below0 (HB.out.alloc hbs _) (World.ownsRow.alloc (HOL.out ▸ HO.out) _) hg4 (by simp; omega)
        have HB4 := Lib.hid hb4
        have hlen : (O ++ [x]).length = k + 1 := by rw [List.length_append, hO1]; rfl
        have hmap : O.map (Value.int .i64) ++ [Value.int .i64 x] = (O ++ [x]).map (Value.int .i64) := by rw [List.map_append]; rfl
        rw [hmap] at ho4
        have HO4 := Lib.hid ho4
        have HLEN := Lib.hid hlen
        clear ho4 hg4 hb4 hlen hmap hO1
        go_wp2_with fail
        go_roundw
        case rel => exact ⟨k + 1, O ++ [x], by go_num, by omega, HLEN.out, by rw [HLEN.out]; exact HO4.out, HW2.out, HB4.out⟩
        case measure => simp [intOf]; omega
      · obtain rfl : k = n := by omega
        have k1 : ¬ (k : Int) < (k : Int) := by omega
        have he : M.wrule nn f l = O := by
          rw [hw, List.drop_eq_nil_of_le (by rw [HN.out]; exact Nat.le_refl _)]
          exact List.append_nil _
        have HE := Lib.hid he
        clear hb ho hO hw hrO he
        go_wp2_with fail
        go_returns
        refine ⟨HB.out, fun _ => ⟨_, rfl, ?_⟩, fun h => absurd HM.out h⟩
        rw [HE.out]
        exact HO.out
end Go.Proofs.YtjlfgojblimobaaGreat.S10
end
