/- The contracts of the document's Begins, Removed, Known, end, between, Match and Strong. Conditions: the slice reads as a list of classes, at most a thousand long. -/
import Derived.Test.YticiofpbijahbaaGA
import Derived.Test.YticiofpbijahbaaGBa
section
namespace Go.Proofs.Yticiofpbijahbaa
open Go.RowKit
set_option maxRecDepth 100000

theorem begins_any (c : Int) (w : World) : Calls Try.prog 28 #[.int .i64 c] w fun r w' => r = .returned (.bool (M.begins c)) ∧ w = w' := by
  have H := Lib.hid (show M.begins c = (decide (c = 19) || (decide (c = 20) || decide (c = 21))) from rfl)
  go_enter Try.func28, Try.ntmps28
  go_wp2_with fail
  all_goals
    go_ret
    exact ⟨ret_bool (by rw [H.out, Bool.eq_iff_iff]; simp_all), rfl⟩
theorem removed_any (c : Int) (w : World) : Calls Try.prog 17 #[.int .i64 c] w fun r w' => r = .returned (.bool (M.removed c)) ∧ w = w' := by
  have H := Lib.hid (show M.removed c = (decide (c = 14) || (decide (c = 16) || (decide (c = 15) || (decide (c = 17) || (decide (c = 18) || decide (c = 9)))))) from rfl)
  go_enter Try.func17, Try.ntmps17
  go_wp2_with fail
  all_goals
    go_ret
    exact ⟨ret_bool (by rw [H.out, Bool.eq_iff_iff]; simp_all), rfl⟩
theorem known_any (c : Int) (w : World) : Calls Try.prog 43 #[.int .i64 c] w fun r w' => r = .returned (.int .i64 (M.known c)) ∧ w = w' := by
  have H := Lib.hid (show M.known c = if c < 0 ∨ 22 < c then 13 else c from rfl)
  go_enter Try.func43, Try.ntmps43
  go_wp2_with fail
  all_goals
    go_ret
    exact ⟨ret_int (by rw [H.out]; split <;> omega), rfl⟩

/-- Where a scalar's isolate ends; -1, if it begins none, or that has none. -/
def M.endI (l : List Int) (k : Nat) : Int := match l[k]? with
  | some c => if M.begins c = true then (match M.endR 1 (l.drop (k + 1)) with | some j => ((k + 1 + j : Nat) : Int) | none => -1) else -1
  | none => -1
/-- The rest of the search for an end. -/
def M.endTo (o : Int) (l : List Int) (i : Nat) : Int := match M.endR o (l.drop i) with | some j => ((i + j : Nat) : Int) | none => -1
theorem M.endTo_end {o : Int} {l : List Int} {i : Nat} (h : l.length ≤ i) : M.endTo o l i = -1 := by
  unfold M.endTo
  rw [List.drop_eq_nil_of_le h]
  rfl
theorem M.endTo_step {o c : Int} {l : List Int} {i : Nat} (h : l[i]? = some c) : M.endTo o l i = if c = 10 then -1 else if M.opened o c = 0 then (i : Int) else M.endTo (M.opened o c) l (i + 1) := by
  obtain ⟨hi, rfl⟩ := List.getElem?_eq_some_iff.1 h
  unfold M.endTo
  rw [List.drop_eq_getElem_cons hi, M.endR]
  by_cases h1 : l[i] = 10
  · rw [if_pos h1, if_pos h1]
  · rw [if_neg h1, if_neg h1]
    by_cases h2 : M.opened o l[i] = 0
    · rw [if_pos h2, if_pos h2]
      rfl
    · rw [if_neg h2, if_neg h2]
      cases M.endR (M.opened o l[i]) (l.drop (i + 1)) with
      | none => rfl
      | some j => simp only [Option.map_some]; omega
set_option maxHeartbeats 4000000 in
theorem end_any (A : Option Addr) (ca n k : Nat) (l : List Int) (w : World) (hr : RdS .i64 w w.heap.size A l) (hn : l.length = n) (hl : n ≤ 1000) (hk : k < n) :
    Calls Try.prog 40 #[.slice A n ca, .int .i64 k] w fun r w' => r = .returned (.int .i64 (M.endI l k)) ∧ w = w' := by
  obtain ⟨ad, b, hA, hcb, hb, -⟩ := rd_at hr (Below.refl _ _) (hn ▸ hk : k < l.length)
  subst hA
  have HR := Lib.hid hr
  have HN := Lib.hid hn
  have hl1 : (n : Int) ≤ 1000 := by omega
  have hk0 : (0 : Int) ≤ (k : Int) := by omega
  have hk1 : (k : Int) < (n : Int) := by omega
  have HBG := Lib.hid (begins_any b w)
  clear hr hn
  cases hbg : M.begins b
  · rw [hbg] at HBG
    have H := Lib.hid (show M.endI l k = -1 by unfold M.endI; rw [hb]; simp [hbg])
    clear hb hbg
    go_enter Try.func40, Try.ntmps40
    go_wp2_with fail
    refine HBG.out.mono ?_
    rintro r w1 ⟨rfl, rfl⟩
    go_wp2_with fail
    go_ret
    exact ⟨ret_int (by rw [H.out]), rfl⟩
  · rw [hbg] at HBG
    have H := Lib.hid (show M.endI l k = M.endTo 1 l (k + 1) by unfold M.endI M.endTo; rw [hb]; simp only [hbg, if_true])
    clear hb hbg
    go_enter Try.func40, Try.ntmps40
    go_wp2_with fail
    refine HBG.out.mono ?_
    rintro r w1 ⟨rfl, rfl⟩
    go_wp2_with fail
    go_loop [6, 7] (fun ov v => ∃ (i : Nat) (o : Int), i ≤ n ∧ v = .int .i64 i ∧ ov = .int .i64 o ∧ 0 < o ∧ o ≤ i ∧ M.endI l k = M.endTo o l i) (fun _ v => n - (intOf v).toNat)
    case atStart => exact ⟨k + 1, 1, by omega, by go_num, rfl, by omega, by omega, H.out⟩
    case round =>
      obtain ⟨i, o, hi, rfl, rfl, ho, hoi, he⟩ := hrel
      by_cases hlt : i < n
      · obtain ⟨ad', c, hA, hcc, hc, -⟩ := rd_at HR.out (Below.refl _ _) (by rw [HN.out]; exact hlt : i < l.length)
        obtain rfl : ad = ad' := by injection hA
        have hi0 : (0 : Int) ≤ (i : Int) := by omega
        have hi1 : (i : Int) < (n : Int) := by omega
        have HE := Lib.hid (he.trans (M.endTo_step hc))
        have HBC := Lib.hid (begins_any c w)
        clear he hc hA
        by_cases h10 : c = 10
        · subst h10
          have HF := Lib.hid (show M.endI l k = -1 by rw [HE.out, if_pos rfl])
          go_wp2_with fail
          go_ret
          exact ⟨ret_int (by rw [HF.out]), rfl⟩
        · have HG := Lib.hid (show M.endI l k = if M.opened o c = 0 then (i : Int) else M.endTo (M.opened o c) l (i + 1) by rw [HE.out, if_neg h10])
          have h10b : (c != 10) = true := by rw [bne_iff_ne]; exact h10
          cases hbg2 : M.begins c
          · rw [hbg2] at HBC
            by_cases h22 : c = 22
            · subst h22
              have HO := Lib.hid (show M.opened o 22 = o - 1 by unfold M.opened; rw [hbg2]; simp)
              clear hbg2
              by_cases h0 : o - 1 = 0
              · have HF := Lib.hid (show M.endI l k = (i : Int) by rw [HG.out, HO.out, if_pos h0])
                have h0b : (o - 1 == 0) = true := by rw [beq_iff_eq]; exact h0
                go_wp2_with fail
                refine HBC.out.mono ?_
                rintro r w1 ⟨rfl, rfl⟩
                go_wp2_with fail
                go_ret
                exact ⟨ret_int (by rw [HF.out]), rfl⟩
              · have HF := Lib.hid (show M.endI l k = M.endTo (o - 1) l (i + 1) by rw [HG.out, HO.out, if_neg h0])
                have h0b : (o - 1 == 0) = false := by rw [beq_eq_false_iff_ne]; exact h0
                go_wp2_with fail
                refine HBC.out.mono ?_
                rintro r w1 ⟨rfl, rfl⟩
                go_wp2_with fail
                go_round
                case rel => exact ⟨i + 1, o - 1, by omega, by go_num, rfl, by omega, by omega, HF.out⟩
                case measure => simp [intOf]; omega
            · have h22b : (c == 22) = false := by rw [beq_eq_false_iff_ne]; exact h22
              have HO := Lib.hid (show M.opened o c = o by unfold M.opened; rw [hbg2, if_neg h22]; simp)
              have HF := Lib.hid (show M.endI l k = M.endTo o l (i + 1) by rw [HG.out, HO.out, if_neg (by omega)])
              have h0b : (o == 0) = false := by rw [beq_eq_false_iff_ne]; omega
              clear hbg2 h22 h10
              go_wp2_with fail
              refine HBC.out.mono ?_
              rintro r w1 ⟨rfl, rfl⟩
              go_wp2_with fail
              go_round
              case rel => exact ⟨i + 1, o, by omega, by go_num, rfl, by omega, by omega, HF.out⟩
              case measure => simp [intOf]; omega
          · rw [hbg2] at HBC
            have h22 : c ≠ 22 := by intro h; subst h; revert hbg2; decide
            have h22b : (c == 22) = false := by rw [beq_eq_false_iff_ne]; exact h22
            have HO := Lib.hid (show M.opened o c = o + 1 by unfold M.opened; rw [hbg2, if_neg h22]; simp)
            have HF := Lib.hid (show M.endI l k = M.endTo (o + 1) l (i + 1) by rw [HG.out, HO.out, if_neg (by omega)])
            have h0b : (o + 1 == 0) = false := by rw [beq_eq_false_iff_ne]; omega
            clear hbg2 h22 h10
            go_wp2_with fail
            refine HBC.out.mono ?_
            rintro r w1 ⟨rfl, rfl⟩
            go_wp2_with fail
            go_round
            case rel => exact ⟨i + 1, o + 1, by omega, by go_num, rfl, by omega, by omega, HF.out⟩
            case measure => simp [intOf]; omega
      · obtain rfl : i = n := by omega
        have HF := Lib.hid (show M.endI l k = -1 by rw [he]; exact M.endTo_end (by rw [HN.out]; exact Nat.le_refl _))
        clear he
        go_wp2_with fail
        go_ret
        exact ⟨ret_int (by rw [HF.out]), rfl⟩
end Go.Proofs.Yticiofpbijahbaa
end
