/- The contract of cluster's joined, over the translation: no break between the last of some joins and the next one. Conditions: the slice reads as a list of joins, not empty, at most a thousand long. -/
import Derived.Test.YtpnbkakilmigeaaLeaf
namespace Go.Proofs.Ytpnbkakilmigeaa
open Go.RowKit

theorem RdS.taken {k : IntKind} {w : World} {B : Nat} {A : Option Addr} {l : List Int} (h : RdS k w B A l) {t : List Int} (n : Nat) (ht : l.take n = t) : RdS k w B A t := ht ▸ h.take n

set_option maxHeartbeats 4000000 in
theorem joined_any (A : Option Addr) (ca n : Nat) (l : List Int) (a b : Int) (w : World) (hr : RdS .i64 w w.heap.size A l) (hn : l.length = n) (hl : n ≤ 1000) (h0 : 0 < n) (hca : n ≤ ca) (ha : l[n - 1]? = some a) :
    Calls Try.prog 16 #[.slice A n ca, .int .i64 b] w fun r w' => r = .returned (.bool (!M.cut l.reverse b)) ∧ w = w' := by
  have hrev : l.reverse = a :: (l.take (n - 1)).reverse := by
    have := M.back_next ha
    rw [show n - 1 + 1 = n by omega] at this
    unfold M.back at this
    rwa [List.take_of_length_le (by omega)] at this
  obtain ⟨ad, x, rfl, hcx, hx, hab⟩ := rd_at hr (Below.refl _ _) (by omega : n - 1 < l.length)
  obtain rfl : a = x := by rw [ha] at hx; injection hx
  have HAL := Lib.hid (fun w => alone_any a w)
  have HBL := Lib.hid (fun w => alone_any b w)
  have HSY := Lib.hid (fun w => syllable_any a b w)
  have HTR := Lib.hid (fun w => trails_any b w)
  have HPI := Lib.hid (endsInPict_any (some ad) ca (n - 1) (l.take (n - 1)) w (hr.take _) (by simp; omega) (by omega))
  have HRG := Lib.hid (regionals_any (some ad) ca n l w hr hn hl)
  have hodd := M.regs_odd l.reverse
  have hrl : M.regs l.reverse ≤ 1000 := Nat.le_trans (M.regs_le _) (by simp; omega)
  obtain ⟨m, hm⟩ : ∃ m, M.regs l.reverse = m := ⟨_, rfl⟩
  obtain ⟨t, ht⟩ : ∃ t, (l.take (n - 1)).reverse = t := ⟨_, rfl⟩
  rw [ht] at HPI hrev
  rw [hm] at HRG hodd hrl
  rw [hrev] at hodd ⊢
  have n0 : (0 : Int) < n := by omega
  have n1 : (n : Int) ≤ 1000 := by omega
  have nca : (n : Int) ≤ ca := by omega
  have m0 : (m : Int) ≤ 1000 := by omega
  clear hr hn hrev ht hm ha hx hab
  unfold M.cut
  dsimp only
  obtain ⟨ea, hea⟩ : ∃ e, M.endsJ a = e := ⟨_, rfl⟩
  obtain ⟨eb, heb⟩ : ∃ e, M.endsJ b = e := ⟨_, rfl⟩
  obtain ⟨hg, hhg⟩ : ∃ e, M.hang a b = e := ⟨_, rfl⟩
  obtain ⟨tr, htr⟩ : ∃ e, M.trail b = e := ⟨_, rfl⟩
  obtain ⟨bs, hbs⟩ : ∃ e, M.base t = e := ⟨_, rfl⟩
  rw [hea] at HAL ⊢
  rw [heb] at HBL ⊢
  rw [hhg] at HSY ⊢
  rw [htr] at HTR
  rw [hbs] at HPI ⊢
  have htr' : tr = decide (b = 4 ∨ b = 5 ∨ b = 8) := htr.symm
  have key : ∀ B : Bool, (b = 4 ∨ b = 5 ∨ b = 8 ↔ tr = true) := fun _ => by rw [htr', decide_eq_true_iff]
  by_cases h12 : a = 1 ∧ b = 2
  · rw [if_pos h12]
    obtain ⟨rfl, rfl⟩ := h12
    clear HAL HBL HSY HTR HPI HRG hea heb hhg htr htr' key hodd hbs
    go_enter Try.func16, Try.ntmps16
    go_wp2_with fail
    go_ret
    exact ⟨rfl, rfl⟩
  · rw [if_neg h12]
    have hgate : (a == 1) = false ∨ ((a == 1) = true ∧ (b == 2) = false) := by
      by_cases h1 : a = 1
      · exact .inr ⟨by rw [beq_iff_eq]; exact h1, by rw [beq_eq_false_iff_ne]; exact fun h => h12 ⟨h1, h⟩⟩
      · exact .inl (by rw [beq_eq_false_iff_ne]; exact h1)
    have noa1 : ea = false → (a == 1) = false := fun h => by
      rw [beq_eq_false_iff_ne]
      intro h1
      rw [h1] at hea
      rw [h] at hea
      exact absurd hea (by decide)
    clear h12 hea heb hhg htr hbs
    cases ea
    case true =>
      rw [if_pos (.inl rfl)]
      clear noa1 htr' key hodd HPI HRG
      rcases hgate with g | ⟨g, g'⟩
      all_goals
        go_enter Try.func16, Try.ntmps16
        go_wp2_with fail
        refine (HAL.out _).mono ?_
        rintro r w2 ⟨rfl, rfl⟩
        go_wp2_with fail
        go_ret
        exact ⟨rfl, rfl⟩
    case false =>
      have a1 := noa1 rfl
      clear noa1 hgate
      cases eb
      case true =>
        rw [if_pos (.inr rfl)]
        clear htr' key hodd HPI HRG
        go_enter Try.func16, Try.ntmps16
        go_wp2_with fail
        refine (HAL.out _).mono ?_
        rintro r w2 ⟨rfl, rfl⟩
        go_wp2_with fail
        refine (HBL.out _).mono ?_
        rintro r w2 ⟨rfl, rfl⟩
        go_wp2_with fail
        go_ret
        exact ⟨rfl, rfl⟩
      case false =>
        rw [if_neg (by simp)]
        cases hg
        case true =>
          rw [if_pos (.inl rfl)]
          clear htr' key hodd HPI HRG
          go_enter Try.func16, Try.ntmps16
          go_wp2_with fail
          refine (HAL.out _).mono ?_
          rintro r w2 ⟨rfl, rfl⟩
          go_wp2_with fail
          refine (HBL.out _).mono ?_
          rintro r w2 ⟨rfl, rfl⟩
          go_wp2_with fail
          refine (HSY.out _).mono ?_
          rintro r w2 ⟨rfl, rfl⟩
          go_wp2_with fail
          go_ret
          exact ⟨rfl, rfl⟩
        case false =>
          cases tr
          case true =>
            rw [if_pos (by have := (key true).2 rfl; omega)]
            clear htr' key hodd HPI HRG
            go_enter Try.func16, Try.ntmps16
            go_wp2_with fail
            refine (HAL.out _).mono ?_
            rintro r w2 ⟨rfl, rfl⟩
            go_wp2_with fail
            refine (HBL.out _).mono ?_
            rintro r w2 ⟨rfl, rfl⟩
            go_wp2_with fail
            refine (HSY.out _).mono ?_
            rintro r w2 ⟨rfl, rfl⟩
            go_wp2_with fail
            refine (HTR.out _).mono ?_
            rintro r w2 ⟨rfl, rfl⟩
            go_wp2_with fail
            go_ret
            exact ⟨rfl, rfl⟩
          case false =>
            have hno : ¬ (b = 4 ∨ b = 5 ∨ b = 8) := fun h => absurd ((key true).1 h) (by decide)
            clear htr' key
            by_cases h7 : a = 7
            · subst h7
              rw [if_pos (by omega)]
              clear hno hodd HPI HRG a1
              go_enter Try.func16, Try.ntmps16
              go_wp2_with fail
              refine (HAL.out _).mono ?_
              rintro r w2 ⟨rfl, rfl⟩
              go_wp2_with fail
              refine (HBL.out _).mono ?_
              rintro r w2 ⟨rfl, rfl⟩
              go_wp2_with fail
              refine (HSY.out _).mono ?_
              rintro r w2 ⟨rfl, rfl⟩
              go_wp2_with fail
              refine (HTR.out _).mono ?_
              rintro r w2 ⟨rfl, rfl⟩
              go_wp2_with fail
              go_ret
              exact ⟨rfl, rfl⟩
            · have a7 : (a == 7) = false := by rw [beq_eq_false_iff_ne]; exact h7
              rw [if_neg (by simp; omega)]
              clear hno h7
              by_cases h14 : b = 14
              · subst h14
                rw [if_pos rfl]
                clear hodd HRG
                by_cases h5 : a = 5
                · subst h5
                  clear a7 a1
                  cases bs
                  all_goals
                    go_enter Try.func16, Try.ntmps16
                    go_wp2_with fail
                    refine (HAL.out _).mono ?_
                    rintro r w2 ⟨rfl, rfl⟩
                    go_wp2_with fail
                    refine (HBL.out _).mono ?_
                    rintro r w2 ⟨rfl, rfl⟩
                    go_wp2_with fail
                    refine (HSY.out _).mono ?_
                    rintro r w2 ⟨rfl, rfl⟩
                    go_wp2_with fail
                    refine (HTR.out _).mono ?_
                    rintro r w2 ⟨rfl, rfl⟩
                    go_wp2_with fail
                    refine (HPI.out).mono ?_
                    rintro r w2 ⟨rfl, rfl⟩
                    go_wp2_with fail
                    go_ret
                    exact ⟨rfl, rfl⟩
                · have a5 : (a == 5) = false := by rw [beq_eq_false_iff_ne]; exact h5
                  rw [decide_eq_false h5]
                  clear h5 HPI
                  by_cases h6 : a = 6
                  · subst h6
                    clear a7 a5 a1
                    go_enter Try.func16, Try.ntmps16
                    go_wp2_with fail
                    refine (HAL.out _).mono ?_
                    rintro r w2 ⟨rfl, rfl⟩
                    go_wp2_with fail
                    refine (HBL.out _).mono ?_
                    rintro r w2 ⟨rfl, rfl⟩
                    go_wp2_with fail
                    refine (HSY.out _).mono ?_
                    rintro r w2 ⟨rfl, rfl⟩
                    go_wp2_with fail
                    refine (HTR.out _).mono ?_
                    rintro r w2 ⟨rfl, rfl⟩
                    go_wp2_with fail
                    go_ret
                    exact ⟨rfl, rfl⟩
                  · have a6 : (a == 6) = false := by rw [beq_eq_false_iff_ne]; exact h6
                    clear h6
                    go_enter Try.func16, Try.ntmps16
                    go_wp2_with fail
                    refine (HAL.out _).mono ?_
                    rintro r w2 ⟨rfl, rfl⟩
                    go_wp2_with fail
                    refine (HBL.out _).mono ?_
                    rintro r w2 ⟨rfl, rfl⟩
                    go_wp2_with fail
                    refine (HSY.out _).mono ?_
                    rintro r w2 ⟨rfl, rfl⟩
                    go_wp2_with fail
                    refine (HTR.out _).mono ?_
                    rintro r w2 ⟨rfl, rfl⟩
                    go_wp2_with fail
                    go_ret
                    exact ⟨rfl, rfl⟩
              · have b14 : (b == 14) = false := by rw [beq_eq_false_iff_ne]; exact h14
                rw [if_neg h14]
                clear h14 HPI
                by_cases h66 : a = 6 ∧ b = 6
                · obtain ⟨rfl, rfl⟩ := h66
                  rw [if_pos ⟨rfl, rfl⟩, hodd]
                  have HRES := Lib.hid (show (((m : Int) % 2 == 1) = !!decide (m % 2 = 1)) by rw [Bool.not_not, Bool.eq_iff_iff]; simp; omega)
                  rw [← HRES.out]
                  clear hodd a7 a1 b14
                  go_enter Try.func16, Try.ntmps16
                  go_wp2_with fail
                  refine (HAL.out _).mono ?_
                  rintro r w2 ⟨rfl, rfl⟩
                  go_wp2_with fail
                  refine (HBL.out _).mono ?_
                  rintro r w2 ⟨rfl, rfl⟩
                  go_wp2_with fail
                  refine (HSY.out _).mono ?_
                  rintro r w2 ⟨rfl, rfl⟩
                  go_wp2_with fail
                  refine (HTR.out _).mono ?_
                  rintro r w2 ⟨rfl, rfl⟩
                  go_wp2_with fail
                  refine (HRG.out).mono ?_
                  rintro r w2 ⟨rfl, rfl⟩
                  go_wp2_with fail
                  go_ret
                  exact ⟨rfl, rfl⟩
                · rw [if_neg h66]
                  clear hodd HRG
                  have hg6 : (a == 6) = false ∨ ((a == 6) = true ∧ (b == 6) = false) := by
                    by_cases h1 : a = 6
                    · exact .inr ⟨by rw [beq_iff_eq]; exact h1, by rw [beq_eq_false_iff_ne]; exact fun h => h66 ⟨h1, h⟩⟩
                    · exact .inl (by rw [beq_eq_false_iff_ne]; exact h1)
                  clear h66
                  by_cases h5 : a = 5
                  · subst h5
                    clear hg6 a7 a1
                    go_enter Try.func16, Try.ntmps16
                    go_wp2_with fail
                    refine (HAL.out _).mono ?_
                    rintro r w2 ⟨rfl, rfl⟩
                    go_wp2_with fail
                    refine (HBL.out _).mono ?_
                    rintro r w2 ⟨rfl, rfl⟩
                    go_wp2_with fail
                    refine (HSY.out _).mono ?_
                    rintro r w2 ⟨rfl, rfl⟩
                    go_wp2_with fail
                    refine (HTR.out _).mono ?_
                    rintro r w2 ⟨rfl, rfl⟩
                    go_wp2_with fail
                    go_ret
                    exact ⟨rfl, rfl⟩
                  · have a5 : (a == 5) = false := by rw [beq_eq_false_iff_ne]; exact h5
                    clear h5
                    rcases hg6 with g | ⟨g, g'⟩
                    all_goals
                      go_enter Try.func16, Try.ntmps16
                      go_wp2_with fail
                      refine (HAL.out _).mono ?_
                      rintro r w2 ⟨rfl, rfl⟩
                      go_wp2_with fail
                      refine (HBL.out _).mono ?_
                      rintro r w2 ⟨rfl, rfl⟩
                      go_wp2_with fail
                      refine (HSY.out _).mono ?_
                      rintro r w2 ⟨rfl, rfl⟩
                      go_wp2_with fail
                      refine (HTR.out _).mono ?_
                      rintro r w2 ⟨rfl, rfl⟩
                      go_wp2_with fail
                      go_ret
                      exact ⟨rfl, rfl⟩
end Go.Proofs.Ytpnbkakilmigeaa
