/- The contract of cluster's Break over the translation. Conditions: the slice reads as a list of joins, at most a thousand long, within its capacity. -/
import Derived.Test.YtpnbkakilmigeaaJoined
namespace Go.Proofs.Ytpnbkakilmigeaa
open Go.RowKit

theorem drewN_below {n : Nat} {w W : World} (h : Below n w W) (m : Nat) : Below n w (W.drewN m) := by
  induction m with
  | zero => exact h
  | succ m ih => exact ih.drew

set_option maxHeartbeats 2000000 in
theorem break_any (A : Option Addr) (ca n : Nat) (l : List Int) (i : Int) (w : World) (hr : RdS .i64 w w.heap.size A l) (hn : l.length = n) (hl : n ≤ 1000) (hca : n ≤ ca) :
    Calls Try.prog 11 #[.slice A n ca, .int .i64 i] w fun r w' => r = .returned (.bool (M.brk l i)) ∧ Below w.heap.size w w' := by
  by_cases hin : 0 < i ∧ i < n
  · obtain ⟨k, rfl⟩ := Int.eq_ofNat_of_zero_le (show 0 ≤ i by omega)
    obtain ⟨a, ha⟩ : ∃ a, l[k - 1]? = some a := ⟨_, List.getElem?_eq_getElem (by omega)⟩
    obtain ⟨ad, b, rfl, hcb, hb, hab⟩ := rd_at hr (Below.refl _ _) (by omega : k < l.length)
    rw [M.brk_in hb]
    have ha2 : (l.take k)[k - 1]? = some a := by rw [List.getElem?_take, if_pos (by omega)]; exact ha
    have HJ := Lib.hid (fun m : Nat => joined_any (some ad) ca k (l.take k) a b (w.drewN m) ((hr.take k).below (drewN_below (Below.refl _ _) m) |>.more (drewN_below (Below.refl w.heap.size w) m).size) (by simp; omega) (by omega) (by omega) (by omega) ha2)
    obtain ⟨ct, hct⟩ : ∃ c, M.cut (M.back l k) b = c := ⟨_, rfl⟩
    have hct2 : M.cut (l.take k).reverse b = ct := hct
    rw [hct2] at HJ
    rw [hct]
    have k0 : (0 : Int) < k := by omega
    have k1 : (k : Int) < n := by omega
    have n1 : (n : Int) ≤ 1000 := by omega
    have nc : (n : Int) ≤ ca := by omega
    have kc : (k : Int) ≤ ca := by omega
    have nz : ((n : Int) == 0) = false := by rw [beq_eq_false_iff_ne]; omega
    have nz' : (n == 0) = false := by rw [beq_eq_false_iff_ne]; omega
    have kz : ((k : Int) == 0) = false := by rw [beq_eq_false_iff_ne]; omega
    have kz' : (k == 0) = false := by rw [beq_eq_false_iff_ne]; omega
    have kn : ((k : Int) == (n : Int)) = false := by rw [beq_eq_false_iff_ne]; omega
    have kn' : (k == n) = false := by rw [beq_eq_false_iff_ne]; omega
    clear hr hn hin ha ha2 hb hab hct hct2
    go_enter Try.func11, Try.ntmps11
    go_wp2_with fail
    go_quiet ((go_at_call 16; exact Calls.quiet_of_same ((HJ.out _).mono (fun _ _ h => ⟨h.1, h.2.symm⟩))))
    go_wp2_with fail
    go_ret
    exact ⟨rfl, drewN_below (Below.refl _ _) _⟩
  · have c1 : (n : Int) ≤ 1000 := by omega
    have hans : M.brk l i = if i < 0 ∨ (n : Int) < i ∨ n = 0 then false else true := by
      unfold M.brk
      rw [hn]
      by_cases h : i < 0 ∨ (n : Int) < i ∨ n = 0
      · rw [if_pos h, if_pos h]
      · rw [if_neg h, if_neg h]
        by_cases h2 : i = n
        · rw [if_pos h2]
        · rw [if_neg h2]
          obtain rfl : i = 0 := by omega
          obtain ⟨b, hb⟩ : ∃ b, l[0]? = some b := ⟨_, List.getElem?_eq_getElem (by omega)⟩
          rw [Int.toNat_zero, hb, M.back_zero]
          rfl
    rw [hans]
    clear hans hr hn
    by_cases h2 : n = 0
    · subst h2
      rw [if_pos (.inr (.inr rfl))]
      clear hin
      go_enter Try.func11, Try.ntmps11
      go_wp2_with fail
      go_ret
      exact ⟨rfl, Below.refl _ _⟩
    · have nz : ((n : Int) == 0) = false := by rw [beq_eq_false_iff_ne]; omega
      have nz' : (n == 0) = false := by rw [beq_eq_false_iff_ne]; exact h2
      by_cases h0 : i < 0
      · rw [if_pos (.inl h0)]
        clear hin
        go_enter Try.func11, Try.ntmps11
        go_wp2_with fail
        go_ret
        exact ⟨rfl, Below.refl _ _⟩
      · by_cases h1 : (n : Int) < i
        · rw [if_pos (.inr (.inl h1))]
          clear hin
          go_enter Try.func11, Try.ntmps11
          go_wp2_with fail
          go_ret
          exact ⟨rfl, Below.refl _ _⟩
        · rw [if_neg (by omega)]
          by_cases h3 : i = 0
          · subst h3
            clear hin h2
            go_enter Try.func11, Try.ntmps11
            go_wp2_with fail
            go_ret
            exact ⟨rfl, Below.refl _ _⟩
          · obtain rfl : i = n := by omega
            clear hin h2 h0 h1
            go_enter Try.func11, Try.ntmps11
            go_wp2_with fail
            go_ret
            exact ⟨rfl, Below.refl _ _⟩
end Go.Proofs.Ytpnbkakilmigeaa
