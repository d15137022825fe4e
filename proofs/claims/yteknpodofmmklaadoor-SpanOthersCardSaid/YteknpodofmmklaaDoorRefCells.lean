/- The document's own answer for the cells of a number, as its function Cells gives it, over the translation: on bits alone. Conditions: the bits are those of a word of eight bytes. -/
import Derived.Test.YteknpodofmmklaaDoorRefSort
namespace Go.Proofs.YteknpodofmmklaaDoor
open Go.RowKit

/-- Two to the power of i, as a whole number. -/
def M.two (i : Nat) : Int := ((2 ^ i : Nat) : Int)
theorem M.two_zero : M.two 0 = 1 := rfl
theorem M.two_next (i : Nat) : M.two (i + 1) = 2 * M.two i := by unfold M.two; rw [Nat.pow_succ]; omega
theorem M.two_pos (i : Nat) : 0 < M.two i := by unfold M.two; have := Nat.pow_pos (n := i) (show 0 < 2 by decide); omega
theorem M.two_le {i j : Nat} (h : i ≤ j) : M.two i ≤ M.two j := by
  unfold M.two
  have := Nat.pow_le_pow_right (show 0 < 2 by decide) h
  omega

theorem M.two_51 : M.two 51 = 2251799813685248 := by unfold M.two; decide
theorem M.two_52 : M.two 52 = 4503599627370496 := by unfold M.two; decide

/-- The cells of a number above one and below 128, out of its exponent and fraction. -/
def M.upI (e f : Int) : Int := (f + 4503599627370496 + M.two (1075 - e).toNat - 1) / M.two (1075 - e).toNat

/-- The answer for the cells of a word's bits: none where the number is none, infinite, below nought or too large. -/
def M.cellsI (x : Int) : Option Int :=
  if M.sortI x = 3 ∨ M.sortI x = 4 then some 0
  else if M.sortI x ≠ 5 then none
  else
    let e := x / 4503599627370496 % 2048
    let f := x % 4503599627370496
    if e < 1023 ∨ (e = 1023 ∧ f = 0) then some 1
    else if 1029 < e then none
    else if 64 < M.upI e f then none
    else some (M.upI e f)

def M.cellsV (o : Option Int) : Value := match o with
  | some k => .tuple #[.int .i64 k, .int .i64 0]
  | none => .tuple #[.int .i64 0, .int .i64 41]

set_option maxHeartbeats 2000000 in
theorem refCells_any (x : Int) (w : World) (h0 : 0 ≤ x) (h1 : x ≤ 18446744073709551615) :
    Calls Tryd.prog 36 #[.int .u64 x] w fun r w' => r = .returned (M.cellsV (M.cellsI x)) ∧ w' = w := by
  have hp := refParts_any x w h0 h1
  have hq := refSort_any x w h0 h1
  obtain ⟨s0, s1⟩ := M.sortI_le x h0 h1
  unfold M.cellsI
  obtain ⟨s, hs⟩ : ∃ s, M.sortI x = s := ⟨_, rfl⟩
  rw [hs] at hq s0 s1 ⊢
  have HQ := Lib.hid hq
  clear hq hs
  obtain ⟨e, he⟩ : ∃ e, x / 4503599627370496 % 2048 = e := ⟨_, rfl⟩
  obtain ⟨f, hf⟩ : ∃ f, x % 4503599627370496 = f := ⟨_, rfl⟩
  have e0 : 0 ≤ e := by omega
  have e1 : e ≤ 2047 := by omega
  have f0 : 0 ≤ f := by omega
  have f1 : f < 4503599627370496 := by omega
  dsimp only
  rw [he, hf] at hp ⊢
  have HP := Lib.hid hp
  clear hp he hf
  obtain ⟨ans, hans⟩ : ∃ ans, M.cellsV (if s = 3 ∨ s = 4 then some 0 else if s ≠ 5 then none else if e < 1023 ∨ (e = 1023 ∧ f = 0) then some 1 else if 1029 < e then none else if 64 < M.upI e f then none else some (M.upI e f)) = ans := ⟨_, rfl⟩
  rw [hans]
  have HA := Lib.hid hans
  clear hans
  go_enter Tryd.func36, Tryd.ntmps36
  go_wp2_with fail
  refine HQ.out.mono ?_
  rintro r w2 ⟨rfl, rfl⟩
  by_cases c3 : s = 3
  · subst c3
    have ha := HA.out
    rw [if_pos (.inl rfl)] at ha
    subst ha
    go_wp2
    go_ret2
    exact ⟨by simp [M.cellsV], rfl⟩
  · by_cases c4 : s = 4
    · subst c4
      have ha := HA.out
      rw [if_pos (.inr rfl)] at ha
      subst ha
      go_wp2
      go_ret2
      exact ⟨by simp [M.cellsV], rfl⟩
    · by_cases c5 : s = 5
      · subst c5
        have hz := HA.out
        rw [if_neg (show ¬ ((5 : Int) = 3 ∨ (5 : Int) = 4) by omega), if_neg (show ¬ ((5 : Int) ≠ 5) by omega)] at hz
        have HZ := Lib.hid hz
        clear hz HA
        go_wp2_with fail
        refine HP.out.mono ?_
        rintro r w3 ⟨rfl, rfl⟩
        by_cases d1 : e < 1023
        · have ha := HZ.out
          rw [if_pos (.inl d1)] at ha
          subst ha
          go_wp2
          go_ret2
          exact ⟨by simp [M.cellsV], rfl⟩
        · by_cases d2 : e = 1023 ∧ f = 0
          · have ha := HZ.out
            rw [if_pos (.inr d2)] at ha
            subst ha
            obtain ⟨rfl, rfl⟩ := d2
            go_wp2
            go_ret2
            exact ⟨by simp [M.cellsV], rfl⟩
          · have hy := HZ.out
            rw [if_neg (fun h => h.elim d1 d2)] at hy
            have HY := Lib.hid hy
            clear hy HZ
            by_cases d3 : 1029 < e
            · have ha := HY.out
              rw [if_pos d3] at ha
              subst ha
              clear d2
              go_wp2
              go_ret2
              exact ⟨by simp [M.cellsV], rfl⟩
            · have hx := HY.out
              rw [if_neg d3] at hx
              have HANS := Lib.hid hx
              clear hx HY
              by_cases d4 : e = 1023
              · have b1 : (e == 1023) = true := by rw [beq_iff_eq]; exact d4
                have b2 : (f == 0) = false := by rw [beq_eq_false_iff_ne]; exact fun h => d2 ⟨d4, h⟩
                have d6 : ¬ e < 1023 := d1
                clear d4
                clear d1 d2
                go_wp2
                go_loopw [9, 10] (fun v i wr => ∃ j : Nat, v = .int .u64 (M.two j) ∧ i = .int .i64 (e + j) ∧ e + j ≤ 1075 ∧ wr = w3) (fun _ i _ => 1075 - (intOf i).toNat)
                case atStart => exact ⟨0, by rw [M.two_zero], by simp, by omega, rfl⟩
                case round =>
                  obtain ⟨j, rfl, rfl, hj, rfl⟩ := hrel
                  by_cases hlt : e + j < 1075
                  · have g1 := M.two_le (show j ≤ 51 by omega)
                    rw [M.two_51] at g1
                    have g2 := M.two_pos j
                    go_wp2
                    go_roundw
                    case rel => exact ⟨j + 1, by rw [M.two_next], by go_num, by omega, trivial⟩
                    case measure => simp [intOf]; omega
                  · have hj2 : (1075 - e).toNat = j := by omega
                    have g1 := M.two_le (show j ≤ 52 by omega)
                    rw [M.two_52] at g1
                    have g2 := M.two_pos j
                    have ha := HANS.out
                    unfold M.upI at ha
                    rw [hj2] at ha
                    clear HANS
                    obtain ⟨t, ht⟩ : ∃ t, M.two j = t := ⟨_, rfl⟩
                    rw [ht] at g1 g2 ha ⊢
                    clear ht hj2
                    have q0 : 0 ≤ (f + 4503599627370496 + t - 1) / t := Int.ediv_nonneg (by omega) (by omega)
                    have q1 : (f + 4503599627370496 + t - 1) / t ≤ f + 4503599627370496 + t - 1 := Int.ediv_le_self _ (by omega)
                    obtain ⟨k, hk⟩ : ∃ k, (f + 4503599627370496 + t - 1) / t = k := ⟨_, rfl⟩
                    rw [hk] at q0 q1 ha
                    have htz : ¬ t = 0 := by omega
                    by_cases h64 : 64 < k
                    · rw [if_pos h64] at ha
                      subst ha
                      go_wp2
                      go_ret2
                      exact ⟨by simp [M.cellsV], rfl⟩
                    · rw [if_neg h64] at ha
                      subst ha
                      go_wp2
                      go_ret2
                      exact ⟨by simp [M.cellsV], rfl⟩
              · have b1 : (e == 1023) = false := by rw [beq_eq_false_iff_ne]; exact d4
                have d6 : ¬ e < 1023 := d1
                clear d4
                clear d1 d2
                go_wp2
                go_loopw [9, 10] (fun v i wr => ∃ j : Nat, v = .int .u64 (M.two j) ∧ i = .int .i64 (e + j) ∧ e + j ≤ 1075 ∧ wr = w3) (fun _ i _ => 1075 - (intOf i).toNat)
                case atStart => exact ⟨0, by rw [M.two_zero], by simp, by omega, rfl⟩
                case round =>
                  obtain ⟨j, rfl, rfl, hj, rfl⟩ := hrel
                  by_cases hlt : e + j < 1075
                  · have g1 := M.two_le (show j ≤ 51 by omega)
                    rw [M.two_51] at g1
                    have g2 := M.two_pos j
                    go_wp2
                    go_roundw
                    case rel => exact ⟨j + 1, by rw [M.two_next], by go_num, by omega, trivial⟩
                    case measure => simp [intOf]; omega
                  · have hj2 : (1075 - e).toNat = j := by omega
                    have g1 := M.two_le (show j ≤ 52 by omega)
                    rw [M.two_52] at g1
                    have g2 := M.two_pos j
                    have ha := HANS.out
                    unfold M.upI at ha
                    rw [hj2] at ha
                    clear HANS
                    obtain ⟨t, ht⟩ : ∃ t, M.two j = t := ⟨_, rfl⟩
                    rw [ht] at g1 g2 ha ⊢
                    clear ht hj2
                    have q0 : 0 ≤ (f + 4503599627370496 + t - 1) / t := Int.ediv_nonneg (by omega) (by omega)
                    have q1 : (f + 4503599627370496 + t - 1) / t ≤ f + 4503599627370496 + t - 1 := Int.ediv_le_self _ (by omega)
                    obtain ⟨k, hk⟩ : ∃ k, (f + 4503599627370496 + t - 1) / t = k := ⟨_, rfl⟩
                    rw [hk] at q0 q1 ha
                    have htz : ¬ t = 0 := by omega
                    by_cases h64 : 64 < k
                    · rw [if_pos h64] at ha
                      subst ha
                      go_wp2
                      go_ret2
                      exact ⟨by simp [M.cellsV], rfl⟩
                    · rw [if_neg h64] at ha
                      subst ha
                      go_wp2
                      go_ret2
                      exact ⟨by simp [M.cellsV], rfl⟩
      · have ha := HA.out
        rw [if_neg (show ¬ (s = 3 ∨ s = 4) by omega), if_pos c5] at ha
        subst ha
        clear HA
        have b3 : (s == 3) = false := by rw [beq_eq_false_iff_ne]; exact c3
        have b4 : (s == 4) = false := by rw [beq_eq_false_iff_ne]; exact c4
        have b5 : (s != 5) = true := by rw [bne_iff_ne]; exact c5
        clear c3 c4 c5
        go_wp2
        go_ret2
        exact ⟨by simp [M.cellsV], rfl⟩
end Go.Proofs.YteknpodofmmklaaDoor
