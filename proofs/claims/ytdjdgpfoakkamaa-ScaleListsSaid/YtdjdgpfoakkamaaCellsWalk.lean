/- The walk of stage 4's law of cells: it answers true. Conditions: the arguments are those of words of eight bytes. -/
import Derived.Test.YtdjdgpfoakkamaaWholeWalk
namespace Go.Proofs.Ytdjdgpfoakkamaa
open Go.RowKit

theorem and_low (n : Int) : 0 ≤ bits .and .i64 n 127 ∧ bits .and .i64 n 127 ≤ 127 := by
  have h : (BitVec.ofInt 64 n &&& BitVec.ofInt 64 127).toNat ≤ 127 := by
    rw [BitVec.toNat_and]
    exact Nat.and_le_right
  have e : bits .and .i64 n 127 = IntKind.i64.wrap ((BitVec.ofInt 64 n &&& BitVec.ofInt 64 127).toNat : Int) := rfl
  obtain ⟨k, hk⟩ : ∃ k, (BitVec.ofInt 64 n &&& BitVec.ofInt 64 127).toNat = k := ⟨_, rfl⟩
  rw [hk] at h e
  rw [e, IntKind.wrap_i64]
  omega
theorem cells_whole : ∀ k : Fin 128, M.cellsI (M.wordI ((k : Nat) : Int)) = if (k : Nat) ≤ 64 then some ((k : Nat) : Int) else none := by decide +kernel
theorem cells_word {k : Int} (h0 : 0 ≤ k) (h1 : k ≤ 127) : M.cellsI (M.wordI k) = if k ≤ 64 then some k else none := by
  obtain ⟨n, rfl⟩ := Int.eq_ofNat_of_zero_le h0
  have := cells_whole ⟨n, by omega⟩
  dsimp only at this
  rw [this]
  by_cases h : n ≤ 64
  · rw [if_pos h, if_pos (by omega)]
  · rw [if_neg h, if_neg (by omega)]

/-- A number that has cells: their number is the least that is not below it. -/
theorem cells_least {x : Int} (h0 : 0 ≤ x) (h1 : x ≤ 18446744073709551615) {a : Int} (h : M.cellsI x = some a) :
    0 ≤ a ∧ a ≤ 64 ∧ F.rank x.toNat ≤ F.rank (M.wordI a).toNat ∧ (0 < a → F.rank (M.wordI (a - 1)).toNat < F.rank x.toNat) ∧ (a = 0 → F.rank x.toNat ≤ 0) := by
  obtain ⟨n, rfl⟩ := Int.eq_ofNat_of_zero_le h0
  have hn : n < 18446744073709551616 := by omega
  rw [Int.toNat_natCast]
  have hz : F.inf = 9218868437227405312 := rfl
  have nought : M.cellsI (n : Int) = some 0 → F.rank n = 0 ∨ F.rank n = -1 → 0 ≤ a ∧ a ≤ 64 ∧ F.rank n ≤ F.rank (M.wordI a).toNat ∧ (0 < a → F.rank (M.wordI (a - 1)).toNat < F.rank n) ∧ (a = 0 → F.rank n ≤ 0) := by
    intro e g
    rw [e] at h
    cases h
    have r0 : F.rank (M.wordI 0).toNat = 0 := by decide
    rw [r0]
    exact ⟨by omega, by omega, by omega, fun k => absurd k (by decide), fun _ => by omega⟩
  rcases F.sorts hn with ⟨hs, hc⟩ | ⟨hs, hc⟩ | ⟨hs, hc⟩ | ⟨hs, g1, g2⟩ | ⟨hs, g1, g2⟩ | ⟨hs, g1, g2, g3⟩ | ⟨hs, hc⟩
  · rw [F.cells_other (.inl hs)] at h; cases h
  · rw [F.cells_other (.inr (.inl hs))] at h; cases h
  · rw [F.cells_other (.inr (.inr (.inl hs)))] at h; cases h
  · refine nought (F.cells_nought (.inl hs)) (.inr ?_)
    unfold F.rank
    rw [g1, g2, if_neg (by omega)]
    rfl
  · refine nought (F.cells_nought (.inr hs)) (.inl ?_)
    unfold F.rank
    rw [g1, g2, if_neg (by omega)]
    rfl
  · rw [F.cells_pos hn g1 g2 g3] at h
    by_cases h64 : 64 < F.C (F.rung n)
    · rw [if_pos h64] at h; cases h
    · rw [if_neg h64] at h
      cases h
      have hr : F.rank n = (F.rung n : Int) := by
        unfold F.rank
        rw [g3, if_neg (by omega), if_neg (by decide)]
      have c0 := F.C_le_R (F.rung n) (k := 0) (by omega)
      rw [show F.R 0 = 0 from rfl] at c0
      have cp : 0 < F.C (F.rung n) := by omega
      obtain ⟨c, hc⟩ : ∃ c, F.C (F.rung n) = c := ⟨_, rfl⟩
      have cc := F.C_le_R (F.rung n) (k := c) (by omega)
      have cd := F.C_le_R (F.rung n) (k := c - 1) (by omega)
      rw [hc] at h64 cp cc cd ⊢
      obtain ⟨w1, _, _⟩ := rank_word (n := (c : Int)) (by omega) (by omega)
      obtain ⟨w2, _, _⟩ := rank_word (n := (c : Int) - 1) (by omega) (by omega)
      rw [if_neg (by omega)] at w1 w2
      rw [w1, w2, hr]
      have e1 : ((c : Int)).natAbs = c := by omega
      have e2 : ((c : Int) - 1).natAbs = c - 1 := by omega
      rw [e1, e2]
      exact ⟨by omega, by omega, by omega, fun _ => by omega, fun _ => by omega⟩
  · rw [F.cells_other (.inr (.inr (.inr hs)))] at h; cases h
theorem cells_rise {x y a b : Int} (h0 : 0 ≤ x) (h1 : x ≤ 18446744073709551615) (g0 : 0 ≤ y) (g1 : y ≤ 18446744073709551615) (h : M.cellsI x = some a) (g : M.cellsI y = some b) (hr : F.rank x.toNat ≤ F.rank y.toNat) : a ≤ b := by
  obtain ⟨a0, a1, a2, a3, _⟩ := cells_least h0 h1 h
  obtain ⟨b0, b1, b2, b3, _⟩ := cells_least g0 g1 g
  rcases Int.lt_or_le b a with k | k
  · have a3 := a3 (by omega)
    have l := F.R_lt (n := (a - 1).natAbs) (m := b.natAbs) (by omega) (by omega)
    obtain ⟨w1, _, _⟩ := rank_word (n := a - 1) (by omega) (by omega)
    obtain ⟨w2, _, _⟩ := rank_word (n := b) (by omega) (by omega)
    rw [if_neg (by omega)] at w1 w2
    omega
  · exact k

theorem signI_le {a b : Int} : 0 < M.signI a b ↔ b < a := by unfold M.signI; repeat' split; all_goals omega
theorem signI_ge {a b : Int} : 0 ≤ M.signI a b ↔ b ≤ a := by unfold M.signI; repeat' split; all_goals omega

set_option maxHeartbeats 8000000 in
theorem cellsLaw_any (x y n : Int) (w : World) (hx0 : 0 ≤ x) (hx1 : x ≤ 18446744073709551615) (hy0 : 0 ≤ y) (hy1 : y ≤ 18446744073709551615) :
    Calls Try.prog 6 #[.int .u64 x, .int .u64 y, .int .i64 n] w fun r w' => r = .returned (.bool true) ∧ w' = w := by
  obtain ⟨k0, k1⟩ := and_low n
  obtain ⟨k, hk⟩ : ∃ k, bits .and .i64 n 127 = k := ⟨_, rfl⟩
  rw [hk] at k0 k1
  obtain ⟨_, kw0, kw1⟩ := rank_word (n := k) (by omega) (by omega)
  have ha := of_any k w (by omega) (by omega)
  have hb := cells_at (M.wordI k) w kw0 kw1
  rw [cells_word k0 k1] at hb
  unfold M.ofI at ha
  rw [if_neg (by omega)] at ha
  simp only [M.ofV] at ha
  obtain ⟨kw, hkw⟩ : ∃ kw, M.wordI k = kw := ⟨_, rfl⟩
  rw [hkw] at ha hb
  clear hkw kw0 kw1
  have HA := Lib.hid ha
  have hc := cells_at x w hx0 hx1
  have hd := cells_at y w hy0 hy1
  have ho := order_at x y w hx0 hx1 hy0 hy1
  rw [order_place hx0 hx1 hy0 hy1] at ho
  have HALIVE := Lib.hid (alive_true w)
  clear ha
  by_cases k64 : k ≤ 64
  · rw [if_pos k64] at hb
    simp only [M.cellsV] at hb
    have HB := Lib.hid hb
    clear hb
    cases hcx : M.cellsI x with
    | none =>
      rw [hcx] at hc
      cases hcy : M.cellsI y with
      | none =>
        rw [hcy] at hd
        simp only [M.cellsV] at hc hd
        have HC := Lib.hid hc
        have HD := Lib.hid hd
        clear hc hd hcx hcy ho
        go_enter Try.func6, Try.ntmps6
        go_wp2_with fail
        refine HA.out.mono ?_
        rintro r w2 ⟨rfl, rfl⟩
        go_wp2_with fail
        refine HB.out.mono ?_
        rintro r w2 ⟨rfl, rfl⟩
        go_wp2_with fail
        refine HC.out.mono ?_
        rintro r w2 ⟨rfl, rfl⟩
        go_wp2_with fail
        refine HD.out.mono ?_
        rintro r w2 ⟨rfl, rfl⟩
        go_wp2_with fail
        refine HALIVE.out.mono ?_
        rintro r w2 ⟨rfl, rfl⟩
        go_wp2
        go_ret
        exact ⟨rfl, rfl⟩
      | some b =>
        rw [hcy] at hd
        simp only [M.cellsV] at hc hd
        have HC := Lib.hid hc
        have HD := Lib.hid hd
        clear hc hd hcx hcy ho
        go_enter Try.func6, Try.ntmps6
        go_wp2_with fail
        refine HA.out.mono ?_
        rintro r w2 ⟨rfl, rfl⟩
        go_wp2_with fail
        refine HB.out.mono ?_
        rintro r w2 ⟨rfl, rfl⟩
        go_wp2_with fail
        refine HC.out.mono ?_
        rintro r w2 ⟨rfl, rfl⟩
        go_wp2_with fail
        refine HD.out.mono ?_
        rintro r w2 ⟨rfl, rfl⟩
        go_wp2_with fail
        refine HALIVE.out.mono ?_
        rintro r w2 ⟨rfl, rfl⟩
        go_wp2
        go_ret
        exact ⟨rfl, rfl⟩
    | some a =>
      rw [hcx] at hc
      obtain ⟨a0, a1, a2, a3, a4⟩ := cells_least hx0 hx1 hcx
      obtain ⟨_, p0, p1⟩ := rank_word (n := a) (by omega) (by omega)
      obtain ⟨_, q0, q1⟩ := rank_word (n := a - 1) (by omega) (by omega)
      have he := of_any a w (by omega) (by omega)
      have hf := of_any (a - 1) w (by omega) (by omega)
      unfold M.ofI at he hf
      rw [if_neg (by omega)] at he hf
      simp only [M.ofV] at he hf
      have hg := order_at x (M.wordI a) w hx0 hx1 p0 p1
      have hh := order_at (M.wordI (a - 1)) x w q0 q1 hx0 hx1
      rw [order_place hx0 hx1 p0 p1] at hg
      rw [order_place q0 q1 hx0 hx1] at hh
      have g1 : ¬ 0 < M.signI (F.rank x.toNat) (F.rank (M.wordI a).toNat) := by rw [signI_le]; omega
      have g2 : 0 < a → ¬ 0 ≤ M.signI (F.rank (M.wordI (a - 1)).toNat) (F.rank x.toNat) := fun k => by rw [signI_ge]; have := a3 k; omega
      obtain ⟨pw, hpw⟩ : ∃ pw, M.wordI a = pw := ⟨_, rfl⟩
      obtain ⟨qw, hqw⟩ : ∃ qw, M.wordI (a - 1) = qw := ⟨_, rfl⟩
      rw [hpw] at he hg g1
      rw [hqw] at hf hh g2
      obtain ⟨u, hu⟩ : ∃ u, M.signI (F.rank x.toNat) (F.rank pw.toNat) = u := ⟨_, rfl⟩
      obtain ⟨v, hv⟩ : ∃ v, M.signI (F.rank qw.toNat) (F.rank x.toNat) = v := ⟨_, rfl⟩
      rw [hu] at hg g1
      rw [hv] at hh g2
      have HE := Lib.hid he
      have HF := Lib.hid hf
      have HG := Lib.hid hg
      have HH := Lib.hid hh
      clear he hf hg hh hu hv hpw hqw p0 p1 q0 q1 a2 a3 a4
      cases hcy : M.cellsI y with
      | none =>
        rw [hcy] at hd
        simp only [M.cellsV] at hc hd
        have HC := Lib.hid hc
        have HD := Lib.hid hd
        clear hc hd hcx hcy ho
        by_cases ap : 0 < a
        · have g3 := g2 ap
          clear g2
          go_enter Try.func6, Try.ntmps6
          go_wp2_with fail
          refine HA.out.mono ?_
          rintro r w2 ⟨rfl, rfl⟩
          go_wp2_with fail
          refine HB.out.mono ?_
          rintro r w2 ⟨rfl, rfl⟩
          go_wp2_with fail
          refine HC.out.mono ?_
          rintro r w2 ⟨rfl, rfl⟩
          go_wp2_with fail
          refine HD.out.mono ?_
          rintro r w2 ⟨rfl, rfl⟩
          go_wp2_with fail
          refine HE.out.mono ?_
          rintro r w2 ⟨rfl, rfl⟩
          go_wp2_with fail
          refine HF.out.mono ?_
          rintro r w2 ⟨rfl, rfl⟩
          go_wp2_with fail
          refine HG.out.mono ?_
          rintro r w2 ⟨rfl, rfl⟩
          go_wp2_with fail
          refine HH.out.mono ?_
          rintro r w2 ⟨rfl, rfl⟩
          go_wp2_with fail
          refine HALIVE.out.mono ?_
          rintro r w2 ⟨rfl, rfl⟩
          go_wp2
          go_ret
          exact ⟨rfl, rfl⟩
        · have az : a = 0 := by omega
          subst az
          clear g2
          by_cases v0 : 0 ≤ v
          · go_enter Try.func6, Try.ntmps6
            go_wp2_with fail
            refine HA.out.mono ?_
            rintro r w2 ⟨rfl, rfl⟩
            go_wp2_with fail
            refine HB.out.mono ?_
            rintro r w2 ⟨rfl, rfl⟩
            go_wp2_with fail
            refine HC.out.mono ?_
            rintro r w2 ⟨rfl, rfl⟩
            go_wp2_with fail
            refine HD.out.mono ?_
            rintro r w2 ⟨rfl, rfl⟩
            go_wp2_with fail
            refine HE.out.mono ?_
            rintro r w2 ⟨rfl, rfl⟩
            go_wp2_with fail
            refine HF.out.mono ?_
            rintro r w2 ⟨rfl, rfl⟩
            go_wp2_with fail
            refine HG.out.mono ?_
            rintro r w2 ⟨rfl, rfl⟩
            go_wp2_with fail
            refine HH.out.mono ?_
            rintro r w2 ⟨rfl, rfl⟩
            go_wp2_with fail
            refine HALIVE.out.mono ?_
            rintro r w2 ⟨rfl, rfl⟩
            go_wp2
            go_ret
            exact ⟨rfl, rfl⟩
          · go_enter Try.func6, Try.ntmps6
            go_wp2_with fail
            refine HA.out.mono ?_
            rintro r w2 ⟨rfl, rfl⟩
            go_wp2_with fail
            refine HB.out.mono ?_
            rintro r w2 ⟨rfl, rfl⟩
            go_wp2_with fail
            refine HC.out.mono ?_
            rintro r w2 ⟨rfl, rfl⟩
            go_wp2_with fail
            refine HD.out.mono ?_
            rintro r w2 ⟨rfl, rfl⟩
            go_wp2_with fail
            refine HE.out.mono ?_
            rintro r w2 ⟨rfl, rfl⟩
            go_wp2_with fail
            refine HF.out.mono ?_
            rintro r w2 ⟨rfl, rfl⟩
            go_wp2_with fail
            refine HG.out.mono ?_
            rintro r w2 ⟨rfl, rfl⟩
            go_wp2_with fail
            refine HH.out.mono ?_
            rintro r w2 ⟨rfl, rfl⟩
            go_wp2_with fail
            refine HALIVE.out.mono ?_
            rintro r w2 ⟨rfl, rfl⟩
            go_wp2
            go_ret
            exact ⟨rfl, rfl⟩
      | some b =>
        rw [hcy] at hd
        simp only [M.cellsV] at hc hd
        have HC := Lib.hid hc
        have HD := Lib.hid hd
        have rise := cells_rise hx0 hx1 hy0 hy1 hcx hcy
        have hab : 0 < M.signI (F.rank x.toNat) (F.rank y.toNat) ∨ (¬ 0 < M.signI (F.rank x.toNat) (F.rank y.toNat) ∧ a ≤ b) := by
          by_cases g : 0 < M.signI (F.rank x.toNat) (F.rank y.toNat)
          · exact .inl g
          · exact .inr ⟨g, rise (by rw [signI_le] at g; omega)⟩
        obtain ⟨t, ht⟩ : ∃ t, M.signI (F.rank x.toNat) (F.rank y.toNat) = t := ⟨_, rfl⟩
        rw [ht] at ho hab
        have HO := Lib.hid ho
        clear hc hd hcx hcy ho ht rise
        by_cases ap : 0 < a
        · have g3 := g2 ap
          clear g2
          rcases hab with g4 | ⟨g4, g5⟩
          · go_enter Try.func6, Try.ntmps6
            go_wp2_with fail
            refine HA.out.mono ?_
            rintro r w2 ⟨rfl, rfl⟩
            go_wp2_with fail
            refine HB.out.mono ?_
            rintro r w2 ⟨rfl, rfl⟩
            go_wp2_with fail
            refine HC.out.mono ?_
            rintro r w2 ⟨rfl, rfl⟩
            go_wp2_with fail
            refine HD.out.mono ?_
            rintro r w2 ⟨rfl, rfl⟩
            go_wp2_with fail
            refine HE.out.mono ?_
            rintro r w2 ⟨rfl, rfl⟩
            go_wp2_with fail
            refine HF.out.mono ?_
            rintro r w2 ⟨rfl, rfl⟩
            go_wp2_with fail
            refine HG.out.mono ?_
            rintro r w2 ⟨rfl, rfl⟩
            go_wp2_with fail
            refine HH.out.mono ?_
            rintro r w2 ⟨rfl, rfl⟩
            go_wp2_with fail
            refine HALIVE.out.mono ?_
            rintro r w2 ⟨rfl, rfl⟩
            go_wp2_with fail
            refine HO.out.mono ?_
            rintro r w2 ⟨rfl, rfl⟩
            go_wp2
            go_ret
            exact ⟨rfl, rfl⟩
          · go_enter Try.func6, Try.ntmps6
            go_wp2_with fail
            refine HA.out.mono ?_
            rintro r w2 ⟨rfl, rfl⟩
            go_wp2_with fail
            refine HB.out.mono ?_
            rintro r w2 ⟨rfl, rfl⟩
            go_wp2_with fail
            refine HC.out.mono ?_
            rintro r w2 ⟨rfl, rfl⟩
            go_wp2_with fail
            refine HD.out.mono ?_
            rintro r w2 ⟨rfl, rfl⟩
            go_wp2_with fail
            refine HE.out.mono ?_
            rintro r w2 ⟨rfl, rfl⟩
            go_wp2_with fail
            refine HF.out.mono ?_
            rintro r w2 ⟨rfl, rfl⟩
            go_wp2_with fail
            refine HG.out.mono ?_
            rintro r w2 ⟨rfl, rfl⟩
            go_wp2_with fail
            refine HH.out.mono ?_
            rintro r w2 ⟨rfl, rfl⟩
            go_wp2_with fail
            refine HALIVE.out.mono ?_
            rintro r w2 ⟨rfl, rfl⟩
            go_wp2_with fail
            refine HO.out.mono ?_
            rintro r w2 ⟨rfl, rfl⟩
            go_wp2
            go_ret
            exact ⟨rfl, rfl⟩
        · have az : a = 0 := by omega
          subst az
          clear g2
          by_cases v0 : 0 ≤ v
          · rcases hab with g4 | ⟨g4, g5⟩
            · go_enter Try.func6, Try.ntmps6
              go_wp2_with fail
              refine HA.out.mono ?_
              rintro r w2 ⟨rfl, rfl⟩
              go_wp2_with fail
              refine HB.out.mono ?_
              rintro r w2 ⟨rfl, rfl⟩
              go_wp2_with fail
              refine HC.out.mono ?_
              rintro r w2 ⟨rfl, rfl⟩
              go_wp2_with fail
              refine HD.out.mono ?_
              rintro r w2 ⟨rfl, rfl⟩
              go_wp2_with fail
              refine HE.out.mono ?_
              rintro r w2 ⟨rfl, rfl⟩
              go_wp2_with fail
              refine HF.out.mono ?_
              rintro r w2 ⟨rfl, rfl⟩
              go_wp2_with fail
              refine HG.out.mono ?_
              rintro r w2 ⟨rfl, rfl⟩
              go_wp2_with fail
              refine HH.out.mono ?_
              rintro r w2 ⟨rfl, rfl⟩
              go_wp2_with fail
              refine HALIVE.out.mono ?_
              rintro r w2 ⟨rfl, rfl⟩
              go_wp2_with fail
              refine HO.out.mono ?_
              rintro r w2 ⟨rfl, rfl⟩
              go_wp2
              go_ret
              exact ⟨rfl, rfl⟩
            · go_enter Try.func6, Try.ntmps6
              go_wp2_with fail
              refine HA.out.mono ?_
              rintro r w2 ⟨rfl, rfl⟩
              go_wp2_with fail
              refine HB.out.mono ?_
              rintro r w2 ⟨rfl, rfl⟩
              go_wp2_with fail
              refine HC.out.mono ?_
              rintro r w2 ⟨rfl, rfl⟩
              go_wp2_with fail
              refine HD.out.mono ?_
              rintro r w2 ⟨rfl, rfl⟩
              go_wp2_with fail
              refine HE.out.mono ?_
              rintro r w2 ⟨rfl, rfl⟩
              go_wp2_with fail
              refine HF.out.mono ?_
              rintro r w2 ⟨rfl, rfl⟩
              go_wp2_with fail
              refine HG.out.mono ?_
              rintro r w2 ⟨rfl, rfl⟩
              go_wp2_with fail
              refine HH.out.mono ?_
              rintro r w2 ⟨rfl, rfl⟩
              go_wp2_with fail
              refine HALIVE.out.mono ?_
              rintro r w2 ⟨rfl, rfl⟩
              go_wp2_with fail
              refine HO.out.mono ?_
              rintro r w2 ⟨rfl, rfl⟩
              go_wp2
              go_ret
              exact ⟨rfl, rfl⟩
          · rcases hab with g4 | ⟨g4, g5⟩
            · go_enter Try.func6, Try.ntmps6
              go_wp2_with fail
              refine HA.out.mono ?_
              rintro r w2 ⟨rfl, rfl⟩
              go_wp2_with fail
              refine HB.out.mono ?_
              rintro r w2 ⟨rfl, rfl⟩
              go_wp2_with fail
              refine HC.out.mono ?_
              rintro r w2 ⟨rfl, rfl⟩
              go_wp2_with fail
              refine HD.out.mono ?_
              rintro r w2 ⟨rfl, rfl⟩
              go_wp2_with fail
              refine HE.out.mono ?_
              rintro r w2 ⟨rfl, rfl⟩
              go_wp2_with fail
              refine HF.out.mono ?_
              rintro r w2 ⟨rfl, rfl⟩
              go_wp2_with fail
              refine HG.out.mono ?_
              rintro r w2 ⟨rfl, rfl⟩
              go_wp2_with fail
              refine HH.out.mono ?_
              rintro r w2 ⟨rfl, rfl⟩
              go_wp2_with fail
              refine HALIVE.out.mono ?_
              rintro r w2 ⟨rfl, rfl⟩
              go_wp2_with fail
              refine HO.out.mono ?_
              rintro r w2 ⟨rfl, rfl⟩
              go_wp2
              go_ret
              exact ⟨rfl, rfl⟩
            · go_enter Try.func6, Try.ntmps6
              go_wp2_with fail
              refine HA.out.mono ?_
              rintro r w2 ⟨rfl, rfl⟩
              go_wp2_with fail
              refine HB.out.mono ?_
              rintro r w2 ⟨rfl, rfl⟩
              go_wp2_with fail
              refine HC.out.mono ?_
              rintro r w2 ⟨rfl, rfl⟩
              go_wp2_with fail
              refine HD.out.mono ?_
              rintro r w2 ⟨rfl, rfl⟩
              go_wp2_with fail
              refine HE.out.mono ?_
              rintro r w2 ⟨rfl, rfl⟩
              go_wp2_with fail
              refine HF.out.mono ?_
              rintro r w2 ⟨rfl, rfl⟩
              go_wp2_with fail
              refine HG.out.mono ?_
              rintro r w2 ⟨rfl, rfl⟩
              go_wp2_with fail
              refine HH.out.mono ?_
              rintro r w2 ⟨rfl, rfl⟩
              go_wp2_with fail
              refine HALIVE.out.mono ?_
              rintro r w2 ⟨rfl, rfl⟩
              go_wp2_with fail
              refine HO.out.mono ?_
              rintro r w2 ⟨rfl, rfl⟩
              go_wp2
              go_ret
              exact ⟨rfl, rfl⟩
  · rw [if_neg k64] at hb
    simp only [M.cellsV] at hb
    have HB := Lib.hid hb
    clear hb
    cases hcx : M.cellsI x with
    | none =>
      rw [hcx] at hc
      cases hcy : M.cellsI y with
      | none =>
        rw [hcy] at hd
        simp only [M.cellsV] at hc hd
        have HC := Lib.hid hc
        have HD := Lib.hid hd
        clear hc hd hcx hcy ho
        go_enter Try.func6, Try.ntmps6
        go_wp2_with fail
        refine HA.out.mono ?_
        rintro r w2 ⟨rfl, rfl⟩
        go_wp2_with fail
        refine HB.out.mono ?_
        rintro r w2 ⟨rfl, rfl⟩
        go_wp2_with fail
        refine HC.out.mono ?_
        rintro r w2 ⟨rfl, rfl⟩
        go_wp2_with fail
        refine HD.out.mono ?_
        rintro r w2 ⟨rfl, rfl⟩
        go_wp2_with fail
        refine HALIVE.out.mono ?_
        rintro r w2 ⟨rfl, rfl⟩
        go_wp2
        go_ret
        exact ⟨rfl, rfl⟩
      | some b =>
        rw [hcy] at hd
        simp only [M.cellsV] at hc hd
        have HC := Lib.hid hc
        have HD := Lib.hid hd
        clear hc hd hcx hcy ho
        go_enter Try.func6, Try.ntmps6
        go_wp2_with fail
        refine HA.out.mono ?_
        rintro r w2 ⟨rfl, rfl⟩
        go_wp2_with fail
        refine HB.out.mono ?_
        rintro r w2 ⟨rfl, rfl⟩
        go_wp2_with fail
        refine HC.out.mono ?_
        rintro r w2 ⟨rfl, rfl⟩
        go_wp2_with fail
        refine HD.out.mono ?_
        rintro r w2 ⟨rfl, rfl⟩
        go_wp2_with fail
        refine HALIVE.out.mono ?_
        rintro r w2 ⟨rfl, rfl⟩
        go_wp2
        go_ret
        exact ⟨rfl, rfl⟩
    | some a =>
      rw [hcx] at hc
      obtain ⟨a0, a1, a2, a3, a4⟩ := cells_least hx0 hx1 hcx
      obtain ⟨_, p0, p1⟩ := rank_word (n := a) (by omega) (by omega)
      obtain ⟨_, q0, q1⟩ := rank_word (n := a - 1) (by omega) (by omega)
      have he := of_any a w (by omega) (by omega)
      have hf := of_any (a - 1) w (by omega) (by omega)
      unfold M.ofI at he hf
      rw [if_neg (by omega)] at he hf
      simp only [M.ofV] at he hf
      have hg := order_at x (M.wordI a) w hx0 hx1 p0 p1
      have hh := order_at (M.wordI (a - 1)) x w q0 q1 hx0 hx1
      rw [order_place hx0 hx1 p0 p1] at hg
      rw [order_place q0 q1 hx0 hx1] at hh
      have g1 : ¬ 0 < M.signI (F.rank x.toNat) (F.rank (M.wordI a).toNat) := by rw [signI_le]; omega
      have g2 : 0 < a → ¬ 0 ≤ M.signI (F.rank (M.wordI (a - 1)).toNat) (F.rank x.toNat) := fun k => by rw [signI_ge]; have := a3 k; omega
      obtain ⟨pw, hpw⟩ : ∃ pw, M.wordI a = pw := ⟨_, rfl⟩
      obtain ⟨qw, hqw⟩ : ∃ qw, M.wordI (a - 1) = qw := ⟨_, rfl⟩
      rw [hpw] at he hg g1
      rw [hqw] at hf hh g2
      obtain ⟨u, hu⟩ : ∃ u, M.signI (F.rank x.toNat) (F.rank pw.toNat) = u := ⟨_, rfl⟩
      obtain ⟨v, hv⟩ : ∃ v, M.signI (F.rank qw.toNat) (F.rank x.toNat) = v := ⟨_, rfl⟩
      rw [hu] at hg g1
      rw [hv] at hh g2
      have HE := Lib.hid he
      have HF := Lib.hid hf
      have HG := Lib.hid hg
      have HH := Lib.hid hh
      clear he hf hg hh hu hv hpw hqw p0 p1 q0 q1 a2 a3 a4
      cases hcy : M.cellsI y with
      | none =>
        rw [hcy] at hd
        simp only [M.cellsV] at hc hd
        have HC := Lib.hid hc
        have HD := Lib.hid hd
        clear hc hd hcx hcy ho
        by_cases ap : 0 < a
        · have g3 := g2 ap
          clear g2
          go_enter Try.func6, Try.ntmps6
          go_wp2_with fail
          refine HA.out.mono ?_
          rintro r w2 ⟨rfl, rfl⟩
          go_wp2_with fail
          refine HB.out.mono ?_
          rintro r w2 ⟨rfl, rfl⟩
          go_wp2_with fail
          refine HC.out.mono ?_
          rintro r w2 ⟨rfl, rfl⟩
          go_wp2_with fail
          refine HD.out.mono ?_
          rintro r w2 ⟨rfl, rfl⟩
          go_wp2_with fail
          refine HE.out.mono ?_
          rintro r w2 ⟨rfl, rfl⟩
          go_wp2_with fail
          refine HF.out.mono ?_
          rintro r w2 ⟨rfl, rfl⟩
          go_wp2_with fail
          refine HG.out.mono ?_
          rintro r w2 ⟨rfl, rfl⟩
          go_wp2_with fail
          refine HH.out.mono ?_
          rintro r w2 ⟨rfl, rfl⟩
          go_wp2_with fail
          refine HALIVE.out.mono ?_
          rintro r w2 ⟨rfl, rfl⟩
          go_wp2
          go_ret
          exact ⟨rfl, rfl⟩
        · have az : a = 0 := by omega
          subst az
          clear g2
          by_cases v0 : 0 ≤ v
          · go_enter Try.func6, Try.ntmps6
            go_wp2_with fail
            refine HA.out.mono ?_
            rintro r w2 ⟨rfl, rfl⟩
            go_wp2_with fail
            refine HB.out.mono ?_
            rintro r w2 ⟨rfl, rfl⟩
            go_wp2_with fail
            refine HC.out.mono ?_
            rintro r w2 ⟨rfl, rfl⟩
            go_wp2_with fail
            refine HD.out.mono ?_
            rintro r w2 ⟨rfl, rfl⟩
            go_wp2_with fail
            refine HE.out.mono ?_
            rintro r w2 ⟨rfl, rfl⟩
            go_wp2_with fail
            refine HF.out.mono ?_
            rintro r w2 ⟨rfl, rfl⟩
            go_wp2_with fail
            refine HG.out.mono ?_
            rintro r w2 ⟨rfl, rfl⟩
            go_wp2_with fail
            refine HH.out.mono ?_
            rintro r w2 ⟨rfl, rfl⟩
            go_wp2_with fail
            refine HALIVE.out.mono ?_
            rintro r w2 ⟨rfl, rfl⟩
            go_wp2
            go_ret
            exact ⟨rfl, rfl⟩
          · go_enter Try.func6, Try.ntmps6
            go_wp2_with fail
            refine HA.out.mono ?_
            rintro r w2 ⟨rfl, rfl⟩
            go_wp2_with fail
            refine HB.out.mono ?_
            rintro r w2 ⟨rfl, rfl⟩
            go_wp2_with fail
            refine HC.out.mono ?_
            rintro r w2 ⟨rfl, rfl⟩
            go_wp2_with fail
            refine HD.out.mono ?_
            rintro r w2 ⟨rfl, rfl⟩
            go_wp2_with fail
            refine HE.out.mono ?_
            rintro r w2 ⟨rfl, rfl⟩
            go_wp2_with fail
            refine HF.out.mono ?_
            rintro r w2 ⟨rfl, rfl⟩
            go_wp2_with fail
            refine HG.out.mono ?_
            rintro r w2 ⟨rfl, rfl⟩
            go_wp2_with fail
            refine HH.out.mono ?_
            rintro r w2 ⟨rfl, rfl⟩
            go_wp2_with fail
            refine HALIVE.out.mono ?_
            rintro r w2 ⟨rfl, rfl⟩
            go_wp2
            go_ret
            exact ⟨rfl, rfl⟩
      | some b =>
        rw [hcy] at hd
        simp only [M.cellsV] at hc hd
        have HC := Lib.hid hc
        have HD := Lib.hid hd
        have rise := cells_rise hx0 hx1 hy0 hy1 hcx hcy
        have hab : 0 < M.signI (F.rank x.toNat) (F.rank y.toNat) ∨ (¬ 0 < M.signI (F.rank x.toNat) (F.rank y.toNat) ∧ a ≤ b) := by
          by_cases g : 0 < M.signI (F.rank x.toNat) (F.rank y.toNat)
          · exact .inl g
          · exact .inr ⟨g, rise (by rw [signI_le] at g; omega)⟩
        obtain ⟨t, ht⟩ : ∃ t, M.signI (F.rank x.toNat) (F.rank y.toNat) = t := ⟨_, rfl⟩
        rw [ht] at ho hab
        have HO := Lib.hid ho
        clear hc hd hcx hcy ho ht rise
        by_cases ap : 0 < a
        · have g3 := g2 ap
          clear g2
          rcases hab with g4 | ⟨g4, g5⟩
          · go_enter Try.func6, Try.ntmps6
            go_wp2_with fail
            refine HA.out.mono ?_
            rintro r w2 ⟨rfl, rfl⟩
            go_wp2_with fail
            refine HB.out.mono ?_
            rintro r w2 ⟨rfl, rfl⟩
            go_wp2_with fail
            refine HC.out.mono ?_
            rintro r w2 ⟨rfl, rfl⟩
            go_wp2_with fail
            refine HD.out.mono ?_
            rintro r w2 ⟨rfl, rfl⟩
            go_wp2_with fail
            refine HE.out.mono ?_
            rintro r w2 ⟨rfl, rfl⟩
            go_wp2_with fail
            refine HF.out.mono ?_
            rintro r w2 ⟨rfl, rfl⟩
            go_wp2_with fail
            refine HG.out.mono ?_
            rintro r w2 ⟨rfl, rfl⟩
            go_wp2_with fail
            refine HH.out.mono ?_
            rintro r w2 ⟨rfl, rfl⟩
            go_wp2_with fail
            refine HALIVE.out.mono ?_
            rintro r w2 ⟨rfl, rfl⟩
            go_wp2_with fail
            refine HO.out.mono ?_
            rintro r w2 ⟨rfl, rfl⟩
            go_wp2
            go_ret
            exact ⟨rfl, rfl⟩
          · go_enter Try.func6, Try.ntmps6
            go_wp2_with fail
            refine HA.out.mono ?_
            rintro r w2 ⟨rfl, rfl⟩
            go_wp2_with fail
            refine HB.out.mono ?_
            rintro r w2 ⟨rfl, rfl⟩
            go_wp2_with fail
            refine HC.out.mono ?_
            rintro r w2 ⟨rfl, rfl⟩
            go_wp2_with fail
            refine HD.out.mono ?_
            rintro r w2 ⟨rfl, rfl⟩
            go_wp2_with fail
            refine HE.out.mono ?_
            rintro r w2 ⟨rfl, rfl⟩
            go_wp2_with fail
            refine HF.out.mono ?_
            rintro r w2 ⟨rfl, rfl⟩
            go_wp2_with fail
            refine HG.out.mono ?_
            rintro r w2 ⟨rfl, rfl⟩
            go_wp2_with fail
            refine HH.out.mono ?_
            rintro r w2 ⟨rfl, rfl⟩
            go_wp2_with fail
            refine HALIVE.out.mono ?_
            rintro r w2 ⟨rfl, rfl⟩
            go_wp2_with fail
            refine HO.out.mono ?_
            rintro r w2 ⟨rfl, rfl⟩
            go_wp2
            go_ret
            exact ⟨rfl, rfl⟩
        · have az : a = 0 := by omega
          subst az
          clear g2
          by_cases v0 : 0 ≤ v
          · rcases hab with g4 | ⟨g4, g5⟩
            · go_enter Try.func6, Try.ntmps6
              go_wp2_with fail
              refine HA.out.mono ?_
              rintro r w2 ⟨rfl, rfl⟩
              go_wp2_with fail
              refine HB.out.mono ?_
              rintro r w2 ⟨rfl, rfl⟩
              go_wp2_with fail
              refine HC.out.mono ?_
              rintro r w2 ⟨rfl, rfl⟩
              go_wp2_with fail
              refine HD.out.mono ?_
              rintro r w2 ⟨rfl, rfl⟩
              go_wp2_with fail
              refine HE.out.mono ?_
              rintro r w2 ⟨rfl, rfl⟩
              go_wp2_with fail
              refine HF.out.mono ?_
              rintro r w2 ⟨rfl, rfl⟩
              go_wp2_with fail
              refine HG.out.mono ?_
              rintro r w2 ⟨rfl, rfl⟩
              go_wp2_with fail
              refine HH.out.mono ?_
              rintro r w2 ⟨rfl, rfl⟩
              go_wp2_with fail
              refine HALIVE.out.mono ?_
              rintro r w2 ⟨rfl, rfl⟩
              go_wp2_with fail
              refine HO.out.mono ?_
              rintro r w2 ⟨rfl, rfl⟩
              go_wp2
              go_ret
              exact ⟨rfl, rfl⟩
            · go_enter Try.func6, Try.ntmps6
              go_wp2_with fail
              refine HA.out.mono ?_
              rintro r w2 ⟨rfl, rfl⟩
              go_wp2_with fail
              refine HB.out.mono ?_
              rintro r w2 ⟨rfl, rfl⟩
              go_wp2_with fail
              refine HC.out.mono ?_
              rintro r w2 ⟨rfl, rfl⟩
              go_wp2_with fail
              refine HD.out.mono ?_
              rintro r w2 ⟨rfl, rfl⟩
              go_wp2_with fail
              refine HE.out.mono ?_
              rintro r w2 ⟨rfl, rfl⟩
              go_wp2_with fail
              refine HF.out.mono ?_
              rintro r w2 ⟨rfl, rfl⟩
              go_wp2_with fail
              refine HG.out.mono ?_
              rintro r w2 ⟨rfl, rfl⟩
              go_wp2_with fail
              refine HH.out.mono ?_
              rintro r w2 ⟨rfl, rfl⟩
              go_wp2_with fail
              refine HALIVE.out.mono ?_
              rintro r w2 ⟨rfl, rfl⟩
              go_wp2_with fail
              refine HO.out.mono ?_
              rintro r w2 ⟨rfl, rfl⟩
              go_wp2
              go_ret
              exact ⟨rfl, rfl⟩
          · rcases hab with g4 | ⟨g4, g5⟩
            · go_enter Try.func6, Try.ntmps6
              go_wp2_with fail
              refine HA.out.mono ?_
              rintro r w2 ⟨rfl, rfl⟩
              go_wp2_with fail
              refine HB.out.mono ?_
              rintro r w2 ⟨rfl, rfl⟩
              go_wp2_with fail
              refine HC.out.mono ?_
              rintro r w2 ⟨rfl, rfl⟩
              go_wp2_with fail
              refine HD.out.mono ?_
              rintro r w2 ⟨rfl, rfl⟩
              go_wp2_with fail
              refine HE.out.mono ?_
              rintro r w2 ⟨rfl, rfl⟩
              go_wp2_with fail
              refine HF.out.mono ?_
              rintro r w2 ⟨rfl, rfl⟩
              go_wp2_with fail
              refine HG.out.mono ?_
              rintro r w2 ⟨rfl, rfl⟩
              go_wp2_with fail
              refine HH.out.mono ?_
              rintro r w2 ⟨rfl, rfl⟩
              go_wp2_with fail
              refine HALIVE.out.mono ?_
              rintro r w2 ⟨rfl, rfl⟩
              go_wp2_with fail
              refine HO.out.mono ?_
              rintro r w2 ⟨rfl, rfl⟩
              go_wp2
              go_ret
              exact ⟨rfl, rfl⟩
            · go_enter Try.func6, Try.ntmps6
              go_wp2_with fail
              refine HA.out.mono ?_
              rintro r w2 ⟨rfl, rfl⟩
              go_wp2_with fail
              refine HB.out.mono ?_
              rintro r w2 ⟨rfl, rfl⟩
              go_wp2_with fail
              refine HC.out.mono ?_
              rintro r w2 ⟨rfl, rfl⟩
              go_wp2_with fail
              refine HD.out.mono ?_
              rintro r w2 ⟨rfl, rfl⟩
              go_wp2_with fail
              refine HE.out.mono ?_
              rintro r w2 ⟨rfl, rfl⟩
              go_wp2_with fail
              refine HF.out.mono ?_
              rintro r w2 ⟨rfl, rfl⟩
              go_wp2_with fail
              refine HG.out.mono ?_
              rintro r w2 ⟨rfl, rfl⟩
              go_wp2_with fail
              refine HH.out.mono ?_
              rintro r w2 ⟨rfl, rfl⟩
              go_wp2_with fail
              refine HALIVE.out.mono ?_
              rintro r w2 ⟨rfl, rfl⟩
              go_wp2_with fail
              refine HO.out.mono ?_
              rintro r w2 ⟨rfl, rfl⟩
              go_wp2
              go_ret
              exact ⟨rfl, rfl⟩
end Go.Proofs.Ytdjdgpfoakkamaa
