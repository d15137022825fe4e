/- The walk of ResolveWhole: it answers true. Conditions: the slice reads as a list, within its capacity. -/
import Derived.Test.YtjlfgojblimobaaGreatD00
import Derived.Test.YtjlfgojblimobaaGreatD01
section
namespace Go.Proofs.YtjlfgojblimobaaGreat
open Go.RowKit
set_option maxRecDepth 100000

set_option maxHeartbeats 4000000 in
theorem wholeLong_any (A : Option Addr) (ca n : Nat) (b at_ : Int) (w : World) (h : 150 < n) (hn : n ≤ maxLen) :
    Calls Tryz.prog 7 #[.slice A n ca, .int .i64 b, .int .i64 at_] w fun r w' => r = .returned (.bool true) ∧ Below w.heap.size w w' := by
  unfold maxLen at hn
  have h1 : (n : Int) ≤ 9223372036854775807 := by omega
  have h4 : (150 : Int) < n := by omega
  go_enter Tryz.func7, Tryz.ntmps7
  go_wp2_with fail
  refine (alive_any _).mono ?_
  rintro r w2 ⟨rfl, hb⟩
  have HB := Lib.hid hb
  clear hb
  go_wp2_with fail
  go_ret
  exact ⟨rfl, HB.out⟩
set_option maxHeartbeats 16000000 in
theorem wholeShort_any (A : Option Addr) (ca n : Nat) (base at_ : Int) (l : List Int) (w : World) (hr : RdS .i64 w w.heap.size A l) (hn : l.length = n) (hl : n ≤ 150) (hca : n ≤ ca) (hat : -9223372036854775808 ≤ at_) :
    Calls Tryz.prog 7 #[.slice A n ca, .int .i64 base, .int .i64 at_] w fun r w' => r = .returned (.bool true) ∧ Below w.heap.size w w' := by
  obtain ⟨b, hbb⟩ : ∃ b, bits .and .i64 base 1 = b := ⟨_, rfl⟩
  have hb := and_1 base
  rw [hbb] at hb
  have HR := Lib.hid hr
  have HN := Lib.hid hn
  have HCA := Lib.hid hca
  have HB := Lib.hid hb
  have n1 : (n : Int) ≤ 150 := by omega
  have n0 : (0 : Int) ≤ n := by omega
  have d1 : decide ((150 : Int) < n) = false := by simp; omega
  have d3 : decide (150 < n) = false := by simp; omega
  have bn : ((n : Int) != (n : Int)) = false := by simp
  have HBI := Lib.hid (show M.baseI l b = b by unfold M.baseI; rw [if_neg (by omega)])
  clear hr hn hca hb
  go_enter Tryz.func7, Tryz.ntmps7
  go_wp2_with fail
  refine (cpara_any A none ca 0 n 0 l [] b w HR.out S11.RdT.nil HN.out rfl (by omega) (by omega) HCA.out (Nat.le_refl _)).mono ?_
  rintro r w2 ⟨hb2, hok, -⟩
  obtain ⟨A2, c2, rfl, hx2, hc2⟩ := hok (by have := HB.out; omega)
  rw [HBI.out] at hx2 hc2 ⊢
  rw [M.para_len, HN.out] at hc2 ⊢
  have HX2 := Lib.hid hx2
  have HB2 := Lib.hid hb2
  have HL2 := Lib.hid ((HR.out.below hb2).more hb2.size)
  have HC2 := Lib.hid hc2
  clear hb2 hok hx2 hc2
  go_wp2_with fail
  have HQ := Lib.hid (cline_any A A2 ca c2 n n 0 n b l (M.para l [] b) w2 HL2.out HX2.out HN.out (by rw [M.para_len, HN.out]) (by omega) (by omega) HCA.out HC2.out)
  refine HQ.out.mono ?_
  rintro r w3 ⟨hb3, hok, -⟩
  obtain ⟨A3, c3, rfl, hy3, hc3⟩ := hok ⟨by rw [M.para_len], by omega, by omega, by rw [HN.out]; omega, by have := HB.out; omega, by have := HB.out; omega⟩
  have hyl : (M.line l (M.para l [] b) 0 n b).length = n := by rw [← HN.out, M.line_all M.para_len.symm, M.ln_len M.para_len.symm]
  rw [hyl] at hc3 ⊢
  have HYL := Lib.hid hyl
  have HY3 := Lib.hid hy3
  have HC3 := Lib.hid hc3
  have HX3 := Lib.hid ((HX2.out.below hb3).more hb3.size)
  have HL3 := Lib.hid ((HL2.out.below hb3).more hb3.size)
  have HB3 := Lib.hid (HB2.out.trans (hb3.mono HB2.out.size))
  clear hb3 hok hy3 hc3 hyl
  go_wp2_with fail
  go_loopw [12] (fun v wr => ∃ k : Nat, v = .int .i64 k ∧ k ≤ n ∧ Below w3.heap.size w3 wr) (fun v _ => n - (intOf v).toNat)
  case atStart => exact ⟨0, rfl, Nat.zero_le _, Below.refl _ _⟩
  case round =>
    obtain ⟨k, rfl, hk, hbel⟩ := hrel
    rename World => wr
    have HBE := Lib.hid hbel
    have k0 : (0 : Int) ≤ k := by omega
    by_cases hlt : k < n
    · have k1 : (k : Int) < n := by omega
      obtain ⟨ad, c, rfl, hcx, hc, -⟩ := rd_at HL3.out hbel (by rw [HN.out]; exact hlt : k < l.length)
      obtain ⟨xd, x, rfl, hxx, hx, -⟩ := rd_at HX3.out hbel (by rw [M.para_len, HN.out]; exact hlt : k < (M.para l [] b).length)
      obtain ⟨yd, y, rfl, hyy, hy, -⟩ := rd_at HY3.out hbel (by rw [HYL.out]; exact hlt : k < (M.line l (M.para l [] b) 0 n b).length)
      have hna := M.whole_at HB.out hc hx (by rw [HN.out]; exact hy)
      have HRM := Lib.hid (removed_any c wr)
      have HNE := Lib.hid (S12.refNeu_any c wr)
      obtain ⟨m', hm'⟩ : ∃ m', M.removed c = m' := ⟨_, rfl⟩
      obtain ⟨n', hn'⟩ : ∃ n', decide (S12.M.neu c) = n' := ⟨_, rfl⟩
      rw [hm'] at hna HRM
      rw [hn'] at HNE
      have z2 := fun d os => cell_regrown hxx d os
      have z3 := fun d os => cell_regrown hyy d os
      have q3 : decide (y < b) = false := by have := hna.2.2; simp; omega
      have hn2 : n' = false → ¬ S12.M.neu c := fun h => by rw [h] at hn'; exact of_decide_eq_false hn'
      clear hc hx hy hm' hxx hyy hbel
      by_cases hc : c = 11 ∨ c = 10
      · have hyb := hna.1 hc
        have q1 : (y != b) = false := by simp [hyb]
        have hn3 : n' = true := by
          rw [← hn']
          exact decide_eq_true (by unfold S12.M.neu; omega)
        subst hn3
        clear hna hn2 hyb hn'
        rcases hc with rfl | rfl
        all_goals
          go_wp2_with fail
          refine HNE.out.mono ?_
          rintro r w4 ⟨rfl, rfl⟩
          go_wp2_with fail
          refine wp_region_quiet_below (by kernel_rfl) (by kernel_rfl) ?_
          repeat (go_big_quiet_step (fail))
          refine wpQuiet_nil ?_
          intro _ hw'
          obtain ⟨⟨dq, osq⟩, hw4⟩ := hw'
          subst hw4
          have hbg := below_regrown wr dq osq
          have HBX := Lib.hid (HBE.out.trans (hbg.mono HBE.out.size))
          obtain ⟨X, hX⟩ : ∃ Z, Sort.grow (redrawn wr dq) osq = Z := ⟨_, rfl⟩
          rw [hX] at HBX
          dsimp only
          rw [hX]
          clear hX hbg z2 z3 hcx
          go_wp2_with fail
          go_roundw
          case rel => exact ⟨k + 1, by go_num, by omega, HBX.out⟩
          case measure => simp [intOf]; omega
      · have hc1 : (c == 11) = false := by simp; omega
        have hc2 : (c == 10) = false := by simp; omega
        clear hc
        cases n' with
        | true =>
          clear hna hn2 hn'
          go_wp2_with fail
          refine HNE.out.mono ?_
          rintro r w4 ⟨rfl, rfl⟩
          go_wp2_with fail
          refine wp_region_quiet_below (by kernel_rfl) (by kernel_rfl) ?_
          repeat (go_big_quiet_step (fail))
          refine wpQuiet_nil ?_
          intro _ hw'
          obtain ⟨⟨dq, osq⟩, hw4⟩ := hw'
          subst hw4
          have hbg := below_regrown wr dq osq
          have HBX := Lib.hid (HBE.out.trans (hbg.mono HBE.out.size))
          obtain ⟨X, hX⟩ : ∃ Z, Sort.grow (redrawn wr dq) osq = Z := ⟨_, rfl⟩
          rw [hX] at HBX
          dsimp only
          rw [hX]
          clear hX hbg z2 z3 hcx
          go_wp2_with fail
          go_roundw
          case rel => exact ⟨k + 1, by go_num, by omega, HBX.out⟩
          case measure => simp [intOf]; omega
        | false =>
          cases m' with
          | true =>
            clear hna hn2 hn'
            go_wp2_with fail
            refine HNE.out.mono ?_
            rintro r w4 ⟨rfl, rfl⟩
            go_wp2_with fail
            refine HRM.out.mono ?_
            rintro r w4 ⟨rfl, rfl⟩
            go_wp2_with fail
            refine wp_region_quiet_below (by kernel_rfl) (by kernel_rfl) ?_
            repeat (go_big_quiet_step (fail))
            refine wpQuiet_nil ?_
            intro _ hw'
            obtain ⟨⟨dq, osq⟩, hw4⟩ := hw'
            subst hw4
            have hbg := below_regrown wr dq osq
            have HBX := Lib.hid (HBE.out.trans (hbg.mono HBE.out.size))
            obtain ⟨X, hX⟩ : ∃ Z, Sort.grow (redrawn wr dq) osq = Z := ⟨_, rfl⟩
            rw [hX] at HBX
            dsimp only
            rw [hX]
            clear hX hbg z2 z3 hcx
            go_wp2_with fail
            go_roundw
            case rel => exact ⟨k + 1, by go_num, by omega, HBX.out⟩
            case measure => simp [intOf]; omega
          | false =>
            have q4 : (y != x) = false := by simp [hna.2.1 (hn2 rfl) rfl]
            clear hna hn2 hn'
            go_wp2_with fail
            refine HNE.out.mono ?_
            rintro r w4 ⟨rfl, rfl⟩
            go_wp2_with fail
            refine HRM.out.mono ?_
            rintro r w4 ⟨rfl, rfl⟩
            go_wp2_with fail
            refine wp_region_quiet_below (by kernel_rfl) (by kernel_rfl) ?_
            repeat (go_big_quiet_step (fail))
            refine wpQuiet_nil ?_
            intro _ hw'
            obtain ⟨⟨dq, osq⟩, hw4⟩ := hw'
            subst hw4
            have hbg := below_regrown wr dq osq
            have HBX := Lib.hid (HBE.out.trans (hbg.mono HBE.out.size))
            obtain ⟨X, hX⟩ : ∃ Z, Sort.grow (redrawn wr dq) osq = Z := ⟨_, rfl⟩
            rw [hX] at HBX
            dsimp only
            rw [hX]
            clear hX hbg z2 z3 hcx
            go_wp2_with fail
            go_roundw
            case rel => exact ⟨k + 1, by go_num, by omega, HBX.out⟩
            case measure => simp [intOf]; omega
    · obtain rfl : k = n := by omega
      have k1 : ¬ (k : Int) < (k : Int) := by omega
      have HBW := Lib.hid (HB3.out.trans (hbel.mono HB3.out.size))
      have HLW := Lib.hid ((HL3.out.below hbel).more hbel.size)
      have HXW := Lib.hid ((HX3.out.below hbel).more hbel.size)
      have HYW := Lib.hid ((HY3.out.below hbel).more hbel.size)
      clear hbel HBE
      by_cases ha : at_ < 1
      · go_wp2_with fail
        refine (alive_any _).mono ?_
        rintro r w4 ⟨rfl, hb4⟩
        have HB4 := Lib.hid (HBW.out.trans (hb4.mono HBW.out.size))
        clear hb4
        go_wp2_with fail
        go_ret
        exact ⟨rfl, HB4.out⟩
      · by_cases ha2 : (k : Int) < at_
        · have ha' : 1 ≤ at_ := by omega
          go_wp2_with fail
          refine (alive_any _).mono ?_
          rintro r w4 ⟨rfl, hb4⟩
          have HB4 := Lib.hid (HBW.out.trans (hb4.mono HBW.out.size))
          clear hb4
          go_wp2_with fail
          go_ret
          exact ⟨rfl, HB4.out⟩
        · obtain ⟨t, rfl⟩ : ∃ t : Nat, at_ = t := ⟨at_.toNat, by omega⟩
          obtain ⟨j, hj⟩ : ∃ j, t = j + 1 := ⟨t - 1, by omega⟩
          have t1 : (t : Int) - 1 = j := by omega
          have t2 : ¬ (t : Int) < 1 := ha
          have t3 : (t : Int) ≤ k := by omega
          have t4 : ¬ (k : Int) < t := ha2
          have j1 : (j : Int) < k := by omega
          have j0 : (0 : Int) ≤ j := by omega
          have tc : (t : Int) ≤ c3 := by have := HC3.out; omega
          obtain ⟨ad, c, rfl, hcx, hc, -⟩ := rd_at HLW.out (Below.refl _ _) (by rw [HN.out]; omega : j < l.length)
          have HC := Lib.hid hc
          have HJ := Lib.hid hj
          have HRM := Lib.hid (removed_any c wr)
          have HNE := Lib.hid (S12.refNeu_any c wr)
          obtain ⟨m', hm'⟩ : ∃ m', M.removed c = m' := ⟨_, rfl⟩
          obtain ⟨n', hn'⟩ : ∃ n', decide (S12.M.neu c) = n' := ⟨_, rfl⟩
          rw [hm'] at HRM
          rw [hn'] at HNE
          have HMM := Lib.hid hm'
          have HNN := Lib.hid hn'
          have HQ3 := Lib.hid (cline_any (some ad) A2 ca c2 k k 0 t b l (M.para l [] b) wr HLW.out HXW.out HN.out (by rw [M.para_len, HN.out]) (by omega) (by omega) HCA.out HC2.out)
          have HOK3 := Lib.hid (show M.lineOk l (M.para l [] b) 0 t b from ⟨by rw [M.para_len], by omega, by omega, by rw [HN.out]; omega, by have := HB.out; omega, by have := HB.out; omega⟩)
          clear hc hm' hn' hj ha ha2
          go_wp2_with fail
          refine HNE.out.mono ?_
          rintro r w4 ⟨rfl, rfl⟩
          have HL0 := Lib.hid (M.line_len0 (l := l) (ms := []) (b := b) (t := t) (by rw [HN.out]; omega))
          cases n' with
          | true =>
            go_wp2_with fail
            refine HQ3.out.mono ?_
            rintro r w5 ⟨hb5, hok, -⟩
            obtain ⟨A5, c5, rfl, hz5, -⟩ := hok HOK3.out
            rw [HL0.out]
            have HZ5 := Lib.hid hz5
            have HB5 := Lib.hid (HBW.out.trans (hb5.mono HBW.out.size))
            have HY5 := Lib.hid ((HYW.out.below hb5).more hb5.size)
            clear hb5 hok hz5
            go_wp2_with fail
            refine (alive_any _).mono ?_
            rintro r w6 ⟨rfl, hb6⟩
            have HB6 := Lib.hid (HB5.out.trans (hb6.mono HB5.out.size))
            have HZ6 := Lib.hid ((HZ5.out.below hb6).more hb6.size)
            have HY6 := Lib.hid ((HY5.out.below hb6).more hb6.size)
            clear hb6
            go_wp2_with fail
            go_ret
            exact ⟨rfl, HB6.out⟩
          | false =>
            go_wp2_with fail
            refine HRM.out.mono ?_
            rintro r w4 ⟨rfl, rfl⟩
            cases m' with
            | true =>
              go_wp2_with fail
              refine HQ3.out.mono ?_
              rintro r w5 ⟨hb5, hok, -⟩
              obtain ⟨A5, c5, rfl, hz5, -⟩ := hok HOK3.out
              rw [HL0.out]
              have HZ5 := Lib.hid hz5
              have HB5 := Lib.hid (HBW.out.trans (hb5.mono HBW.out.size))
              have HY5 := Lib.hid ((HYW.out.below hb5).more hb5.size)
              clear hb5 hok hz5
              go_wp2_with fail
              refine (alive_any _).mono ?_
              rintro r w6 ⟨rfl, hb6⟩
              have HB6 := Lib.hid (HB5.out.trans (hb6.mono HB5.out.size))
              have HZ6 := Lib.hid ((HZ5.out.below hb6).more hb6.size)
              have HY6 := Lib.hid ((HY5.out.below hb6).more hb6.size)
              clear hb6
              go_wp2_with fail
              go_ret
              exact ⟨rfl, HB6.out⟩
            | false =>
              go_wp2_with fail
              refine HQ3.out.mono ?_
              rintro r w5 ⟨hb5, hok, -⟩
              obtain ⟨A5, c5, rfl, hz5, -⟩ := hok HOK3.out
              rw [HL0.out]
              have HZ5 := Lib.hid hz5
              have HB5 := Lib.hid (HBW.out.trans (hb5.mono HBW.out.size))
              have HY5 := Lib.hid ((HYW.out.below hb5).more hb5.size)
              clear hb5 hok hz5
              go_wp2_with fail
              refine (alive_any _).mono ?_
              rintro r w6 ⟨rfl, hb6⟩
              have HB6 := Lib.hid (HB5.out.trans (hb6.mono HB5.out.size))
              have HZ6 := Lib.hid ((HZ5.out.below hb6).more hb6.size)
              have HY6 := Lib.hid ((HY5.out.below hb6).more hb6.size)
              clear hb6
              go_wp2_with fail
              have hcut := M.line_cut (ms := []) (b := b) HC.out (of_decide_eq_false HNN.out) HMM.out
              rw [← HJ.out, HN.out] at hcut
              have hz := HZ6.out
              rw [hcut] at hz
              refine (ints_same A5 A3 c5 c3 t _ w6 hz (HY6.out.take t) (by rw [List.length_take, HYL.out]; omega) (by omega)).mono ?_
              rintro r w7 ⟨rfl, hb7⟩
              have HB7 := Lib.hid (HB6.out.trans (hb7.mono HB6.out.size))
              clear hb7 hcut hz
              go_wp2_with fail
              go_ret
              exact ⟨rfl, HB7.out⟩
theorem wholeLaw_any (A : Option Addr) (ca n : Nat) (base at_ : Int) (l : List Int) (w : World) (hr : RdS .i64 w w.heap.size A l) (hn : l.length = n) (hca : n ≤ ca) (hn2 : n ≤ maxLen) (hat : -9223372036854775808 ≤ at_) :
    Calls Tryz.prog 7 #[.slice A n ca, .int .i64 base, .int .i64 at_] w fun r w' => r = .returned (.bool true) ∧ Below w.heap.size w w' := by
  by_cases h : 150 < n
  · exact wholeLong_any A ca n base at_ w h hn2
  · exact wholeShort_any A ca n base at_ l w hr hn (by omega) hca hat
end Go.Proofs.YtjlfgojblimobaaGreat
end
