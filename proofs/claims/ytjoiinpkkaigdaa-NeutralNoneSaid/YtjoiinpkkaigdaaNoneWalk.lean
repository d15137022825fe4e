/- The walk of NeutralNone: it answers true. Conditions: the slice reads as a list of classes, within its capacity, and takes at most 2^47 bytes. -/
import Derived.Test.YtjoiinpkkaigdaaAlive
namespace Go.Proofs.Ytjoiinpkkaigdaa
open Go.RowKit
set_option maxRecDepth 100000

set_option maxHeartbeats 8000000 in
theorem noneOther_any (A : Option Addr) (ca n : Nat) (l : List Int) (lv f g : Int) (w : World) (hr : RdS .i64 w w.heap.size A l) (hn : l.length = n) (hl8 : n * 8 ≤ 140737488351232) (hca : n ≤ ca) (h : 150 < n ∨ ¬ M.setOk lv f g) :
    Calls Try.prog 4 #[.slice A n ca, .agg #[.int .i64 lv, .int .i64 f, .int .i64 g]] w fun r w' => r = .returned (.bool true) ∧ Below w.heap.size w w' := by
  obtain ⟨W1, hW1, hbw1, e0, e1, e2, hgt⟩ := new_three w lv f g 25
  have HF1 := Lib.hid (show Three W1 w.heap.size lv f g from ⟨e0, e1, e2⟩)
  have HR := Lib.hid ((hr.below hbw1).more hbw1.size)
  have HN := Lib.hid hn
  have HCA := Lib.hid hca
  have HBW := Lib.hid hbw1
  have HGT := Lib.hid hgt
  have hl1 : (n : Int) ≤ 17592186043904 := by omega
  obtain ⟨eg, heg⟩ : ∃ e, M.orArg (M.setOk lv f g) = e := ⟨_, rfl⟩
  have hc : (150 : Int) < n ∨ (¬ (150 : Int) < n ∧ (eg != 0) = true) := by
    by_cases h1 : 150 < n
    · exact .inl (by omega)
    · refine .inr ⟨by omega, ?_⟩
      rw [← heg]
      unfold M.orArg
      rw [if_neg (h.resolve_left h1)]
      rfl
  clear h
  rcases hc with b1 | ⟨b1, b2⟩
  all_goals
    clear hr hn hca hbw1
    go_enter Try.func4, Try.ntmps4
    go_wp2_with fail
    refine (seq_any lv f g W1).mono ?_
    rintro r w1 ⟨rfl, hb1⟩
    have HB1 := Lib.hid (HBW.out.trans (hb1.mono HBW.out.size))
    have HRl1 := Lib.hid ((HR.out.below hb1).more hb1.size)
    have HT1 := Lib.hid (HF1.out.later hb1 HGT.out)
    have HG1 := Lib.hid (Nat.lt_of_lt_of_le HGT.out hb1.size)
    clear hb1 e0 e1 e2 hgt
    go_wp2_with fail
    refine (csettle_any A ca n l lv f g w1 HRl1.out HN.out hl8 HCA.out).mono ?_
    rintro r w2 hout
    obtain ⟨A2, c2, rfl, -, hb2, -⟩ := row_out hout
    rw [heg]
    have HB2 := Lib.hid (HB1.out.trans (hb2.mono HB1.out.size))
    clear hout hb2
    go_wp2_with fail
    refine (alive_any _).mono ?_
    rintro r w6 ⟨rfl, hb6⟩
    have HB6 := Lib.hid (HB2.out.trans (hb6.mono HB2.out.size))
    clear hb6
    go_wp2_with fail
    go_ret
    exact ⟨rfl, HB6.out⟩
set_option maxHeartbeats 16000000 in
theorem noneIn_any (A : Option Addr) (ca n : Nat) (l : List Int) (lv f g : Int) (w : World) (hr : RdS .i64 w w.heap.size A l) (hn : l.length = n) (hl8 : n * 8 ≤ 140737488351232) (hca : n ≤ ca) (hn150 : n ≤ 150) (hok : M.setOk lv f g) :
    Calls Try.prog 4 #[.slice A n ca, .agg #[.int .i64 lv, .int .i64 f, .int .i64 g]] w fun r w' => r = .returned (.bool true) ∧ Below w.heap.size w w' := by
  obtain ⟨W1, hW1, hbw1, e0, e1, e2, hgt⟩ := new_three w lv f g 25
  have HF1 := Lib.hid (show Three W1 w.heap.size lv f g from ⟨e0, e1, e2⟩)
  have HR := Lib.hid ((hr.below hbw1).more hbw1.size)
  have HN := Lib.hid hn
  have HCA := Lib.hid hca
  have HBW := Lib.hid hbw1
  have HGT := Lib.hid hgt
  have hl1 : (n : Int) ≤ 17592186043904 := by omega
  obtain ⟨X, hX⟩ : ∃ X, M.settle lv f g l = X := ⟨_, rfl⟩
  have HX := Lib.hid hX
  have HXL := Lib.hid (show X.length = n by rw [← hX, M.settle_len, hn])
  have HAG := Lib.hid (show M.settle lv f g X = X by rw [← hX]; exact M.settle_again hok.2.1)
  have HNO := Lib.hid (fun (i : Nat) (x : Int) (h : X[i]? = some x) => M.settle_none (l := l) (lv := lv) (f := f) (g := g) (i := i) (x := x) hok.2.1 (by rw [hX]; exact h))
  have HOK := Lib.hid hok
  have HLV := Lib.hid (show M.lvOk lv from hok.1)
  have lv0 : 0 ≤ lv := hok.1.1
  have lv125 : lv ≤ 125 := hok.1.2
  have n150 : ¬ (150 : Int) < n := by omega
  have n150' : (n : Int) ≤ 150 := by omega
  have bnn : ((n : Int) != (n : Int)) = false := by simp
  obtain ⟨L2, hL2⟩ : ∃ L, lv + 2 = L := ⟨_, rfl⟩
  have hw2 : IntKind.i64.wrap (lv + 2) = L2 := by rw [IntKind.wrap_i64]; omega
  have HL2 := Lib.hid hL2
  clear hok hX hL2
  clear hr hn hca hbw1
  go_enter Try.func4, Try.ntmps4
  go_wp2_with fail
  refine (seq_any lv f g W1).mono ?_
  rintro r w1 ⟨rfl, hb1⟩
  have HB1 := Lib.hid (HBW.out.trans (hb1.mono HBW.out.size))
  have HRl1 := Lib.hid ((HR.out.below hb1).more hb1.size)
  have HT1 := Lib.hid (HF1.out.later hb1 HGT.out)
  have HG1 := Lib.hid (Nat.lt_of_lt_of_le HGT.out hb1.size)
  clear hb1 e0 e1 e2 hgt
  go_wp2_with fail
  refine (csettle_any A ca n l lv f g w1 HRl1.out HN.out hl8 HCA.out).mono ?_
  rintro r w2 hout
  obtain ⟨A2, c2, rfl, hr2, hb2, hc2, -, -⟩ := row_ok hout HOK.out
  rw [HX.out] at hr2 hc2 ⊢
  rw [HXL.out] at hc2 ⊢
  have HX2 := Lib.hid hr2
  have HC2 := Lib.hid hc2
  have HB2 := Lib.hid (HB1.out.trans (hb2.mono HB1.out.size))
  have HRl2 := Lib.hid ((HRl1.out.below hb2).more hb2.size)
  have HT2 := Lib.hid (HT1.out.later hb2 HG1.out)
  have HG2 := Lib.hid (Nat.lt_of_lt_of_le HG1.out hb2.size)
  clear hout hr2 hb2 hc2
  obtain ⟨e0, e1, e2⟩ := HT2.out
  go_wp2_with fail
  refine (seq_any lv f g w2).mono ?_
  rintro r w3 ⟨rfl, hb3⟩
  have HB3 := Lib.hid (HB2.out.trans (hb3.mono HB2.out.size))
  have HRl3 := Lib.hid ((HRl2.out.below hb3).more hb3.size)
  have HX3 := Lib.hid ((HX2.out.below hb3).more hb3.size)
  have HT3 := Lib.hid (HT2.out.later hb3 HG2.out)
  have HG3 := Lib.hid (Nat.lt_of_lt_of_le HG2.out hb3.size)
  clear hb3 e0 e1 e2
  go_wp2_with fail
  refine (csettle_any A2 c2 n X lv f g w3 HX3.out HXL.out hl8 HC2.out).mono ?_
  rintro r w4 hout
  obtain ⟨A4, c4, rfl, hr4, hb4, -, -, -⟩ := row_ok hout HOK.out
  rw [HAG.out] at hr4 ⊢
  rw [HXL.out]
  have HY4 := Lib.hid hr4
  have HB4 := Lib.hid (HB3.out.trans (hb4.mono HB3.out.size))
  have HRl4 := Lib.hid ((HRl3.out.below hb4).more hb4.size)
  have HX4 := Lib.hid ((HX3.out.below hb4).more hb4.size)
  have HT4 := Lib.hid (HT3.out.later hb4 HG3.out)
  have HG4 := Lib.hid (Nat.lt_of_lt_of_le HG3.out hb4.size)
  clear hout hr4 hb4
  obtain ⟨e0, e1, e2⟩ := HT4.out
  go_wp2_with fail
  refine (craise_any A2 c2 n X lv w4 HX4.out HXL.out (by omega) HC2.out).mono ?_
  rintro r w5 hout
  obtain ⟨A5, c5, rfl, hr5, hb5, -, -, -⟩ := row_ok hout HLV.out
  obtain ⟨RR, hRR⟩ : ∃ R, M.raise lv X = R := ⟨_, rfl⟩
  have hRL : RR.length = n := by rw [← hRR, M.raise_len, HXL.out]
  have HRA := Lib.hid (fun (i : Nat) (x : Int) (h : X[i]? = some x) => show RR[i]? = some (M.rs lv x) by rw [← hRR]; unfold M.raise; rw [List.getElem?_map, h]; rfl)
  rw [hRR] at hr5 ⊢
  rw [hRL]
  have HRR := Lib.hid hr5
  have HRRL := Lib.hid hRL
  have HB5 := Lib.hid (HB4.out.trans (hb5.mono HB4.out.size))
  have HRl5 := Lib.hid ((HRl4.out.below hb5).more hb5.size)
  have HX5 := Lib.hid ((HX4.out.below hb5).more hb5.size)
  have HY5 := Lib.hid ((HY4.out.below hb5).more hb5.size)
  have HT5 := Lib.hid (HT4.out.later hb5 HG4.out)
  have HG5 := Lib.hid (Nat.lt_of_lt_of_le HG4.out hb5.size)
  clear hout hr5 hb5 e0 e1 e2 hRR hRL
  go_wp2_with fail
  refine (same_same A2 A4 c2 c4 n X w5 HX5.out HY5.out HXL.out (by omega)).mono ?_
  rintro r w6 ⟨rfl, hb6⟩
  have HB6 := Lib.hid (HB5.out.trans (hb6.mono HB5.out.size))
  have HRl6 := Lib.hid ((HRl5.out.below hb6).more hb6.size)
  have HX6 := Lib.hid ((HX5.out.below hb6).more hb6.size)
  have HR6 := Lib.hid ((HRR.out.below hb6).more hb6.size)
  have HT6 := Lib.hid (HT5.out.later hb6 HG5.out)
  have HG6 := Lib.hid (Nat.lt_of_lt_of_le HG5.out hb6.size)
  clear hb6
  go_wp2_with fail
  go_loopw [11] (fun v ws => ∃ i : Nat, v = .int .i64 i ∧ i ≤ n ∧ Below w6.heap.size w6 ws) (fun v _ => n - (intOf v).toNat)
  case atStart => exact ⟨0, rfl, Nat.zero_le _, Below.refl _ _⟩
  case round =>
    obtain ⟨i, rfl, hi, hb7⟩ := hrel
    rename World => ws
    have HB7 := Lib.hid hb7
    have i00 : (0 : Int) ≤ i := by omega
    by_cases hlt : i < n
    · have i01 : (i : Int) < n := by omega
      obtain ⟨ad, c, rfl, hcc, hc, -⟩ := rd_at HRl6.out hb7 (by rw [HN.out]; exact hlt : i < l.length)
      obtain ⟨ad2, x, rfl, hcx, hx, -⟩ := rd_at HX6.out hb7 (by rw [HXL.out]; exact hlt : i < X.length)
      obtain ⟨ad3, hA3, -, hcn⟩ := (HR6.out.below hb7) i _ (HRA.out i x hx)
      subst hA3
      obtain ⟨c', hc', hnx, hst, hne⟩ := HNO.out i x hx
      obtain rfl : c = c' := by rw [hc] at hc'; injection hc'
      obtain ⟨q1, q2, q3, q4⟩ := M.rs_is (lv := lv) (c := x)
      obtain ⟨ni, hni⟩ : ∃ y, M.rs lv x = y := ⟨_, rfl⟩
      rw [hni] at hcn q1 q2 q3 q4
      have n0 : 0 ≤ ni := by omega
      have n1 : ¬ ni < lv := by omega
      have n2 : ¬ L2 < ni := by have := HL2.out; omega
      have n1b : decide (ni < lv) = false := by rw [decide_eq_false_iff_not]; omega
      have n2b : decide (L2 < ni) = false := by rw [decide_eq_false_iff_not]; exact n2
      have HNC := Lib.hid (refNeu_any c ws)
      have HNX := Lib.hid (refNeu_any x ws)
      rw [decide_eq_false hnx] at HNX
      obtain ⟨f0, -, -⟩ := HT6.out.later hb7 HG6.out
      have cc' := fun d os => cell_regrown hcc d os
      have cx' := fun d os => cell_regrown hcx d os
      have cn' := fun d os => cell_regrown hcn d os
      have f0' := fun d os => cell_regrown f0 d os
      clear hb7 hc hc' hx hni q1 q2
      by_cases hneu : M.neu c
      · rw [decide_eq_true hneu] at HNC
        rcases hne hneu with rfl | rfl
        · have ev : (ni % 2 != 0) = false := by have := q3 (.inl rfl); simp [this]
          clear hst hne hneu q3 q4 hnx
          go_wp2_with fail
          refine HNC.out.mono ?_
          rintro r wa ⟨rfl, rfl⟩
          go_wp2_with fail
          refine HNX.out.mono ?_
          rintro r wa ⟨rfl, rfl⟩
          go_wp2_with fail
          refine wp_region_quiet_below (by kernel_rfl) (by kernel_rfl) ?_
          repeat (go_big_quiet_step (fail))
          refine wpQuiet_nil ?_
          intro _ hw'
          obtain ⟨⟨dq, osq⟩, hw4⟩ := hw'
          subst hw4
          have hbg := below_regrown ws dq osq
          have hbx := HB7.out.trans (hbg.mono HB7.out.size)
          have cx2 := cx' dq osq
          have cn2 := cn' dq osq
          obtain ⟨Z, hZ⟩ : ∃ Z, Sort.grow (redrawn ws dq) osq = Z := ⟨_, rfl⟩
          rw [hZ] at hbx cx2 cn2
          have HBX := Lib.hid hbx
          dsimp only
          rw [hZ]
          clear hZ hbg hbx cc' cx' cn' f0'
          go_wp2_with fail
          go_roundw
          case rel => exact ⟨i + 1, by go_num, by omega, HBX.out⟩
          case measure => simp [intOf]; omega
        · have ev : (ni % 2 != 1) = false := by have := q4 rfl; simp [this]
          clear hst hne hneu q3 q4 hnx
          go_wp2_with fail
          refine HNC.out.mono ?_
          rintro r wa ⟨rfl, rfl⟩
          go_wp2_with fail
          refine HNX.out.mono ?_
          rintro r wa ⟨rfl, rfl⟩
          go_wp2_with fail
          refine wp_region_quiet_below (by kernel_rfl) (by kernel_rfl) ?_
          repeat (go_big_quiet_step (fail))
          refine wpQuiet_nil ?_
          intro _ hw'
          obtain ⟨⟨dq, osq⟩, hw4⟩ := hw'
          subst hw4
          have hbg := below_regrown ws dq osq
          have hbx := HB7.out.trans (hbg.mono HB7.out.size)
          have cx2 := cx' dq osq
          have cn2 := cn' dq osq
          obtain ⟨Z, hZ⟩ : ∃ Z, Sort.grow (redrawn ws dq) osq = Z := ⟨_, rfl⟩
          rw [hZ] at hbx cx2 cn2
          have HBX := Lib.hid hbx
          dsimp only
          rw [hZ]
          clear hZ hbg hbx cc' cx' cn' f0'
          go_wp2_with fail
          go_roundw
          case rel => exact ⟨i + 1, by go_num, by omega, HBX.out⟩
          case measure => simp [intOf]; omega
      · rw [decide_eq_false hneu] at HNC
        obtain rfl := hst hneu
        have bcc : (x != x) = false := by simp
        clear hst hne hneu hnx
        by_cases h0 : x = 0
        · subst h0
          have ev : (ni % 2 != 0) = false := by have := q3 (.inl rfl); simp [this]
          clear q3 q4
          go_wp2_with fail
          refine HNC.out.mono ?_
          rintro r wa ⟨rfl, rfl⟩
          go_wp2_with fail
          refine HNX.out.mono ?_
          rintro r wa ⟨rfl, rfl⟩
          go_wp2_with fail
          refine wp_region_quiet_below (by kernel_rfl) (by kernel_rfl) ?_
          repeat (go_big_quiet_step (fail))
          refine wpQuiet_nil ?_
          intro _ hw'
          obtain ⟨⟨dq, osq⟩, hw4⟩ := hw'
          subst hw4
          have hbg := below_regrown ws dq osq
          have hbx := HB7.out.trans (hbg.mono HB7.out.size)
          have cx2 := cx' dq osq
          have cn2 := cn' dq osq
          obtain ⟨Z, hZ⟩ : ∃ Z, Sort.grow (redrawn ws dq) osq = Z := ⟨_, rfl⟩
          rw [hZ] at hbx cx2 cn2
          have HBX := Lib.hid hbx
          dsimp only
          rw [hZ]
          clear hZ hbg hbx cc' cx' cn' f0'
          go_wp2_with fail
          go_roundw
          case rel => exact ⟨i + 1, by go_num, by omega, HBX.out⟩
          case measure => simp [intOf]; omega
        · by_cases h1 : x = 1
          · subst h1
            have ev : (ni % 2 != 1) = false := by have := q4 rfl; simp [this]
            clear q3 q4
            go_wp2_with fail
            refine HNC.out.mono ?_
            rintro r wa ⟨rfl, rfl⟩
            go_wp2_with fail
            refine HNX.out.mono ?_
            rintro r wa ⟨rfl, rfl⟩
            go_wp2_with fail
            refine wp_region_quiet_below (by kernel_rfl) (by kernel_rfl) ?_
            repeat (go_big_quiet_step (fail))
            refine wpQuiet_nil ?_
            intro _ hw'
            obtain ⟨⟨dq, osq⟩, hw4⟩ := hw'
            subst hw4
            have hbg := below_regrown ws dq osq
            have hbx := HB7.out.trans (hbg.mono HB7.out.size)
            have cx2 := cx' dq osq
            have cn2 := cn' dq osq
            obtain ⟨Z, hZ⟩ : ∃ Z, Sort.grow (redrawn ws dq) osq = Z := ⟨_, rfl⟩
            rw [hZ] at hbx cx2 cn2
            have HBX := Lib.hid hbx
            dsimp only
            rw [hZ]
            clear hZ hbg hbx cc' cx' cn' f0'
            go_wp2_with fail
            go_roundw
            case rel => exact ⟨i + 1, by go_num, by omega, HBX.out⟩
            case measure => simp [intOf]; omega
          · by_cases h3 : x = 3
            · subst h3
              have ev : (ni % 2 != 0) = false := by have := q3 (.inr (.inl rfl)); simp [this]
              clear q3 q4
              go_wp2_with fail
              refine HNC.out.mono ?_
              rintro r wa ⟨rfl, rfl⟩
              go_wp2_with fail
              refine HNX.out.mono ?_
              rintro r wa ⟨rfl, rfl⟩
              go_wp2_with fail
              refine wp_region_quiet_below (by kernel_rfl) (by kernel_rfl) ?_
              repeat (go_big_quiet_step (fail))
              refine wpQuiet_nil ?_
              intro _ hw'
              obtain ⟨⟨dq, osq⟩, hw4⟩ := hw'
              subst hw4
              have hbg := below_regrown ws dq osq
              have hbx := HB7.out.trans (hbg.mono HB7.out.size)
              have cx2 := cx' dq osq
              have cn2 := cn' dq osq
              obtain ⟨Z, hZ⟩ : ∃ Z, Sort.grow (redrawn ws dq) osq = Z := ⟨_, rfl⟩
              rw [hZ] at hbx cx2 cn2
              have HBX := Lib.hid hbx
              dsimp only
              rw [hZ]
              clear hZ hbg hbx cc' cx' cn' f0'
              go_wp2_with fail
              go_roundw
              case rel => exact ⟨i + 1, by go_num, by omega, HBX.out⟩
              case measure => simp [intOf]; omega
            · by_cases h6 : x = 6
              · subst h6
                have ev : (ni % 2 != 0) = false := by have := q3 (.inr (.inr rfl)); simp [this]
                clear q3 q4
                go_wp2_with fail
                refine HNC.out.mono ?_
                rintro r wa ⟨rfl, rfl⟩
                go_wp2_with fail
                refine HNX.out.mono ?_
                rintro r wa ⟨rfl, rfl⟩
                go_wp2_with fail
                refine wp_region_quiet_below (by kernel_rfl) (by kernel_rfl) ?_
                repeat (go_big_quiet_step (fail))
                refine wpQuiet_nil ?_
                intro _ hw'
                obtain ⟨⟨dq, osq⟩, hw4⟩ := hw'
                subst hw4
                have hbg := below_regrown ws dq osq
                have hbx := HB7.out.trans (hbg.mono HB7.out.size)
                have cx2 := cx' dq osq
                have cn2 := cn' dq osq
                obtain ⟨Z, hZ⟩ : ∃ Z, Sort.grow (redrawn ws dq) osq = Z := ⟨_, rfl⟩
                rw [hZ] at hbx cx2 cn2
                have HBX := Lib.hid hbx
                dsimp only
                rw [hZ]
                clear hZ hbg hbx cc' cx' cn' f0'
                go_wp2_with fail
                go_roundw
                case rel => exact ⟨i + 1, by go_num, by omega, HBX.out⟩
                case measure => simp [intOf]; omega
              · have b0 : (x == 0) = false := by simp; omega
                have b1 : (x == 1) = false := by simp; omega
                have b3 : (x == 3) = false := by simp; omega
                have b6 : (x == 6) = false := by simp; omega
                clear h0 h1 h3 h6 q3 q4
                go_wp2_with fail
                refine HNC.out.mono ?_
                rintro r wa ⟨rfl, rfl⟩
                go_wp2_with fail
                refine HNX.out.mono ?_
                rintro r wa ⟨rfl, rfl⟩
                go_wp2_with fail
                refine wp_region_quiet_below (by kernel_rfl) (by kernel_rfl) ?_
                repeat (go_big_quiet_step (fail))
                refine wpQuiet_nil ?_
                intro _ hw'
                obtain ⟨⟨dq, osq⟩, hw4⟩ := hw'
                subst hw4
                have hbg := below_regrown ws dq osq
                have hbx := HB7.out.trans (hbg.mono HB7.out.size)
                have cx2 := cx' dq osq
                have cn2 := cn' dq osq
                obtain ⟨Z, hZ⟩ : ∃ Z, Sort.grow (redrawn ws dq) osq = Z := ⟨_, rfl⟩
                rw [hZ] at hbx cx2 cn2
                have HBX := Lib.hid hbx
                dsimp only
                rw [hZ]
                clear hZ hbg hbx cc' cx' cn' f0'
                go_wp2_with fail
                go_roundw
                case rel => exact ⟨i + 1, by go_num, by omega, HBX.out⟩
                case measure => simp [intOf]; omega
    · obtain rfl : n = i := by omega
      have i01 : ¬ (n : Int) < (n : Int) := by omega
      have HB8 := Lib.hid (HB6.out.trans (hb7.mono HB6.out.size))
      clear hb7
      go_wp2_with fail
      refine (alive_any _).mono ?_
      rintro r w9 ⟨rfl, hb9⟩
      have HB9 := Lib.hid (HB8.out.trans (hb9.mono HB8.out.size))
      clear hb9
      go_wp2_with fail
      go_ret
      exact ⟨rfl, HB9.out⟩
theorem noneLaw_any (A : Option Addr) (ca n : Nat) (l : List Int) (lv f g : Int) (w : World) (hr : RdS .i64 w w.heap.size A l) (hn : l.length = n) (hl8 : n * 8 ≤ 140737488351232) (hca : n ≤ ca) :
    Calls Try.prog 4 #[.slice A n ca, .agg #[.int .i64 lv, .int .i64 f, .int .i64 g]] w fun r w' => r = .returned (.bool true) ∧ Below w.heap.size w w' := by
  by_cases h : n ≤ 150 ∧ M.setOk lv f g
  · exact noneIn_any A ca n l lv f g w hr hn hl8 hca h.1 h.2
  · refine noneOther_any A ca n l lv f g w hr hn hl8 hca ?_
    by_cases h1 : n ≤ 150
    · exact .inr fun h2 => h ⟨h1, h2⟩
    · exact .inl (by omega)
end Go.Proofs.Ytjoiinpkkaigdaa
