/- The walk of ExplicitDeep: it answers true. Conditions: the slice reads as a list of classes, within its capacity. -/
import Derived.Test.YtdipaiflfhdpoaaPartsWalk
namespace Go.Proofs.Ytdipaiflfhdpoaa
open Go.RowKit

theorem and_255 (n : Int) : 0 ≤ bits .and .i64 n 255 ∧ bits .and .i64 n 255 ≤ 255 := by
  have h : (BitVec.ofInt 64 n &&& BitVec.ofInt 64 255).toNat ≤ 255 := by
    rw [BitVec.toNat_and]
    exact Nat.and_le_right
  have e : bits .and .i64 n 255 = IntKind.i64.wrap ((BitVec.ofInt 64 n &&& BitVec.ofInt 64 255).toNat : Int) := rfl
  obtain ⟨k, hk⟩ : ∃ k, (BitVec.ofInt 64 n &&& BitVec.ofInt 64 255).toNat = k := ⟨_, rfl⟩
  rw [hk] at h e
  rw [e, IntKind.wrap_i64]
  omega
theorem rep_snoc (k : Nat) (c : Int) : (List.replicate (k + 1) c).map (Value.int .i64) = (List.replicate k c).map (Value.int .i64) ++ [Value.int .i64 c] := by
  rw [List.replicate_succ', List.map_append]
  rfl
set_option maxRecDepth 100000 in
set_option maxHeartbeats 4000000 in
theorem deepLong_any (A : Option Addr) (ca n : Nat) (c o0 o1 : Int) (w : World) (hn : 400 < n) (hm : n ≤ maxLen) :
    Calls Try.prog 5 #[.slice A n ca, .int .i64 c, .agg #[.int .i64 o0, .int .i64 o1]] w fun r w' => r = .returned (.bool true) ∧ Below w.heap.size w w' := by
  unfold maxLen at hm
  have h1 : (400 : Int) < n := by omega
  go_enter Try.func5, Try.ntmps5
  go_wp2_with fail
  refine (alive_any _).mono ?_
  rintro r w2 ⟨rfl, hb⟩
  have HB := Lib.hid (((Below.refl _ _).alloc (Nat.le_refl _) _).trans (hb.mono (by simp)))
  clear hb
  go_wp2_with fail
  go_ret
  exact ⟨rfl, HB.out⟩
set_option maxRecDepth 100000 in
set_option maxHeartbeats 8000000 in
theorem deepShort_any (A : Option Addr) (ca n : Nat) (l : List Int) (c o0 o1 : Int) (w : World) (hr : RdS .i64 w w.heap.size A l) (hn : l.length = n) (hl : n ≤ 400) (hA : A = none → ca = 0) :
    Calls Try.prog 5 #[.slice A n ca, .int .i64 c, .agg #[.int .i64 o0, .int .i64 o1]] w fun r w' => r = .returned (.bool true) ∧ Below w.heap.size w w' := by
  obtain ⟨i0, hi0, hz0, hz1, hz2⟩ := info_parts Try.infoCls
  obtain ⟨m, hm⟩ : ∃ m : Nat, bits .and .i64 o0 255 = (m : Int) := ⟨(bits .and .i64 o0 255).toNat, by have := and_255 o0; omega⟩
  have hm1 : m ≤ 255 := by have := and_255 o0; omega
  obtain ⟨b0, b1⟩ := and_one o1
  obtain ⟨b, hb⟩ : ∃ b, bits .and .i64 o1 1 = b := ⟨_, rfl⟩
  rw [hb] at b0 b1
  obtain ⟨W0, hW0⟩ : ∃ W, w.alloc (.cells #[.int .i64 o0, .int .i64 o1] 35) = W := ⟨_, rfl⟩
  have hb0 : Below w.heap.size w W0 := by rw [← hW0]; exact (Below.refl _ _).alloc (Nat.le_refl _) _
  have hs0 : W0.heap.size = w.heap.size + 1 := by rw [← hW0]; simp
  have d0 : W0.cell? ⟨w.heap.size, 0, none⟩ = some (.int .i64 o0) := by rw [← hW0]; simp [go_sem]
  have d1 : W0.cell? ⟨w.heap.size, 1, none⟩ = some (.int .i64 o1) := by rw [← hW0]; simp [go_sem]
  have HD0 := Lib.hid d0
  have HR := Lib.hid ((hr.below hb0).more hb0.size)
  have HN := Lib.hid hn
  have HA := Lib.hid hA
  have HB0 := Lib.hid hb0
  have HS0 := Lib.hid hs0
  have hl1 : (n : Int) ≤ 400 := by omega
  clear hr hn hA hb0 hs0
  go_enter Try.func5, Try.ntmps5
  go_wp2_with fail
  go_loopw [8, 9] (fun v i wr => ∃ k : Nat, i = .int .i64 k ∧ k ≤ m ∧ wr.ownsRow W0.heap.size 34 1 v k ((List.replicate k c).map (Value.int .i64)) ∧ Below W0.heap.size W0 wr) (fun _ i _ => m - (intOf i).toNat)
  case atStart => exact ⟨0, rfl, Nat.zero_le _, World.ownsRow_nil _ _ _ _, Below.refl _ _⟩
  case round =>
    obtain ⟨k, rfl, hk, hown, hbw⟩ := hrel
    have HO := Lib.hid hown
    have HBW := Lib.hid hbw
    have x0 : wr.cell? ⟨w.heap.size, 0, none⟩ = some (.int .i64 o0) := (hbw.cell (p := ⟨w.heap.size, 0, none⟩) (by rw [HS0.out]; simp)).trans HD0.out
    have hbs := hbw.size
    clear hown hbw d0 d1
    by_cases hlt : k < m
    · have k1 : (k : Int) < (m : Int) := by omega
      go_wp2_with (at_builtin; refine wpList_append_own _ rfl _ _ 22 rfl W0.heap.size 34 i0 (.int .i64 0) 1 8 Try.underlying22 hi0 hz0 hz1 hz2 rfl (by decide) _ _ _ rfl (World.ownsRow.alloc HO.out _) ⟨wr.heap.size, 0, none⟩ 1 1 [.int .i64 c] rfl rfl (one_new _ _ _) one_cell (by unfold maxLen; omega) (by omega) (by simp; omega) ?_)
      intro v3 w3 hown3 hgrow3 _
      have HO3 := Lib.hid (show w3.ownsRow W0.heap.size 34 1 v3 (k + 1) ((List.replicate (k + 1) c).map (Value.int .i64)) by rw [rep_snoc]; simpa using hown3)
      have HB3 := Lib.hid ((HBW.out.alloc hbs _).grown hgrow3 (by simp; omega) (fun q hq => (World.ownsRow.lt HO.out q hq).1))
      clear hown3 hgrow3
      go_wp2_with fail
      go_roundw
      case rel => exact ⟨k + 1, by go_num, by omega, HO3.out, HB3.out⟩
      case measure => simp [intOf]; omega
    · obtain rfl : k = m := by omega
      have k1 : ¬ (k : Int) < (k : Int) := by omega
      obtain ⟨L, hL⟩ : ∃ L, List.replicate k c ++ l = L := ⟨_, rfl⟩
      obtain ⟨N, hN⟩ : ∃ N, k + n = N := ⟨_, rfl⟩
      have hLN : L.length = N := by rw [← hL, List.length_append, List.length_replicate, HN.out, hN]
      have hN1 : N ≤ 655 := by omega
      have HLL := Lib.hid hL
      have HNN := Lib.hid hN
      have HLN := Lib.hid hLN
      have HRW := Lib.hid ((HR.out.below HBW.out).more hbs)
      clear hL hN hLN
      go_wp2_with (at_builtin; refine wpList_append_rd _ rfl _ _ 22 rfl W0.heap.size 34 i0 (.int .i64 0) 8 Try.underlying22 hi0 hz0 hz1 hz2 rfl _ k _ rfl HO.out .i64 wr.heap.size A ca l (by rw [HN.out]; rfl) HRW.out HA.out (by rw [HN.out]; unfold maxLen; omega) (by rw [HN.out]; omega) hbs ?_)
      intro v1 w1 ho1 hg1
      have hb1 : Below W0.heap.size W0 w1 := grow_below0 HBW.out HO.out hg1 hbs
      have ho1' : w1.ownsRow W0.heap.size 34 1 v1 L.length (L.map (Value.int .i64)) := by
        rw [HLN.out, ← HNN.out, ← HLL.out, List.map_append]
        rw [HN.out] at ho1
        simpa using ho1
      obtain ⟨A1, c1, rfl, hr1, _, _, _⟩ := reads_own ho1'
      rw [HLN.out]
      have HR1 := Lib.hid hr1
      have HB1 := Lib.hid (HB0.out.trans (hb1.mono HB0.out.size))
      clear ho1 ho1' hg1 hb1 hr1 x0
      have HE := Lib.hid (show M.levels L b = some (M.run b (M.fresh b) L) by unfold M.levels; rw [if_neg (by omega), if_neg (by omega)])
      have HRL := Lib.hid (M.run_len b (M.fresh b) L)
      have HLV := Lib.hid (clevels_any A1 c1 N L b w1 HR1.out HLN.out (by omega))
      go_wp2_with fail
      refine HLV.out.mono ?_
      rintro r w2 hout
      rw [HE.out] at hout
      obtain ⟨Ax, cx, Ad, cd, rfl, hrx, -, -, -, -, -, hb2, -, -⟩ := lev_rows hout
      rw [HRL.out, HLN.out]
      have HRX := Lib.hid hrx
      have HR2 := Lib.hid ((HR1.out.below hb2).more hb2.size)
      have HB2 := Lib.hid (HB1.out.trans (hb2.mono HB1.out.size))
      clear hrx hb2 hout
      go_wp2_with fail
      go_loop [13] (fun i => ∃ j : Nat, i = .int .i64 j ∧ j ≤ N) (fun i => N - (intOf i).toNat)
      case atStart => exact ⟨0, rfl, Nat.zero_le _⟩
      case round =>
        obtain ⟨j, rfl, hj⟩ := hrel
        by_cases hjn : j < N
        · have j0 : (0 : Int) ≤ (j : Int) := by omega
          have j1 : (j : Int) < (N : Int) := by omega
          obtain ⟨ad1, y, rfl, hcy, hy, -⟩ := rd_at HR2.out (Below.refl _ _) (by rw [HLN.out]; exact hjn : j < L.length)
          obtain ⟨px, hpx⟩ : ∃ px, (M.run b (M.fresh b) L)[j]? = some px := ⟨_, List.getElem?_eq_getElem (by rw [HRL.out, HLN.out]; exact hjn)⟩
          obtain ⟨ad2, hA2, -, hcx⟩ := HRX.out j px.1 (by rw [List.getElem?_map, hpx]; rfl)
          subst hA2
          have hdeep := M.run_deep (by omega) L _ (M.fresh_ok (by omega)) j y px hy hpx
          rw [M.removed_known] at hdeep
          obtain ⟨lv, hlv⟩ : ∃ lv, px.1 = lv := ⟨_, rfl⟩
          rw [hlv] at hdeep hcx
          obtain ⟨rm, hrm⟩ : ∃ rm, M.removed y = rm := ⟨_, rfl⟩
          have HRM := Lib.hid (by have q := removed_any y w2; rw [hrm] at q; exact q)
          rw [hrm] at hdeep
          clear hy hpx hlv hrm
          rcases hdeep with ⟨rfl, rfl⟩ | ⟨rfl, q1, q2⟩
          · go_wp2_with fail
            refine HRM.out.mono ?_
            rintro r w3 ⟨rfl, rfl⟩
            go_wp2_with fail
            go_round
            case rel => exact ⟨j + 1, by go_num, by omega⟩
            case measure => simp [intOf]; omega
          · have e1 : (lv == -1) = false := by rw [beq_eq_false_iff_ne]; omega
            have e2 : ¬ lv < b := by omega
            have e3 : ¬ 125 < lv := by omega
            go_wp2_with fail
            refine HRM.out.mono ?_
            rintro r w3 ⟨rfl, rfl⟩
            go_wp2_with fail
            go_round
            case rel => exact ⟨j + 1, by go_num, by omega⟩
            case measure => simp [intOf]; omega
        · obtain rfl : j = N := by omega
          go_wp2_with fail
          refine (alive_any _).mono ?_
          rintro r w3 ⟨rfl, hb3⟩
          have HB3 := Lib.hid (HB2.out.trans (hb3.mono HB2.out.size))
          clear hb3
          go_wp2_with fail
          go_ret
          exact ⟨rfl, HB3.out⟩
theorem deepLaw_any (A : Option Addr) (ca n : Nat) (l : List Int) (c o0 o1 : Int) (w : World) (hr : RdS .i64 w w.heap.size A l) (hn : l.length = n) (hca : n ≤ ca) (hm : ca ≤ maxLen) (hA : A = none → ca = 0) :
    Calls Try.prog 5 #[.slice A n ca, .int .i64 c, .agg #[.int .i64 o0, .int .i64 o1]] w fun r w' => r = .returned (.bool true) ∧ Below w.heap.size w w' := by
  by_cases h : n ≤ 400
  · exact deepShort_any A ca n l c o0 o1 w hr hn h hA
  · exact deepLong_any A ca n c o0 o1 w (by omega) (by omega)
end Go.Proofs.Ytdipaiflfhdpoaa
