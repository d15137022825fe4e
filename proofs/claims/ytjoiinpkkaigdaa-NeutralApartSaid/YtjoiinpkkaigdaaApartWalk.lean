/- The walk of NeutralApart: it answers true. Conditions: the slice reads as a list of classes, within its capacity. -/
import Derived.Test.YtjoiinpkkaigdaaAlive
import Derived.Deep.RegionHeld3
namespace Go.Proofs.Ytjoiinpkkaigdaa
open Go.RowKit
set_option maxRecDepth 100000

set_option maxHeartbeats 4000000 in
theorem apartLong_any (A : Option Addr) (ca n : Nat) (lv f g i : Int) (w : World) (hn : 150 < n) (hm : n ≤ maxLen) :
    Calls Try.prog 6 #[.slice A n ca, .agg #[.int .i64 lv, .int .i64 f, .int .i64 g], .int .i64 i] w fun r w' => r = .returned (.bool true) ∧ Below w.heap.size w w' := by
  obtain ⟨W1, hW1, hbw1, e0, e1, e2, hgt⟩ := new_three w lv f g 25
  unfold maxLen at hm
  have h1 : (150 : Int) < n := by omega
  have HB1 := Lib.hid hbw1
  clear hbw1 hgt
  go_enter Try.func6, Try.ntmps6
  go_wp2_with fail
  refine (alive_any _).mono ?_
  rintro r w2 ⟨rfl, hb⟩
  have HB := Lib.hid (HB1.out.trans (hb.mono HB1.out.size))
  clear hb
  go_wp2_with fail
  go_ret
  exact ⟨rfl, HB.out⟩
set_option maxHeartbeats 4000000 in
theorem apartLow_any (A : Option Addr) (ca n : Nat) (lv f g i : Int) (w : World) (hn : n ≤ 150) (hi : i < 1) :
    Calls Try.prog 6 #[.slice A n ca, .agg #[.int .i64 lv, .int .i64 f, .int .i64 g], .int .i64 i] w fun r w' => r = .returned (.bool true) ∧ Below w.heap.size w w' := by
  obtain ⟨W1, hW1, hbw1, e0, e1, e2, hgt⟩ := new_three w lv f g 25
  have h1 : (n : Int) ≤ 150 := by omega
  have HB1 := Lib.hid hbw1
  clear hbw1 hgt
  go_enter Try.func6, Try.ntmps6
  go_wp2_with fail
  refine (alive_any _).mono ?_
  rintro r w2 ⟨rfl, hb⟩
  have HB := Lib.hid (HB1.out.trans (hb.mono HB1.out.size))
  clear hb
  go_wp2_with fail
  go_ret
  exact ⟨rfl, HB.out⟩
set_option maxHeartbeats 4000000 in
theorem apartHigh_any (A : Option Addr) (ca n : Nat) (lv f g i : Int) (w : World) (hn : n ≤ 150) (hi : 1 ≤ i) (hi2 : (n : Int) ≤ i) :
    Calls Try.prog 6 #[.slice A n ca, .agg #[.int .i64 lv, .int .i64 f, .int .i64 g], .int .i64 i] w fun r w' => r = .returned (.bool true) ∧ Below w.heap.size w w' := by
  obtain ⟨W1, hW1, hbw1, e0, e1, e2, hgt⟩ := new_three w lv f g 25
  have h1 : (n : Int) ≤ 150 := by omega
  have HB1 := Lib.hid hbw1
  clear hbw1 hgt
  go_enter Try.func6, Try.ntmps6
  go_wp2_with fail
  refine (alive_any _).mono ?_
  rintro r w2 ⟨rfl, hb⟩
  have HB := Lib.hid (HB1.out.trans (hb.mono HB1.out.size))
  clear hb
  go_wp2_with fail
  go_ret
  exact ⟨rfl, HB.out⟩
set_option maxHeartbeats 4000000 in
theorem apartWeak_any (ad : Addr) (ca n j k : Nat) (a lv f g : Int) (w : World) (hn : n ≤ 150) (hk : k = j + 1) (hkn : k < n) (ha : w.cell? (ad.add j) = some (.int .i64 a)) (h0 : ¬ (a = 0 ∨ a = 1)) (hlt : ad.block < w.heap.size) :
    Calls Try.prog 6 #[.slice (some ad) n ca, .agg #[.int .i64 lv, .int .i64 f, .int .i64 g], .int .i64 k] w fun r w' => r = .returned (.bool true) ∧ Below w.heap.size w w' := by
  obtain ⟨W1, hW1, hbw1, e0, e1, e2, hgt⟩ := new_three w lv f g 25
  have ha1 : W1.cell? (ad.add j) = some (.int .i64 a) := (hbw1.cell (by rw [addr_block]; exact hlt)).trans ha
  have h1 : (n : Int) ≤ 150 := by omega
  have k0 : (1 : Int) ≤ k := by omega
  have k1 : (k : Int) < n := by omega
  have j0 : (0 : Int) ≤ j := by omega
  have j1 : (j : Int) < n := by omega
  have hw2 : IntKind.i64.wrap ((k : Int) - 1) = (j : Int) := by rw [IntKind.wrap_i64]; omega
  have b0 : (a != 0) = true := by simp; omega
  have b1 : (a != 1) = true := by simp; omega
  clear h0 hk hkn ha hlt
  have HB1 := Lib.hid hbw1
  clear hbw1 hgt
  go_enter Try.func6, Try.ntmps6
  go_wp2_with fail
  refine (alive_any _).mono ?_
  rintro r w2 ⟨rfl, hb⟩
  have HB := Lib.hid (HB1.out.trans (hb.mono HB1.out.size))
  clear hb
  go_wp2_with fail
  go_ret
  exact ⟨rfl, HB.out⟩
set_option maxHeartbeats 16000000 in
theorem apartIn_any (ad : Addr) (ca n j k : Nat) (l : List Int) (a lv f g : Int) (w : World) (hr : RdS .i64 w w.heap.size (some ad) l) (hln : l.length = n) (hn : n ≤ 150) (hca : n ≤ ca) (hcm : ca ≤ maxLen) (hk : k = j + 1) (hkn : k < n) (ha : l[j]? = some a) (h0 : a = 0 ∨ a = 1) :
    Calls Try.prog 6 #[.slice (some ad) n ca, .agg #[.int .i64 lv, .int .i64 f, .int .i64 g], .int .i64 k] w fun r w' => r = .returned (.bool true) ∧ Below w.heap.size w w' := by
  obtain ⟨i0, hi0, hz0, hz1, hz2⟩ := info_parts Try.infoCls2
  obtain ⟨W1, hW1, hbw1, e0, e1, e2, hgt⟩ := new_three w lv f g 25
  have HF1 := Lib.hid (show Three W1 w.heap.size lv f g from ⟨e0, e1, e2⟩)
  have HCELL := Lib.hid (fun (w' : World) (h : RdS .i64 w' w'.heap.size (some ad) l) => show w'.cell? (ad.add j) = some (.int .i64 a) from by
    obtain ⟨ad1, h1, _, h2⟩ := h j a ha
    injection h1 with h1
    subst h1
    exact h2)
  obtain ⟨Y, hY⟩ : ∃ Y, M.settle lv f a (l.take k) = Y := ⟨_, rfl⟩
  obtain ⟨Z, hZ⟩ : ∃ Z, M.settle lv a g (l.drop k) = Z := ⟨_, rfl⟩
  have hX : M.settle lv f g l = Y ++ Z := by
    have e1 : l.take k = l.take j ++ [a] := by
      obtain ⟨hj, rfl⟩ := List.getElem?_eq_some_iff.1 ha
      rw [hk, List.take_succ_eq_append_getElem hj]
    have := M.settle_apart (lv := lv) (f := f) (g := g) (y := l.take j) (z := l.drop k) h0
    rw [← e1, List.take_append_drop, hY, hZ] at this
    exact this
  have hYL : Y.length = k := by rw [← hY, M.settle_len, List.length_take]; omega
  have hZL : Z.length = n - k := by rw [← hZ, M.settle_len, List.length_drop]; omega
  have hxl : (M.settle lv f g l).length = n := by rw [M.settle_len, hln]
  have HX := Lib.hid hX
  have HXL := Lib.hid hxl
  have HY := Lib.hid hY
  have HZ := Lib.hid hZ
  have HYL := Lib.hid hYL
  have HZL := Lib.hid hZL
  have HR := Lib.hid ((hr.below hbw1).more hbw1.size)
  have HN := Lib.hid hln
  have HCA := Lib.hid hca
  have HTL := Lib.hid (show (l.take k).length = k by rw [List.length_take]; omega)
  have HDL := Lib.hid (show (l.drop k).length = n - k by rw [List.length_drop]; omega)
  have HBW := Lib.hid hbw1
  have HGT := Lib.hid hgt
  unfold maxLen at hcm
  have h1 : (n : Int) ≤ 150 := by omega
  have hc1 : (ca : Int) ≤ 9223372036854775807 := by omega
  have hnc : (n : Int) ≤ ca := by omega
  have k0 : (1 : Int) ≤ k := by omega
  have k00 : (0 : Int) ≤ k := by omega
  have k1 : (k : Int) < n := by omega
  have kn : (k : Int) ≤ n := by omega
  have kc : (k : Int) ≤ ca := by omega
  have j0 : (0 : Int) ≤ j := by omega
  have j1 : (j : Int) < n := by omega
  have e1' : ((n : Int) - k).toNat = n - k := by omega
  have e2' : ((ca : Int) - k).toNat = ca - k := by omega
  have hck1 : (ca == k) = false := by rw [beq_eq_false_iff_ne]; omega
  have hck2 : ¬ ca = k := by omega
  have hck3 : ¬ ca - k = 0 := by omega
  have hw2 : IntKind.i64.wrap ((k : Int) - 1) = (j : Int) := by rw [IntKind.wrap_i64]; omega
  have hca1 := HCELL.out W1 HR.out
  have hkn2 : k * 8 ≤ 140737488351232 := by omega
  have hkn3 : (n - k) * 8 ≤ 140737488351232 := by omega
  have hkn4 : n - k ≤ ca - k := by omega
  have hkn5 : k ≤ ca := by omega
  have hkn6 : n * 8 ≤ 140737488351232 := by omega
  have hside := M.side_is h0
  unfold M.side01 at hside
  have hc3 : (M.setOk lv f g ∧ M.setOk lv f a ∧ M.setOk lv a g) ∨ (¬ M.setOk lv f g ∧ ¬ M.setOk lv f a) ∨ (¬ M.setOk lv f g ∧ M.setOk lv f a ∧ ¬ M.setOk lv a g) := by
    unfold M.setOk
    omega
  clear hr hln hca hX hY hZ hYL hZL ha hk hkn h0 hbw1 hxl
  obtain ⟨eg, heg⟩ : ∃ e, M.orArg (M.setOk lv f g) = e := ⟨_, rfl⟩
  obtain ⟨ey, hey⟩ : ∃ e, M.orArg (M.setOk lv f a) = e := ⟨_, rfl⟩
  obtain ⟨ez, hez⟩ : ∃ e, M.orArg (M.setOk lv a g) = e := ⟨_, rfl⟩
  rcases hc3 with ⟨o1, o2, o3⟩ | ⟨o1, o2⟩ | ⟨o1, o2, o3⟩
  · rcases hside with b0 | ⟨b0, b1⟩
    all_goals
      go_enter Try.func6, Try.ntmps6
      go_wp2_with fail
      refine (seq_any lv f g W1).mono ?_
      rintro r w1 ⟨rfl, hb1⟩
      have HB1 := Lib.hid (HBW.out.trans (hb1.mono HBW.out.size))
      have HRl1 := Lib.hid ((HR.out.below hb1).more hb1.size)
      have HT1 := Lib.hid (HF1.out.later hb1 HGT.out)
      have HG1 := Lib.hid (Nat.lt_of_lt_of_le HGT.out hb1.size)
      clear hb1 hca1 e0 e1 e2 hgt
      go_wp2_with fail
      refine (csettle_any (some ad) ca n l lv f g w1 HRl1.out HN.out hkn6 HCA.out).mono ?_
      rintro r w2 hout
      obtain ⟨A2, c2, rfl, hr2, hb2, -, -, -⟩ := row_ok hout o1
      rw [HX.out] at hr2
      rw [HXL.out]
      have HX2 := Lib.hid hr2
      clear hr2
      have HB2 := Lib.hid (HB1.out.trans (hb2.mono HB1.out.size))
      have HRl2 := Lib.hid ((HRl1.out.below hb2).more hb2.size)
      have HT2 := Lib.hid (HT1.out.later hb2 HG1.out)
      have HG2 := Lib.hid (Nat.lt_of_lt_of_le HG1.out hb2.size)
      have HRT2 := Lib.hid (HRl2.out.take k)
      clear hout hb2
      have hS2 := And.intro (HCELL.out w2 HRl2.out) HT2.out
      obtain ⟨a2, t0, t1, t2⟩ := hS2
      go_wp2_with fail
      go_region_held3 (fun w' => w'.cell? (ad.add j) = some (.int .i64 a) ∧ w'.cell? ⟨w.heap.size, 0, none⟩ = some (.int .i64 lv) ∧ w'.cell? ⟨w.heap.size, 1, none⟩ = some (.int .i64 f) ∧ w'.cell? ⟨w.heap.size, 2, none⟩ = some (.int .i64 g))
        (first | go_keep | exact HS3.out)
        (first
          | (go_at_call 8; (refine (csettle_any (some ad) ca k (l.take k) lv f a _ (by exact HRT2.out) HTL.out hkn2 hkn5).mono ?_); rintro r w3 hout; obtain ⟨A3, c3, rfl, hr3, hb3, -, ho3, -⟩ := row_ok hout o2; rw [HY.out] at hr3 ho3 ⊢; rw [HYL.out] at ho3 ⊢; have HO3 := Lib.hid ho3; clear hr3 ho3; have hg3 : Below w2.heap.size w2 w3 := ⟨hb3.os, hb3.tape, hb3.output, hb3.size, hb3.block⟩; have HGG3 := Lib.hid hg3; have HRl3 := Lib.hid ((HRl2.out.below hg3).more hg3.size); have HT3 := Lib.hid (HT2.out.later hg3 HG2.out); have HG3 := Lib.hid (Nat.lt_of_lt_of_le HG2.out hg3.size); have HS3 := Lib.hid (And.intro (HCELL.out w3 HRl3.out) HT3.out); clear hout hb3 hg3))
      clear a2 t0 t1 t2
      obtain ⟨a3, t0, t1, t2⟩ := HS3.out
      have HRD3 := Lib.hid (HRl3.out.drop k)
      go_wp2_with fail
      go_region_held3 (fun w' => w'.cell? (ad.add j) = some (.int .i64 a) ∧ w'.cell? ⟨w.heap.size, 0, none⟩ = some (.int .i64 lv) ∧ w'.cell? ⟨w.heap.size, 1, none⟩ = some (.int .i64 f) ∧ w'.cell? ⟨w.heap.size, 2, none⟩ = some (.int .i64 g))
        (first | go_keep | exact HS4.out)
        (first
          | (go_at_call 8; (refine (csettle_any (some (ad.add k)) (ca - k) (n - k) (l.drop k) lv a g _ (by exact HRD3.out) HDL.out hkn3 hkn4).mono ?_); rintro r w4 hout; obtain ⟨A4, c4, rfl, hr4, hb4, -, -, hnil⟩ := row_ok hout o3; rw [HZ.out] at hr4 ⊢; rw [HZL.out]; have HX4 := Lib.hid hr4; have HNIL := Lib.hid hnil; clear hr4 hnil; have hg4 : Below w3.heap.size w3 w4 := ⟨hb4.os, hb4.tape, hb4.output, hb4.size, hb4.block⟩; have HGG4 := Lib.hid hg4; have HRl4 := Lib.hid ((HRl3.out.below hg4).more hg4.size); have HT4 := Lib.hid (HT3.out.later hg4 HG3.out); have HS4 := Lib.hid (And.intro (HCELL.out w4 HRl4.out) HT4.out); clear hout hb4 hg4))
      clear a3 t0 t1 t2
      have HG24 := Lib.hid (HGG3.out.trans (HGG4.out.mono HGG3.out.size))
      have HB4 := Lib.hid (HB2.out.trans (HG24.out.mono HB2.out.size))
      have ho34 := own_below HO3.out HGG4.out
      have HO34 := Lib.hid (show w4.ownsRow w2.heap.size 23 1 (.slice A3 k c3) k (Y.map (Value.int .i64)) from ho34)
      have hbase : w2.heap.size ≤ w4.heap.size := HG24.out.size
      clear ho34
      go_wp2_with (at_builtin; refine wpList_append_rd _ rfl _ _ 22 rfl w2.heap.size 23 i0 (.int .i64 0) 8 Try.underlying22 hi0 hz0 hz1 hz2 rfl _ k (Y.map (Value.int .i64)) rfl HO34.out .i64 w4.heap.size A4 c4 Z (by rw [HZL.out]; rfl) HX4.out HNIL.out (by have := HZL.out; unfold maxLen; omega) (by have := HZL.out; omega) hbase ?_)
      intro v5 w5 ho5 hg5
      have hb5 : Below w2.heap.size w2 w5 := grow_below0 HG24.out HO34.out hg5 hbase
      have hyz : (Y ++ Z).length = n := by
        have h1 := HYL.out
        have h2 := HZL.out
        rw [List.length_append]
        omega
      obtain ⟨A5, c5, rfl, hr5, -, -, -⟩ := reads_own (l := Y ++ Z) (by
        rw [List.map_append, List.length_append, HYL.out]
        exact ho5)
      rw [hyz]
      have HYZ := Lib.hid hyz
      have HR5 := Lib.hid hr5
      have HR25 := Lib.hid ((HX2.out.below hb5).more hb5.size)
      have HB5 := Lib.hid (HB2.out.trans (hb5.mono HB2.out.size))
      clear hb5 ho5 hg5 hr5 hyz
      go_wp2_with fail
      refine (alive_any _).mono ?_
      rintro r w6 ⟨rfl, hb6⟩
      have HR56 := Lib.hid ((HR5.out.below hb6).more hb6.size)
      have HR26 := Lib.hid ((HR25.out.below hb6).more hb6.size)
      have HB6 := Lib.hid (HB5.out.trans (hb6.mono HB5.out.size))
      clear hb6
      go_wp2_with fail
      refine (same_same A2 A5 c2 c5 n (Y ++ Z) w6 HR26.out HR56.out HYZ.out (by omega)).mono ?_
      rintro r w7 ⟨rfl, hb7⟩
      have HB7 := Lib.hid (HB6.out.trans (hb7.mono HB6.out.size))
      clear hb7
      go_wp2_with fail
      go_ret
      exact ⟨rfl, HB7.out⟩
  · obtain rfl : ey = 1 := by rw [← hey]; exact if_neg o2
    rcases hside with b0 | ⟨b0, b1⟩
    all_goals
      go_enter Try.func6, Try.ntmps6
      go_wp2_with fail
      refine (seq_any lv f g W1).mono ?_
      rintro r w1 ⟨rfl, hb1⟩
      have HB1 := Lib.hid (HBW.out.trans (hb1.mono HBW.out.size))
      have HRl1 := Lib.hid ((HR.out.below hb1).more hb1.size)
      have HT1 := Lib.hid (HF1.out.later hb1 HGT.out)
      have HG1 := Lib.hid (Nat.lt_of_lt_of_le HGT.out hb1.size)
      clear hb1 hca1 e0 e1 e2 hgt
      go_wp2_with fail
      refine (csettle_any (some ad) ca n l lv f g w1 HRl1.out HN.out hkn6 HCA.out).mono ?_
      rintro r w2 ⟨hb2, -, hno⟩
      obtain rfl := hno o1
      clear hno
      have HB2 := Lib.hid (HB1.out.trans (hb2.mono HB1.out.size))
      have HRl2 := Lib.hid ((HRl1.out.below hb2).more hb2.size)
      have HT2 := Lib.hid (HT1.out.later hb2 HG1.out)
      have HG2 := Lib.hid (Nat.lt_of_lt_of_le HG1.out hb2.size)
      have HRT2 := Lib.hid (HRl2.out.take k)
      clear hb2
      have hS2 := And.intro (HCELL.out w2 HRl2.out) HT2.out
      obtain ⟨a2, t0, t1, t2⟩ := hS2
      go_wp2_with fail
      go_region_held3 (fun w' => w'.cell? (ad.add j) = some (.int .i64 a) ∧ w'.cell? ⟨w.heap.size, 0, none⟩ = some (.int .i64 lv) ∧ w'.cell? ⟨w.heap.size, 1, none⟩ = some (.int .i64 f) ∧ w'.cell? ⟨w.heap.size, 2, none⟩ = some (.int .i64 g))
        (first | go_keep | exact HS3.out)
        (first
          | (go_at_call 8; (refine (csettle_any (some ad) ca k (l.take k) lv f a _ (by exact HRT2.out) HTL.out hkn2 hkn5).mono ?_); rintro r w3 hout; obtain ⟨A3, c3, rfl, -, hb3, -⟩ := row_out hout; rw [hey]; have hg3 : Below w2.heap.size w2 w3 := ⟨hb3.os, hb3.tape, hb3.output, hb3.size, hb3.block⟩; have HGG3 := Lib.hid hg3; have HRl3 := Lib.hid ((HRl2.out.below hg3).more hg3.size); have HT3 := Lib.hid (HT2.out.later hg3 HG2.out); have HG3 := Lib.hid (Nat.lt_of_lt_of_le HG2.out hg3.size); have HS3 := Lib.hid (And.intro (HCELL.out w3 HRl3.out) HT3.out); clear hout hb3 hg3))
      clear a2 t0 t1 t2
      obtain ⟨a3, t0, t1, t2⟩ := HS3.out
      have HRD3 := Lib.hid (HRl3.out.drop k)
      go_wp2_with fail
      go_region_held3 (fun w' => w'.cell? (ad.add j) = some (.int .i64 a) ∧ w'.cell? ⟨w.heap.size, 0, none⟩ = some (.int .i64 lv) ∧ w'.cell? ⟨w.heap.size, 1, none⟩ = some (.int .i64 f) ∧ w'.cell? ⟨w.heap.size, 2, none⟩ = some (.int .i64 g))
        (first | go_keep | exact HS4.out)
        (first
          | (go_at_call 8; (refine (csettle_any (some (ad.add k)) (ca - k) (n - k) (l.drop k) lv a g _ (by exact HRD3.out) HDL.out hkn3 hkn4).mono ?_); rintro r w4 hout; obtain ⟨A4, c4, rfl, -, hb4, -⟩ := row_out hout; rw [hez]; have hg4 : Below w3.heap.size w3 w4 := ⟨hb4.os, hb4.tape, hb4.output, hb4.size, hb4.block⟩; have HGG4 := Lib.hid hg4; have HRl4 := Lib.hid ((HRl3.out.below hg4).more hg4.size); have HT4 := Lib.hid (HT3.out.later hg4 HG3.out); have HS4 := Lib.hid (And.intro (HCELL.out w4 HRl4.out) HT4.out); clear hout hb4 hg4))
      clear a3 t0 t1 t2
      have HG24 := Lib.hid (HGG3.out.trans (HGG4.out.mono HGG3.out.size))
      have HB4 := Lib.hid (HB2.out.trans (HG24.out.mono HB2.out.size))
      go_wp2_with fail
      refine (alive_any _).mono ?_
      rintro r w6 ⟨rfl, hb6⟩
      have HB6 := Lib.hid (HB4.out.trans (hb6.mono HB4.out.size))
      clear hb6
      go_wp2_with fail
      go_ret
      exact ⟨rfl, HB6.out⟩
  · obtain rfl : ey = 0 := by rw [← hey]; exact if_pos o2
    obtain rfl : ez = 1 := by rw [← hez]; exact if_neg o3
    rcases hside with b0 | ⟨b0, b1⟩
    all_goals
      go_enter Try.func6, Try.ntmps6
      go_wp2_with fail
      refine (seq_any lv f g W1).mono ?_
      rintro r w1 ⟨rfl, hb1⟩
      have HB1 := Lib.hid (HBW.out.trans (hb1.mono HBW.out.size))
      have HRl1 := Lib.hid ((HR.out.below hb1).more hb1.size)
      have HT1 := Lib.hid (HF1.out.later hb1 HGT.out)
      have HG1 := Lib.hid (Nat.lt_of_lt_of_le HGT.out hb1.size)
      clear hb1 hca1 e0 e1 e2 hgt
      go_wp2_with fail
      refine (csettle_any (some ad) ca n l lv f g w1 HRl1.out HN.out hkn6 HCA.out).mono ?_
      rintro r w2 ⟨hb2, -, hno⟩
      obtain rfl := hno o1
      clear hno
      have HB2 := Lib.hid (HB1.out.trans (hb2.mono HB1.out.size))
      have HRl2 := Lib.hid ((HRl1.out.below hb2).more hb2.size)
      have HT2 := Lib.hid (HT1.out.later hb2 HG1.out)
      have HG2 := Lib.hid (Nat.lt_of_lt_of_le HG1.out hb2.size)
      have HRT2 := Lib.hid (HRl2.out.take k)
      clear hb2
      have hS2 := And.intro (HCELL.out w2 HRl2.out) HT2.out
      obtain ⟨a2, t0, t1, t2⟩ := hS2
      go_wp2_with fail
      go_region_held3 (fun w' => w'.cell? (ad.add j) = some (.int .i64 a) ∧ w'.cell? ⟨w.heap.size, 0, none⟩ = some (.int .i64 lv) ∧ w'.cell? ⟨w.heap.size, 1, none⟩ = some (.int .i64 f) ∧ w'.cell? ⟨w.heap.size, 2, none⟩ = some (.int .i64 g))
        (first | go_keep | exact HS3.out)
        (first
          | (go_at_call 8; (refine (csettle_any (some ad) ca k (l.take k) lv f a _ (by exact HRT2.out) HTL.out hkn2 hkn5).mono ?_); rintro r w3 hout; obtain ⟨A3, c3, rfl, -, hb3, -⟩ := row_out hout; rw [hey]; have hg3 : Below w2.heap.size w2 w3 := ⟨hb3.os, hb3.tape, hb3.output, hb3.size, hb3.block⟩; have HGG3 := Lib.hid hg3; have HRl3 := Lib.hid ((HRl2.out.below hg3).more hg3.size); have HT3 := Lib.hid (HT2.out.later hg3 HG2.out); have HG3 := Lib.hid (Nat.lt_of_lt_of_le HG2.out hg3.size); have HS3 := Lib.hid (And.intro (HCELL.out w3 HRl3.out) HT3.out); clear hout hb3 hg3))
      clear a2 t0 t1 t2
      obtain ⟨a3, t0, t1, t2⟩ := HS3.out
      have HRD3 := Lib.hid (HRl3.out.drop k)
      go_wp2_with fail
      go_region_held3 (fun w' => w'.cell? (ad.add j) = some (.int .i64 a) ∧ w'.cell? ⟨w.heap.size, 0, none⟩ = some (.int .i64 lv) ∧ w'.cell? ⟨w.heap.size, 1, none⟩ = some (.int .i64 f) ∧ w'.cell? ⟨w.heap.size, 2, none⟩ = some (.int .i64 g))
        (first | go_keep | exact HS4.out)
        (first
          | (go_at_call 8; (refine (csettle_any (some (ad.add k)) (ca - k) (n - k) (l.drop k) lv a g _ (by exact HRD3.out) HDL.out hkn3 hkn4).mono ?_); rintro r w4 hout; obtain ⟨A4, c4, rfl, -, hb4, -⟩ := row_out hout; rw [hez]; have hg4 : Below w3.heap.size w3 w4 := ⟨hb4.os, hb4.tape, hb4.output, hb4.size, hb4.block⟩; have HGG4 := Lib.hid hg4; have HRl4 := Lib.hid ((HRl3.out.below hg4).more hg4.size); have HT4 := Lib.hid (HT3.out.later hg4 HG3.out); have HS4 := Lib.hid (And.intro (HCELL.out w4 HRl4.out) HT4.out); clear hout hb4 hg4))
      clear a3 t0 t1 t2
      have HG24 := Lib.hid (HGG3.out.trans (HGG4.out.mono HGG3.out.size))
      have HB4 := Lib.hid (HB2.out.trans (HG24.out.mono HB2.out.size))
      go_wp2_with fail
      refine (alive_any _).mono ?_
      rintro r w6 ⟨rfl, hb6⟩
      have HB6 := Lib.hid (HB4.out.trans (hb6.mono HB4.out.size))
      clear hb6
      go_wp2_with fail
      go_ret
      exact ⟨rfl, HB6.out⟩
theorem apartLaw_any (A : Option Addr) (ca n : Nat) (l : List Int) (lv f g i : Int) (w : World) (hr : RdS .i64 w w.heap.size A l) (hln : l.length = n) (hca : n ≤ ca) (hm : ca ≤ maxLen) :
    Calls Try.prog 6 #[.slice A n ca, .agg #[.int .i64 lv, .int .i64 f, .int .i64 g], .int .i64 i] w fun r w' => r = .returned (.bool true) ∧ Below w.heap.size w w' := by
  by_cases h150 : n ≤ 150
  · by_cases h1 : i < 1
    · exact apartLow_any A ca n lv f g i w h150 h1
    · by_cases h2 : (n : Int) ≤ i
      · exact apartHigh_any A ca n lv f g i w h150 (by omega) h2
      · obtain ⟨j, hj⟩ : ∃ j : Nat, i = ((j + 1 : Nat) : Int) := ⟨(i - 1).toNat, by omega⟩
        obtain ⟨k, hk⟩ : ∃ k, k = j + 1 := ⟨_, rfl⟩
        rw [← hk] at hj
        subst hj
        obtain ⟨ad, a, rfl, hca1, ha, hlt⟩ := rd_at hr (Below.refl _ _) (by omega : j < l.length)
        by_cases h0 : a = 0 ∨ a = 1
        · exact apartIn_any ad ca n j k l a lv f g w hr hln h150 hca hm hk (by omega) ha h0
        · exact apartWeak_any ad ca n j k a lv f g w h150 hk (by omega) hca1 h0 hlt
  · exact apartLong_any A ca n lv f g i w (by omega) (by omega)
end Go.Proofs.Ytjoiinpkkaigdaa
