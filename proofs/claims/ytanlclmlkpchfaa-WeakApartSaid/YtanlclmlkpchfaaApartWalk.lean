/- The walk of WeakApart: it answers true. Conditions: the slice reads as a list of classes, within its capacity. -/
import Derived.Test.YtanlclmlkpchfaaAlive
import Derived.Test.YtanlclmlkpchfaaAppendRd
import Derived.Deep.RegionHeld3
import Derived.IntWalk
namespace Go.Proofs.Ytanlclmlkpchfaa
open Go.RowKit
set_option maxRecDepth 100000

/-- A row of one's own that is nil has no room. -/
theorem own_nil {w : World} {base n c : Nat} {t : TypeId} {A : Option Addr} {xs : List Value} (h : w.ownsRow base t 1 (.slice A n c) n xs) : A = none → c = 0 := by
  intro hA
  rcases h.2 with ⟨h1, -⟩ | ⟨g, cap, cur, h1, -⟩
  · injection h1
  · injection h1 with h2
    rw [hA] at h2
    cases h2
set_option maxHeartbeats 4000000 in
theorem apartLong_any (A : Option Addr) (ca n : Nat) (i nn : Int) (w : World) (hn : 150 < n) (hm : n ≤ maxLen) :
    Calls Try.prog 5 #[.slice A n ca, .int .i64 i, .int .i64 nn] w fun r w' => r = .returned (.bool true) ∧ Below w.heap.size w w' := by
  unfold maxLen at hm
  have h1 : (150 : Int) < n := by omega
  go_enter Try.func5, Try.ntmps5
  go_wp2_with fail
  refine (alive_any _).mono ?_
  rintro r w2 ⟨rfl, hb⟩
  have HB := Lib.hid hb
  clear hb
  go_wp2_with fail
  go_ret
  exact ⟨rfl, HB.out⟩
set_option maxHeartbeats 4000000 in
theorem apartLow_any (A : Option Addr) (ca n : Nat) (i nn : Int) (w : World) (hn : n ≤ 150) (hi : i < 1) :
    Calls Try.prog 5 #[.slice A n ca, .int .i64 i, .int .i64 nn] w fun r w' => r = .returned (.bool true) ∧ Below w.heap.size w w' := by
  have h1 : (n : Int) ≤ 150 := by omega
  go_enter Try.func5, Try.ntmps5
  go_wp2_with fail
  refine (alive_any _).mono ?_
  rintro r w2 ⟨rfl, hb⟩
  have HB := Lib.hid hb
  clear hb
  go_wp2_with fail
  go_ret
  exact ⟨rfl, HB.out⟩
set_option maxHeartbeats 4000000 in
theorem apartHigh_any (A : Option Addr) (ca n : Nat) (i nn : Int) (w : World) (hn : n ≤ 150) (hi : 1 ≤ i) (hi2 : (n : Int) ≤ i) :
    Calls Try.prog 5 #[.slice A n ca, .int .i64 i, .int .i64 nn] w fun r w' => r = .returned (.bool true) ∧ Below w.heap.size w w' := by
  have h1 : (n : Int) ≤ 150 := by omega
  go_enter Try.func5, Try.ntmps5
  go_wp2_with fail
  refine (alive_any _).mono ?_
  rintro r w2 ⟨rfl, hb⟩
  have HB := Lib.hid hb
  clear hb
  go_wp2_with fail
  go_ret
  exact ⟨rfl, HB.out⟩
set_option maxHeartbeats 4000000 in
theorem apartWeak_any (ad : Addr) (ca n j k : Nat) (a nn : Int) (w : World) (hn : n ≤ 150) (hk : k = j + 1) (hkn : k < n) (ha : w.cell? (ad.add j) = some (.int .i64 a)) (h0 : ¬ (a = 0 ∨ a = 1)) :
    Calls Try.prog 5 #[.slice (some ad) n ca, .int .i64 k, .int .i64 nn] w fun r w' => r = .returned (.bool true) ∧ Below w.heap.size w w' := by
  have h1 : (n : Int) ≤ 150 := by omega
  have k0 : (1 : Int) ≤ k := by omega
  have k1 : (k : Int) < n := by omega
  have j0 : (0 : Int) ≤ j := by omega
  have j1 : (j : Int) < n := by omega
  have hw2 : IntKind.i64.wrap ((k : Int) - 1) = (j : Int) := by rw [IntKind.wrap_i64]; omega
  have b0 : (a != 0) = true := by simp; omega
  have b1 : (a != 1) = true := by simp; omega
  clear h0 hk hkn
  go_enter Try.func5, Try.ntmps5
  go_wp2_with fail
  refine (alive_any _).mono ?_
  rintro r w2 ⟨rfl, hb⟩
  have HB := Lib.hid hb
  clear hb
  go_wp2_with fail
  go_ret
  exact ⟨rfl, HB.out⟩
set_option maxHeartbeats 4000000 in
theorem apartNsm_any (ad : Addr) (ca n j k : Nat) (a c nn : Int) (w : World) (hn : n ≤ 150) (hk : k = j + 1) (hkn : k < n) (ha : w.cell? (ad.add j) = some (.int .i64 a)) (hc : w.cell? (ad.add k) = some (.int .i64 c)) (h0 : a = 0 ∨ a = 1) (h8 : c = 8) :
    Calls Try.prog 5 #[.slice (some ad) n ca, .int .i64 k, .int .i64 nn] w fun r w' => r = .returned (.bool true) ∧ Below w.heap.size w w' := by
  have h1 : (n : Int) ≤ 150 := by omega
  have k0 : (1 : Int) ≤ k := by omega
  have k1 : (k : Int) < n := by omega
  have j0 : (0 : Int) ≤ j := by omega
  have j1 : (j : Int) < n := by omega
  have hw2 : IntKind.i64.wrap ((k : Int) - 1) = (j : Int) := by rw [IntKind.wrap_i64]; omega
  subst h8
  clear hk hkn
  rcases h0 with rfl | rfl
  all_goals
    go_enter Try.func5, Try.ntmps5
    go_wp2_with fail
    refine (alive_any _).mono ?_
    rintro r w2 ⟨rfl, hb⟩
    have HB := Lib.hid hb
    clear hb
    go_wp2_with fail
    go_ret
    exact ⟨rfl, HB.out⟩
set_option maxHeartbeats 8000000 in
theorem apartIn_any (ad : Addr) (ca n j k : Nat) (l : List Int) (a c nn : Int) (w : World) (hr : RdS .i64 w w.heap.size (some ad) l) (hln : l.length = n) (hn : n ≤ 150) (hca : n ≤ ca) (hcm : ca ≤ maxLen) (hk : k = j + 1) (hkn : k < n) (ha : l[j]? = some a) (hc : l[k]? = some c) (h0 : a = 0 ∨ a = 1) (h8 : c ≠ 8) :
    Calls Try.prog 5 #[.slice (some ad) n ca, .int .i64 k, .int .i64 nn] w fun r w' => r = .returned (.bool true) ∧ Below w.heap.size w w' := by
  obtain ⟨i0, hi0, hz0, hz1, hz2⟩ := info_parts Try.infoCls
  have HSD := Lib.hid (fun w => side_any nn w)
  obtain ⟨s, hs⟩ : ∃ s, M.sdn nn = s := ⟨_, rfl⟩
  have hs01 : s = 0 ∨ s = 1 := by rw [← hs]; exact M.sdn_or nn
  rw [hs] at HSD
  have HS := Lib.hid hs01
  have HCELL := Lib.hid (fun (w' : World) (h : RdS .i64 w' w'.heap.size (some ad) l) => show w'.cell? (ad.add j) = some (.int .i64 a) ∧ w'.cell? (ad.add k) = some (.int .i64 c) from by
    obtain ⟨ad1, h1, _, h2⟩ := h j a ha
    obtain ⟨ad2, h3, _, h4⟩ := h k c hc
    injection h1 with h1
    injection h3 with h3
    subst h1 h3
    exact ⟨h2, h4⟩)
  obtain ⟨Y, hY⟩ : ∃ Y, M.wall s (l.take k) = Y := ⟨_, rfl⟩
  obtain ⟨Z, hZ⟩ : ∃ Z, M.wall a (l.drop k) = Z := ⟨_, rfl⟩
  have hX : M.wall s l = Y ++ Z := by
    have e1 : l.take k = l.take j ++ [a] := by
      obtain ⟨hj, rfl⟩ := List.getElem?_eq_some_iff.1 ha
      rw [hk, List.take_succ_eq_append_getElem hj]
    have e2 : (l.drop k).head? ≠ some 8 := by
      rw [List.head?_drop, hc]
      intro e
      injection e with e
      exact h8 e
    have := M.wall_apart (f := s) (y := l.take j) (z := l.drop k) h0 e2
    rw [← e1, List.take_append_drop, hY, hZ] at this
    exact this
  have hYL : Y.length = k := by rw [← hY, M.wall_len, List.length_take]; omega
  have hZL : Z.length = n - k := by rw [← hZ, M.wall_len, List.length_drop]; omega
  have HX := Lib.hid hX
  have HY := Lib.hid hY
  have HZ := Lib.hid hZ
  have HYL := Lib.hid hYL
  have HZL := Lib.hid hZL
  have HR := Lib.hid hr
  have HN := Lib.hid hln
  have HCA := Lib.hid hca
  have HTL := Lib.hid (show (l.take k).length = k by rw [List.length_take]; omega)
  have HDL := Lib.hid (show (l.drop k).length = n - k by rw [List.length_drop]; omega)
  have HA01 := Lib.hid h0
  have b8 : (c == 8) = false := by simp; omega
  unfold maxLen at hcm
  have h1 : (n : Int) ≤ 150 := by omega
  have hc1 : (ca : Int) ≤ 9223372036854775807 := by omega
  have hnc : (n : Int) ≤ ca := by omega
  have k0 : (1 : Int) ≤ k := by omega
  have k00 : (0 : Int) ≤ k := by omega
  have k1 : (k : Int) < n := by omega
  have kn : (k : Int) ≤ n := by omega
  have kc : (k : Int) ≤ ca := by omega
  have j0 : (0 : Int) ≤ j := by omega
  have j1 : (j : Int) < n := by omega
  have e1 : ((n : Int) - k).toNat = n - k := by omega
  have e2 : ((ca : Int) - k).toNat = ca - k := by omega
  have hck1 : (ca == k) = false := by rw [beq_eq_false_iff_ne]; omega
  have hck2 : ¬ ca = k := by omega
  have hck3 : ¬ ca - k = 0 := by omega
  have hw2 : IntKind.i64.wrap ((k : Int) - 1) = (j : Int) := by rw [IntKind.wrap_i64]; omega
  obtain ⟨hca1, hca2⟩ := HCELL.out w HR.out
  have hor : ∃ b0 b1 : Bool, (a != 0) = b0 ∧ (a != 1) = b1 ∧ (b0 && b1) = false := ⟨_, _, rfl, rfl, by rcases h0 with h | h <;> rw [h] <;> rfl⟩
  have hkn2 : k ≤ 1000 := by omega
  have hkn3 : n - k ≤ 1000 := by omega
  have hkn4 : n - k ≤ ca - k := by omega
  have hkn5 : k ≤ ca := by omega
  clear hr hln hca hX hY hZ hYL hZL ha hc h8 hs hs01 hk hkn
  have h3 : (a = 0) ∨ (a = 1) := h0
  clear h0 hor
  rcases h3 with rfl | rfl
  · go_enter Try.func5, Try.ntmps5
    go_wp2_with fail
    refine (HSD.out _).mono ?_
    rintro r w1 ⟨rfl, rfl⟩
    go_wp2_with fail
    refine (call_any (some ad) ca n s l w HR.out HN.out (by omega) HCA.out).mono ?_
    rintro r w1 hout
    obtain ⟨A1, c1, rfl, hr1, hb1, -, -⟩ := rule_ok hout HS.out
    rw [HX.out] at hr1
    rw [M.wall_len, HN.out]
    have HR1 := Lib.hid hr1
    have HB1 := Lib.hid hb1
    have HRl1 := Lib.hid ((HR.out.below hb1).more hb1.size)
    obtain ⟨hc11, hc12⟩ := HCELL.out w1 HRl1.out
    have HRT1 := Lib.hid (HRl1.out.take k)
    clear hr1 hb1 hout hca1 hca2
    go_wp2_with fail
    go_region_held3 (fun w' => w'.cell? (ad.add j) = some (.int .i64 0))
      (first | go_keep | exact hc21)
      (first
        | (go_at_call 13; (refine (HSD.out _).mono ?_); rintro r wx ⟨rfl, rfl⟩)
        | (go_at_call 10; (refine (call_any (some ad) ca k s (l.take k) _ (by exact HRT1.out) HTL.out hkn2 hkn5).mono ?_); rintro r w2 hout; obtain ⟨A2, c2, rfl, hr2, hb2, -, ho2⟩ := rule_ok hout HS.out; rw [HY.out] at hr2 ho2; rw [M.wall_len, HTL.out]; have hg2 : Below w1.heap.size w1 w2 := ⟨hb2.os, hb2.tape, hb2.output, hb2.size, hb2.block⟩; have HG2 := Lib.hid hg2; have HR2 := Lib.hid hr2; have HO2 := Lib.hid ho2; have HRl2 := Lib.hid ((HRl1.out.below hg2).more hg2.size); have hc21 := (HCELL.out w2 HRl2.out).1; clear hout hr2 hb2 ho2 hg2))
    clear hc11 hc12
    have HRD2 := Lib.hid (HRl2.out.drop k)
    go_wp2_with fail
    go_region_held3 (fun w' => w'.cell? (ad.add j) = some (.int .i64 0))
      (first | go_keep | exact hc31)
      (first
        | (go_at_call 10; (refine (call_any (some (ad.add k)) (ca - k) (n - k) 0 (l.drop k) _ (by exact HRD2.out) HDL.out hkn3 hkn4).mono ?_); rintro r w3 hout; obtain ⟨A3, c3, rfl, hr3, hb3, -, ho3⟩ := rule_ok hout (by simp); have hz3 := own_nil ho3; rw [HZ.out] at hr3; rw [M.wall_len, HDL.out]; have hg3 : Below w2.heap.size w2 w3 := ⟨hb3.os, hb3.tape, hb3.output, hb3.size, hb3.block⟩; have HG3 := Lib.hid hg3; have HR3 := Lib.hid hr3; have HZN := Lib.hid hz3; have HRl3 := Lib.hid ((HRl2.out.below hg3).more hg3.size); have hc31 := (HCELL.out w3 HRl3.out).1; clear hout hr3 hb3 ho3 hg3 hz3))
    clear hc21 hc31
    have ho2 := HO2.out
    rw [HYL.out] at ho2
    have ho23 := own_below ho2 HG3.out
    have hbase : w1.heap.size ≤ w3.heap.size := Nat.le_trans HG2.out.size HG3.out.size
    have HG13 := Lib.hid (show Below w1.heap.size w1 w3 from HG2.out.trans (HG3.out.mono HG2.out.size))
    have HO23 := Lib.hid (show w3.ownsRow w1.heap.size 23 1 (.slice A2 k c2) k (Y.map (Value.int .i64)) from ho23)
    have HB3 := Lib.hid (HB1.out.trans (HG13.out.mono HB1.out.size))
    clear ho2 ho23
    go_wp2_with (at_builtin; refine wpList_append_rd _ rfl _ _ 22 rfl w1.heap.size 23 i0 (.int .i64 0) 8 Try.underlying22 hi0 hz0 hz1 hz2 rfl _ k (Y.map (Value.int .i64)) rfl HO23.out .i64 w3.heap.size A3 c3 Z (by rw [HZL.out]; rfl) HR3.out HZN.out (by have := HZL.out; unfold maxLen; omega) (by have := HZL.out; omega) hbase ?_)
    intro v4 w4 ho4 hg4
    have hb4 : Below w1.heap.size w1 w4 := grow_below0 HG13.out HO23.out hg4 hbase
    have ho4' : w4.ownsRow w1.heap.size 23 1 v4 (Y ++ Z).length ((Y ++ Z).map (Value.int .i64)) := by
      rw [List.map_append, List.length_append, HYL.out]
      exact ho4
    obtain ⟨A4, c4, rfl, hr4, -, -, -⟩ := reads_own ho4'
    have hyz : (Y ++ Z).length = n := by
      have h1 := HYL.out
      have h2 := HZL.out
      rw [List.length_append]
      omega
    rw [hyz]
    have HYZ := Lib.hid hyz
    have HR4 := Lib.hid hr4
    have HR14 := Lib.hid ((HR1.out.below hb4).more hb4.size)
    have HB4 := Lib.hid (HB1.out.trans (hb4.mono HB1.out.size))
    clear hb4 ho4 ho4' hg4 hr4 hyz
    go_wp2_with fail
    refine (alive_any _).mono ?_
    rintro r w5 ⟨rfl, hb5⟩
    have HR45 := Lib.hid ((HR4.out.below hb5).more hb5.size)
    have HR15 := Lib.hid ((HR14.out.below hb5).more hb5.size)
    have HB5 := Lib.hid (HB4.out.trans (hb5.mono HB4.out.size))
    clear hb5
    go_wp2_with fail
    refine (same_same A1 A4 c1 c4 n (Y ++ Z) w5 HR15.out HR45.out HYZ.out (by omega)).mono ?_
    rintro r w6 ⟨rfl, hb6⟩
    have HB6 := Lib.hid (HB5.out.trans (hb6.mono HB5.out.size))
    clear hb6
    go_wp2_with fail
    go_ret
    exact ⟨rfl, HB6.out⟩
  · go_enter Try.func5, Try.ntmps5
    go_wp2_with fail
    refine (HSD.out _).mono ?_
    rintro r w1 ⟨rfl, rfl⟩
    go_wp2_with fail
    refine (call_any (some ad) ca n s l w HR.out HN.out (by omega) HCA.out).mono ?_
    rintro r w1 hout
    obtain ⟨A1, c1, rfl, hr1, hb1, -, -⟩ := rule_ok hout HS.out
    rw [HX.out] at hr1
    rw [M.wall_len, HN.out]
    have HR1 := Lib.hid hr1
    have HB1 := Lib.hid hb1
    have HRl1 := Lib.hid ((HR.out.below hb1).more hb1.size)
    obtain ⟨hc11, hc12⟩ := HCELL.out w1 HRl1.out
    have HRT1 := Lib.hid (HRl1.out.take k)
    clear hr1 hb1 hout hca1 hca2
    go_wp2_with fail
    go_region_held3 (fun w' => w'.cell? (ad.add j) = some (.int .i64 1))
      (first | go_keep | exact hc21)
      (first
        | (go_at_call 13; (refine (HSD.out _).mono ?_); rintro r wx ⟨rfl, rfl⟩)
        | (go_at_call 10; (refine (call_any (some ad) ca k s (l.take k) _ (by exact HRT1.out) HTL.out hkn2 hkn5).mono ?_); rintro r w2 hout; obtain ⟨A2, c2, rfl, hr2, hb2, -, ho2⟩ := rule_ok hout HS.out; rw [HY.out] at hr2 ho2; rw [M.wall_len, HTL.out]; have hg2 : Below w1.heap.size w1 w2 := ⟨hb2.os, hb2.tape, hb2.output, hb2.size, hb2.block⟩; have HG2 := Lib.hid hg2; have HR2 := Lib.hid hr2; have HO2 := Lib.hid ho2; have HRl2 := Lib.hid ((HRl1.out.below hg2).more hg2.size); have hc21 := (HCELL.out w2 HRl2.out).1; clear hout hr2 hb2 ho2 hg2))
    clear hc11 hc12
    have HRD2 := Lib.hid (HRl2.out.drop k)
    go_wp2_with fail
    go_region_held3 (fun w' => w'.cell? (ad.add j) = some (.int .i64 1))
      (first | go_keep | exact hc31)
      (first
        | (go_at_call 10; (refine (call_any (some (ad.add k)) (ca - k) (n - k) 1 (l.drop k) _ (by exact HRD2.out) HDL.out hkn3 hkn4).mono ?_); rintro r w3 hout; obtain ⟨A3, c3, rfl, hr3, hb3, -, ho3⟩ := rule_ok hout (by simp); have hz3 := own_nil ho3; rw [HZ.out] at hr3; rw [M.wall_len, HDL.out]; have hg3 : Below w2.heap.size w2 w3 := ⟨hb3.os, hb3.tape, hb3.output, hb3.size, hb3.block⟩; have HG3 := Lib.hid hg3; have HR3 := Lib.hid hr3; have HZN := Lib.hid hz3; have HRl3 := Lib.hid ((HRl2.out.below hg3).more hg3.size); have hc31 := (HCELL.out w3 HRl3.out).1; clear hout hr3 hb3 ho3 hg3 hz3))
    clear hc21 hc31
    have ho2 := HO2.out
    rw [HYL.out] at ho2
    have ho23 := own_below ho2 HG3.out
    have hbase : w1.heap.size ≤ w3.heap.size := Nat.le_trans HG2.out.size HG3.out.size
    have HG13 := Lib.hid (show Below w1.heap.size w1 w3 from HG2.out.trans (HG3.out.mono HG2.out.size))
    have HO23 := Lib.hid (show w3.ownsRow w1.heap.size 23 1 (.slice A2 k c2) k (Y.map (Value.int .i64)) from ho23)
    have HB3 := Lib.hid (HB1.out.trans (HG13.out.mono HB1.out.size))
    clear ho2 ho23
    go_wp2_with (at_builtin; refine wpList_append_rd _ rfl _ _ 22 rfl w1.heap.size 23 i0 (.int .i64 0) 8 Try.underlying22 hi0 hz0 hz1 hz2 rfl _ k (Y.map (Value.int .i64)) rfl HO23.out .i64 w3.heap.size A3 c3 Z (by rw [HZL.out]; rfl) HR3.out HZN.out (by have := HZL.out; unfold maxLen; omega) (by have := HZL.out; omega) hbase ?_)
    intro v4 w4 ho4 hg4
    have hb4 : Below w1.heap.size w1 w4 := grow_below0 HG13.out HO23.out hg4 hbase
    have ho4' : w4.ownsRow w1.heap.size 23 1 v4 (Y ++ Z).length ((Y ++ Z).map (Value.int .i64)) := by
      rw [List.map_append, List.length_append, HYL.out]
      exact ho4
    obtain ⟨A4, c4, rfl, hr4, -, -, -⟩ := reads_own ho4'
    have hyz : (Y ++ Z).length = n := by
      have h1 := HYL.out
      have h2 := HZL.out
      rw [List.length_append]
      omega
    rw [hyz]
    have HYZ := Lib.hid hyz
    have HR4 := Lib.hid hr4
    have HR14 := Lib.hid ((HR1.out.below hb4).more hb4.size)
    have HB4 := Lib.hid (HB1.out.trans (hb4.mono HB1.out.size))
    clear hb4 ho4 ho4' hg4 hr4 hyz
    go_wp2_with fail
    refine (alive_any _).mono ?_
    rintro r w5 ⟨rfl, hb5⟩
    have HR45 := Lib.hid ((HR4.out.below hb5).more hb5.size)
    have HR15 := Lib.hid ((HR14.out.below hb5).more hb5.size)
    have HB5 := Lib.hid (HB4.out.trans (hb5.mono HB4.out.size))
    clear hb5
    go_wp2_with fail
    refine (same_same A1 A4 c1 c4 n (Y ++ Z) w5 HR15.out HR45.out HYZ.out (by omega)).mono ?_
    rintro r w6 ⟨rfl, hb6⟩
    have HB6 := Lib.hid (HB5.out.trans (hb6.mono HB5.out.size))
    clear hb6
    go_wp2_with fail
    go_ret
    exact ⟨rfl, HB6.out⟩
theorem apartLaw_any (A : Option Addr) (ca n : Nat) (l : List Int) (i nn : Int) (w : World) (hr : RdS .i64 w w.heap.size A l) (hln : l.length = n) (hca : n ≤ ca) (hm : ca ≤ maxLen) :
    Calls Try.prog 5 #[.slice A n ca, .int .i64 i, .int .i64 nn] w fun r w' => r = .returned (.bool true) ∧ Below w.heap.size w w' := by
  by_cases h150 : n ≤ 150
  · by_cases h1 : i < 1
    · exact apartLow_any A ca n i nn w h150 h1
    · by_cases h2 : (n : Int) ≤ i
      · exact apartHigh_any A ca n i nn w h150 (by omega) h2
      · obtain ⟨j, hj⟩ : ∃ j : Nat, i = ((j + 1 : Nat) : Int) := ⟨(i - 1).toNat, by omega⟩
        obtain ⟨k, hk⟩ : ∃ k, k = j + 1 := ⟨_, rfl⟩
        rw [← hk] at hj
        subst hj
        obtain ⟨ad, a, rfl, hca1, ha, -⟩ := rd_at hr (Below.refl _ _) (by omega : j < l.length)
        obtain ⟨ad2, c, e, hcc, hc, -⟩ := rd_at hr (Below.refl _ _) (by omega : k < l.length)
        obtain rfl : ad = ad2 := by injection e
        by_cases h0 : a = 0 ∨ a = 1
        · by_cases h8 : c = 8
          · exact apartNsm_any ad ca n j k a c nn w h150 hk (by omega) hca1 hcc h0 h8
          · exact apartIn_any ad ca n j k l a c nn w hr hln h150 hca hm hk (by omega) ha hc h0 h8
        · exact apartWeak_any ad ca n j k a nn w h150 hk (by omega) hca1 h0
  · exact apartLong_any A ca n i nn w (by omega) (by omega)
end Go.Proofs.Ytanlclmlkpchfaa
