/- The walk of NeutralSettles: it answers true. Conditions: the slice reads as a list of classes, within its capacity. -/
import Derived.Test.YtjoiinpkkaigdaaAlive
namespace Go.Proofs.Ytjoiinpkkaigdaa
open Go.RowKit
set_option maxRecDepth 100000

set_option maxHeartbeats 4000000 in
theorem setLong_any (A : Option Addr) (ca n : Nat) (lv f g : Int) (w : World) (hn : 150 < n) (hm : n ≤ maxLen) :
    Calls Try.prog 3 #[.slice A n ca, .agg #[.int .i64 lv, .int .i64 f, .int .i64 g]] w fun r w' => r = .returned (.bool true) ∧ Below w.heap.size w w' := by
  unfold maxLen at hm
  have h1 : (150 : Int) < n := by omega
  obtain ⟨W1, hW1, hb1, e0, e1, e2, -⟩ := new_three w lv f g 25
  have HB1 := Lib.hid hb1
  clear hb1
  go_enter Try.func3, Try.ntmps3
  go_wp2_with fail
  refine (alive_any _).mono ?_
  rintro r w2 ⟨rfl, hb⟩
  have HB := Lib.hid (HB1.out.trans (hb.mono HB1.out.size))
  clear hb
  go_wp2_with fail
  go_ret
  exact ⟨rfl, HB.out⟩
set_option maxHeartbeats 8000000 in
theorem setShort_any (A : Option Addr) (ca n : Nat) (l : List Int) (lv f g : Int) (w : World) (hr : RdS .i64 w w.heap.size A l) (hn : l.length = n) (hl : n ≤ 150) (hca : n ≤ ca) (hA : A = none → ca = 0) :
    Calls Try.prog 3 #[.slice A n ca, .agg #[.int .i64 lv, .int .i64 f, .int .i64 g]] w fun r w' => r = .returned (.bool true) ∧ Below w.heap.size w w' := by
  obtain ⟨i0, hi0, hz0, hz1, hz2⟩ := info_parts Try.infoCls2
  obtain ⟨W1, hW1, hbw1, e0, e1, e2, hgt⟩ := new_three w lv f g 25
  have HF1 := Lib.hid (show Three W1 w.heap.size lv f g from ⟨e0, e1, e2⟩)
  have HR := Lib.hid ((hr.below hbw1).more hbw1.size)
  have HN := Lib.hid hn
  have HA := Lib.hid hA
  have HCA := Lib.hid hca
  have HBW := Lib.hid hbw1
  have HGT := Lib.hid hgt
  have hl1 : (n : Int) ≤ 150 := by omega
  obtain ⟨xs, hxs⟩ : ∃ xs, M.orNil (M.setOk lv f g) (M.settle lv f g l) = xs := ⟨_, rfl⟩
  obtain ⟨ex, hex⟩ : ∃ e, M.orArg (M.setOk lv f g) = e := ⟨_, rfl⟩
  obtain ⟨px, hpx⟩ : ∃ p, xs.length = p := ⟨_, rfl⟩
  obtain ⟨ps, hps⟩ : ∃ ps, M.orNil (M.lvOk lv) (M.raise lv l) = ps := ⟨_, rfl⟩
  obtain ⟨ep, hep⟩ : ∃ e, M.orArg (M.lvOk lv) = e := ⟨_, rfl⟩
  obtain ⟨pp, hpp⟩ : ∃ p, ps.length = p := ⟨_, rfl⟩
  have hpx1 : px ≤ 1000 := by
    have := M.orNil_len (ok := M.setOk lv f g) (t := M.settle lv f g l)
    rw [hxs, hpx, M.settle_len] at this
    omega
  have hpp1 : pp ≤ 1000 := by
    have := M.orNil_len (ok := M.lvOk lv) (t := M.raise lv l)
    rw [hps, hpp, M.raise_len] at this
    omega
  have HXS := Lib.hid hxs
  have HEX := Lib.hid hex
  have HPX := Lib.hid hpx
  have HPS := Lib.hid hps
  have HEP := Lib.hid hep
  have HPP := Lib.hid hpp
  clear hr hn hA hca hxs hex hpx hps hep hpp hbw1
  go_enter Try.func3, Try.ntmps3
  go_wp2_with (at_builtin; refine wpList_append_rd _ rfl _ _ 22 rfl W1.heap.size 23 i0 (.int .i64 0) 8 Try.underlying22 hi0 hz0 hz1 hz2 rfl _ 0 [] rfl (World.ownsRow_lit W1 #[] 0 (Nat.le_refl _) (Nat.zero_le _) rfl) .i64 W1.heap.size A ca l (by rw [HN.out]; rfl) (HR.out.keep (fun p hp => World.cell?_alloc_lt W1 _ p (by omega))) HA.out (by have := HN.out; unfold maxLen; omega) (by have := HN.out; omega) (by simp) ?_)
  intro v1 w1 ho1 hg1
  have hb1 : Below W1.heap.size W1 w1 := grow_below0 ((Below.refl _ _).alloc (Nat.le_refl _) _) (World.ownsRow_lit W1 #[] 0 (Nat.le_refl _) (Nat.zero_le _) rfl) hg1 (by simp)
  have ho1' : w1.ownsRow W1.heap.size 23 1 v1 l.length (l.map (Value.int .i64)) := by simpa using ho1
  obtain ⟨A1, c1, rfl, hr1, _, _, _⟩ := reads_own ho1'
  rw [HN.out]
  have HR1 := Lib.hid hr1
  have HB1 := Lib.hid (HBW.out.trans (hb1.mono HBW.out.size))
  have HRl1 := Lib.hid ((HR.out.below hb1).more hb1.size)
  have HT1 := Lib.hid (HF1.out.later hb1 HGT.out)
  have HG1 := Lib.hid (Nat.lt_of_lt_of_le HGT.out hb1.size)
  clear ho1 hg1 hb1 ho1' hr1 e0 e1 e2 hgt
  obtain ⟨e0, e1, e2⟩ := HT1.out
  go_wp2_with fail
  refine (seq_any lv f g w1).mono ?_
  rintro r w2 ⟨rfl, hb2⟩
  have HR12 := Lib.hid ((HR1.out.below hb2).more hb2.size)
  have HB2 := Lib.hid (HB1.out.trans (hb2.mono HB1.out.size))
  have HRl2 := Lib.hid ((HRl1.out.below hb2).more hb2.size)
  have HT2 := Lib.hid (HT1.out.later hb2 HG1.out)
  have HG2 := Lib.hid (Nat.lt_of_lt_of_le HG1.out hb2.size)
  clear hb2 e0 e1 e2
  go_wp2_with fail
  refine (csettle_any A ca n l lv f g w2 HRl2.out HN.out (by omega) HCA.out).mono ?_
  rintro r w3 hout
  obtain ⟨A3, c3, rfl, hr3, hb3, -⟩ := row_out hout
  rw [HXS.out] at hr3 ⊢
  rw [HEX.out, HPX.out]
  have HX3 := Lib.hid hr3
  have HR13 := Lib.hid ((HR12.out.below hb3).more hb3.size)
  have HB3 := Lib.hid (HB2.out.trans (hb3.mono HB2.out.size))
  have HRl3 := Lib.hid ((HRl2.out.below hb3).more hb3.size)
  have HT3 := Lib.hid (HT2.out.later hb3 HG2.out)
  have HG3 := Lib.hid (Nat.lt_of_lt_of_le HG2.out hb3.size)
  clear hout hr3 hb3
  obtain ⟨e0, e1, e2⟩ := HT3.out
  go_wp2_with fail
  refine (refSettle_any A ca n l lv f g w3 HRl3.out HN.out (by omega)).mono ?_
  rintro r w4 hout
  obtain ⟨A4, c4, rfl, hr4, hb4, -⟩ := row_out hout
  rw [HXS.out] at hr4 ⊢
  rw [HEX.out, HPX.out]
  have HX4 := Lib.hid hr4
  have HX34 := Lib.hid ((HX3.out.below hb4).more hb4.size)
  have HR14 := Lib.hid ((HR13.out.below hb4).more hb4.size)
  have HB4 := Lib.hid (HB3.out.trans (hb4.mono HB3.out.size))
  have HRl4 := Lib.hid ((HRl3.out.below hb4).more hb4.size)
  have HT4 := Lib.hid (HT3.out.later hb4 HG3.out)
  have HG4 := Lib.hid (Nat.lt_of_lt_of_le HG3.out hb4.size)
  clear hout hr4 hb4 e0 e1 e2
  obtain ⟨e0, e1, e2⟩ := HT4.out
  go_wp2_with fail
  refine (craise_any A ca n l lv w4 HRl4.out HN.out (by omega) HCA.out).mono ?_
  rintro r w5 hout
  obtain ⟨A5, c5, rfl, hr5, hb5, -⟩ := row_out hout
  rw [HPS.out] at hr5 ⊢
  rw [HEP.out, HPP.out]
  have HX5 := Lib.hid hr5
  have HX35 := Lib.hid ((HX34.out.below hb5).more hb5.size)
  have HX45 := Lib.hid ((HX4.out.below hb5).more hb5.size)
  have HR15 := Lib.hid ((HR14.out.below hb5).more hb5.size)
  have HB5 := Lib.hid (HB4.out.trans (hb5.mono HB4.out.size))
  have HRl5 := Lib.hid ((HRl4.out.below hb5).more hb5.size)
  have HT5 := Lib.hid (HT4.out.later hb5 HG4.out)
  clear hout hr5 hb5 e0 e1 e2
  obtain ⟨e0, e1, e2⟩ := HT5.out
  go_wp2_with fail
  refine (refRaise_any A ca n l lv w5 HRl5.out HN.out (by omega)).mono ?_
  rintro r w6 hout
  obtain ⟨A6, c6, rfl, hr6, hb6, -⟩ := row_out hout
  rw [HPS.out] at hr6 ⊢
  rw [HEP.out, HPP.out]
  have HX6 := Lib.hid hr6
  have HX36 := Lib.hid ((HX35.out.below hb6).more hb6.size)
  have HX46 := Lib.hid ((HX45.out.below hb6).more hb6.size)
  have HX56 := Lib.hid ((HX5.out.below hb6).more hb6.size)
  have HR16 := Lib.hid ((HR15.out.below hb6).more hb6.size)
  have HB6 := Lib.hid (HB5.out.trans (hb6.mono HB5.out.size))
  have HRl6 := Lib.hid ((HRl5.out.below hb6).more hb6.size)
  clear hout hr6 hb6 e0 e1 e2
  go_wp2_with fail
  refine (same_same A3 A4 c3 c4 px xs w6 HX36.out HX46.out HPX.out hpx1).mono ?_
  rintro r w7 ⟨rfl, hb7⟩
  have HX57 := Lib.hid ((HX56.out.below hb7).more hb7.size)
  have HX67 := Lib.hid ((HX6.out.below hb7).more hb7.size)
  have HR17 := Lib.hid ((HR16.out.below hb7).more hb7.size)
  have HB7 := Lib.hid (HB6.out.trans (hb7.mono HB6.out.size))
  have HRl7 := Lib.hid ((HRl6.out.below hb7).more hb7.size)
  clear hb7
  go_wp2_with fail
  refine (same_same A A1 ca c1 n l w7 HRl7.out HR17.out HN.out (by omega)).mono ?_
  rintro r w8 ⟨rfl, hb8⟩
  have HX58 := Lib.hid ((HX57.out.below hb8).more hb8.size)
  have HX68 := Lib.hid ((HX67.out.below hb8).more hb8.size)
  have HB8 := Lib.hid (HB7.out.trans (hb8.mono HB7.out.size))
  clear hb8
  go_wp2_with fail
  refine (alive_any _).mono ?_
  rintro r w9 ⟨rfl, hb9⟩
  have HX59 := Lib.hid ((HX58.out.below hb9).more hb9.size)
  have HX69 := Lib.hid ((HX68.out.below hb9).more hb9.size)
  have HB9 := Lib.hid (HB8.out.trans (hb9.mono HB8.out.size))
  clear hb9
  go_wp2_with fail
  refine (ints_same A5 A6 c5 c6 pp ps w9 HX59.out HX69.out HPP.out hpp1).mono ?_
  rintro r w10 ⟨rfl, hb10⟩
  have HB10 := Lib.hid (HB9.out.trans (hb10.mono HB9.out.size))
  clear hb10
  go_wp2_with fail
  go_ret
  exact ⟨rfl, HB10.out⟩
theorem setLaw_any (A : Option Addr) (ca n : Nat) (l : List Int) (lv f g : Int) (w : World) (hr : RdS .i64 w w.heap.size A l) (hn : l.length = n) (hca : n ≤ ca) (hm : ca ≤ maxLen) (hA : A = none → ca = 0) :
    Calls Try.prog 3 #[.slice A n ca, .agg #[.int .i64 lv, .int .i64 f, .int .i64 g]] w fun r w' => r = .returned (.bool true) ∧ Below w.heap.size w w' := by
  by_cases h : n ≤ 150
  · exact setShort_any A ca n l lv f g w hr hn h hca hA
  · exact setLong_any A ca n lv f g w (by omega) (by omega)
end Go.Proofs.Ytjoiinpkkaigdaa
