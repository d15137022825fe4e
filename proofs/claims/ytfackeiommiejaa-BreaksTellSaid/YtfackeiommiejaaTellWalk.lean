/- The walk of stage 6's first law: it answers true. Conditions: the slice reads as a list of kinds, within its capacity. -/
import Derived.Test.YtfackeiommiejaaAlive
import Derived.Test.YtfackeiommiejaaRefAll
import Derived.Test.YtfackeiommiejaaAppendRd
namespace Go.Proofs.Ytfackeiommiejaa
open Go.RowKit

set_option maxHeartbeats 4000000 in
theorem tellLong_any (A : Option Addr) (ca n : Nat) (i : Int) (w : World) (hn : 80 < n) (hm : n ≤ maxLen) :
    Calls Try.prog 3 #[.slice A n ca, .int .i64 i] w fun r w' => r = .returned (.bool true) ∧ Below w.heap.size w w' := by
  unfold maxLen at hm
  have h1 : (80 : Int) < n := by omega
  go_enter Try.func3, Try.ntmps3
  go_wp2_with fail
  refine (alive_any _).mono ?_
  rintro r w2 ⟨rfl, hb⟩
  have HB := Lib.hid hb
  clear hb
  go_wp2_with fail
  go_ret
  exact ⟨rfl, HB.out⟩

set_option maxRecDepth 100000 in
set_option maxHeartbeats 4000000 in
theorem tellShort_any (A : Option Addr) (ca n : Nat) (i : Int) (l : List Int) (w : World) (hr : RdS .i64 w w.heap.size A l) (hn : l.length = n) (hl : n ≤ 80) (hca : n ≤ ca) (hA : A = none → ca = 0) (hi : i ≤ 9223372036854775807) :
    Calls Try.prog 3 #[.slice A n ca, .int .i64 i] w fun r w' => r = .returned (.bool true) ∧ Below w.heap.size w w' := by
  obtain ⟨i0, hi0, hz0, hz1, hz2⟩ := info_parts Try.infoKind
  have HR := Lib.hid hr
  have HN := Lib.hid hn
  have HA := Lib.hid hA
  have HI := Lib.hid hi
  have hl1 : (n : Int) ≤ 80 := by omega
  have HAL := Lib.hid (show (M.all l).length = n by rw [M.all_len, hn])
  have HCL := Lib.hid (show (M.cnts l).length = n by rw [M.cnts_len, hn])
  obtain ⟨at0, hat⟩ : ∃ v, M.atI l i = v := ⟨_, rfl⟩
  obtain ⟨nx0, hnx⟩ : ∃ v, M.nextI l i = v := ⟨_, rfl⟩
  have HAT := Lib.hid hat
  have HNX := Lib.hid hnx
  clear hr hn hA hi hat hnx
  go_enter Try.func3, Try.ntmps3
  go_wp2_with (at_builtin; refine wpList_append_rd _ rfl _ _ 22 rfl w.heap.size 31 i0 (.int .i64 0) 8 Try.underlying22 hi0 hz0 hz1 hz2 rfl _ 0 [] rfl (World.ownsRow_lit w #[] 0 (Nat.le_refl _) (Nat.zero_le _) rfl) .i64 w.heap.size A ca l (by rw [HN.out]; rfl) (HR.out.keep (fun p hp => World.cell?_alloc_lt w _ p (by omega))) HA.out (by have := HN.out; unfold maxLen; omega) (by have := HN.out; omega) (by simp) ?_)
  intro v1 w1 ho1 hg1
  have hb1 : Below w.heap.size w w1 := grow_below0 ((Below.refl _ _).alloc (Nat.le_refl _) _) (World.ownsRow_lit w #[] 0 (Nat.le_refl _) (Nat.zero_le _) rfl) hg1 (by simp)
  have ho1' : w1.ownsRow w.heap.size 31 1 v1 l.length (l.map (Value.int .i64)) := by simpa using ho1
  obtain ⟨A1, c1, rfl, hr1, _, _, _⟩ := reads_own ho1'
  rw [HN.out]
  have HR1 := Lib.hid hr1
  have HB1 := Lib.hid hb1
  have HRl := Lib.hid ((HR.out.below hb1).more hb1.size)
  clear ho1 hg1 hb1 ho1' hr1
  go_wp2_with fail
  refine (all_any A ca n l w1 HRl.out HN.out (by omega) hca).mono ?_
  rintro r w2 ⟨A2, c2, rfl, hr2, _, _, _, hb2⟩
  rw [HAL.out]
  have HR2 := Lib.hid hr2
  have HRl2 := Lib.hid ((HRl.out.below hb2).more hb2.size)
  have HR12 := Lib.hid ((HR1.out.below hb2).more hb2.size)
  have HB2 := Lib.hid (HB1.out.trans (hb2.mono HB1.out.size))
  clear hr2 hb2
  go_wp2_with fail
  refine (refAll_any A ca n l w2 HRl2.out HN.out (by omega)).mono ?_
  rintro r w3 ⟨A3, c3, rfl, hr3, _, _, _, hb3⟩
  rw [HAL.out]
  have HR3 := Lib.hid hr3
  have HR23 := Lib.hid ((HR2.out.below hb3).more hb3.size)
  have HRl3 := Lib.hid ((HRl2.out.below hb3).more hb3.size)
  have HR13 := Lib.hid ((HR12.out.below hb3).more hb3.size)
  have HB3 := Lib.hid (HB2.out.trans (hb3.mono HB2.out.size))
  clear hr3 hb3
  go_wp2_with fail
  refine (ints_same A2 A3 c2 c3 n _ w3 HR23.out HR3.out HAL.out (by omega)).mono ?_
  rintro r w4 ⟨rfl, hb4⟩
  have HRl4 := Lib.hid ((HRl3.out.below hb4).more hb4.size)
  have HR14 := Lib.hid ((HR13.out.below hb4).more hb4.size)
  have HB4 := Lib.hid (HB3.out.trans (hb4.mono HB3.out.size))
  clear hb4
  go_wp2_with fail
  refine (counts_any A ca n l w4 HRl4.out HN.out (by omega)).mono ?_
  rintro r w5 ⟨A5, c5, rfl, hr5, _, _, _, hb5⟩
  rw [HCL.out]
  have HR5 := Lib.hid hr5
  have HRl5 := Lib.hid ((HRl4.out.below hb5).more hb5.size)
  have HR15 := Lib.hid ((HR14.out.below hb5).more hb5.size)
  have HB5 := Lib.hid (HB4.out.trans (hb5.mono HB4.out.size))
  clear hr5 hb5
  go_wp2_with fail
  refine (refCounts_any A ca n l w5 HRl5.out HN.out (by omega)).mono ?_
  rintro r w6 ⟨A6, c6, rfl, hr6, _, _, _, hb6⟩
  rw [HCL.out]
  have HR6 := Lib.hid hr6
  have HR56 := Lib.hid ((HR5.out.below hb6).more hb6.size)
  have HRl6 := Lib.hid ((HRl5.out.below hb6).more hb6.size)
  have HR16 := Lib.hid ((HR15.out.below hb6).more hb6.size)
  have HB6 := Lib.hid (HB5.out.trans (hb6.mono HB5.out.size))
  clear hr6 hb6
  go_wp2_with fail
  refine (kinds_same A5 A6 c5 c6 n _ w6 HR56.out HR6.out HCL.out (by omega)).mono ?_
  rintro r w7 ⟨rfl, hb7⟩
  have HRl7 := Lib.hid ((HRl6.out.below hb7).more hb7.size)
  have HR17 := Lib.hid ((HR16.out.below hb7).more hb7.size)
  have HB7 := Lib.hid (HB6.out.trans (hb7.mono HB6.out.size))
  clear hb7
  go_wp2_with fail
  refine (kinds_same A A1 ca c1 n l w7 HRl7.out HR17.out HN.out (by omega)).mono ?_
  rintro r w8 ⟨rfl, hb8⟩
  have HRl8 := Lib.hid ((HRl7.out.below hb8).more hb8.size)
  have HB8 := Lib.hid (HB7.out.trans (hb8.mono HB7.out.size))
  clear hb8
  go_wp2_with fail
  refine (alive_any _).mono ?_
  rintro r w9 ⟨rfl, hb9⟩
  have HRl9 := Lib.hid ((HRl8.out.below hb9).more hb9.size)
  have HB9 := Lib.hid (HB8.out.trans (hb9.mono HB8.out.size))
  clear hb9
  go_wp2_with fail
  refine (at_any A ca n i l w9 HRl9.out HN.out (by omega) hca HI.out).mono ?_
  rintro r w10 ⟨rfl, hb10⟩
  rw [HAT.out]
  have HRl10 := Lib.hid ((HRl9.out.below hb10).more hb10.size)
  have HB10 := Lib.hid (HB9.out.trans (hb10.mono HB9.out.size))
  clear hb10
  go_wp2_with fail
  refine (refAt_any A ca n i l w10 HRl10.out HN.out (by omega)).mono ?_
  rintro r w11 ⟨rfl, hb11⟩
  rw [HAT.out]
  have HRl11 := Lib.hid ((HRl10.out.below hb11).more hb11.size)
  have HB11 := Lib.hid (HB10.out.trans (hb11.mono HB10.out.size))
  clear hb11
  go_wp2_with fail
  refine (nextOf_any A ca n i l w11 HRl11.out HN.out (by omega) hca).mono ?_
  rintro r w12 ⟨rfl, hb12⟩
  rw [HNX.out]
  have HRl12 := Lib.hid ((HRl11.out.below hb12).more hb12.size)
  have HB12 := Lib.hid (HB11.out.trans (hb12.mono HB11.out.size))
  clear hb12
  go_wp2_with fail
  refine (refNext_any A ca n i l w12 HRl12.out HN.out (by omega)).mono ?_
  rintro r w13 ⟨rfl, hb13⟩
  rw [HNX.out]
  have HB13 := Lib.hid (HB12.out.trans (hb13.mono HB12.out.size))
  clear hb13
  go_wp2_with fail
  go_ret
  exact ⟨ret_bool (by simp), HB13.out⟩

theorem tellLaw_any (A : Option Addr) (ca n : Nat) (i : Int) (l : List Int) (w : World) (hr : RdS .i64 w w.heap.size A l) (hn : l.length = n) (hca : n ≤ ca) (hcm : ca ≤ maxLen) (hA : A = none → ca = 0) (hi : i ≤ 9223372036854775807) :
    Calls Try.prog 3 #[.slice A n ca, .int .i64 i] w fun r w' => r = .returned (.bool true) ∧ Below w.heap.size w w' := by
  rcases Nat.lt_or_ge 80 n with h | h
  · exact tellLong_any A ca n i w h (Nat.le_trans hca hcm)
  · exact tellShort_any A ca n i l w hr hn h hca hA hi
end Go.Proofs.Ytfackeiommiejaa
