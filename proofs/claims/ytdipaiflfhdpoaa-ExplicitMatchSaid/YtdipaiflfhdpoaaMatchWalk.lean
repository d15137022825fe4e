/- The walk of ExplicitMatch: it answers true. Conditions: the slice reads as a list of classes, within its capacity. -/
import Derived.Test.YtdipaiflfhdpoaaAlive
import Derived.Test.YtdipaiflfhdpoaaRefMatch
import Derived.Test.YtdipaiflfhdpoaaRefStrong
import Derived.Test.YtdipaiflfhdpoaaAppendRd
namespace Go.Proofs.Ytdipaiflfhdpoaa
open Go.RowKit

set_option maxHeartbeats 4000000 in
theorem matchLong_any (A : Option Addr) (ca n : Nat)  (w : World) (hn : 400 < n) (hm : n ≤ maxLen) :
    Calls Try.prog 3 #[.slice A n ca] w fun r w' => r = .returned (.bool true) ∧ Below w.heap.size w w' := by
  unfold maxLen at hm
  have h1 : (400 : Int) < n := by omega
  go_enter Try.func3, Try.ntmps3
  go_wp2_with fail
  refine (alive_any _).mono ?_
  rintro r w2 ⟨rfl, hb⟩
  have HB := Lib.hid hb
  clear hb
  go_wp2_with fail
  go_ret
  exact ⟨rfl, HB.out⟩
set_option maxRecDepth 100000 in
set_option maxHeartbeats 4000000 in
theorem matchShort_any (A : Option Addr) (ca n : Nat) (l : List Int) (w : World) (hr : RdS .i64 w w.heap.size A l) (hn : l.length = n) (hl : n ≤ 400) (hA : A = none → ca = 0) :
    Calls Try.prog 3 #[.slice A n ca] w fun r w' => r = .returned (.bool true) ∧ Below w.heap.size w w' := by
  obtain ⟨i0, hi0, hz0, hz1, hz2⟩ := info_parts Try.infoCls
  have HR := Lib.hid hr
  have HN := Lib.hid hn
  have HA := Lib.hid hA
  have hl1 : (n : Int) ≤ 400 := by omega
  have HML := Lib.hid (show (M.matchI l).length = n by unfold M.matchI; rw [M.matchTo_len, hn])
  clear hr hn hA
  go_enter Try.func3, Try.ntmps3
  go_wp2_with (at_builtin; refine wpList_append_rd _ rfl _ _ 22 rfl w.heap.size 34 i0 (.int .i64 0) 8 Try.underlying22 hi0 hz0 hz1 hz2 rfl _ 0 [] rfl (World.ownsRow_lit w #[] 0 (Nat.le_refl _) (Nat.zero_le _) rfl) .i64 w.heap.size A ca l (by rw [HN.out]; rfl) (HR.out.keep (fun p hp => World.cell?_alloc_lt w _ p (by omega))) HA.out (by have := HN.out; unfold maxLen; omega) (by have := HN.out; omega) (by simp) ?_)
  intro v1 w1 ho1 hg1
  have hb1 : Below w.heap.size w w1 := grow_below0 ((Below.refl _ _).alloc (Nat.le_refl _) _) (World.ownsRow_lit w #[] 0 (Nat.le_refl _) (Nat.zero_le _) rfl) hg1 (by simp)
  have ho1' : w1.ownsRow w.heap.size 34 1 v1 l.length (l.map (Value.int .i64)) := by simpa using ho1
  obtain ⟨A1, c1, rfl, hr1, _, _, _⟩ := reads_own ho1'
  rw [HN.out]
  have HR1 := Lib.hid hr1
  have HB1 := Lib.hid hb1
  have HRl1 := Lib.hid ((HR.out.below hb1).more hb1.size)
  clear ho1 hg1 hb1 ho1' hr1
  go_wp2_with fail
  refine (cmatch_any A ca n l w1 HRl1.out HN.out (by omega)).mono ?_
  rintro r w2 hout
  obtain ⟨A2, c2, rfl, hr2, _, _, _, hb2⟩ := rowOut_list hout
  rw [HML.out]
  have HR2 := Lib.hid hr2
  have HRl2 := Lib.hid ((HRl1.out.below hb2).more hb2.size)
  have HR12 := Lib.hid ((HR1.out.below hb2).more hb2.size)
  have HB2 := Lib.hid (HB1.out.trans (hb2.mono HB1.out.size))
  clear hr2 hb2 hout
  go_wp2_with fail
  refine (refMatch_any A ca n l w2 HRl2.out HN.out (by omega)).mono ?_
  rintro r w3 hout
  obtain ⟨A3, c3, rfl, hr3, _, _, _, hb3⟩ := rowOut_list hout
  rw [HML.out]
  have HR3 := Lib.hid hr3
  have HR23 := Lib.hid ((HR2.out.below hb3).more hb3.size)
  have HRl3 := Lib.hid ((HRl2.out.below hb3).more hb3.size)
  have HR13 := Lib.hid ((HR12.out.below hb3).more hb3.size)
  have HB3 := Lib.hid (HB2.out.trans (hb3.mono HB2.out.size))
  clear hr3 hb3 hout
  go_wp2_with fail
  refine (ints_same A2 A3 c2 c3 n _ w3 HR23.out HR3.out HML.out (by omega)).mono ?_
  rintro r w4 ⟨rfl, hb4⟩
  have HRl4 := Lib.hid ((HRl3.out.below hb4).more hb4.size)
  have HR14 := Lib.hid ((HR13.out.below hb4).more hb4.size)
  have HB4 := Lib.hid (HB3.out.trans (hb4.mono HB3.out.size))
  clear hb4
  go_wp2_with fail
  refine (same_same A A1 ca c1 n l w4 HRl4.out HR14.out HN.out (by omega)).mono ?_
  rintro r w5 ⟨rfl, hb5⟩
  have HRl5 := Lib.hid ((HRl4.out.below hb5).more hb5.size)
  have HB5 := Lib.hid (HB4.out.trans (hb5.mono HB4.out.size))
  clear hb5
  go_wp2_with fail
  refine (alive_any _).mono ?_
  rintro r w6 ⟨rfl, hb6⟩
  have HRl6 := Lib.hid ((HRl5.out.below hb6).more hb6.size)
  have HB6 := Lib.hid (HB5.out.trans (hb6.mono HB5.out.size))
  clear hb6
  go_wp2_with fail
  refine (cstrong_any A ca n l w6 HRl6.out HN.out (by omega)).mono ?_
  rintro r w7 ⟨rfl, rfl⟩
  go_wp2_with fail
  refine (strong_any A ca n l w6 HRl6.out HN.out (by omega)).mono ?_
  rintro r w7 ⟨rfl, rfl⟩
  go_wp2_with fail
  go_ret
  exact ⟨rfl, HB6.out⟩
theorem matchLaw_any (A : Option Addr) (ca n : Nat) (l : List Int) (w : World) (hr : RdS .i64 w w.heap.size A l) (hn : l.length = n) (hca : n ≤ ca) (hm : ca ≤ maxLen) (hA : A = none → ca = 0) :
    Calls Try.prog 3 #[.slice A n ca] w fun r w' => r = .returned (.bool true) ∧ Below w.heap.size w w' := by
  by_cases h : n ≤ 400
  · exact matchShort_any A ca n l w hr hn h hA
  · exact matchLong_any A ca n w (by omega) (by omega)
end Go.Proofs.Ytdipaiflfhdpoaa
