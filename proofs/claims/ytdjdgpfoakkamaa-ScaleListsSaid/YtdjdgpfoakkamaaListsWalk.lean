/- The walk of stage 4's law of lists: it answers true. Conditions: the slice reads as a list of words of eight bytes. -/
import Derived.Test.YtdjdgpfoakkamaaRefSorted
namespace Go.Proofs.Ytdjdgpfoakkamaa
open Go.RowKit

theorem alive_below (w : World) : Calls Try.prog 12 #[] w fun r w' => r = .returned (.bool true) ∧ Below w.heap.size w w' :=
  (alive_true w).mono fun r w' ⟨h1, h2⟩ => ⟨h1, by rw [h2]; exact Below.refl _ _⟩

set_option maxHeartbeats 4000000 in
theorem listsLong_any (A : Option Addr) (ca n : Nat) (w : World) (hn : 60 < n) (hm : n ≤ maxLen) :
    Calls Try.prog 4 #[.slice A n ca] w fun r w' => r = .returned (.bool true) ∧ Below w.heap.size w w' := by
  unfold maxLen at hm
  have h1 : (60 : Int) < n := by omega
  go_enter Try.func4, Try.ntmps4
  go_wp2_with fail
  refine (alive_below _).mono ?_
  rintro r w2 ⟨rfl, hb⟩
  have HB := Lib.hid hb
  clear hb
  go_wp2_with fail
  go_ret
  exact ⟨rfl, HB.out⟩

set_option maxHeartbeats 4000000 in
theorem listsShort_any (A : Option Addr) (ca n : Nat) (l : List Int) (w : World) (hr : RdS .u64 w w.heap.size A l) (hw : M.Wd l) (hn : l.length = n) (hl : n ≤ 60) (hA : A = none → ca = 0) :
    Calls Try.prog 4 #[.slice A n ca] w fun r w' => r = .returned (.bool true) ∧ Below w.heap.size w w' := by
  obtain ⟨i0, hi, hz0, hz1, hz2⟩ := info_parts Try.infoWord
  have HR := Lib.hid hr
  have HN := Lib.hid hn
  have HW := Lib.hid hw
  have HA := Lib.hid hA
  have hl1 : (n : Int) ≤ 60 := by omega
  clear hr hn hw hA
  go_enter Try.func4, Try.ntmps4
  go_wp2_with (at_builtin; refine wpList_append_rd _ rfl _ _ 32 rfl w.heap.size 22 i0 (.int .u64 0) 8 Try.underlying32 hi hz0 hz1 hz2 rfl _ 0 [] rfl (World.ownsRow_lit w #[] 0 (Nat.le_refl _) (Nat.zero_le _) rfl) .u64 w.heap.size A ca l (by rw [HN.out]; rfl) (HR.out.keep (fun p hp => World.cell?_alloc_lt w _ p (by omega))) HA.out (by have := HN.out; unfold maxLen; omega) (by have := HN.out; omega) (by simp) ?_)
  intro v1 w1 ho1 hg1
  have hb1 : Below w.heap.size w w1 := grow_below0 ((Below.refl _ _).alloc (Nat.le_refl _) _) (World.ownsRow_lit w #[] 0 (Nat.le_refl _) (Nat.zero_le _) rfl) hg1 (by simp)
  have ho1' : w1.ownsRow w.heap.size 22 1 v1 l.length (l.map (Value.int .u64)) := by simpa using ho1
  obtain ⟨A1, c1, rfl, hr1, _, _, _⟩ := reads_own ho1'
  rw [HN.out]
  have HR1 := Lib.hid hr1
  have HB1 := Lib.hid hb1
  have HRl := Lib.hid ((HR.out.below hb1).more hb1.size)
  clear ho1 hg1 hb1 ho1' hr1
  have hsum := fun (w : World) (h : RdS .u64 w w.heap.size A l) => sum_any A ca l w h HW.out (by rw [HN.out]; exact hl)
  have hsum2 := fun (w : World) (h : RdS .u64 w w.heap.size A l) => refSum_any A ca l w h HW.out (by rw [HN.out]; exact hl)
  rw [HN.out] at hsum hsum2
  cases hs : M.sumI l with
  | none =>
    rw [hs] at hsum hsum2
    simp only [M.cellsV] at hsum hsum2
    clear hs
    have HS := Lib.hid hsum
    have HS2 := Lib.hid hsum2
    clear hsum hsum2
    go_wp2_with fail
    refine (HS.out w1 HRl.out).mono ?_
    rintro r w2 ⟨rfl, hb2⟩
    have HRl2 := Lib.hid ((HRl.out.below hb2).more hb2.size)
    have HR2 := Lib.hid ((HR1.out.below hb2).more hb2.size)
    have HB2 := Lib.hid (HB1.out.trans (hb2.mono HB1.out.size))
    clear hb2
    go_wp2_with fail
    refine (HS2.out w2 HRl2.out).mono ?_
    rintro r w3 ⟨rfl, hb3⟩
    have HRl3 := Lib.hid ((HRl2.out.below hb3).more hb3.size)
    have HR3 := Lib.hid ((HR2.out.below hb3).more hb3.size)
    have HB3 := Lib.hid (HB2.out.trans (hb3.mono HB2.out.size))
    clear hb3
    go_wp2_with fail
    refine (alive_below w3).mono ?_
    rintro r w4 ⟨rfl, hb4⟩
    have HRl4 := Lib.hid ((HRl3.out.below hb4).more hb4.size)
    have HR4 := Lib.hid ((HR3.out.below hb4).more hb4.size)
    have HB4 := Lib.hid (HB3.out.trans (hb4.mono HB3.out.size))
    clear hb4
    go_wp2_with fail
    refine (sorted_any A ca n l w4 HRl4.out HW.out HN.out hl).mono ?_
    rintro r w5 ⟨A5, c5, t5, rfl, hr5, hs5, ht5, hb5⟩
    have HRl5 := Lib.hid ((HRl4.out.below hb5).more hb5.size)
    have HR5 := Lib.hid ((HR4.out.below hb5).more hb5.size)
    have HB5 := Lib.hid (HB4.out.trans (hb5.mono HB4.out.size))
    have HRA := Lib.hid hr5
    have HSA := Lib.hid (show M.Sor t5 ∧ M.St l t5 from ⟨hs5, ht5⟩)
    clear hr5 hs5 ht5 hb5
    rw [HN.out]
    go_wp2_with fail
    refine (refSorted_any A ca n l w5 HRl5.out HW.out HN.out hl).mono ?_
    rintro r w6 ⟨A6, c6, t6, rfl, hr6, hs6, ht6, hb6⟩
    have ht : t6 = t5 := M.stable_one hs6 HSA.out.1 (ht6.symm.trans HSA.out.2)
    subst ht
    have HRl6 := Lib.hid ((HRl5.out.below hb6).more hb6.size)
    have HR6 := Lib.hid ((HR5.out.below hb6).more hb6.size)
    have HRA6 := Lib.hid ((HRA.out.below hb6).more hb6.size)
    have HB6 := Lib.hid (HB5.out.trans (hb6.mono HB5.out.size))
    have HRB6 := Lib.hid hr6
    have HTL := Lib.hid (show t6.length = n by rw [← ht6.len]; exact HN.out)
    clear hr6 hs6 ht6 hb6
    rw [HN.out]
    go_wp2_with fail
    refine (same_any A5 A6 c5 c6 n t6 w6 HRA6.out HRB6.out HTL.out hl).mono ?_
    rintro r w7 ⟨rfl, hb7⟩
    have HRl7 := Lib.hid ((HRl6.out.below hb7).more hb7.size)
    have HR7 := Lib.hid ((HR6.out.below hb7).more hb7.size)
    have HB7 := Lib.hid (HB6.out.trans (hb7.mono HB6.out.size))
    clear hb7
    go_wp2_with fail
    refine (same_any A A1 ca c1 n l w7 HRl7.out HR7.out HN.out hl).mono ?_
    rintro r w8 ⟨rfl, hb8⟩
    have HB8 := Lib.hid (HB7.out.trans (hb8.mono HB7.out.size))
    clear hb8
    go_wp2_with fail
    go_ret
    exact ⟨rfl, HB8.out⟩
  | some a =>
    rw [hs] at hsum hsum2
    simp only [M.cellsV] at hsum hsum2
    clear hs
    have HS := Lib.hid hsum
    have HS2 := Lib.hid hsum2
    clear hsum hsum2
    go_wp2_with fail
    refine (HS.out w1 HRl.out).mono ?_
    rintro r w2 ⟨rfl, hb2⟩
    have HRl2 := Lib.hid ((HRl.out.below hb2).more hb2.size)
    have HR2 := Lib.hid ((HR1.out.below hb2).more hb2.size)
    have HB2 := Lib.hid (HB1.out.trans (hb2.mono HB1.out.size))
    clear hb2
    go_wp2_with fail
    refine (HS2.out w2 HRl2.out).mono ?_
    rintro r w3 ⟨rfl, hb3⟩
    have HRl3 := Lib.hid ((HRl2.out.below hb3).more hb3.size)
    have HR3 := Lib.hid ((HR2.out.below hb3).more hb3.size)
    have HB3 := Lib.hid (HB2.out.trans (hb3.mono HB2.out.size))
    clear hb3
    go_wp2_with fail
    refine (alive_below w3).mono ?_
    rintro r w4 ⟨rfl, hb4⟩
    have HRl4 := Lib.hid ((HRl3.out.below hb4).more hb4.size)
    have HR4 := Lib.hid ((HR3.out.below hb4).more hb4.size)
    have HB4 := Lib.hid (HB3.out.trans (hb4.mono HB3.out.size))
    clear hb4
    go_wp2_with fail
    refine (sorted_any A ca n l w4 HRl4.out HW.out HN.out hl).mono ?_
    rintro r w5 ⟨A5, c5, t5, rfl, hr5, hs5, ht5, hb5⟩
    have HRl5 := Lib.hid ((HRl4.out.below hb5).more hb5.size)
    have HR5 := Lib.hid ((HR4.out.below hb5).more hb5.size)
    have HB5 := Lib.hid (HB4.out.trans (hb5.mono HB4.out.size))
    have HRA := Lib.hid hr5
    have HSA := Lib.hid (show M.Sor t5 ∧ M.St l t5 from ⟨hs5, ht5⟩)
    clear hr5 hs5 ht5 hb5
    rw [HN.out]
    go_wp2_with fail
    refine (refSorted_any A ca n l w5 HRl5.out HW.out HN.out hl).mono ?_
    rintro r w6 ⟨A6, c6, t6, rfl, hr6, hs6, ht6, hb6⟩
    have ht : t6 = t5 := M.stable_one hs6 HSA.out.1 (ht6.symm.trans HSA.out.2)
    subst ht
    have HRl6 := Lib.hid ((HRl5.out.below hb6).more hb6.size)
    have HR6 := Lib.hid ((HR5.out.below hb6).more hb6.size)
    have HRA6 := Lib.hid ((HRA.out.below hb6).more hb6.size)
    have HB6 := Lib.hid (HB5.out.trans (hb6.mono HB5.out.size))
    have HRB6 := Lib.hid hr6
    have HTL := Lib.hid (show t6.length = n by rw [← ht6.len]; exact HN.out)
    clear hr6 hs6 ht6 hb6
    rw [HN.out]
    go_wp2_with fail
    refine (same_any A5 A6 c5 c6 n t6 w6 HRA6.out HRB6.out HTL.out hl).mono ?_
    rintro r w7 ⟨rfl, hb7⟩
    have HRl7 := Lib.hid ((HRl6.out.below hb7).more hb7.size)
    have HR7 := Lib.hid ((HR6.out.below hb7).more hb7.size)
    have HB7 := Lib.hid (HB6.out.trans (hb7.mono HB6.out.size))
    clear hb7
    go_wp2_with fail
    refine (same_any A A1 ca c1 n l w7 HRl7.out HR7.out HN.out hl).mono ?_
    rintro r w8 ⟨rfl, hb8⟩
    have HB8 := Lib.hid (HB7.out.trans (hb8.mono HB7.out.size))
    clear hb8
    go_wp2_with fail
    go_ret
    exact ⟨rfl, HB8.out⟩

theorem lists_any (A : Option Addr) (ca n : Nat) (l : List Int) (w : World) (hr : RdS .u64 w w.heap.size A l) (hw : M.Wd l) (hn : l.length = n) (hm : n ≤ maxLen) (hA : A = none → ca = 0) :
    Calls Try.prog 4 #[.slice A n ca] w fun r w' => r = .returned (.bool true) ∧ Below w.heap.size w w' := by
  by_cases h : 60 < n
  · exact listsLong_any A ca n w h hm
  · exact listsShort_any A ca n l w hr hw hn (by omega) hA
end Go.Proofs.Ytdjdgpfoakkamaa
