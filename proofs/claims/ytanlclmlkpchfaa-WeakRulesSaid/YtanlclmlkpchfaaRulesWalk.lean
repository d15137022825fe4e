/- The walk of WeakRules: it answers true. Conditions: the slice reads as a list of classes, within its capacity. -/
import Derived.Test.YtanlclmlkpchfaaAlive
import Derived.Test.YtanlclmlkpchfaaRAll
import Derived.Test.YtanlclmlkpchfaaAppendRd
namespace Go.Proofs.Ytanlclmlkpchfaa
open Go.RowKit
set_option maxRecDepth 100000

set_option maxHeartbeats 4000000 in
theorem rulesLong_any (A : Option Addr) (ca n : Nat) (f nn : Int) (w : World) (hn : 150 < n) (hm : n ≤ maxLen) :
    Calls Try.prog 3 #[.slice A n ca, .int .i64 f, .int .i64 nn] w fun r w' => r = .returned (.bool true) ∧ Below w.heap.size w w' := by
  unfold maxLen at hm
  have h1 : (150 : Int) < n := by omega
  go_enter Try.func3, Try.ntmps3
  go_wp2_with fail
  refine (alive_any _).mono ?_
  rintro r w2 ⟨rfl, hb⟩
  have HB := Lib.hid hb
  clear hb
  go_wp2_with fail
  go_ret
  exact ⟨rfl, HB.out⟩
set_option maxHeartbeats 8000000 in
theorem rulesShort_any (A : Option Addr) (ca n : Nat) (l : List Int) (f nn : Int) (w : World) (hr : RdS .i64 w w.heap.size A l) (hn : l.length = n) (hl : n ≤ 150) (hca : n ≤ ca) (hA : A = none → ca = 0) :
    Calls Try.prog 3 #[.slice A n ca, .int .i64 f, .int .i64 nn] w fun r w' => r = .returned (.bool true) ∧ Below w.heap.size w w' := by
  obtain ⟨i0, hi0, hz0, hz1, hz2⟩ := info_parts Try.infoCls
  have HR := Lib.hid hr
  have HN := Lib.hid hn
  have HA := Lib.hid hA
  have HCA := Lib.hid hca
  have hl1 : (n : Int) ≤ 150 := by omega
  obtain ⟨xs, hxs⟩ : ∃ xs, M.orNil (M.may nn f) (M.wrule nn f l) = xs := ⟨_, rfl⟩
  obtain ⟨ex, hex⟩ : ∃ e, M.orArg (M.may nn f) = e := ⟨_, rfl⟩
  obtain ⟨px, hpx⟩ : ∃ p, xs.length = p := ⟨_, rfl⟩
  obtain ⟨ps, hps⟩ : ∃ ps, M.orNil (f = 0 ∨ f = 1) (M.wall f l) = ps := ⟨_, rfl⟩
  obtain ⟨ep, hep⟩ : ∃ e, M.orArg (f = 0 ∨ f = 1) = e := ⟨_, rfl⟩
  obtain ⟨pp, hpp⟩ : ∃ p, ps.length = p := ⟨_, rfl⟩
  have hpx1 : px ≤ 1000 := by
    have := M.orNil_len (ok := M.may nn f) (t := M.wrule nn f l)
    rw [hxs, hpx, M.wrule_len] at this
    omega
  have hpp1 : pp ≤ 1000 := by
    have := M.orNil_len (ok := f = 0 ∨ f = 1) (t := M.wall f l)
    rw [hps, hpp, M.wall_len] at this
    omega
  have HXS := Lib.hid hxs
  have HEX := Lib.hid hex
  have HPX := Lib.hid hpx
  have HPS := Lib.hid hps
  have HEP := Lib.hid hep
  have HPP := Lib.hid hpp
  clear hr hn hA hca hxs hex hpx hps hep hpp
  go_enter Try.func3, Try.ntmps3
  go_wp2_with (at_builtin; refine wpList_append_rd _ rfl _ _ 22 rfl w.heap.size 23 i0 (.int .i64 0) 8 Try.underlying22 hi0 hz0 hz1 hz2 rfl _ 0 [] rfl (World.ownsRow_lit w #[] 0 (Nat.le_refl _) (Nat.zero_le _) rfl) .i64 w.heap.size A ca l (by rw [HN.out]; rfl) (HR.out.keep (fun p hp => World.cell?_alloc_lt w _ p (by omega))) HA.out (by have := HN.out; unfold maxLen; omega) (by have := HN.out; omega) (by simp) ?_)
  intro v1 w1 ho1 hg1
  have hb1 : Below w.heap.size w w1 := grow_below0 ((Below.refl _ _).alloc (Nat.le_refl _) _) (World.ownsRow_lit w #[] 0 (Nat.le_refl _) (Nat.zero_le _) rfl) hg1 (by simp)
  have ho1' : w1.ownsRow w.heap.size 23 1 v1 l.length (l.map (Value.int .i64)) := by simpa using ho1
  obtain ⟨A1, c1, rfl, hr1, _, _, _⟩ := reads_own ho1'
  rw [HN.out]
  have HR1 := Lib.hid hr1
  have HB1 := Lib.hid hb1
  have HRl1 := Lib.hid ((HR.out.below hb1).more hb1.size)
  clear ho1 hg1 hb1 ho1' hr1
  go_wp2_with fail
  refine (crule_any A ca n nn f l w1 HRl1.out HN.out (by omega) HCA.out).mono ?_
  rintro r w2 hout
  obtain ⟨A2, c2, rfl, hr2, hb2, -⟩ := rule_out hout
  rw [HXS.out] at hr2 ⊢
  rw [HEX.out, HPX.out]
  have HR2 := Lib.hid hr2
  have HRl2 := Lib.hid ((HRl1.out.below hb2).more hb2.size)
  have HR12 := Lib.hid ((HR1.out.below hb2).more hb2.size)
  have HB2 := Lib.hid (HB1.out.trans (hb2.mono HB1.out.size))
  clear hr2 hb2 hout
  go_wp2_with fail
  refine (refRule_any A ca n nn f l w2 HRl2.out HN.out (by omega)).mono ?_
  rintro r w3 hout
  obtain ⟨A3, c3, rfl, hr3, hb3, -⟩ := rule_out hout
  rw [HXS.out] at hr3 ⊢
  rw [HEX.out, HPX.out]
  have HR3 := Lib.hid hr3
  have HRl3 := Lib.hid ((HRl2.out.below hb3).more hb3.size)
  have HR13 := Lib.hid ((HR12.out.below hb3).more hb3.size)
  have HR23 := Lib.hid ((HR2.out.below hb3).more hb3.size)
  have HB3 := Lib.hid (HB2.out.trans (hb3.mono HB2.out.size))
  clear hr3 hb3 hout
  go_wp2_with fail
  refine (call_any A ca n f l w3 HRl3.out HN.out (by omega) HCA.out).mono ?_
  rintro r w4 hout
  obtain ⟨A4, c4, rfl, hr4, hb4, -⟩ := rule_out hout
  rw [HPS.out] at hr4 ⊢
  rw [HEP.out, HPP.out]
  have HR4 := Lib.hid hr4
  have HRl4 := Lib.hid ((HRl3.out.below hb4).more hb4.size)
  have HR14 := Lib.hid ((HR13.out.below hb4).more hb4.size)
  have HR24 := Lib.hid ((HR23.out.below hb4).more hb4.size)
  have HR34 := Lib.hid ((HR3.out.below hb4).more hb4.size)
  have HB4 := Lib.hid (HB3.out.trans (hb4.mono HB3.out.size))
  clear hr4 hb4 hout
  go_wp2_with fail
  refine (refAll_any A ca n f l w4 HRl4.out HN.out (by omega)).mono ?_
  rintro r w5 hout
  obtain ⟨A5, c5, rfl, hr5, hb5, -⟩ := rule_out hout
  rw [HPS.out] at hr5 ⊢
  rw [HEP.out, HPP.out]
  have HR5 := Lib.hid hr5
  have HRl5 := Lib.hid ((HRl4.out.below hb5).more hb5.size)
  have HR15 := Lib.hid ((HR14.out.below hb5).more hb5.size)
  have HR25 := Lib.hid ((HR24.out.below hb5).more hb5.size)
  have HR35 := Lib.hid ((HR34.out.below hb5).more hb5.size)
  have HR45 := Lib.hid ((HR4.out.below hb5).more hb5.size)
  have HB5 := Lib.hid (HB4.out.trans (hb5.mono HB4.out.size))
  clear hr5 hb5 hout
  go_wp2_with fail
  refine (same_same A2 A3 c2 c3 px xs w5 HR25.out HR35.out HPX.out hpx1).mono ?_
  rintro r w6 ⟨rfl, hb6⟩
  have HRl6 := Lib.hid ((HRl5.out.below hb6).more hb6.size)
  have HR16 := Lib.hid ((HR15.out.below hb6).more hb6.size)
  have HR46 := Lib.hid ((HR45.out.below hb6).more hb6.size)
  have HR56 := Lib.hid ((HR5.out.below hb6).more hb6.size)
  have HB6 := Lib.hid (HB5.out.trans (hb6.mono HB5.out.size))
  clear hb6
  go_wp2_with fail
  refine (same_same A4 A5 c4 c5 pp ps w6 HR46.out HR56.out HPP.out hpp1).mono ?_
  rintro r w7 ⟨rfl, hb7⟩
  have HRl7 := Lib.hid ((HRl6.out.below hb7).more hb7.size)
  have HR17 := Lib.hid ((HR16.out.below hb7).more hb7.size)
  have HB7 := Lib.hid (HB6.out.trans (hb7.mono HB6.out.size))
  clear hb7
  go_wp2_with fail
  refine (same_same A A1 ca c1 n l w7 HRl7.out HR17.out HN.out (by omega)).mono ?_
  rintro r w8 ⟨rfl, hb8⟩
  have HB8 := Lib.hid (HB7.out.trans (hb8.mono HB7.out.size))
  clear hb8
  go_wp2_with fail
  refine (alive_any _).mono ?_
  rintro r w9 ⟨rfl, hb9⟩
  have HB9 := Lib.hid (HB8.out.trans (hb9.mono HB8.out.size))
  clear hb9
  go_wp2_with fail
  go_ret
  exact ⟨rfl, HB9.out⟩
theorem rulesLaw_any (A : Option Addr) (ca n : Nat) (l : List Int) (f nn : Int) (w : World) (hr : RdS .i64 w w.heap.size A l) (hn : l.length = n) (hca : n ≤ ca) (hm : ca ≤ maxLen) (hA : A = none → ca = 0) :
    Calls Try.prog 3 #[.slice A n ca, .int .i64 f, .int .i64 nn] w fun r w' => r = .returned (.bool true) ∧ Below w.heap.size w w' := by
  by_cases h : n ≤ 150
  · exact rulesShort_any A ca n l f nn w hr hn h hca hA
  · exact rulesLong_any A ca n f nn w (by omega) (by omega)
end Go.Proofs.Ytanlclmlkpchfaa
