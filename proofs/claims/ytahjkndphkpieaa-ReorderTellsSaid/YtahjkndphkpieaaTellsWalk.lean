/- The walk of ReorderTells: it answers true. Conditions: the slices read as lists of whole numbers, within their capacity. -/
import Derived.Test.YtahjkndphkpieaaAlive
namespace Go.Proofs.Ytahjkndphkpieaa
open Go.RowKit
set_option maxRecDepth 100000

set_option maxHeartbeats 4000000 in
theorem tellsLong_any (A B : Option Addr) (ca cb n m : Nat) (rev : Bool) (w : World) (h : 200 < n ∨ 200 < m) (hn : n ≤ maxLen) (hm : m ≤ maxLen) :
    Calls Try.prog 3 #[.slice A n ca, .slice B m cb, .bool rev] w fun r w' => r = .returned (.bool true) ∧ Below w.heap.size w w' := by
  unfold maxLen at hn hm
  have hc : (200 : Int) < n ∨ (¬ (200 : Int) < n ∧ (200 : Int) < m) := by omega
  clear h
  rcases hc with b1 | ⟨b1, b2⟩
  all_goals
    go_enter Try.func3, Try.ntmps3
    go_wp2_with fail
    refine (alive_any _).mono ?_
    rintro r w2 ⟨rfl, hb⟩
    have HB := Lib.hid hb
    clear hb
    go_wp2_with fail
    go_ret
    exact ⟨rfl, HB.out⟩
set_option maxHeartbeats 16000000 in
theorem tellsShort_any (A B : Option Addr) (ca cb n m : Nat) (l o : List Int) (rev : Bool) (w : World) (hr : RdS .i64 w w.heap.size A l) (hn : l.length = n) (hr2 : RdS .i64 w w.heap.size B o) (hm : o.length = m) (hl : n ≤ 200) (hl2 : m ≤ 200) (hca : n ≤ ca) (hcb : m ≤ cb) (hA : A = none → ca = 0) :
    Calls Try.prog 3 #[.slice A n ca, .slice B m cb, .bool rev] w fun r w' => r = .returned (.bool true) ∧ Below w.heap.size w w' := by
  obtain ⟨i0, hi0, hz0, hz1, hz2⟩ := info_parts Try.infoInt2
  have HL0 := Lib.hid hr
  have HQ0 := Lib.hid hr2
  have HN := Lib.hid hn
  have HM := Lib.hid hm
  have HA := Lib.hid hA
  have HCA := Lib.hid (And.intro hca hcb)
  have hl1 : (n : Int) ≤ 200 := by omega
  have hl3 : (m : Int) ≤ 200 := by omega
  obtain ⟨xs, hxs⟩ : ∃ xs, M.orNil (M.ordOk l) (M.ints (M.order l)) = xs := ⟨_, rfl⟩
  obtain ⟨ex, hex⟩ : ∃ e, M.orE 81 (M.ordOk l) = e := ⟨_, rfl⟩
  obtain ⟨px, hpx⟩ : ∃ p, xs.length = p := ⟨_, rfl⟩
  have hqx : px ≤ 1000 := by
    have := M.orNil_len (ok := M.ordOk l) (t := M.ints (M.order l))
    rw [hxs, hpx, M.ints_len, M.order_len] at this
    omega
  have HxS := Lib.hid hxs
  have HEx := Lib.hid hex
  have HPx := Lib.hid hpx
  obtain ⟨ys, hys⟩ : ∃ xs, M.orNil (M.ordOk l) (M.applied l rev) = xs := ⟨_, rfl⟩
  obtain ⟨ey, hey⟩ : ∃ e, M.orE 81 (M.ordOk l) = e := ⟨_, rfl⟩
  obtain ⟨py, hpy⟩ : ∃ p, ys.length = p := ⟨_, rfl⟩
  have hqy : py ≤ 1000 := by
    have := M.orNil_len (ok := M.ordOk l) (t := M.applied l rev)
    rw [hys, hpy, M.applied_len] at this
    omega
  have HyS := Lib.hid hys
  have HEy := Lib.hid hey
  have HPy := Lib.hid hpy
  obtain ⟨zs, hzs⟩ : ∃ xs, M.orNil (M.isOrd o) (M.inv o) = xs := ⟨_, rfl⟩
  obtain ⟨ez, hez⟩ : ∃ e, M.orE 1 (M.isOrd o) = e := ⟨_, rfl⟩
  obtain ⟨pz, hpz⟩ : ∃ p, zs.length = p := ⟨_, rfl⟩
  have hqz : pz ≤ 1000 := by
    have := M.orNil_len (ok := M.isOrd o) (t := M.inv o)
    rw [hzs, hpz, M.inv_len] at this
    omega
  have HzS := Lib.hid hzs
  have HEz := Lib.hid hez
  have HPz := Lib.hid hpz
  clear hr hn hr2 hm hA hca hcb hxs hex hpx hys hey hpy hzs hez hpz
  go_enter Try.func3, Try.ntmps3
  go_wp2_with (at_builtin; refine wpList_append_rd _ rfl _ _ 22 rfl w.heap.size 3 i0 (.int .i64 0) 8 Try.underlying22 hi0 hz0 hz1 hz2 rfl _ 0 [] rfl (World.ownsRow_lit w #[] 0 (Nat.le_refl _) (Nat.zero_le _) rfl) .i64 w.heap.size A ca l (by rw [HN.out]; rfl) (HL0.out.keep (fun p hp => World.cell?_alloc_lt w _ p (by omega))) HA.out (by have := HN.out; unfold maxLen; omega) (by have := HN.out; omega) (by simp) ?_)
  intro v1 w1 ho1 hg1
  have hb1 : Below w.heap.size w w1 := grow_below0 ((Below.refl _ _).alloc (Nat.le_refl _) _) (World.ownsRow_lit w #[] 0 (Nat.le_refl _) (Nat.zero_le _) rfl) hg1 (by simp)
  have ho1' : w1.ownsRow w.heap.size 3 1 v1 l.length (l.map (Value.int .i64)) := by simpa using ho1
  obtain ⟨A1, c1, rfl, hr1, _, _, _⟩ := reads_own ho1'
  rw [HN.out]
  have HW1 := Lib.hid hr1
  have HB1 := Lib.hid hb1
  have HL1 := Lib.hid ((HL0.out.below hb1).more hb1.size)
  have HQ1 := Lib.hid ((HQ0.out.below hb1).more hb1.size)
  clear ho1 hg1 hb1 ho1' hr1
  go_wp2_with fail
  refine (corder_any A ca n l w1 HL1.out HN.out (by omega) HCA.out.1).mono ?_
  rintro r w2 hout
  obtain ⟨A2, c2, rfl, hr2, hb2, -⟩ := row_out hout
  rw [HxS.out] at hr2 ⊢
  rw [HEx.out, HPx.out]
  have X2 := Lib.hid hr2
  have HB2 := Lib.hid (HB1.out.trans (hb2.mono HB1.out.size))
  have HW2 := Lib.hid ((HW1.out.below hb2).more hb2.size)
  have HL2 := Lib.hid ((HL1.out.below hb2).more hb2.size)
  have HQ2 := Lib.hid ((HQ1.out.below hb2).more hb2.size)
  clear hout hr2 hb2
  go_wp2_with fail
  refine (refOrder_any A ca n l w2 HL2.out HN.out (by omega)).mono ?_
  rintro r w3 hout
  obtain ⟨A3, c3, rfl, hr3, hb3, -⟩ := row_out hout
  rw [HxS.out] at hr3 ⊢
  rw [HEx.out, HPx.out]
  have Y3 := Lib.hid hr3
  have HB3 := Lib.hid (HB2.out.trans (hb3.mono HB2.out.size))
  have HW3 := Lib.hid ((HW2.out.below hb3).more hb3.size)
  have HL3 := Lib.hid ((HL2.out.below hb3).more hb3.size)
  have HQ3 := Lib.hid ((HQ2.out.below hb3).more hb3.size)
  have X3 := Lib.hid ((X2.out.below hb3).more hb3.size)
  clear hout hr3 hb3
  go_wp2_with fail
  refine (capply_any A ca n l rev w3 HL3.out HN.out (by omega) HCA.out.1).mono ?_
  rintro r w4 hout
  obtain ⟨A4, c4, rfl, hr4, hb4, -⟩ := row_out hout
  rw [HyS.out] at hr4 ⊢
  rw [HEy.out, HPy.out]
  have P4 := Lib.hid hr4
  have HB4 := Lib.hid (HB3.out.trans (hb4.mono HB3.out.size))
  have HW4 := Lib.hid ((HW3.out.below hb4).more hb4.size)
  have HL4 := Lib.hid ((HL3.out.below hb4).more hb4.size)
  have HQ4 := Lib.hid ((HQ3.out.below hb4).more hb4.size)
  have X4 := Lib.hid ((X3.out.below hb4).more hb4.size)
  have Y4 := Lib.hid ((Y3.out.below hb4).more hb4.size)
  clear hout hr4 hb4
  go_wp2_with fail
  refine (refApply_any A ca n l rev w4 HL4.out HN.out (by omega)).mono ?_
  rintro r w5 hout
  obtain ⟨A5, c5, rfl, hr5, hb5, -⟩ := row_out hout
  rw [HyS.out] at hr5 ⊢
  rw [HEy.out, HPy.out]
  have R5 := Lib.hid hr5
  have HB5 := Lib.hid (HB4.out.trans (hb5.mono HB4.out.size))
  have HW5 := Lib.hid ((HW4.out.below hb5).more hb5.size)
  have HL5 := Lib.hid ((HL4.out.below hb5).more hb5.size)
  have HQ5 := Lib.hid ((HQ4.out.below hb5).more hb5.size)
  have X5 := Lib.hid ((X4.out.below hb5).more hb5.size)
  have Y5 := Lib.hid ((Y4.out.below hb5).more hb5.size)
  have P5 := Lib.hid ((P4.out.below hb5).more hb5.size)
  clear hout hr5 hb5
  go_wp2_with fail
  refine (cback_any B cb m o w5 HQ5.out HM.out (by omega) HCA.out.2).mono ?_
  rintro r w6 hout
  obtain ⟨A6, c6, rfl, hr6, hb6, -⟩ := row_out hout
  rw [HzS.out] at hr6 ⊢
  rw [HEz.out, HPz.out]
  have U6 := Lib.hid hr6
  have HB6 := Lib.hid (HB5.out.trans (hb6.mono HB5.out.size))
  have HW6 := Lib.hid ((HW5.out.below hb6).more hb6.size)
  have HL6 := Lib.hid ((HL5.out.below hb6).more hb6.size)
  have HQ6 := Lib.hid ((HQ5.out.below hb6).more hb6.size)
  have X6 := Lib.hid ((X5.out.below hb6).more hb6.size)
  have Y6 := Lib.hid ((Y5.out.below hb6).more hb6.size)
  have P6 := Lib.hid ((P5.out.below hb6).more hb6.size)
  have R6 := Lib.hid ((R5.out.below hb6).more hb6.size)
  clear hout hr6 hb6
  go_wp2_with fail
  refine (refBack_any B cb m o w6 HQ6.out HM.out (by omega)).mono ?_
  rintro r w7 hout
  obtain ⟨A7, c7, rfl, hr7, hb7, -⟩ := row_out hout
  rw [HzS.out] at hr7 ⊢
  rw [HEz.out, HPz.out]
  have V7 := Lib.hid hr7
  have HB7 := Lib.hid (HB6.out.trans (hb7.mono HB6.out.size))
  have HW7 := Lib.hid ((HW6.out.below hb7).more hb7.size)
  have HL7 := Lib.hid ((HL6.out.below hb7).more hb7.size)
  have X7 := Lib.hid ((X6.out.below hb7).more hb7.size)
  have Y7 := Lib.hid ((Y6.out.below hb7).more hb7.size)
  have P7 := Lib.hid ((P6.out.below hb7).more hb7.size)
  have R7 := Lib.hid ((R6.out.below hb7).more hb7.size)
  have U7 := Lib.hid ((U6.out.below hb7).more hb7.size)
  clear hout hr7 hb7
  go_wp2_with fail
  refine (alive_any _).mono ?_
  rintro r w8 ⟨rfl, hb8⟩
  have HB8 := Lib.hid (HB7.out.trans (hb8.mono HB7.out.size))
  have HW8 := Lib.hid ((HW7.out.below hb8).more hb8.size)
  have HL8 := Lib.hid ((HL7.out.below hb8).more hb8.size)
  have X8 := Lib.hid ((X7.out.below hb8).more hb8.size)
  have Y8 := Lib.hid ((Y7.out.below hb8).more hb8.size)
  have P8 := Lib.hid ((P7.out.below hb8).more hb8.size)
  have R8 := Lib.hid ((R7.out.below hb8).more hb8.size)
  have U8 := Lib.hid ((U7.out.below hb8).more hb8.size)
  have V8 := Lib.hid ((V7.out.below hb8).more hb8.size)
  clear hb8
  go_wp2_with fail
  refine (ints_same A2 A3 c2 c3 px xs w8 X8.out Y8.out HPx.out hqx).mono ?_
  rintro r w9 ⟨rfl, hb9⟩
  have HB9 := Lib.hid (HB8.out.trans (hb9.mono HB8.out.size))
  have HW9 := Lib.hid ((HW8.out.below hb9).more hb9.size)
  have HL9 := Lib.hid ((HL8.out.below hb9).more hb9.size)
  have P9 := Lib.hid ((P8.out.below hb9).more hb9.size)
  have R9 := Lib.hid ((R8.out.below hb9).more hb9.size)
  have U9 := Lib.hid ((U8.out.below hb9).more hb9.size)
  have V9 := Lib.hid ((V8.out.below hb9).more hb9.size)
  clear hb9
  go_wp2_with fail
  refine (ints_same A4 A5 c4 c5 py ys w9 P9.out R9.out HPy.out hqy).mono ?_
  rintro r w10 ⟨rfl, hb10⟩
  have HB10 := Lib.hid (HB9.out.trans (hb10.mono HB9.out.size))
  have HW10 := Lib.hid ((HW9.out.below hb10).more hb10.size)
  have HL10 := Lib.hid ((HL9.out.below hb10).more hb10.size)
  have U10 := Lib.hid ((U9.out.below hb10).more hb10.size)
  have V10 := Lib.hid ((V9.out.below hb10).more hb10.size)
  clear hb10
  go_wp2_with fail
  refine (ints_same A6 A7 c6 c7 pz zs w10 U10.out V10.out HPz.out hqz).mono ?_
  rintro r w11 ⟨rfl, hb11⟩
  have HB11 := Lib.hid (HB10.out.trans (hb11.mono HB10.out.size))
  have HW11 := Lib.hid ((HW10.out.below hb11).more hb11.size)
  have HL11 := Lib.hid ((HL10.out.below hb11).more hb11.size)
  clear hb11
  go_wp2_with fail
  refine (ints_same A A1 ca c1 n l w11 HL11.out HW11.out HN.out (by omega)).mono ?_
  rintro r w12 ⟨rfl, hb12⟩
  have HB12 := Lib.hid (HB11.out.trans (hb12.mono HB11.out.size))
  clear hb12
  go_wp2_with fail
  go_ret
  exact ⟨rfl, HB12.out⟩
theorem tellsLaw_any (A B : Option Addr) (ca cb n m : Nat) (l o : List Int) (rev : Bool) (w : World) (hr : RdS .i64 w w.heap.size A l) (hn : l.length = n) (hr2 : RdS .i64 w w.heap.size B o) (hm : o.length = m) (hca : n ≤ ca) (hcb : m ≤ cb) (hxa : ca ≤ maxLen) (hxb : cb ≤ maxLen) (hA : A = none → ca = 0) :
    Calls Try.prog 3 #[.slice A n ca, .slice B m cb, .bool rev] w fun r w' => r = .returned (.bool true) ∧ Below w.heap.size w w' := by
  by_cases h : n ≤ 200 ∧ m ≤ 200
  · exact tellsShort_any A B ca cb n m l o rev w hr hn hr2 hm h.1 h.2 hca hcb hA
  · exact tellsLong_any A B ca cb n m rev w (by omega) (by omega) (by omega)
end Go.Proofs.Ytahjkndphkpieaa
