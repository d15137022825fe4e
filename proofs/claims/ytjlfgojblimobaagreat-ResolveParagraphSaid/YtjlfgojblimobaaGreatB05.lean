/- The walk of ResolveParagraph: it answers true. Conditions: the slices read as lists, within their capacities. -/
import Derived.Test.YtjlfgojblimobaaGreatA39
import Derived.Test.YtjlfgojblimobaaGreatB04
section
namespace Go.Proofs.YtjlfgojblimobaaGreat
open Go.RowKit
set_option maxRecDepth 100000

set_option maxHeartbeats 4000000 in
theorem paraLong_any (A B : Option Addr) (ca cb n m : Nat) (b : Int) (w : World) (h : 150 < n ∨ 150 < m) (hn : n ≤ maxLen) (hm : m ≤ maxLen) :
    Calls Tryz.prog 3 #[.slice A n ca, .slice B m cb, .int .i64 b] w fun r w' => r = .returned (.bool true) ∧ Below w.heap.size w w' := by
  unfold maxLen at hn hm
  have h1 : (n : Int) ≤ 9223372036854775807 := by omega
  have h2 : (m : Int) ≤ 9223372036854775807 := by omega
  by_cases h3 : 150 < n
  · have h4 : (150 : Int) < n := by omega
    go_enter Tryz.func3, Tryz.ntmps3
    go_wp2_with fail
    refine (alive_any _).mono ?_
    rintro r w2 ⟨rfl, hb⟩
    have HB := Lib.hid hb
    clear hb
    go_wp2_with fail
    go_ret
    exact ⟨rfl, HB.out⟩
  · have h4 : (n : Int) ≤ 150 := by omega
    have h5 : (150 : Int) < m := by omega
    go_enter Tryz.func3, Tryz.ntmps3
    go_wp2_with fail
    refine (alive_any _).mono ?_
    rintro r w2 ⟨rfl, hb⟩
    have HB := Lib.hid hb
    clear hb
    go_wp2_with fail
    go_ret
    exact ⟨rfl, HB.out⟩
set_option maxHeartbeats 8000000 in
theorem paraShort_any (A B : Option Addr) (ca cb n m : Nat) (b : Int) (l : List Int) (ms : List (Int × Int)) (w : World) (hr : RdS .i64 w w.heap.size A l) (hr2 : S11.RdT w w.heap.size B ms) (hn : l.length = n) (hm : ms.length = m) (hl : n ≤ 150) (hl2 : m ≤ 150) (hca : n ≤ ca) :
    Calls Tryz.prog 3 #[.slice A n ca, .slice B m cb, .int .i64 b] w fun r w' => r = .returned (.bool true) ∧ Below w.heap.size w w' := by
  obtain ⟨T, hT⟩ : ∃ T, M.levOr (-1 ≤ b ∧ b ≤ 1) (M.para l ms (M.baseI l b)) = T := ⟨_, rfl⟩
  obtain ⟨e, he⟩ : ∃ e, M.levErr (-1 ≤ b ∧ b ≤ 1) = e := ⟨_, rfl⟩
  obtain ⟨p, hp⟩ : ∃ p, T.length = p := ⟨_, rfl⟩
  obtain ⟨bv, hbv⟩ : ∃ x, (if -1 ≤ b ∧ b ≤ 1 then M.baseI l b else 0) = x := ⟨_, rfl⟩
  obtain ⟨be, hbe⟩ : ∃ x : Int, (if -1 ≤ b ∧ b ≤ 1 then 0 else 81) = x := ⟨_, rfl⟩
  have hp1 : p ≤ 1000 := by
    have h1 := M.levOr_len (ok := -1 ≤ b ∧ b ≤ 1) (t := M.para l ms (M.baseI l b))
    rw [hT, hp, M.para_len] at h1
    omega
  have HR := Lib.hid hr
  have HR2 := Lib.hid hr2
  have HN := Lib.hid hn
  have HM := Lib.hid hm
  have HCA := Lib.hid hca
  have HT := Lib.hid hT
  have HE := Lib.hid he
  have HP := Lib.hid hp
  have HBV := Lib.hid hbv
  have HBE := Lib.hid hbe
  have n1 : (n : Int) ≤ 150 := by omega
  have m1 : (m : Int) ≤ 150 := by omega
  have p1 : (p : Int) ≤ 1000 := by omega
  have b1 : (e == e) = true := by simp
  have b2 : (bv == bv) = true := by simp
  have b3 : (be == be) = true := by simp
  have d1 : decide ((150 : Int) < n) = false := by simp; omega
  have d2 : decide ((150 : Int) < m) = false := by simp; omega
  clear hr hr2 hn hm hca hT he hp hbv hbe
  go_enter Tryz.func3, Tryz.ntmps3
  go_wp2_with fail
  refine (S11.marks_any B cb m ms w HR2.out HM.out (by omega)).mono ?_
  rintro r w1 ⟨v, rfl, ho1, hb1⟩
  obtain ⟨A1, c1, rfl, hr1, hc1, -, -⟩ := ho1.shape
  rw [HM.out] at hc1 ⊢
  have HX1 := Lib.hid hr1
  have HC1 := Lib.hid hc1
  have HB1 := Lib.hid hb1
  have HL1 := Lib.hid ((HR.out.below hb1).more hb1.size)
  have HQ := Lib.hid (cpara_any A A1 ca c1 n m l ms b w1 HL1.out HX1.out HN.out HM.out (by omega) (by omega) HCA.out HC1.out)
  clear ho1 hr1 hc1 hb1
  go_wp2_with fail
  refine HQ.out.mono ?_
  intro r w2 hq
  obtain ⟨A2, c2, rfl, hx, hb2, -⟩ := lev_out hq
  rw [HT.out] at hx ⊢
  rw [HE.out, HP.out]
  have HX := Lib.hid hx
  have HB2 := Lib.hid (HB1.out.trans (hb2.mono HB1.out.size))
  have HQ2 := Lib.hid (refPara_any A B ca cb n m l ms b w2 ((HR.out.below HB2.out).more HB2.out.size) (HR2.out.after HB2.out) HN.out HM.out (by omega) (by omega) HCA.out)
  clear hx hb2 hq
  go_wp2_with fail
  refine HQ2.out.mono ?_
  intro r w3 hq
  obtain ⟨A3, c3, rfl, hy, hb3, -⟩ := lev_out hq
  rw [HT.out] at hy ⊢
  rw [HE.out, HP.out]
  have HY := Lib.hid hy
  have HX3 := Lib.hid ((HX.out.below hb3).more hb3.size)
  have HB3 := Lib.hid (HB2.out.trans (hb3.mono HB2.out.size))
  have HQ3 := Lib.hid (cbase_any A ca n l b w3 ((HR.out.below HB3.out).more HB3.out.size) HN.out (by omega) HCA.out)
  rw [HBV.out, HBE.out] at HQ3
  clear hy hb3 hq
  go_wp2_with fail
  refine HQ3.out.mono ?_
  rintro r w4 ⟨rfl, hb4⟩
  have HX4 := Lib.hid ((HX3.out.below hb4).more hb4.size)
  have HY4 := Lib.hid ((HY.out.below hb4).more hb4.size)
  have HB4 := Lib.hid (HB3.out.trans (hb4.mono HB3.out.size))
  have HQ4 := Lib.hid (refBase_any A ca n l b w4 ((HR.out.below HB4.out).more HB4.out.size) HN.out (by omega))
  rw [HBV.out, HBE.out] at HQ4
  clear hb4
  go_wp2_with fail
  refine HQ4.out.mono ?_
  rintro r w5 ⟨rfl, rfl⟩
  go_wp2_with fail
  refine (alive_any _).mono ?_
  rintro r w6 ⟨rfl, hb6⟩
  have HX6 := Lib.hid ((HX4.out.below hb6).more hb6.size)
  have HY6 := Lib.hid ((HY4.out.below hb6).more hb6.size)
  have HB6 := Lib.hid (HB4.out.trans (hb6.mono HB4.out.size))
  clear hb6
  go_wp2_with fail
  refine (ints_same A2 A3 c2 c3 p T w6 HX6.out HY6.out HP.out hp1).mono ?_
  rintro r w7 ⟨rfl, hb7⟩
  have HB7 := Lib.hid (HB6.out.trans (hb7.mono HB6.out.size))
  clear hb7
  go_wp2_with fail
  go_ret
  exact ⟨rfl, HB7.out⟩
theorem paraLaw_any (A B : Option Addr) (ca cb n m : Nat) (b : Int) (l : List Int) (ms : List (Int × Int)) (w : World) (hr : RdS .i64 w w.heap.size A l) (hr2 : S11.RdT w w.heap.size B ms) (hn : l.length = n) (hm : ms.length = m) (hca : n ≤ ca) (hn2 : n ≤ maxLen) (hm2 : m ≤ maxLen) :
    Calls Tryz.prog 3 #[.slice A n ca, .slice B m cb, .int .i64 b] w fun r w' => r = .returned (.bool true) ∧ Below w.heap.size w w' := by
  by_cases h : 150 < n ∨ 150 < m
  · exact paraLong_any A B ca cb n m b w h hn2 hm2
  · exact paraShort_any A B ca cb n m b l ms w hr hr2 hn hm (by omega) (by omega) hca
end Go.Proofs.YtjlfgojblimobaaGreat
end
