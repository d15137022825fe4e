/- The walk of BracketPairs: it answers true. Conditions: the slices read as lists of classes and of marks, within their capacities. -/
import Derived.Test.YtaiojghbknacjaaAlive
import Derived.Test.YtaiojghbknacjaaSameP
namespace Go.Proofs.Ytaiojghbknacjaa
open Go.RowKit
set_option maxRecDepth 100000

set_option maxHeartbeats 4000000 in
theorem pairsLong_any (A B : Option Addr) (ca cb n m : Nat) (w : World) (hn : n ≤ maxLen) (hm : m ≤ maxLen) (h : 200 < n ∨ 200 < m) :
    Calls Try.prog 3 #[.slice A n ca, .slice B m cb] w fun r w' => r = .returned (.bool true) ∧ Below w.heap.size w w' := by
  unfold maxLen at hn hm
  by_cases h1 : 200 < n
  · have h2 : (200 : Int) < n := by omega
    clear h h1
    go_enter Try.func3, Try.ntmps3
    go_wp2_with fail
    refine (alive_any _).mono ?_
    rintro r w2 ⟨rfl, hb⟩
    have HB := Lib.hid hb
    clear hb
    go_wp2_with fail
    go_ret
    exact ⟨rfl, HB.out⟩
  · have h2 : ¬ (200 : Int) < n := by omega
    have h3 : (200 : Int) < m := by omega
    clear h h1
    go_enter Try.func3, Try.ntmps3
    go_wp2_with fail
    refine (alive_any _).mono ?_
    rintro r w2 ⟨rfl, hb⟩
    have HB := Lib.hid hb
    clear hb
    go_wp2_with fail
    go_ret
    exact ⟨rfl, HB.out⟩
set_option maxHeartbeats 4000000 in
theorem pairsShort_any (A B : Option Addr) (ca cb n m : Nat) (l : List Int) (ms : List (Int × Int)) (w : World) (hr : RdS .i64 w w.heap.size A l) (hn : l.length = n) (hl : n ≤ 200) (hr2 : RdT w w.heap.size B ms) (hm : ms.length = m) (hl2 : m ≤ 200) (hca : n ≤ ca) :
    Calls Try.prog 3 #[.slice A n ca, .slice B m cb] w fun r w' => r = .returned (.bool true) ∧ Below w.heap.size w w' := by
  obtain ⟨K, hK⟩ : ∃ K, (M.prs l ms).length = K := ⟨_, rfl⟩
  have hKn : K ≤ n := by rw [← hK, ← hn]; exact M.prs_len
  have HR := Lib.hid hr
  have HR2 := Lib.hid hr2
  have HN := Lib.hid hn
  have HM := Lib.hid hm
  have HK := Lib.hid hK
  have HCA := Lib.hid hca
  have h1 : (n : Int) ≤ 200 := by omega
  have h2 : (m : Int) ≤ 200 := by omega
  clear hr hr2 hn hm hK hca
  go_enter Try.func3, Try.ntmps3
  go_wp2_with fail
  refine (alive_any _).mono ?_
  rintro r w1 ⟨rfl, hb1⟩
  have HB1 := Lib.hid hb1
  have HL1 := Lib.hid ((HR.out.below hb1).more hb1.size)
  have HM1 := Lib.hid (HR2.out.after hb1)
  clear hb1
  go_wp2_with fail
  refine (marks_any B cb m ms w1 HM1.out HM.out (by omega)).mono ?_
  rintro r w2 ⟨v, rfl, ho2, hb2⟩
  obtain ⟨A2, c2, rfl, hr2, hc2, -, -⟩ := ho2.shape
  rw [HM.out] at hc2 ⊢
  have HX2 := Lib.hid hr2
  have HC2 := Lib.hid hc2
  have HB2 := Lib.hid (HB1.out.trans (hb2.mono HB1.out.size))
  have HL2 := Lib.hid ((HL1.out.below hb2).more hb2.size)
  have HM2 := Lib.hid (HM1.out.after hb2)
  clear ho2 hb2 hr2 hc2
  go_wp2_with fail
  refine (cpairs_any A A2 ca c2 n m l ms w2 HL2.out HN.out (by omega) HX2.out HM.out (by omega) HCA.out HC2.out).mono ?_
  rintro r w3 ⟨v, rfl, ho3, hb3⟩
  obtain ⟨A3, c3, rfl, hr3, -, -, -⟩ := ho3.shape
  rw [HK.out]
  have HX3 := Lib.hid hr3
  have HB3 := Lib.hid (HB2.out.trans (hb3.mono HB2.out.size))
  have HL3 := Lib.hid ((HL2.out.below hb3).more hb3.size)
  have HM3 := Lib.hid (HM2.out.after hb3)
  clear ho3 hb3 hr3
  go_wp2_with fail
  refine (refPairs_any A B ca cb n m l ms w3 HL3.out HN.out (by omega) HM3.out HM.out (by omega)).mono ?_
  rintro r w4 ⟨v, rfl, ho4, hb4⟩
  obtain ⟨A4, c4, rfl, hr4, -, -, -⟩ := ho4.shape
  rw [HK.out]
  have HX4 := Lib.hid hr4
  have HX34 := Lib.hid (HX3.out.after hb4)
  have HB4 := Lib.hid (HB3.out.trans (hb4.mono HB3.out.size))
  clear ho4 hb4 hr4
  go_wp2_with fail
  refine (samep_any A3 A4 c3 c4 K _ w4 HX34.out HX4.out HK.out (by omega)).mono ?_
  rintro r w5 ⟨rfl, hb5⟩
  have HB5 := Lib.hid (HB4.out.trans (hb5.mono HB4.out.size))
  clear hb5
  go_wp2_with fail
  go_ret
  exact ⟨rfl, HB5.out⟩
theorem pairsLaw_any (A B : Option Addr) (ca cb n m : Nat) (l : List Int) (ms : List (Int × Int)) (w : World) (hr : RdS .i64 w w.heap.size A l) (hn : l.length = n) (hca : n ≤ ca) (hma : ca ≤ maxLen) (hr2 : RdT w w.heap.size B ms) (hm : ms.length = m) (hcb : m ≤ cb) (hmb : cb ≤ maxLen) :
    Calls Try.prog 3 #[.slice A n ca, .slice B m cb] w fun r w' => r = .returned (.bool true) ∧ Below w.heap.size w w' := by
  by_cases h : n ≤ 200 ∧ m ≤ 200
  · exact pairsShort_any A B ca cb n m l ms w hr hn h.1 hr2 hm h.2 hca
  · exact pairsLong_any A B ca cb n m w (by omega) (by omega) (by omega)
end Go.Proofs.Ytaiojghbknacjaa
