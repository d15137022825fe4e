/- The Go function UcdReads answers true, over the translation. Conditions: the slice reads as a list of bytes; the variable MaxLen of the library holds some number, and its table deBruijn64tab is as the program's text lays it. -/
import Derived.Test.YtjbpjnnflcmmhaaGreatDoorRefParse
import Derived.Test.YtjbpjnnflcmmhaaGreatDoorSame
namespace Go.Proofs.YtjbpjnnflcmmhaaGreatDoor
open Go.RowKit

set_option maxRecDepth 100000 in
set_option maxHeartbeats 4000000 in
theorem read_any (A : Option Addr) (cap : Nat) (txt : List UInt8) (s : ByteArray) (w : World) (hr : RdB w w.heap.size A txt) (hc : txt.length ≤ cap) (hm : cap ≤ maxLen) (hA : A = none → cap = 0) (hsz : s.size ≤ maxLen) (hx : MaxOk w) (ht : TabOk w) :
    Calls Tryz.prog 3 #[.slice A txt.length cap, .string s] w fun e w' => e = .returned (.bool true) ∧ Below w.heap.size w w' := by
  have HR := Lib.hid hr
  have HX := Lib.hid hx
  have HT := Lib.hid ht
  have HC := Lib.hid hc
  have HM := Lib.hid hm
  have HA := Lib.hid hA
  have HSZ := Lib.hid hsz
  have hb9 : txt.length ≤ 9223372036854775807 := by unfold maxLen at hm; omega
  have hs9 : s.size ≤ 9223372036854775807 := by unfold maxLen at hsz; omega
  clear hr hx ht hc hm hA hsz
  by_cases hbig : txt.length ≤ 3000 ∧ s.size ≤ 3000
  · obtain ⟨h1, h2⟩ := hbig
    have d1 : decide ((3000 : Int) < (txt.length : Int)) = false := by rw [decide_eq_false_iff_not]; omega
    have d2 : decide ((3000 : Int) < (s.size : Int)) = false := by rw [decide_eq_false_iff_not]; omega
    obtain ⟨n, hn⟩ : ∃ n, M.hexInt s.data.toList = n := ⟨_, rfl⟩
    obtain ⟨q, hq⟩ : ∃ q, M.hexIs s.data.toList = q := ⟨_, rfl⟩
    have HN := Lib.hid hn
    have HQ := Lib.hid hq
    clear hn hq
    cases hp : M.parse txt with
    | some l =>
      have HP := Lib.hid hp
      clear hp
      go_enter Tryz.func3, Tryz.ntmps3
      go_wp2_with fail
      refine (parse_some A cap w txt l HR.out HX.out HC.out HM.out HA.out (by omega) HP.out).mono ?_
      rintro r w1 ⟨A1, c1, rfl, hr1, hc1, hm1, _, hb1⟩
      have HB1 := Lib.hid hb1
      have HR1 := Lib.hid hr1
      have hl1 : l.length ≤ maxLen := Nat.le_trans hc1 hm1
      clear hb1 hr1
      go_wp2_with fail
      refine (refParse_any A cap txt w1 ((HR.out.below HB1.out).more HB1.out.size) (by omega)).mono ?_
      rintro r w2 ⟨hpe, hb2⟩
      rw [HP.out] at hpe
      obtain ⟨v, rfl, ho⟩ := hpe
      obtain ⟨A2, c2, rfl, hr2, _, _, _⟩ := reads_own ho
      have HB2 := Lib.hid (HB1.out.trans (hb2.mono HB1.out.size))
      have HR12 := Lib.hid ((HR1.out.below hb2).more hb2.size)
      have HR2 := Lib.hid hr2
      clear hb2 ho hr2
      go_wp2_with fail
      refine (hex_any s w2 HSZ.out).mono ?_
      rintro r w3 ⟨rfl, hb3⟩
      rw [HN.out, HQ.out]
      have HB3 := Lib.hid (HB2.out.trans (hb3.mono HB2.out.size))
      have HR13 := Lib.hid ((HR12.out.below hb3).more hb3.size)
      have HR23 := Lib.hid ((HR2.out.below hb3).more hb3.size)
      clear hb3
      go_wp2_with fail
      refine (refHex_any s w3 HSZ.out).mono ?_
      rintro r w4 ⟨rfl, rfl⟩
      rw [HN.out, HQ.out]
      go_wp2_with fail
      refine (alive_true w3 (HX.out.next HB3.out) (HT.out.next HB3.out)).mono ?_
      rintro r w4 ⟨rfl, hb4⟩
      have HB4 := Lib.hid (HB3.out.trans (hb4.mono HB3.out.size))
      have HR14 := Lib.hid ((HR13.out.below hb4).more hb4.size)
      have HR24 := Lib.hid ((HR23.out.below hb4).more hb4.size)
      clear hb4
      go_wp2_with fail
      refine (same_any A1 A2 c1 c2 l l w4 HR14.out HR24.out hl1).mono ?_
      rintro r w5 ⟨rfl, hb5⟩
      rw [M.same_self]
      have HB5 := Lib.hid (HB4.out.trans (hb5.mono HB4.out.size))
      clear hb5
      go_wp2
      go_ret
      exact ⟨by simp, HB5.out⟩
    | none =>
      have HP := Lib.hid hp
      clear hp
      go_enter Tryz.func3, Tryz.ntmps3
      go_wp2_with fail
      refine (parse_none A cap w txt HR.out HX.out HC.out HM.out HA.out (by omega) HP.out).mono ?_
      rintro r w1 ⟨rfl, hb1⟩
      have HB1 := Lib.hid hb1
      clear hb1
      go_wp2_with fail
      refine (refParse_any A cap txt w1 ((HR.out.below HB1.out).more HB1.out.size) (by omega)).mono ?_
      rintro r w2 ⟨hpe, hb2⟩
      rw [HP.out] at hpe
      subst hpe
      have HB2 := Lib.hid (HB1.out.trans (hb2.mono HB1.out.size))
      clear hb2
      go_wp2_with fail
      refine (hex_any s w2 HSZ.out).mono ?_
      rintro r w3 ⟨rfl, hb3⟩
      rw [HN.out, HQ.out]
      have HB3 := Lib.hid (HB2.out.trans (hb3.mono HB2.out.size))
      clear hb3
      go_wp2_with fail
      refine (refHex_any s w3 HSZ.out).mono ?_
      rintro r w4 ⟨rfl, rfl⟩
      rw [HN.out, HQ.out]
      go_wp2_with fail
      refine (alive_true w3 (HX.out.next HB3.out) (HT.out.next HB3.out)).mono ?_
      rintro r w4 ⟨rfl, hb4⟩
      have HB4 := Lib.hid (HB3.out.trans (hb4.mono HB3.out.size))
      clear hb4
      go_wp2_with fail
      refine (same_any none none 0 0 [] [] w4 (fun j e h => by simp at h) (fun j e h => by simp at h) (Nat.zero_le _)).mono ?_
      rintro r w5 ⟨rfl, hb5⟩
      rw [M.same_self]
      have HB5 := Lib.hid (HB4.out.trans (hb5.mono HB4.out.size))
      clear hb5
      go_wp2
      go_ret
      exact ⟨by simp, HB5.out⟩
  · by_cases h1 : txt.length ≤ 3000
    · have d1 : decide ((3000 : Int) < (txt.length : Int)) = false := by rw [decide_eq_false_iff_not]; omega
      have d2 : decide ((3000 : Int) < (s.size : Int)) = true := by rw [decide_eq_true_iff]; omega
      clear hbig
      go_enter Tryz.func3, Tryz.ntmps3
      go_wp2_with fail
      refine (alive_true w HX.out HT.out).mono ?_
      rintro r w4 ⟨rfl, hb4⟩
      go_wp2
      go_ret
      exact ⟨rfl, hb4⟩
    · have d1 : decide ((3000 : Int) < (txt.length : Int)) = true := by rw [decide_eq_true_iff]; omega
      clear hbig
      go_enter Tryz.func3, Tryz.ntmps3
      go_wp2_with fail
      refine (alive_true w HX.out HT.out).mono ?_
      rintro r w4 ⟨rfl, hb4⟩
      go_wp2
      go_ret
      exact ⟨rfl, hb4⟩
end Go.Proofs.YtjbpjnnflcmmhaaGreatDoor
