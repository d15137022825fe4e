/- The Go function RangesPair answers true, over the translation. Conditions: the slice reads as a list of entries, whose strings are no longer than the model lets them be. -/
import Derived.Test.YtjbpjnnflcmmhaaRefPair
import Derived.Test.YtjbpjnnflcmmhaaFits
import Derived.Test.YtjbpjnnflcmmhaaLive
namespace Go.Proofs.Ytjbpjnnflcmmhaa
open Go.RowKit

theorem M.other_shape (o : Option M.E) : ∃ n x b, M.other o = .tuple #[.int .i64 n, .string x, .bool b] := by
  cases o with
  | none => exact ⟨_, _, _, rfl⟩
  | some e => exact ⟨_, _, _, rfl⟩
theorem RdN.nil {w : World} {B : Nat} {A : Option Addr} : RdN w B A [] := fun j s h => by simp at h

set_option maxRecDepth 100000 in
set_option maxHeartbeats 4000000 in
theorem pairLaw_any (A : Option Addr) (ca : Nat) (l : List M.E) (c : Int) (w : World) (hr : RdE w w.heap.size A l) (hA : A = none → ca = 0) (hm : l.length ≤ maxLen) (hz : Sized l) :
    Calls Try.prog 4 #[.slice A l.length ca, .int .i64 c] w fun e w' => e = .returned (.bool true) ∧ Below w.heap.size w w' := by
  have HR := Lib.hid hr
  have HZ := Lib.hid hz
  have HM := Lib.hid hm
  have HA := Lib.hid hA
  clear hr hz hA
  unfold maxLen at hm
  go_enter Try.func4, Try.ntmps4
  go_wp2_with fail
  refine (fits_any A none ca 0 l [] w HR.out RdN.nil HM.out (Nat.zero_le _) HZ.out (fun s hs => by cases hs)).mono ?_
  rintro r w1 ⟨q, rfl, hq, hb1⟩
  have HB1 := Lib.hid hb1
  clear hb1
  cases q with
  | false =>
    clear hq
    go_wp2_with fail
    refine (alive_true w1).mono ?_
    rintro r w2 ⟨rfl, hb2⟩
    have HB2 := Lib.hid (HB1.out.trans (hb2.mono HB1.out.size))
    clear hb2
    go_wp2
    go_ret
    exact ⟨rfl, HB2.out⟩
  | true =>
    have hl60 := (hq rfl).1
    have HR1 := Lib.hid ((HR.out.below HB1.out).more HB1.out.size)
    clear hq
    by_cases hok : M.PairOk l
    · have HOK := Lib.hid hok
      have HPY := Lib.hid (M.pairs_yes hok)
      clear hok
      go_wp2_with fail
      refine (refPairs_any A ca l w1 HR1.out HM.out HZ.out).mono ?_
      rintro r w2 ⟨rfl, hb2⟩
      rw [HPY.out]
      have HB2 := Lib.hid (HB1.out.trans (hb2.mono HB1.out.size))
      have HR2 := Lib.hid ((HR.out.below HB2.out).more HB2.out.size)
      clear hb2
      go_wp2_with fail
      refine (pair_any A ca l w2 HR2.out HA.out HM.out HZ.out).mono ?_
      rintro r w3 ⟨hb3, hyes, _⟩
      obtain ⟨pb, rfl, hp⟩ := hyes HOK.out
      have HP3 := Lib.hid hp
      have HB3 := Lib.hid (HB2.out.trans (hb3.mono HB2.out.size))
      clear hb3 hyes hp
      go_wp2_with fail
      refine (pairsLen_any w2.heap.size pb l w3 HP3.out).mono ?_
      rintro r w4 ⟨rfl, rfl⟩
      go_wp2
      go_loopw [9] (fun i wr => ∃ k : Nat, k ≤ l.length + 1 ∧ i = .int .i64 k ∧ PairsAt wr w2.heap.size pb l ∧ Below w.heap.size w wr) (fun i _ => l.length + 1 - (intOf i).toNat)
      case atStart => exact ⟨0, Nat.zero_le _, rfl, HP3.out, HB3.out⟩
      case round =>
        obtain ⟨k, hk, rfl, hp, hb⟩ := hrel
        have HP := Lib.hid hp
        have HB := Lib.hid hb
        clear hp hb
        by_cases hle : k ≤ l.length
        · by_cases hlt : k < l.length
          · obtain ⟨e, he⟩ : ∃ e, l[k]? = some e := ⟨_, List.getElem?_eq_getElem hlt⟩
            obtain ⟨ad, rfl, hab, c0, c1, c2, c3⟩ := HR.out.below HB.out k e he
            have hk1 : (0 : Int) ≤ (k : Int) := by omega
            have hk2 : (k : Int) < (l.length : Int) := by omega
            obtain ⟨n, x, b, hM⟩ := M.other_shape (M.find l e.a)
            have HMO := Lib.hid hM
            clear he hM c1 c2 c3
            go_wp2_with fail
            refine (pairsAt_any w2.heap.size pb l e.a wr HP.out HOK.out.rises.2.srt HM.out HZ.out).mono ?_
            rintro r w5 ⟨rfl, hb5⟩
            rw [HMO.out]
            have HB5 := Lib.hid (HB.out.trans (hb5.mono HB.out.size))
            have HP5 := Lib.hid (HP.out.below hb5)
            clear hb5
            go_wp2_with fail
            refine (refOther_any (some ad) ca l e.a w5 ((HR.out.below HB5.out).more HB5.out.size) HM.out HZ.out (fun f hf => by obtain ⟨j, hj⟩ := List.getElem?_of_mem hf; exact (HOK.out.ones j f (List.getElem?_eq_some_iff.1 hj).1 hj).1)).mono ?_
            rintro r w6 ⟨rfl, hb6⟩
            rw [HMO.out]
            have HB6 := Lib.hid (HB5.out.trans (hb6.mono HB5.out.size))
            have HP6 := Lib.hid (HP5.out.below hb6)
            clear hb6
            go_wp2
            go_roundw
            case rel => exact ⟨k + 1, by omega, by go_num, HP6.out, HB6.out⟩
            case measure => simp [intOf]; omega
          · obtain ⟨n, x, b, hM⟩ := M.other_shape (M.find l c)
            have HMO := Lib.hid hM
            clear hM
            have hkl : k = l.length := by omega
            subst hkl
            go_wp2_with fail
            refine (pairsAt_any w2.heap.size pb l c wr HP.out HOK.out.rises.2.srt HM.out HZ.out).mono ?_
            rintro r w5 ⟨rfl, hb5⟩
            rw [HMO.out]
            have HB5 := Lib.hid (HB.out.trans (hb5.mono HB.out.size))
            have HP5 := Lib.hid (HP.out.below hb5)
            clear hb5
            go_wp2_with fail
            refine (refOther_any A ca l c w5 ((HR.out.below HB5.out).more HB5.out.size) HM.out HZ.out (fun f hf => by obtain ⟨j, hj⟩ := List.getElem?_of_mem hf; exact (HOK.out.ones j f (List.getElem?_eq_some_iff.1 hj).1 hj).1)).mono ?_
            rintro r w6 ⟨rfl, hb6⟩
            rw [HMO.out]
            have HB6 := Lib.hid (HB5.out.trans (hb6.mono HB5.out.size))
            have HP6 := Lib.hid (HP5.out.below hb6)
            clear hb6
            go_wp2
            go_roundw
            case rel => exact ⟨l.length + 1, by omega, by go_num, HP6.out, HB6.out⟩
            case measure => simp [intOf]
        · have hgt : ¬ (k : Int) ≤ (l.length : Int) := by omega
          have hgd : decide (k ≤ l.length) = false := by rw [decide_eq_false_iff_not]; exact hle
          go_wp2_with fail
          refine (alive_true wr).mono ?_
          rintro r w5 ⟨rfl, hb5⟩
          have HB5 := Lib.hid (HB.out.trans (hb5.mono HB.out.size))
          clear hb5
          go_wp2
          go_ret
          exact ⟨rfl, HB5.out⟩
    · have HNO := Lib.hid hok
      have HPN := Lib.hid (M.pairs_no hok)
      clear hok
      go_wp2_with fail
      refine (refPairs_any A ca l w1 HR1.out HM.out HZ.out).mono ?_
      rintro r w2 ⟨rfl, hb2⟩
      rw [HPN.out]
      have HB2 := Lib.hid (HB1.out.trans (hb2.mono HB1.out.size))
      have HR2 := Lib.hid ((HR.out.below HB2.out).more HB2.out.size)
      clear hb2
      go_wp2_with fail
      refine (pair_any A ca l w2 HR2.out HA.out HM.out HZ.out).mono ?_
      rintro r w3 ⟨hb3, _, hno⟩
      obtain rfl := hno HNO.out
      have HB3 := Lib.hid (HB2.out.trans (hb3.mono HB2.out.size))
      clear hb3 hno
      go_wp2_with fail
      refine (alive_true w3).mono ?_
      rintro r w5 ⟨rfl, hb5⟩
      have HB5 := Lib.hid (HB3.out.trans (hb5.mono HB3.out.size))
      clear hb5
      go_wp2
      go_ret
      exact ⟨rfl, HB5.out⟩
end Go.Proofs.Ytjbpjnnflcmmhaa
