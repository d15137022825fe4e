/- The walk of stage 6's second law: it answers true. Conditions: the slice reads as a list of kinds, within its capacity. -/
import Derived.Test.YtfackeiommiejaaAlive
import Derived.Test.YtfackeiommiejaaMathPart
import Derived.Test.YtfackeiommiejaaAppendRd
namespace Go.Proofs.Ytfackeiommiejaa
open Go.RowKit

set_option maxRecDepth 100000 in
set_option maxHeartbeats 4000000 in
theorem partNot_any (A : Option Addr) (ca n : Nat) (i : Int) (w : World) (hm : n ≤ maxLen) (hno : 80 < n ∨ i < 1 ∨ n ≤ i) :
    Calls Try.prog 4 #[.slice A n ca, .int .i64 i] w fun r w' => r = .returned (.bool true) ∧ Below w.heap.size w w' := by
  unfold maxLen at hm
  have hm1 : (n : Int) ≤ 9223372036854775807 := by omega
  rcases (show (80 : Int) < n ∨ ((n : Int) ≤ 80 ∧ i < 1) ∨ ((n : Int) ≤ 80 ∧ 1 ≤ i ∧ (n : Int) ≤ i) by omega) with h | ⟨h, h2⟩ | ⟨h, h2, h3⟩
  all_goals
    clear hno
    go_enter Try.func4, Try.ntmps4
    go_wp2_with fail
    refine (alive_any _).mono ?_
    rintro r w2 ⟨rfl, hb⟩
    have HB := Lib.hid hb
    clear hb
    go_wp2_with fail
    go_ret
    exact ⟨rfl, HB.out⟩

set_option maxRecDepth 100000 in
set_option maxHeartbeats 4000000 in
theorem partIn_any (A : Option Addr) (ca n k : Nat) (l : List Int) (w : World) (hr : RdS .i64 w w.heap.size A l) (hn : l.length = n) (hl : n ≤ 80) (hk0 : 0 < k) (hk : k < n) (hca : n ≤ ca) (hcm : ca ≤ maxLen) :
    Calls Try.prog 4 #[.slice A n ca, .int .i64 k] w fun r w' => r = .returned (.bool true) ∧ Below w.heap.size w w' := by
  obtain ⟨i0, hi, hz0, hz1, hz2⟩ := info_parts Try.infoInt
  obtain ⟨ad, x0, rfl, _, _, _⟩ := rd_at hr (Below.refl _ _) (by omega : 0 < l.length)
  unfold maxLen at hcm
  have h1 : (n : Int) ≤ 80 := by omega
  have hc1 : (ca : Int) ≤ 9223372036854775807 := by omega
  have hnc : (n : Int) ≤ ca := by omega
  have k0 : (1 : Int) ≤ k := by omega
  have k0' : (0 : Int) ≤ k := by omega
  have kn : (k : Int) < n := by omega
  have kc : (k : Int) ≤ ca := by omega
  have e1 : ((n : Int) - k).toNat = n - k := by omega
  have e2 : ((ca : Int) - k).toNat = ca - k := by omega
  have hck1 : (ca == k) = false := by rw [beq_eq_false_iff_ne]; omega
  have hck2 : ¬ ca = k := by omega
  have hck3 : ¬ ca - k = 0 := by omega
  obtain ⟨v, hv⟩ : ∃ v, M.how l k = v := ⟨_, rfl⟩
  have HAT := Lib.hid (by
    have := at_any (some ad) ca n k l w hr hn (by omega) hca (by omega)
    unfold M.atI at this
    rw [if_neg (by omega), Int.toNat_natCast, hv] at this
    exact this)
  have HR := Lib.hid hr
  have HN := Lib.hid hn
  by_cases h2 : v = 2
  · subst h2
    obtain ⟨hpart, hend⟩ := M.all_part hk0 (by omega) hv
    have HPART := Lib.hid hpart
    have HEND := Lib.hid hend
    have HA1 := Lib.hid (show (M.all (l.take k)).length = k by rw [M.all_len, List.length_take]; omega)
    have HA2 := Lib.hid (show (M.all (l.drop k)).length = n - k by rw [M.all_len, List.length_drop]; omega)
    have HA3 := Lib.hid (show (M.all l).length = n by rw [M.all_len, hn])
    clear hr hn hv hpart hend
    go_enter Try.func4, Try.ntmps4
    go_wp2_with fail
    refine HAT.out.mono ?_
    rintro r w1 ⟨rfl, hb1⟩
    have HB1 := Lib.hid hb1
    have HR1 := Lib.hid ((HR.out.below hb1).more hb1.size)
    clear hb1
    go_wp2_with fail
    refine (all_row (some ad) ca k (l.take k) w1 (HR1.out.take k) (by have := HN.out; simp; omega) (by omega) (by omega)).mono ?_
    rintro r w2 ⟨v2, rfl, ho2, hb2⟩
    rw [HA1.out] at ho2
    have HB2 := Lib.hid (HB1.out.trans (hb2.mono HB1.out.size))
    have HO2 := Lib.hid (own_base ho2 HB1.out.size)
    have HR2 := Lib.hid ((HR1.out.below hb2).more hb2.size)
    obtain ⟨A2, c2, rfl, hA2⟩ := own_row ho2
    clear hb2 ho2 hA2
    go_wp2_with fail
    refine (all_any (some (ad.add k)) (ca - k) (n - k) (l.drop k) w2 (HR2.out.drop k) (by have := HN.out; simp; omega) (by omega) (by omega)).mono ?_
    rintro r w3 ⟨A3, c3, rfl, hr3, _, _, hA3, hb3⟩
    rw [HA2.out]
    have HB3 := Lib.hid (HB2.out.trans (hb3.mono HB2.out.size))
    have HO3 := Lib.hid (own_below HO2.out hb3)
    have HR3 := Lib.hid ((HR2.out.below hb3).more hb3.size)
    have HRS := Lib.hid hr3
    have HAN := Lib.hid hA3
    have hbs := HB3.out.size
    clear hr3 hb3 hA3
    go_wp2_with (at_builtin; refine wpList_append_rd _ rfl _ _ 25 rfl w.heap.size 3 i0 (.int .i64 0) 8 Try.underlying25 hi hz0 hz1 hz2 rfl (.slice A2 k c2) k ((M.all (l.take k)).map (Value.int .i64)) rfl HO3.out .i64 w3.heap.size A3 c3 (M.all (l.drop k)) (by rw [HA2.out]; rfl) HRS.out HAN.out (by rw [HA2.out]; unfold maxLen; omega) (by rw [HA2.out]; omega) hbs ?_)
    intro v4 w4 ho4 hg4
    have hb4 : Below w.heap.size w w4 := grow_below0 HB3.out HO3.out hg4 hbs
    have hlen : k + (M.all (l.drop k)).length = (M.all l).length := by rw [HA2.out, HA3.out]; omega
    rw [hlen, ← List.map_append, HPART.out] at ho4
    obtain ⟨A4, c4, rfl, hr4, _, _, _⟩ := reads_own ho4
    rw [HA3.out]
    have HB4 := Lib.hid hb4
    have HR4 := Lib.hid hr4
    have HRl4 := Lib.hid ((HR.out.below hb4).more hb4.size)
    clear hlen ho4 hg4 hb4 hr4 hbs
    go_wp2_with fail
    refine (alive_any _).mono ?_
    rintro r w5 ⟨rfl, hb5⟩
    have HR5 := Lib.hid ((HR4.out.below hb5).more hb5.size)
    have HRl5 := Lib.hid ((HRl4.out.below hb5).more hb5.size)
    have HB5 := Lib.hid (HB4.out.trans (hb5.mono HB4.out.size))
    clear hb5
    go_wp2_with fail
    refine (all_any (some ad) ca n l w5 HRl5.out HN.out (by omega) hca).mono ?_
    rintro r w6 ⟨A6, c6, rfl, hr6, _, _, _, hb6⟩
    rw [HA3.out]
    have HR6 := Lib.hid hr6
    have HR56 := Lib.hid ((HR5.out.below hb6).more hb6.size)
    have HB6 := Lib.hid (HB5.out.trans (hb6.mono HB5.out.size))
    clear hr6 hb6
    go_wp2_with fail
    refine (ints_same A4 A6 c4 c6 n _ w6 HR56.out HR6.out HA3.out (by omega)).mono ?_
    rintro r w7 ⟨rfl, hb7⟩
    have HB7 := Lib.hid (HB6.out.trans (hb7.mono HB6.out.size))
    clear hb7
    obtain ⟨j, hj⟩ : ∃ j : Nat, j = k - 1 := ⟨_, rfl⟩
    have hjk : (k : Int) - 1 = j := by omega
    obtain ⟨ad2, hA2, _, hcell⟩ := (HR.out.below HB7.out) (k - 1) 11 HEND.out
    injection hA2 with hA2
    subst hA2
    rw [← hj] at hcell
    have j0 : (0 : Int) ≤ j := by omega
    have j1 : (j : Int) < n := by omega
    clear hj
    go_wp2_with fail
    go_ret
    exact ⟨ret_bool (by simp), HB7.out⟩
  · have b2 : (v != 2) = true := by rw [bne_iff_ne]; exact h2
    have b3 : (v == 2) = false := by rw [beq_eq_false_iff_ne]; exact h2
    clear hr hn hv h2
    go_enter Try.func4, Try.ntmps4
    go_wp2_with fail
    refine HAT.out.mono ?_
    rintro r w1 ⟨rfl, hb1⟩
    have HB1 := Lib.hid hb1
    clear hb1
    go_wp2_with fail
    refine (alive_any _).mono ?_
    rintro r w2 ⟨rfl, hb⟩
    have HB := Lib.hid (HB1.out.trans (hb.mono HB1.out.size))
    clear hb
    go_wp2_with fail
    go_ret
    exact ⟨rfl, HB.out⟩

theorem partLaw_any (A : Option Addr) (ca n : Nat) (i : Int) (l : List Int) (w : World) (hr : RdS .i64 w w.heap.size A l) (hn : l.length = n) (hca : n ≤ ca) (hcm : ca ≤ maxLen) :
    Calls Try.prog 4 #[.slice A n ca, .int .i64 i] w fun r w' => r = .returned (.bool true) ∧ Below w.heap.size w w' := by
  by_cases h : 80 < n ∨ i < 1 ∨ n ≤ i
  · exact partNot_any A ca n i w (Nat.le_trans hca hcm) h
  · obtain ⟨k, rfl⟩ := Int.eq_ofNat_of_zero_le (show 0 ≤ i by omega)
    exact partIn_any A ca n k l w hr hn (by omega) (by omega) (by omega) hca hcm
end Go.Proofs.Ytfackeiommiejaa
