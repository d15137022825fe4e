/- The walk of stage 5's first law: it answers true. Conditions: the slice reads as a list of joins, within its capacity. -/
import Derived.Test.YtpnbkakilmigeaaAlive
import Derived.Test.YtpnbkakilmigeaaAppendRd
namespace Go.Proofs.Ytpnbkakilmigeaa
open Go.RowKit

theorem Try.infoJoin : (Try.prog.info? 26).map (fun i => (i.zero, i.size, i.bytes)) = some (some (.int .i64 0), 1, 8) := by kernel_rfl

set_option maxHeartbeats 4000000 in
theorem startsLong_any (A : Option Addr) (ca n : Nat) (i : Int) (w : World) (hn : 120 < n) (hm : n ≤ maxLen) :
    Calls Try.prog 3 #[.slice A n ca, .int .i64 i] w fun r w' => r = .returned (.bool true) ∧ Below w.heap.size w w' := by
  unfold maxLen at hm
  have h1 : (120 : Int) < n := by omega
  go_enter Try.func3, Try.ntmps3
  go_wp2_with fail
  refine (alive_any _).mono ?_
  rintro r w2 ⟨rfl, hb⟩
  have HB := Lib.hid hb
  clear hb
  go_wp2_with fail
  go_ret
  exact ⟨rfl, HB.out⟩

set_option maxRecDepth 100000 in
set_option maxHeartbeats 4000000 in
theorem startsShort_any (A : Option Addr) (ca n : Nat) (i : Int) (l : List Int) (w : World) (hr : RdS .i64 w w.heap.size A l) (hn : l.length = n) (hl : n ≤ 120) (hca : n ≤ ca) (hA : A = none → ca = 0) :
    Calls Try.prog 3 #[.slice A n ca, .int .i64 i] w fun r w' => r = .returned (.bool true) ∧ Below w.heap.size w w' := by
  obtain ⟨i0, hi, hz0, hz1, hz2⟩ := info_parts Try.infoJoin
  have HR := Lib.hid hr
  have HN := Lib.hid hn
  have HA := Lib.hid hA
  have hl1 : (n : Int) ≤ 120 := by omega
  clear hr hn hA
  go_enter Try.func3, Try.ntmps3
  go_wp2_with (at_builtin; refine wpList_append_rd _ rfl _ _ 22 rfl w.heap.size 26 i0 (.int .i64 0) 8 Try.underlying22 hi hz0 hz1 hz2 rfl _ 0 [] rfl (World.ownsRow_lit w #[] 0 (Nat.le_refl _) (Nat.zero_le _) rfl) .i64 w.heap.size A ca l (by rw [HN.out]; rfl) (HR.out.keep (fun p hp => World.cell?_alloc_lt w _ p (by omega))) HA.out (by have := HN.out; unfold maxLen; omega) (by have := HN.out; omega) (by simp) ?_)
  intro v1 w1 ho1 hg1
  have hb1 : Below w.heap.size w w1 := grow_below0 ((Below.refl _ _).alloc (Nat.le_refl _) _) (World.ownsRow_lit w #[] 0 (Nat.le_refl _) (Nat.zero_le _) rfl) hg1 (by simp)
  have ho1' : w1.ownsRow w.heap.size 26 1 v1 l.length (l.map (Value.int .i64)) := by simpa using ho1
  obtain ⟨A1, c1, rfl, hr1, _, _, _⟩ := reads_own ho1'
  rw [HN.out]
  have HR1 := Lib.hid hr1
  have HB1 := Lib.hid hb1
  have HRl := Lib.hid ((HR.out.below hb1).more hb1.size)
  clear ho1 hg1 hb1 ho1' hr1
  go_wp2_with fail
  refine (starts_any A ca n l w1 HRl.out HN.out (by omega) hca).mono ?_
  rintro r w2 ⟨A2, c2, rfl, hr2, _, _, _, hb2⟩
  obtain ⟨m, hm⟩ : ∃ m, (M.startsTo l n).length = m := ⟨_, rfl⟩
  have hml : m ≤ 120 := by rw [← hm]; exact Nat.le_trans (M.startsTo_len l n) hl
  rw [hm]
  have HM := Lib.hid hm
  have HB2 := Lib.hid (HB1.out.trans (hb2.mono HB1.out.size))
  have HR2 := Lib.hid hr2
  have HRl2 := Lib.hid ((HRl.out.below hb2).more hb2.size)
  have HR12 := Lib.hid ((HR1.out.below hb2).more hb2.size)
  have hnn : ((n : Int) == (n : Int)) = true := by simp
  have hnn' : (n == n) = true := by simp
  clear hr2 hb2 hm
  go_wp2_with fail
  go_loopw [7, 8] (fun s v wr => ∃ k : Nat, s = .bool true ∧ v = .int .i64 k ∧ k ≤ n ∧ Below w2.heap.size w2 wr) (fun _ v _ => n - (intOf v).toNat)
  case atStart => exact ⟨0, by simp, rfl, Nat.zero_le _, Below.refl _ _⟩
  case round =>
    obtain ⟨k, rfl, rfl, hk, hb⟩ := hrel
    have HB := Lib.hid hb
    have hn := HN.out
    have k0 : (0 : Int) ≤ k := by omega
    by_cases hlt : k < n
    · obtain ⟨ad, x, hA, hcx, hx, hab⟩ := rd_at HRl2.out hb (by omega : k < l.length)
      obtain ⟨ad2, y, hA2, hcy, hy, hab2⟩ := rd_at HR12.out hb (by omega : k < l.length)
      obtain rfl : x = y := by rw [hx] at hy; injection hy
      subst hA
      subst hA2
      have k1 : (k : Int) < n := by omega
      clear hb hx hy hab hab2 hn
      go_wp2_with fail
      go_quiet (fail)
      go_wp2_with fail
      go_roundw
      case rel => exact ⟨k + 1, by simp, by go_num, by omega, belowN HB.out _⟩
      case measure => simp [intOf]; omega
    · obtain rfl : k = n := by omega
      have HR2k := Lib.hid ((HR2.out.below hb).more hb.size)
      have HRlk := Lib.hid ((HRl2.out.below hb).more hb.size)
      have HB3 := Lib.hid (HB2.out.trans (hb.mono HB2.out.size))
      clear hb hn
      obtain ⟨br, hbr⟩ : ∃ b, M.brk l i = b := ⟨_, rfl⟩
      have HBR := Lib.hid hbr
      clear hbr
      go_wp2_with fail
      refine (alive_any _).mono ?_
      rintro r w4 ⟨rfl, hb4⟩
      have HR4 := Lib.hid ((HR2k.out.below hb4).more hb4.size)
      have HRl4 := Lib.hid ((HRlk.out.below hb4).more hb4.size)
      have HB4 := Lib.hid (HB3.out.trans (hb4.mono HB3.out.size))
      clear hb4
      go_wp2_with fail
      refine (refStarts_any A ca k l w4 HRl4.out HN.out (by omega)).mono ?_
      rintro r w5 ⟨A5, c5, rfl, hr5, _, _, _, hb5⟩
      rw [HM.out]
      have HR5 := Lib.hid hr5
      have HR45 := Lib.hid ((HR4.out.below hb5).more hb5.size)
      have HRl5 := Lib.hid ((HRl4.out.below hb5).more hb5.size)
      have HB5 := Lib.hid (HB4.out.trans (hb5.mono HB4.out.size))
      clear hr5 hb5
      go_wp2_with fail
      refine (ints_same A2 A5 c2 c5 m _ w5 HR45.out HR5.out HM.out (by omega)).mono ?_
      rintro r w6 ⟨rfl, hb6⟩
      have HRl6 := Lib.hid ((HRl5.out.below hb6).more hb6.size)
      have HB6 := Lib.hid (HB5.out.trans (hb6.mono HB5.out.size))
      clear hb6
      go_wp2_with fail
      refine (break_any A ca k l i w6 HRl6.out HN.out (by omega) hca).mono ?_
      rintro r w7 ⟨rfl, hb7⟩
      rw [HBR.out]
      have HRl7 := Lib.hid ((HRl6.out.below hb7).more hb7.size)
      have HB7 := Lib.hid (HB6.out.trans (hb7.mono HB6.out.size))
      clear hb7
      go_wp2_with fail
      refine (refBreak_any A ca k l i w7 HRl7.out HN.out (by omega)).mono ?_
      rintro r w8 ⟨rfl, hb8⟩
      rw [HBR.out]
      have HB8 := Lib.hid (HB7.out.trans (hb8.mono HB7.out.size))
      clear hb8
      go_wp2_with fail
      go_ret
      exact ⟨ret_bool (by simp), HB8.out⟩

theorem startsLaw_any (A : Option Addr) (ca n : Nat) (i : Int) (l : List Int) (w : World) (hr : RdS .i64 w w.heap.size A l) (hn : l.length = n) (hca : n ≤ ca) (hcm : ca ≤ maxLen) (hA : A = none → ca = 0) :
    Calls Try.prog 3 #[.slice A n ca, .int .i64 i] w fun r w' => r = .returned (.bool true) ∧ Below w.heap.size w w' := by
  rcases Nat.lt_or_ge 120 n with h | h
  · exact startsLong_any A ca n i w h (Nat.le_trans hca hcm)
  · exact startsShort_any A ca n i l w hr hn h hca hA
end Go.Proofs.Ytpnbkakilmigeaa
