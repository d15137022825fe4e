/- The walk of WeakLeft: it answers true. Conditions: the slice reads as a list of classes, within its capacity. -/
import Derived.Test.YtanlclmlkpchfaaAlive
namespace Go.Proofs.Ytanlclmlkpchfaa
open Go.RowKit
set_option maxRecDepth 100000

set_option maxHeartbeats 4000000 in
theorem leftLong_any (A : Option Addr) (ca n : Nat) (nn : Int) (w : World) (hn : 150 < n) (hm : n ≤ maxLen) :
    Calls Try.prog 4 #[.slice A n ca, .int .i64 nn] w fun r w' => r = .returned (.bool true) ∧ Below w.heap.size w w' := by
  unfold maxLen at hm
  have h1 : (150 : Int) < n := by omega
  go_enter Try.func4, Try.ntmps4
  go_wp2_with fail
  refine (alive_any _).mono ?_
  rintro r w2 ⟨rfl, hb⟩
  have HB := Lib.hid hb
  clear hb
  go_wp2_with fail
  go_ret
  exact ⟨rfl, HB.out⟩
set_option maxHeartbeats 8000000 in
theorem leftShort_any (A : Option Addr) (ca n : Nat) (l : List Int) (nn : Int) (w : World) (hr : RdS .i64 w w.heap.size A l) (hn : l.length = n) (hl : n ≤ 150) (hca : n ≤ ca) :
    Calls Try.prog 4 #[.slice A n ca, .int .i64 nn] w fun r w' => r = .returned (.bool true) ∧ Below w.heap.size w w' := by
  have HSD := Lib.hid (fun w => side_any nn w)
  obtain ⟨s, hs⟩ : ∃ s, M.sdn nn = s := ⟨_, rfl⟩
  have hs01 : s = 0 ∨ s = 1 := by rw [← hs]; exact M.sdn_or nn
  rw [hs] at HSD
  have HS := Lib.hid hs01
  obtain ⟨X, hX⟩ : ∃ X, M.wall s l = X := ⟨_, rfl⟩
  have hC := call_any A ca n s l w hr hn (by omega) hca
  rw [hX] at hC
  have HC := Lib.hid hC
  have HXL := Lib.hid (show X.length = n by rw [← hX, M.wall_len, hn])
  have HAG := Lib.hid (show M.wall s X = X by rw [← hX]; exact M.wall_again hs01)
  have HLF := Lib.hid (fun (k : Nat) (x : Int) (h : X[k]? = some x) => M.wall_left (l := l) (f := s) (i := k) (x := x) hs01 (by rw [hX]; exact h))
  have HR := Lib.hid hr
  have HN := Lib.hid hn
  have hl1 : (n : Int) ≤ 150 := by omega
  clear hr hn hca hs hs01 hX hC
  go_enter Try.func4, Try.ntmps4
  go_wp2_with fail
  refine (HSD.out _).mono ?_
  rintro r w1 ⟨rfl, rfl⟩
  go_wp2_with fail
  refine HC.out.mono ?_
  rintro r w1 hout
  obtain ⟨A1, c1, rfl, hr1, hb1, hc1, -⟩ := rule_ok hout HS.out
  rw [HXL.out] at hc1 ⊢
  have HR1 := Lib.hid hr1
  have HRl1 := Lib.hid ((HR.out.below hb1).more hb1.size)
  have HB1 := Lib.hid hb1
  have HC1 := Lib.hid hc1
  have hnn : ((n : Int) != (n : Int)) = false := by simp
  clear hr1 hb1 hout hc1
  go_wp2_with fail
  go_loop [7] (fun v => ∃ k : Nat, k ≤ n ∧ v = .int .i64 k) (fun v => n - (intOf v).toNat)
  case atStart => exact ⟨0, Nat.zero_le _, rfl⟩
  case round =>
    obtain ⟨k, hk, rfl⟩ := hrel
    have hk0 : (0 : Int) ≤ k := by omega
    by_cases hlt : k < n
    · have hk1 : (k : Int) < n := by omega
      obtain ⟨ad, c, rfl, hcc, hc, -⟩ := rd_at HRl1.out (Below.refl _ _) (by rw [HN.out]; exact hlt : k < l.length)
      obtain ⟨ad2, x, rfl, hcx, hx, -⟩ := rd_at HR1.out (Below.refl _ _) (by rw [HXL.out]; exact hlt : k < X.length)
      obtain ⟨c', hc', h8, h2, h4, h5, h7, hal, hst⟩ := HLF.out k x hx
      obtain rfl : c = c' := by rw [hc] at hc'; injection hc'
      clear hc hc' hx
      by_cases hc2 : c = 2
      · subst hc2
        obtain rfl := hal rfl
        clear hal hst h8 h2 h4 h5 h7
        go_wp2_with fail
        go_round
        case rel => exact ⟨k + 1, by omega, by go_num⟩
        case measure => simp [intOf]; omega
      · have b8 : (x == 8) = false := by simp; omega
        have b2 : (x == 2) = false := by simp; omega
        have b4 : (x == 4) = false := by simp; omega
        have b5 : (x == 5) = false := by simp; omega
        have b7 : (x == 7) = false := by simp; omega
        by_cases hfr : c = 8 ∨ c = 3 ∨ c = 4 ∨ c = 5 ∨ c = 7
        · clear hal hst h8 h2 h4 h5 h7 hc2
          rcases hfr with rfl | rfl | rfl | rfl | rfl
          all_goals
            go_wp2_with fail
            go_round
            case rel => exact ⟨k + 1, by omega, by go_num⟩
            case measure => simp [intOf]; omega
        · obtain rfl := hst hc2 (by omega) (by omega) (by omega) (by omega) (by omega)
          have d3 : (x == 3) = false := by simp; omega
          have d2 : (x != 2) = true := by simp; omega
          have dx : (x != x) = false := by simp
          clear hal hst h8 h2 h4 h5 h7 hc2 hfr
          go_wp2_with fail
          go_round
          case rel => exact ⟨k + 1, by omega, by go_num⟩
          case measure => simp [intOf]; omega
    · obtain rfl : k = n := by omega
      have hk1 : ¬ (k : Int) < (k : Int) := by omega
      have hC := call_any A1 c1 k s X w1 HR1.out HXL.out (by omega) HC1.out
      rw [HAG.out] at hC
      have HC2 := Lib.hid hC
      clear hC
      go_wp2_with fail
      refine (HSD.out _).mono ?_
      rintro r w2 ⟨rfl, rfl⟩
      go_wp2_with fail
      refine HC2.out.mono ?_
      rintro r w2 hout
      obtain ⟨A2, c2, rfl, hr2, hb2, -, -⟩ := rule_ok hout HS.out
      rw [HXL.out]
      have HR2 := Lib.hid hr2
      have HR12 := Lib.hid ((HR1.out.below hb2).more hb2.size)
      have HB2 := Lib.hid (HB1.out.trans (hb2.mono HB1.out.size))
      clear hr2 hb2 hout
      go_wp2_with fail
      refine (alive_any _).mono ?_
      rintro r w3 ⟨rfl, hb3⟩
      have HR23 := Lib.hid ((HR2.out.below hb3).more hb3.size)
      have HR13 := Lib.hid ((HR12.out.below hb3).more hb3.size)
      have HB3 := Lib.hid (HB2.out.trans (hb3.mono HB2.out.size))
      clear hb3
      go_wp2_with fail
      refine (same_same A1 A2 c1 c2 k X w3 HR13.out HR23.out HXL.out (by omega)).mono ?_
      rintro r w4 ⟨rfl, hb4⟩
      have HB4 := Lib.hid (HB3.out.trans (hb4.mono HB3.out.size))
      clear hb4
      go_wp2_with fail
      go_ret
      exact ⟨rfl, HB4.out⟩
theorem leftLaw_any (A : Option Addr) (ca n : Nat) (l : List Int) (nn : Int) (w : World) (hr : RdS .i64 w w.heap.size A l) (hn : l.length = n) (hca : n ≤ ca) (hm : ca ≤ maxLen) :
    Calls Try.prog 4 #[.slice A n ca, .int .i64 nn] w fun r w' => r = .returned (.bool true) ∧ Below w.heap.size w w' := by
  by_cases h : n ≤ 150
  · exact leftShort_any A ca n l nn w hr hn h hca
  · exact leftLong_any A ca n nn w (by omega) (by omega)
end Go.Proofs.Ytanlclmlkpchfaa
