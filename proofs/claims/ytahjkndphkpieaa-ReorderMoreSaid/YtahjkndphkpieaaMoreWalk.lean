/- The walk of ReorderMore: it answers true. Conditions: the slice reads as a list of whole numbers of 64 bits, within its capacity. -/
import Derived.Test.YtahjkndphkpieaaAlive
import Derived.Test.YtahjkndphkpieaaTwAt
namespace Go.Proofs.Ytahjkndphkpieaa
open Go.RowKit
set_option maxRecDepth 100000

set_option maxHeartbeats 4000000 in
theorem moreLong_any (A : Option Addr) (ca n : Nat) (w : World) (h : 200 < n) (hn : n ≤ maxLen) :
    Calls Try.prog 5 #[.slice A n ca] w fun r w' => r = .returned (.bool true) ∧ Below w.heap.size w w' := by
  unfold maxLen at hn
  have b1 : (200 : Int) < n := by omega
  clear h
  go_enter Try.func5, Try.ntmps5
  go_wp2_with fail
  refine (alive_any _).mono ?_
  rintro r w2 ⟨rfl, hb⟩
  have HB := Lib.hid hb
  clear hb
  go_wp2_with fail
  go_ret
  exact ⟨rfl, HB.out⟩
set_option maxHeartbeats 16000000 in
theorem moreShort_any (A : Option Addr) (ca n : Nat) (l : List Int) (w : World) (hr : RdS .i64 w w.heap.size A l) (hn : l.length = n) (hlo : ∀ x ∈ l, -9223372036854775808 ≤ x) (hn2 : n ≤ 200) (hca : n ≤ ca) :
    Calls Try.prog 5 #[.slice A n ca] w fun r w' => r = .returned (.bool true) ∧ Below w.heap.size w w' := by
  obtain ⟨i0, hi, hz0, hz1, hz2⟩ := info_parts Try.infoInt2
  have HR := Lib.hid hr
  have HN := Lib.hid hn
  have HCA := Lib.hid hca
  have HLO := Lib.hid hlo
  have n2 : ¬ (200 : Int) < n := by omega
  have n2' : (n : Int) ≤ 200 := by omega
  clear hr hn hca hlo
  go_enter Try.func5, Try.ntmps5
  go_wp2_with fail
  go_loopw [3, 4, 5] (fun vl vm v wr => ∃ (k : Nat) (L Q : List Int), v = .int .i64 k ∧ k ≤ n ∧ L = (l.take k).map (· + 1) ∧ Q = (l.take k).map (· + 2) ∧ (∀ x ∈ l.take k, x ≤ 125) ∧ TwAt w.heap.size w wr vl vm L Q) (fun _ _ v _ => n - (intOf v).toNat)
  case atStart => exact ⟨0, [], [], rfl, Nat.zero_le _, rfl, rfl, fun x hx => by simp at hx, Below.refl _ _, World.ownsRow_nil _ _ _ _, World.ownsRow_nil _ _ _ _, fun b hb => by simp [Value.ownBlock] at hb⟩
  case round =>
    obtain ⟨k, L, Q, rfl, hk, hL, hQ, hle, htw⟩ := hrel
    rename World => wr
    have HT := Lib.hid htw
    have k0 : (0 : Int) ≤ k := by omega
    by_cases hlt : k < n
    · have k1 : (k : Int) < n := by omega
      obtain ⟨ad, c, rfl, hcc, hc, -⟩ := rd_at HR.out htw.below (by rw [HN.out]; exact hlt : k < l.length)
      have hc0 := HLO.out c (List.mem_of_getElem? hc)
      have hbel := htw.below
      by_cases h125 : 125 < c
      · clear htw hc hL hQ hle
        go_wp2_with fail
        refine (alive_any _).mono ?_
        rintro r w2 ⟨rfl, hb⟩
        have HB := Lib.hid (HT.out.below.trans (hb.mono HT.out.below.size))
        clear hb
        go_wp2_with fail
        go_ret
        exact ⟨rfl, HB.out⟩
      · have c125 : c ≤ 125 := by omega
        have e := M.take_snoc hc
        have HL2 := Lib.hid (show L ++ [c + 1] = (l.take (k + 1)).map (· + 1) by rw [hL, e, List.map_append]; rfl)
        have HQ2 := Lib.hid (show Q ++ [c + 2] = (l.take (k + 1)).map (· + 2) by rw [hQ, e, List.map_append]; rfl)
        have HLE := Lib.hid (show ∀ x ∈ l.take (k + 1), x ≤ 125 from fun x hx => by
          rw [e, List.mem_append, List.mem_singleton] at hx
          rcases hx with hx | rfl
          · exact hle x hx
          · exact c125)
        have hLl : L.length = k := by rw [hL, List.length_map, List.length_take, HN.out]; omega
        have hQl : Q.length = k := by rw [hQ, List.length_map, List.length_take, HN.out]; omega
        have hsz := htw.below.size
        have hrl := htw.rl
        rw [hLl] at hrl
        have HRL := Lib.hid hrl
        have HLL := Lib.hid (And.intro hLl hQl)
        clear htw hc hL hQ hle e hLl hQl hrl hbel
        go_wp2_with (at_builtin; refine wpList_append_lies _ rfl _ _ 22 rfl w.heap.size 3 i0 (.int .i64 0) 1 8 Try.underlying22 hi hz0 hz1 hz2 rfl (by decide) _ _ _ rfl (World.ownsRow.alloc HRL.out _) ⟨wr.heap.size, 0, none⟩ 1 1 [.int .i64 (c + 1)] rfl rfl (one_new _ _ _) one_cell (by decide) (by unfold maxLen; omega) (by omega) (by simp; omega) (wr.heap.size + 1) (by simp) ?_)
        intro g cap w5 hown5 hgrow5 hat5 _
        have hd5 := TwAt.pushL (x := c + 1) HT.out hsz (by rw [HLL.out.1]; exact hown5) hgrow5 (hat5.imp_right (fun e => by simpa using e))
        rw [HLL.out.1] at hd5
        have HD5 := Lib.hid hd5
        have hs5 := hd5.below.size
        have hrm := hd5.rm
        rw [HLL.out.2] at hrm
        have HRM := Lib.hid hrm
        have hcc5 := (rd_at HR.out hd5.below (by rw [HN.out]; exact hlt : k < l.length))
        obtain ⟨ad', c', hA', hcc', hc', -⟩ := hcc5
        injection hA' with hA'
        subst hA'
        have hcc'' : c' = c := by
          obtain ⟨ad2, c2, hA2, hx2, hc2, -⟩ := rd_at HR.out HT.out.below (by rw [HN.out]; exact hlt : k < l.length)
          injection hA2 with hA2
          subst hA2
          rw [hcc] at hx2
          injection hx2 with hx2
          injection hx2 with _ hx2
          rw [hc'] at hc2
          injection hc2 with hc2
          rw [hc2, ← hx2]
        subst hcc''
        clear hown5 hgrow5 hat5 hd5 hrm hc' hcc
        go_wp2_with (at_builtin; refine wpList_append_lies _ rfl _ _ 22 rfl w.heap.size 3 i0 (.int .i64 0) 1 8 Try.underlying22 hi hz0 hz1 hz2 rfl (by decide) _ _ _ rfl (World.ownsRow.alloc HRM.out _) ⟨w5.heap.size, 0, none⟩ 1 1 [.int .i64 (c' + 2)] rfl rfl (one_new _ _ _) one_cell (by decide) (by unfold maxLen; omega) (by omega) (by simp; omega) (w5.heap.size + 1) (by simp) ?_)
        intro g2 cap2 w6 hown6 hgrow6 hat6 _
        have hd6 := TwAt.pushM (x := c' + 2) HD5.out hs5 (by rw [HLL.out.2]; exact hown6) hgrow6 (hat6.imp_right (fun e => by simpa using e))
        rw [HLL.out.2] at hd6
        have HD6 := Lib.hid hd6
        clear hown6 hgrow6 hat6 hd6
        go_wp2_with fail
        go_roundw
        case rel => exact ⟨k + 1, L ++ [c' + 1], Q ++ [c' + 2], by go_num, by omega, HL2.out, HQ2.out, HLE.out, HD6.out⟩
        case measure => simp [intOf]; omega
    · obtain rfl : n = k := by omega
      have k1 : ¬ (n : Int) < (n : Int) := by omega
      have htk : l.take n = l := by rw [← HN.out, List.take_length]
      rw [htk] at hL hQ hle
      obtain ⟨A1, c1, rfl, hr1, hc1, -, -⟩ := reads_own htw.rl
      obtain ⟨A2, c2, rfl, hr2, hc2, -, -⟩ := reads_own htw.rm
      have hLl : L.length = n := by rw [hL, List.length_map, HN.out]
      have hQl : Q.length = n := by rw [hQ, List.length_map, HN.out]
      rw [hLl] at hc1 ⊢
      rw [hQl] at hc2 ⊢
      have HB1 := Lib.hid htw.below
      have HRl := Lib.hid ((HR.out.below htw.below).more htw.below.size)
      have H1 := Lib.hid hr1
      have H2 := Lib.hid hr2
      have HC := Lib.hid (And.intro hc1 hc2)
      have HLQ := Lib.hid (And.intro hL (And.intro hQ (And.intro hLl (And.intro hQl hle))))
      clear htw hr1 hr2 hc1 hc2 hL hQ hle hLl hQl htk
      by_cases hok : M.ordOk l
      · obtain ⟨X, hX⟩ : ∃ X, M.ints (M.order l) = X := ⟨_, rfl⟩
        have hXl : X.length = n := by rw [← hX, M.ints_len, M.order_len, HN.out]
        have h125 : ∀ x ∈ l, 0 ≤ x ∧ x ≤ 125 := fun x hx => ⟨(hok x hx).1, HLQ.out.2.2.2.2 x hx⟩
        have hok1 : M.ordOk L := by
          rw [HLQ.out.1]
          intro x hx
          obtain ⟨y, hy, rfl⟩ := List.mem_map.1 hx
          have := h125 y hy
          omega
        have hok2 : M.ordOk Q := by
          rw [HLQ.out.2.1]
          intro x hx
          obtain ⟨y, hy, rfl⟩ := List.mem_map.1 hx
          have := h125 y hy
          omega
        have e1 : M.ints (M.order L) = X.reverse := by
          rw [HLQ.out.1, M.order_one fun x hx => ⟨(h125 x hx).1, by have := (h125 x hx).2; omega⟩, ← hX]
          unfold M.ints
          rw [List.map_reverse]
        have e2 : M.ints (M.order Q) = X := by rw [HLQ.out.2.1, M.order_two h125, hX]
        have HE := Lib.hid (And.intro hX (And.intro e1 e2))
        have HXL := Lib.hid hXl
        have HOK := Lib.hid (And.intro hok (And.intro hok1 hok2))
        have bnn : ((n : Int) != (n : Int)) = false := by simp
        clear hX hXl h125 hok1 hok2 e1 e2 hok
        go_wp2_with fail
        refine (corder_any A ca n l wr HRl.out HN.out (by omega) HCA.out).mono ?_
        rintro r w3 hout
        obtain ⟨A3, c3, rfl, hr3, hb3, -, -, -⟩ := row_ok hout HOK.out.1
        rw [HE.out.1] at hr3 ⊢
        rw [HXL.out]
        have HX3 := Lib.hid hr3
        have HB3 := Lib.hid (HB1.out.trans (hb3.mono HB1.out.size))
        have H13 := Lib.hid ((H1.out.below hb3).more hb3.size)
        have H23 := Lib.hid ((H2.out.below hb3).more hb3.size)
        clear hout hr3 hb3
        go_wp2_with fail
        refine (corder_any A1 c1 n L w3 H13.out HLQ.out.2.2.1 (by omega) HC.out.1).mono ?_
        rintro r w4 hout
        obtain ⟨A4, c4, rfl, hr4, hb4, -, -, -⟩ := row_ok hout HOK.out.2.1
        rw [HE.out.2.1] at hr4 ⊢
        rw [List.length_reverse, HXL.out]
        have HY4 := Lib.hid hr4
        have HB4 := Lib.hid (HB3.out.trans (hb4.mono HB3.out.size))
        have HX4 := Lib.hid ((HX3.out.below hb4).more hb4.size)
        have H24 := Lib.hid ((H23.out.below hb4).more hb4.size)
        clear hout hr4 hb4
        go_wp2_with fail
        refine (corder_any A2 c2 n Q w4 H24.out HLQ.out.2.2.2.1 (by omega) HC.out.2).mono ?_
        rintro r w5 hout
        obtain ⟨A5, c5, rfl, hr5, hb5, -, -, -⟩ := row_ok hout HOK.out.2.2
        rw [HE.out.2.2] at hr5 ⊢
        rw [HXL.out]
        have HZ5 := Lib.hid hr5
        have HB5 := Lib.hid (HB4.out.trans (hb5.mono HB4.out.size))
        have HX5 := Lib.hid ((HX4.out.below hb5).more hb5.size)
        have HY5 := Lib.hid ((HY4.out.below hb5).more hb5.size)
        clear hout hr5 hb5
        go_wp2_with fail
        go_loopw [12] (fun v wr => ∃ k : Nat, v = .int .i64 k ∧ k ≤ n ∧ Below w5.heap.size w5 wr) (fun v _ => n - (intOf v).toNat)
        case atStart => exact ⟨0, rfl, Nat.zero_le _, Below.refl _ _⟩
        case round =>
          obtain ⟨k, rfl, hk, hb⟩ := hrel
          rename World => ws
          have HB := Lib.hid hb
          have k0 : (0 : Int) ≤ k := by omega
          by_cases hlt : k < n
          · have k1 : (k : Int) < n := by omega
            obtain ⟨ad, x, rfl, hcx, hx, -⟩ := rd_at HX5.out hb (by rw [HXL.out]; omega : n - 1 - k < X.length)
            obtain ⟨ae, y, rfl, hcy, hy, -⟩ := rd_at HY5.out hb (by rw [List.length_reverse, HXL.out]; exact hlt : k < X.reverse.length)
            have hxy : y = x := by
              rw [List.getElem?_reverse (by rw [HXL.out]; omega), HXL.out, hx] at hy
              injection hy with hy
              exact hy.symm
            subst hxy
            obtain ⟨n1, hn1⟩ : ∃ n1 : Nat, n - 1 = n1 := ⟨_, rfl⟩
            obtain ⟨j, hj⟩ : ∃ j : Nat, n - 1 - k = j := ⟨_, rfl⟩
            rw [hj] at hcx
            have hw1 : IntKind.i64.wrap ((n : Int) - 1) = (n1 : Int) := by rw [IntKind.wrap_i64]; omega
            have hw2 : IntKind.i64.wrap ((n1 : Int) - k) = (j : Int) := by rw [IntKind.wrap_i64]; omega
            have j0 : (0 : Int) ≤ j := by omega
            have j1 : (j : Int) < n := by omega
            have xx : (y != y) = false := by simp
            have cx := fun d os => cell_regrown hcx d os
            have cy := fun d os => cell_regrown hcy d os
            clear hb hx hy hn1 hj
            go_wp2_with fail
            refine wp_region_quiet_below (by kernel_rfl) (by kernel_rfl) ?_
            repeat (go_big_quiet_step (fail))
            refine wpQuiet_nil ?_
            intro _ hw'
            obtain ⟨⟨dq, osq⟩, hw4⟩ := hw'
            subst hw4
            have hbg := below_regrown ws dq osq
            obtain ⟨Z, hZ⟩ : ∃ Z, Sort.grow (redrawn ws dq) osq = Z := ⟨_, rfl⟩
            rw [hZ] at hbg
            have HBX := Lib.hid (HB.out.trans (hbg.mono HB.out.size))
            dsimp only
            rw [hZ]
            clear hZ hbg hw1 hw2
            go_wp2_with fail
            go_roundw
            case rel => exact ⟨k + 1, by go_num, by omega, HBX.out⟩
            case measure => simp [intOf]; omega
          · have k1 : ¬ (k : Int) < n := by omega
            have hX6 := (HX5.out.below hb).more hb.size
            have hZ6 := (HZ5.out.below hb).more hb.size
            have HX6 := Lib.hid hX6
            have HZ6 := Lib.hid hZ6
            have HB6 := Lib.hid (HB5.out.trans (hb.mono HB5.out.size))
            clear hb hX6 hZ6
            go_wp2_with fail
            refine (alive_any _).mono ?_
            rintro r w7 ⟨rfl, hb7⟩
            have HB7 := Lib.hid (HB6.out.trans (hb7.mono HB6.out.size))
            have HX7 := Lib.hid ((HX6.out.below hb7).more hb7.size)
            have HZ7 := Lib.hid ((HZ6.out.below hb7).more hb7.size)
            clear hb7
            go_wp2_with fail
            refine (ints_same A3 A5 c3 c5 n X w7 HX7.out HZ7.out HXL.out (by omega)).mono ?_
            rintro r w8 ⟨rfl, hb8⟩
            have HB8 := Lib.hid (HB7.out.trans (hb8.mono HB7.out.size))
            clear hb8
            go_wp2_with fail
            go_ret
            exact ⟨rfl, HB8.out⟩
      · have heg : M.orE 81 (M.ordOk l) = 81 := by unfold M.orE; rw [if_neg hok]
        have HEG := Lib.hid heg
        clear heg hok
        go_wp2_with fail
        refine (corder_any A ca n l wr HRl.out HN.out (by omega) HCA.out).mono ?_
        rintro r w3 hout
        obtain ⟨A3, c3, rfl, -, hb3, -⟩ := row_out hout
        rw [HEG.out]
        have HB3 := Lib.hid (HB1.out.trans (hb3.mono HB1.out.size))
        clear hout hb3
        go_wp2_with fail
        refine (alive_any _).mono ?_
        rintro r w7 ⟨rfl, hb7⟩
        have HB7 := Lib.hid (HB3.out.trans (hb7.mono HB3.out.size))
        clear hb7
        go_wp2_with fail
        go_ret
        exact ⟨rfl, HB7.out⟩
theorem moreLaw_any (A : Option Addr) (ca n : Nat) (l : List Int) (w : World) (hr : RdS .i64 w w.heap.size A l) (hn : l.length = n) (hlo : ∀ x ∈ l, -9223372036854775808 ≤ x) (hca : n ≤ ca) (hm : ca ≤ maxLen) :
    Calls Try.prog 5 #[.slice A n ca] w fun r w' => r = .returned (.bool true) ∧ Below w.heap.size w w' := by
  by_cases h : n ≤ 200
  · exact moreShort_any A ca n l w hr hn hlo h hca
  · exact moreLong_any A ca n w (by omega) (by omega)
end Go.Proofs.Ytahjkndphkpieaa
