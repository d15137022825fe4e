/- The walk of stage 5's third law: it answers true. Conditions: the slice reads as a list of joins, within its capacity. -/
import Derived.Test.YtpnbkakilmigeaaAlive
import Derived.Test.YtpnbkakilmigeaaApart
namespace Go.Proofs.Ytpnbkakilmigeaa
open Go.RowKit

set_option maxRecDepth 100000 in
set_option maxHeartbeats 4000000 in
theorem cutNot_any (A : Option Addr) (ca n : Nat) (i : Int) (l : List Int) (w : World) (hr : RdS .i64 w w.heap.size A l) (hn : l.length = n) (hca : n ≤ ca) (hm : n ≤ maxLen) (hno : 120 < n ∨ i < 0 ∨ n < i ∨ M.brk l i = false) :
    Calls Try.prog 5 #[.slice A n ca, .int .i64 i] w fun r w' => r = .returned (.bool true) ∧ Below w.heap.size w w' := by
  unfold maxLen at hm
  have hm1 : (n : Int) ≤ 9223372036854775807 := by omega
  by_cases h120 : 120 < n
  · have h1 : (120 : Int) < n := by omega
    clear hno hr hn
    go_enter Try.func5, Try.ntmps5
    go_wp2_with fail
    refine (alive_any _).mono ?_
    rintro r w2 ⟨rfl, hb⟩
    have HB := Lib.hid hb
    clear hb
    go_wp2_with fail
    go_ret
    exact ⟨rfl, HB.out⟩
  · have h1 : (n : Int) ≤ 120 := by omega
    by_cases hi0 : i < 0
    · clear hno hr hn
      go_enter Try.func5, Try.ntmps5
      go_wp2_with fail
      refine (alive_any _).mono ?_
      rintro r w2 ⟨rfl, hb⟩
      have HB := Lib.hid hb
      clear hb
      go_wp2_with fail
      go_ret
      exact ⟨rfl, HB.out⟩
    · by_cases hin : (n : Int) < i
      · clear hno hr hn
        go_enter Try.func5, Try.ntmps5
        go_wp2_with fail
        refine (alive_any _).mono ?_
        rintro r w2 ⟨rfl, hb⟩
        have HB := Lib.hid hb
        clear hb
        go_wp2_with fail
        go_ret
        exact ⟨rfl, HB.out⟩
      · have hbr : M.brk l i = false := by
          rcases hno with h | h | h | h
          · omega
          · omega
          · omega
          · exact h
        have HBR := Lib.hid hbr
        have HC := Lib.hid (break_any A ca n l i w hr hn (by omega) hca)
        clear hno hr hn hbr
        go_enter Try.func5, Try.ntmps5
        go_wp2_with fail
        refine HC.out.mono ?_
        rintro r w1 ⟨rfl, hb1⟩
        rw [HBR.out]
        have HB1 := Lib.hid hb1
        clear hb1
        go_wp2_with fail
        refine (alive_any _).mono ?_
        rintro r w2 ⟨rfl, hb⟩
        have HB := Lib.hid (HB1.out.trans (hb.mono HB1.out.size))
        clear hb
        go_wp2_with fail
        go_ret
        exact ⟨rfl, HB.out⟩

set_option maxRecDepth 100000 in
set_option maxHeartbeats 4000000 in
theorem cutIn_any (ad : Addr) (ca n k : Nat) (l : List Int) (w : World) (hr : RdS .i64 w w.heap.size (some ad) l) (hn : l.length = n) (hl : n ≤ 120) (hn0 : 0 < n) (hca : n ≤ ca) (hcm : ca ≤ maxLen) (hk : k ≤ n) (hck : k < ca) (hbr : M.brk l k = true) :
    Calls Try.prog 5 #[.slice (some ad) n ca, .int .i64 k] w fun r w' => r = .returned (.bool true) ∧ Below w.heap.size w w' := by
  obtain ⟨i0, hi, hz0, hz1, hz2⟩ := info_parts Try.infoInt
  have h1 : (n : Int) ≤ 120 := by omega
  unfold maxLen at hcm
  have hc1 : (ca : Int) ≤ 9223372036854775807 := by omega
  have hnc : (n : Int) ≤ ca := by omega
  have k0 : (0 : Int) ≤ k := by omega
  have kn : (k : Int) ≤ n := by omega
  have kc : (k : Int) ≤ ca := by omega
  have e1 : ((n : Int) - k).toNat = n - k := by omega
  have e2 : ((ca : Int) - k).toNat = ca - k := by omega
  have hck1 : (ca == k) = false := by rw [beq_eq_false_iff_ne]; omega
  have hck2 : ¬ ca = k := by omega
  have hck3 : ¬ ca - k = 0 := by omega
  have HR := Lib.hid hr
  have HN := Lib.hid hn
  have HBR := Lib.hid hbr
  have hcut := M.starts_cut (by omega) hbr
  rw [hn] at hcut
  have HCUT := Lib.hid hcut
  clear hr hn hbr hcut
  go_enter Try.func5, Try.ntmps5
  go_wp2_with fail
  refine (break_any (some ad) ca n l k w HR.out HN.out (by omega) (by omega)).mono ?_
  rintro r w1 ⟨rfl, hb1⟩
  rw [HBR.out]
  have HB1 := Lib.hid hb1
  have HR1 := Lib.hid ((HR.out.below hb1).more hb1.size)
  clear hb1
  go_wp2_with fail
  refine (starts_row (some ad) ca k (l.take k) w1 (HR1.out.take k) (by have := HN.out; simp; omega) (by omega) (by omega)).mono ?_
  rintro r w2 ⟨v2, rfl, ho2, hb2⟩
  have HB2 := Lib.hid (HB1.out.trans (hb2.mono HB1.out.size))
  have HO2 := Lib.hid (own_base ho2 HB1.out.size)
  have HR2 := Lib.hid ((HR1.out.below hb2).more hb2.size)
  have hv2 := own_row ho2
  obtain ⟨m2, hm2⟩ : ∃ m, (M.startsTo (l.take k) k).length = m := ⟨_, rfl⟩
  have hm2l : m2 ≤ 120 := by rw [← hm2]; exact Nat.le_trans (M.startsTo_len _ _) (by omega)
  rw [hm2] at hv2
  obtain ⟨A2, c2, rfl, hA2⟩ := hv2
  have HM2 := Lib.hid hm2
  clear hb2 ho2 hm2 hA2
  go_wp2_with fail
  refine (starts_row (some (ad.add k)) (ca - k) (n - k) (l.drop k) w2 (HR2.out.drop k) (by have := HN.out; simp; omega) (by omega) (by omega)).mono ?_
  rintro r w3 ⟨v3, rfl, ho3, hb3⟩
  have HAP := Lib.hid (rows_apart HO2.out ho3 (Nat.le_refl _))
  obtain ⟨A3, c3, rfl, hr3, _, _, _⟩ := reads_own ho3
  have HB3 := Lib.hid (HB2.out.trans (hb3.mono HB2.out.size))
  have HO3 := Lib.hid (own_below HO2.out hb3)
  have HR3 := Lib.hid ((HR2.out.below hb3).more hb3.size)
  have HRS := Lib.hid hr3
  obtain ⟨s2, hs2⟩ : ∃ s, M.startsTo (l.drop k) (n - k) = s := ⟨_, rfl⟩
  have hs2l : s2.length ≤ 120 := by rw [← hs2]; exact Nat.le_trans (M.startsTo_len _ _) (by omega)
  have hs2b : ∀ (j : Nat) (y : Int), s2[j]? = some y → 0 ≤ y ∧ y ≤ 120 := fun j y hy => by
    rw [← hs2] at hy
    obtain ⟨q, h1, h2, _⟩ := (M.starts_mem _).1 (List.mem_of_getElem? hy)
    omega
  rw [hs2] at HRS ⊢
  obtain ⟨m3, hm3⟩ : ∃ m, s2.length = m := ⟨_, rfl⟩
  rw [hm3] at hs2l ⊢
  have HM3 := Lib.hid hm3
  have HS2 := Lib.hid hs2
  have HS2B := Lib.hid hs2b
  clear hr3 hb3 hs2 hs2b hm3 ho3
  go_wp2_with fail
  obtain ⟨s1, hs1⟩ : ∃ s, M.startsTo (l.take k) k = s := ⟨_, rfl⟩
  rw [hs1] at HO3
  have HS1 := Lib.hid hs1
  have HL1 := Lib.hid (show s1.length = m2 by rw [← hs1]; exact HM2.out)
  clear hs1
  go_loopw [5, 7] (fun s v wr => ∃ j : Nat, v = .int .i64 j ∧ j ≤ m3 ∧ wr.ownsRow w.heap.size 3 1 s (m2 + j) ((s1 ++ (s2.take j).map (fun x : Int => x + (k : Int))).map (Value.int .i64)) ∧ RdS .i64 wr w3.heap.size A3 s2 ∧ (∀ a3, A3 = some a3 → s.ownBlock ≠ some a3.block) ∧ w3.heap.size ≤ wr.heap.size ∧ Below w.heap.size w wr) (fun _ v _ => m3 - (intOf v).toNat)
  case atStart => exact ⟨0, rfl, Nat.zero_le _, by have := HO3.out; rw [HL1.out] at this; simpa using this, HRS.out, (fun a3 e => HAP.out _ (by rw [e]; rfl)), Nat.le_refl _, HB3.out⟩
  case round =>
    obtain ⟨j, rfl, hj, ho, hrs, hap, hws, hbw⟩ := hrel
    rename Value => s
    have HO := Lib.hid ho
    have HRJ := Lib.hid hrs
    have HAJ := Lib.hid hap
    have HBW := Lib.hid hbw
    have hm3 := HM3.out
    have hbs := hbw.size
    have j0 : (0 : Int) ≤ j := by omega
    by_cases hlt : j < m3
    · have j1 : (j : Int) < m3 := by omega
      obtain ⟨y, hy⟩ : ∃ y, s2[j]? = some y := ⟨_, List.getElem?_eq_getElem (by omega)⟩
      obtain ⟨ad3, rfl, hab, hcy⟩ := HRJ.out j y hy
      obtain ⟨y0, y1⟩ := HS2B.out j y hy
      have HNX := Lib.hid (show s1 ++ (s2.take j).map (fun x : Int => x + (k : Int)) ++ [y + (k : Int)] = s1 ++ (s2.take (j + 1)).map (fun x : Int => x + (k : Int)) by
        obtain ⟨g1, g2⟩ := List.getElem?_eq_some_iff.1 hy
        rw [List.take_succ_eq_append_getElem g1, g2, List.map_append, List.append_assoc]
        rfl)
      have HLN := Lib.hid (show (s1 ++ (s2.take j).map (fun x : Int => x + (k : Int))).length = m2 + j by rw [List.length_append, List.length_map, HL1.out, List.length_take]; omega)
      clear ho hrs hap hbw hy hm3
      go_wp2_with (at_builtin; refine wpList_append_lies _ rfl _ _ 24 rfl w.heap.size 3 i0 (.int .i64 0) 1 8 Try.underlying24 hi hz0 hz1 hz2 rfl (by decide) _ _ _ rfl (World.ownsRow.alloc HO.out _) ⟨wr.heap.size, 0, none⟩ 1 1 [.int .i64 (y + (k : Int))] rfl rfl (one_new _ _ _) one_cell (by omega) (by unfold maxLen; omega) (by omega) (by simp; omega) (wr.heap.size + 1) (by simp) ?_)
      intro g4 cap4 w4 ho4 hg4 hat4 hlt4
      have hb4 : Below w.heap.size w w4 := grow_below0 (HBW.out.alloc hbs _) (World.ownsRow.alloc HO.out _) hg4 (by simp; omega)
      have HR4 := Lib.hid ((HRJ.out.keep (fun p hp => World.cell?_alloc_lt wr _ p (by omega))).grown hg4 (fun a3 e => HAJ.out a3 e))
      have HA4 := Lib.hid (show ∀ a3, some ad3 = some a3 → (Value.slice (some ⟨g4, 0, none⟩) (m2 + (j + 1)) cap4).ownBlock ≠ some a3.block from fun a3 e hv => by
        have hg : g4 = a3.block := by simpa [Value.ownBlock] using hv
        rcases hat4 with h | h
        · exact HAJ.out a3 e (by rw [h, hg])
        · injection e with e
          subst e
          omega)
      have hw4 : w3.heap.size ≤ w4.heap.size := Nat.le_trans hws (by have := hg4.size; simp at this; omega)
      have HO4 := Lib.hid (show w4.ownsRow w.heap.size 3 1 (.slice (some ⟨g4, 0, none⟩) (m2 + (j + 1)) cap4) (m2 + (j + 1)) ((s1 ++ (s2.take (j + 1)).map (fun x : Int => x + (k : Int))).map (Value.int .i64)) by rw [← HNX.out]; simpa [Nat.add_assoc] using ho4)
      have HB4 := Lib.hid hb4
      clear ho4 hg4 hb4 hat4 hlt4 hcy
      go_wp2_with fail
      go_roundw
      case rel => exact ⟨j + 1, by go_num, by omega, HO4.out, HR4.out, HA4.out, hw4, HB4.out⟩
      case measure => simp [intOf]; omega
    · obtain rfl : j = m3 := by omega
      have hall : s1 ++ (s2.take j).map (fun x : Int => x + (k : Int)) = M.startsTo l n := by
        rw [HCUT.out, HS1.out, HS2.out, List.take_of_length_le (by omega)]
      rw [hall] at ho
      have htl : (M.startsTo l n).length = m2 + j := by rw [← hall, List.length_append, List.length_map, HL1.out, List.length_take]; omega
      rw [← htl] at ho
      obtain ⟨A5, c5, rfl, hr5, _, _, _⟩ := reads_own ho
      obtain ⟨m5, hm5⟩ : ∃ m, (M.startsTo l n).length = m := ⟨_, rfl⟩
      have hm5l : m5 ≤ 120 := by rw [← hm5]; exact Nat.le_trans (M.startsTo_len _ _) (by omega)
      rw [hm5]
      have HM5 := Lib.hid hm5
      have HR5 := Lib.hid hr5
      have HRL := Lib.hid ((HR.out.below hbw).more hbw.size)
      clear ho hrs hap hbw hm3 hall htl hr5 hm5
      go_wp2_with fail
      refine (alive_any _).mono ?_
      rintro r w6 ⟨rfl, hb6⟩
      have HR6 := Lib.hid ((HR5.out.below hb6).more hb6.size)
      have HRL6 := Lib.hid ((HRL.out.below hb6).more hb6.size)
      have HB6 := Lib.hid (HBW.out.trans (hb6.mono HBW.out.size))
      clear hb6
      go_wp2_with fail
      refine (starts_any (some ad) ca n l w6 HRL6.out HN.out (by omega) (by omega)).mono ?_
      rintro r w7 ⟨A7, c7, rfl, hr7, _, _, _, hb7⟩
      rw [HM5.out]
      have HR7 := Lib.hid hr7
      have HR67 := Lib.hid ((HR6.out.below hb7).more hb7.size)
      have HB7 := Lib.hid (HB6.out.trans (hb7.mono HB6.out.size))
      clear hr7 hb7
      go_wp2_with fail
      refine (ints_same A5 A7 c5 c7 m5 _ w7 HR67.out HR7.out HM5.out (by omega)).mono ?_
      rintro r w8 ⟨rfl, hb8⟩
      have HB8 := Lib.hid (HB7.out.trans (hb8.mono HB7.out.size))
      clear hb8
      go_wp2_with fail
      go_ret
      exact ⟨rfl, HB8.out⟩

set_option maxRecDepth 100000 in
set_option maxHeartbeats 4000000 in
theorem cutEnd_any (ad : Addr) (n : Nat) (l : List Int) (w : World) (hr : RdS .i64 w w.heap.size (some ad) l) (hn : l.length = n) (hl : n ≤ 120) (hn0 : 0 < n) (hbr : M.brk l n = true) :
    Calls Try.prog 5 #[.slice (some ad) n n, .int .i64 n] w fun r w' => r = .returned (.bool true) ∧ Below w.heap.size w w' := by
  obtain ⟨i0, hi, hz0, hz1, hz2⟩ := info_parts Try.infoInt
  have h1 : (n : Int) ≤ 120 := by omega
  have k0 : (0 : Int) ≤ n := by omega
  have HR := Lib.hid hr
  have HN := Lib.hid hn
  have HBR := Lib.hid hbr
  have hcut := M.starts_cut (by omega) hbr
  rw [hn] at hcut
  have HCUT := Lib.hid hcut
  clear hr hn hbr hcut
  go_enter Try.func5, Try.ntmps5
  go_wp2_with fail
  refine (break_any (some ad) n n l n w HR.out HN.out (by omega) (by omega)).mono ?_
  rintro r w1 ⟨rfl, hb1⟩
  rw [HBR.out]
  have HB1 := Lib.hid hb1
  have HR1 := Lib.hid ((HR.out.below hb1).more hb1.size)
  clear hb1
  go_wp2_with fail
  refine (starts_row (some ad) n n (l.take n) w1 (HR1.out.take n) (by have := HN.out; simp; omega) (by omega) (by omega)).mono ?_
  rintro r w2 ⟨v2, rfl, ho2, hb2⟩
  have HB2 := Lib.hid (HB1.out.trans (hb2.mono HB1.out.size))
  have HO2 := Lib.hid (own_base ho2 HB1.out.size)
  have HR2 := Lib.hid ((HR1.out.below hb2).more hb2.size)
  have hv2 := own_row ho2
  obtain ⟨m2, hm2⟩ : ∃ m, (M.startsTo (l.take n) n).length = m := ⟨_, rfl⟩
  have hm2l : m2 ≤ 120 := by rw [← hm2]; exact Nat.le_trans (M.startsTo_len _ _) (by omega)
  rw [hm2] at hv2
  obtain ⟨A2, c2, rfl, hA2⟩ := hv2
  have HM2 := Lib.hid hm2
  clear hb2 ho2 hm2 hA2
  go_wp2_with fail
  refine (starts_row (some ad) (0) (0) (l.drop n) w2 (by rw [List.drop_of_length_le (by have := HN.out; omega)]; exact RdS.nil) (by have := HN.out; simp; omega) (by omega) (by omega)).mono ?_
  rintro r w3 ⟨v3, rfl, ho3, hb3⟩
  have HAP := Lib.hid (rows_apart HO2.out ho3 (Nat.le_refl _))
  obtain ⟨A3, c3, rfl, hr3, _, _, _⟩ := reads_own ho3
  have HB3 := Lib.hid (HB2.out.trans (hb3.mono HB2.out.size))
  have HO3 := Lib.hid (own_below HO2.out hb3)
  have HR3 := Lib.hid ((HR2.out.below hb3).more hb3.size)
  have HRS := Lib.hid hr3
  obtain ⟨s2, hs2⟩ : ∃ s, M.startsTo (l.drop n) (0) = s := ⟨_, rfl⟩
  have hs2l : s2.length ≤ 120 := by rw [← hs2]; exact Nat.le_trans (M.startsTo_len _ _) (by omega)
  have hs2b : ∀ (j : Nat) (y : Int), s2[j]? = some y → 0 ≤ y ∧ y ≤ 120 := fun j y hy => by
    rw [← hs2] at hy
    obtain ⟨q, h1, h2, _⟩ := (M.starts_mem _).1 (List.mem_of_getElem? hy)
    omega
  rw [hs2] at HRS ⊢
  obtain ⟨m3, hm3⟩ : ∃ m, s2.length = m := ⟨_, rfl⟩
  rw [hm3] at hs2l ⊢
  have HM3 := Lib.hid hm3
  have HS2 := Lib.hid hs2
  have HS2B := Lib.hid hs2b
  clear hr3 hb3 hs2 hs2b hm3 ho3
  go_wp2_with fail
  obtain ⟨s1, hs1⟩ : ∃ s, M.startsTo (l.take n) n = s := ⟨_, rfl⟩
  rw [hs1] at HO3
  have HS1 := Lib.hid hs1
  have HL1 := Lib.hid (show s1.length = m2 by rw [← hs1]; exact HM2.out)
  clear hs1
  go_loopw [5, 7] (fun s v wr => ∃ j : Nat, v = .int .i64 j ∧ j ≤ m3 ∧ wr.ownsRow w.heap.size 3 1 s (m2 + j) ((s1 ++ (s2.take j).map (fun x : Int => x + (n : Int))).map (Value.int .i64)) ∧ RdS .i64 wr w3.heap.size A3 s2 ∧ (∀ a3, A3 = some a3 → s.ownBlock ≠ some a3.block) ∧ w3.heap.size ≤ wr.heap.size ∧ Below w.heap.size w wr) (fun _ v _ => m3 - (intOf v).toNat)
  case atStart => exact ⟨0, rfl, Nat.zero_le _, by have := HO3.out; rw [HL1.out] at this; simpa using this, HRS.out, (fun a3 e => HAP.out _ (by rw [e]; rfl)), Nat.le_refl _, HB3.out⟩
  case round =>
    obtain ⟨j, rfl, hj, ho, hrs, hap, hws, hbw⟩ := hrel
    rename Value => s
    have HO := Lib.hid ho
    have HRJ := Lib.hid hrs
    have HAJ := Lib.hid hap
    have HBW := Lib.hid hbw
    have hm3 := HM3.out
    have hbs := hbw.size
    have j0 : (0 : Int) ≤ j := by omega
    by_cases hlt : j < m3
    · have j1 : (j : Int) < m3 := by omega
      obtain ⟨y, hy⟩ : ∃ y, s2[j]? = some y := ⟨_, List.getElem?_eq_getElem (by omega)⟩
      obtain ⟨ad3, rfl, hab, hcy⟩ := HRJ.out j y hy
      obtain ⟨y0, y1⟩ := HS2B.out j y hy
      have HNX := Lib.hid (show s1 ++ (s2.take j).map (fun x : Int => x + (n : Int)) ++ [y + (n : Int)] = s1 ++ (s2.take (j + 1)).map (fun x : Int => x + (n : Int)) by
        obtain ⟨g1, g2⟩ := List.getElem?_eq_some_iff.1 hy
        rw [List.take_succ_eq_append_getElem g1, g2, List.map_append, List.append_assoc]
        rfl)
      have HLN := Lib.hid (show (s1 ++ (s2.take j).map (fun x : Int => x + (n : Int))).length = m2 + j by rw [List.length_append, List.length_map, HL1.out, List.length_take]; omega)
      clear ho hrs hap hbw hy hm3
      go_wp2_with (at_builtin; refine wpList_append_lies _ rfl _ _ 24 rfl w.heap.size 3 i0 (.int .i64 0) 1 8 Try.underlying24 hi hz0 hz1 hz2 rfl (by decide) _ _ _ rfl (World.ownsRow.alloc HO.out _) ⟨wr.heap.size, 0, none⟩ 1 1 [.int .i64 (y + (n : Int))] rfl rfl (one_new _ _ _) one_cell (by omega) (by unfold maxLen; omega) (by omega) (by simp; omega) (wr.heap.size + 1) (by simp) ?_)
      intro g4 cap4 w4 ho4 hg4 hat4 hlt4
      have hb4 : Below w.heap.size w w4 := grow_below0 (HBW.out.alloc hbs _) (World.ownsRow.alloc HO.out _) hg4 (by simp; omega)
      have HR4 := Lib.hid ((HRJ.out.keep (fun p hp => World.cell?_alloc_lt wr _ p (by omega))).grown hg4 (fun a3 e => HAJ.out a3 e))
      have HA4 := Lib.hid (show ∀ a3, some ad3 = some a3 → (Value.slice (some ⟨g4, 0, none⟩) (m2 + (j + 1)) cap4).ownBlock ≠ some a3.block from fun a3 e hv => by
        have hg : g4 = a3.block := by simpa [Value.ownBlock] using hv
        rcases hat4 with h | h
        · exact HAJ.out a3 e (by rw [h, hg])
        · injection e with e
          subst e
          omega)
      have hw4 : w3.heap.size ≤ w4.heap.size := Nat.le_trans hws (by have := hg4.size; simp at this; omega)
      have HO4 := Lib.hid (show w4.ownsRow w.heap.size 3 1 (.slice (some ⟨g4, 0, none⟩) (m2 + (j + 1)) cap4) (m2 + (j + 1)) ((s1 ++ (s2.take (j + 1)).map (fun x : Int => x + (n : Int))).map (Value.int .i64)) by rw [← HNX.out]; simpa [Nat.add_assoc] using ho4)
      have HB4 := Lib.hid hb4
      clear ho4 hg4 hb4 hat4 hlt4 hcy
      go_wp2_with fail
      go_roundw
      case rel => exact ⟨j + 1, by go_num, by omega, HO4.out, HR4.out, HA4.out, hw4, HB4.out⟩
      case measure => simp [intOf]; omega
    · obtain rfl : j = m3 := by omega
      have hall : s1 ++ (s2.take j).map (fun x : Int => x + (n : Int)) = M.startsTo l n := by
        rw [HCUT.out, HS1.out, Nat.sub_self, HS2.out, List.take_of_length_le (by omega)]
      rw [hall] at ho
      have htl : (M.startsTo l n).length = m2 + j := by rw [← hall, List.length_append, List.length_map, HL1.out, List.length_take]; omega
      rw [← htl] at ho
      obtain ⟨A5, c5, rfl, hr5, _, _, _⟩ := reads_own ho
      obtain ⟨m5, hm5⟩ : ∃ m, (M.startsTo l n).length = m := ⟨_, rfl⟩
      have hm5l : m5 ≤ 120 := by rw [← hm5]; exact Nat.le_trans (M.startsTo_len _ _) (by omega)
      rw [hm5]
      have HM5 := Lib.hid hm5
      have HR5 := Lib.hid hr5
      have HRL := Lib.hid ((HR.out.below hbw).more hbw.size)
      clear ho hrs hap hbw hm3 hall htl hr5 hm5
      go_wp2_with fail
      refine (alive_any _).mono ?_
      rintro r w6 ⟨rfl, hb6⟩
      have HR6 := Lib.hid ((HR5.out.below hb6).more hb6.size)
      have HRL6 := Lib.hid ((HRL.out.below hb6).more hb6.size)
      have HB6 := Lib.hid (HBW.out.trans (hb6.mono HBW.out.size))
      clear hb6
      go_wp2_with fail
      refine (starts_any (some ad) n n l w6 HRL6.out HN.out (by omega) (by omega)).mono ?_
      rintro r w7 ⟨A7, c7, rfl, hr7, _, _, _, hb7⟩
      rw [HM5.out]
      have HR7 := Lib.hid hr7
      have HR67 := Lib.hid ((HR6.out.below hb7).more hb7.size)
      have HB7 := Lib.hid (HB6.out.trans (hb7.mono HB6.out.size))
      clear hr7 hb7
      go_wp2_with fail
      refine (ints_same A5 A7 c5 c7 m5 _ w7 HR67.out HR7.out HM5.out (by omega)).mono ?_
      rintro r w8 ⟨rfl, hb8⟩
      have HB8 := Lib.hid (HB7.out.trans (hb8.mono HB7.out.size))
      clear hb8
      go_wp2_with fail
      go_ret
      exact ⟨rfl, HB8.out⟩

theorem cutLaw_any (A : Option Addr) (ca n : Nat) (i : Int) (l : List Int) (w : World) (hr : RdS .i64 w w.heap.size A l) (hn : l.length = n) (hca : n ≤ ca) (hcm : ca ≤ maxLen) :
    Calls Try.prog 5 #[.slice A n ca, .int .i64 i] w fun r w' => r = .returned (.bool true) ∧ Below w.heap.size w w' := by
  by_cases h : 120 < n ∨ i < 0 ∨ n < i ∨ M.brk l i = false
  · exact cutNot_any A ca n i l w hr hn hca (Nat.le_trans hca hcm) h
  · obtain ⟨k, rfl⟩ := Int.eq_ofNat_of_zero_le (show 0 ≤ i by omega)
    have hbr : M.brk l k = true := by
      cases hb : M.brk l k with
      | true => rfl
      | false => exact absurd (.inr (.inr (.inr hb))) h
    have hn0 : 0 < n := by
      rcases Nat.eq_zero_or_pos n with hz | hz
      · unfold M.brk at hbr
        rw [if_pos (.inr (.inr (by omega)))] at hbr
        cases hbr
      · exact hz
    obtain ⟨ad, x, rfl, _, _, _⟩ := rd_at hr (Below.refl _ _) (by omega : 0 < l.length)
    rcases Nat.lt_or_ge k ca with hk | hk
    · exact cutIn_any ad ca n k l w hr hn (by omega) hn0 hca hcm (by omega) hk hbr
    · obtain rfl : k = n := by omega
      obtain rfl : ca = k := by omega
      exact cutEnd_any ad ca l w hr hn (by omega) hn0 hbr
end Go.Proofs.Ytpnbkakilmigeaa
