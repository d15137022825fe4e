/- The walk of ReorderJoins: it answers true. Conditions: the slice reads as a list of whole numbers, within its capacity, and takes at most 2^47 bytes. -/
import Derived.Test.YtahjkndphkpieaaAlive
import Derived.Test.YtahjkndphkpieaaTwAt
namespace Go.Proofs.Ytahjkndphkpieaa
open Go.RowKit
set_option maxRecDepth 100000

theorem add_blk (ad : Addr) (j : Nat) : (ad.add j).block = ad.block := by unfold Addr.add; split <;> rfl
theorem hr_lt {w : World} {B : Nat} {ad : Addr} {l : List Int} {j : Nat} {x : Int} (h : RdS .i64 w B (some ad) l) (hx : l[j]? = some x) : (ad.add j).block < B := by
  obtain ⟨ad', hA, hlt, -⟩ := h j x hx
  injection hA with hA
  subst hA
  rw [add_blk]
  exact hlt
set_option maxHeartbeats 16000000 in
theorem joinsOther_any (A : Option Addr) (ca n : Nat) (l : List Int) (i : Int) (w : World) (hr : RdS .i64 w w.heap.size A l) (hn : l.length = n) (hl8 : n * 8 ≤ 140737488351232) (hca : n ≤ ca)
    (h : 200 < n ∨ ¬ M.ordOk l ∨ i < 1 ∨ (n : Int) ≤ i ∨ ∃ j k : Nat, i = k ∧ k = j + 1 ∧ k < n ∧ M.lev l j ≠ 0 ∧ M.lev l k ≠ 0) :
    Calls Try.prog 6 #[.slice A n ca, .int .i64 i] w fun r w' => r = .returned (.bool true) ∧ Below w.heap.size w w' := by
  have HO := Lib.hid (corder_any A ca n l w hr hn hl8 hca)
  have HR := Lib.hid hr
  have HN := Lib.hid hn
  have hl1 : (n : Int) ≤ 17592186043904 := by omega
  obtain ⟨eg, heg⟩ : ∃ e, M.orE 81 (M.ordOk l) = e := ⟨_, rfl⟩
  have HEG := Lib.hid heg
  have hno : ¬ M.ordOk l → (eg != 0) = true := fun h => by
    rw [← heg]
    unfold M.orE
    rw [if_neg h]
    rfl
  have hyes : M.ordOk l → (eg != 0) = false := fun h => by
    rw [← heg]
    unfold M.orE
    rw [if_pos h]
    rfl
  have hc : (200 : Int) < n ∨ (¬ (200 : Int) < n ∧ i < 1) ∨ (¬ (200 : Int) < n ∧ ¬ i < 1 ∧ (n : Int) ≤ i) ∨ (¬ (200 : Int) < n ∧ ¬ i < 1 ∧ ¬ (n : Int) ≤ i ∧ (eg != 0) = true) ∨
      (¬ (200 : Int) < n ∧ ¬ i < 1 ∧ ¬ (n : Int) ≤ i ∧ (eg != 0) = false ∧ ∃ j k : Nat, i = k ∧ k = j + 1 ∧ k < n ∧ M.lev l j ≠ 0 ∧ M.lev l k ≠ 0) := by
    by_cases g1 : 200 < n
    · exact .inl (by omega)
    · by_cases g2 : i < 1
      · exact .inr (.inl ⟨by omega, g2⟩)
      · by_cases g3 : (n : Int) ≤ i
        · exact .inr (.inr (.inl ⟨by omega, g2, g3⟩))
        · by_cases g4 : M.ordOk l
          · exact .inr (.inr (.inr (.inr ⟨by omega, g2, g3, hyes g4, (((h.resolve_left g1).resolve_left (fun h => h g4)).resolve_left g2).resolve_left g3⟩)))
          · exact .inr (.inr (.inr (.inl ⟨by omega, g2, g3, hno g4⟩)))
  clear h hno hyes heg hr hn hca hl8
  rcases hc with b1 | ⟨b1, b2⟩ | ⟨b1, b2, b3⟩ | ⟨b1, b2, b3, b4⟩ | ⟨b1, b2, b3, b4, j, k, rfl, hkj, hkn, hu, hv⟩
  iterate 4
    · go_enter Try.func6, Try.ntmps6
      go_wp2_with fail
      refine HO.out.mono ?_
      rintro r w2 hout
      obtain ⟨A2, c2, rfl, -, hb2, -⟩ := row_out hout
      rw [HEG.out]
      have HB2 := Lib.hid hb2
      clear hout hb2
      go_wp2_with fail
      refine (alive_any _).mono ?_
      rintro r w6 ⟨rfl, hb6⟩
      have HB6 := Lib.hid (HB2.out.trans (hb6.mono HB2.out.size))
      clear hb6
      go_wp2_with fail
      go_ret
      exact ⟨rfl, HB6.out⟩
  · obtain ⟨ad, u, rfl, hcu, hxu, -⟩ := rd_at HR.out (Below.refl _ _) (by rw [HN.out]; omega : j < l.length)
    obtain ⟨ad', v, hA, hcv, hxv, -⟩ := rd_at HR.out (Below.refl _ _) (by rw [HN.out]; exact hkn : k < l.length)
    injection hA with hA
    subst hA
    unfold M.lev at hu hv
    rw [List.getD_eq_getElem?_getD, hxu] at hu
    rw [List.getD_eq_getElem?_getD, hxv] at hv
    have bu : (u != 0) = true := by simpa using hu
    have bv : (v != 0) = true := by simpa using hv
    have hk1 : (k : Int) - 1 = j := by omega
    have j0 : (0 : Int) ≤ j := by omega
    have j1 : (j : Int) < n := by omega
    have k0 : (0 : Int) ≤ k := by omega
    have k1 : (k : Int) < n := by omega
    have HCU := Lib.hid (And.intro hcu hcv)
    have HLT := Lib.hid (hr_lt HR.out hxu)
    have HLV := Lib.hid (hr_lt HR.out hxv)
    clear hu hv hxu hxv hkj hkn hcu hcv
    go_enter Try.func6, Try.ntmps6
    go_wp2_with fail
    refine HO.out.mono ?_
    rintro r w2 hout
    obtain ⟨A2, c2, rfl, -, hb2, -⟩ := row_out hout
    rw [HEG.out]
    have HB2 := Lib.hid hb2
    have hcu := (hb2.cell HLT.out).trans HCU.out.1
    have hcv := (hb2.cell HLV.out).trans HCU.out.2
    clear hout hb2
    go_wp2_with fail
    refine (alive_any _).mono ?_
    rintro r w6 ⟨rfl, hb6⟩
    have HB6 := Lib.hid (HB2.out.trans (hb6.mono HB2.out.size))
    clear hb6
    go_wp2_with fail
    go_ret
    exact ⟨rfl, HB6.out⟩
set_option maxHeartbeats 16000000 in
theorem joinsIn_any (ad : Addr) (ca n j k : Nat) (l : List Int) (w : World) (hr : RdS .i64 w w.heap.size (some ad) l) (hn : l.length = n) (hca : n ≤ ca) (hn2 : n ≤ 200) (hok : M.ordOk l) (hkj : k = j + 1) (hkn : k < n) (hz : M.lev l j = 0 ∨ M.lev l k = 0) :
    Calls Try.prog 6 #[.slice (some ad) n ca, .int .i64 k] w fun r w' => r = .returned (.bool true) ∧ Below w.heap.size w w' := by
  obtain ⟨i0, hi, hz0, hz1, hz2⟩ := info_parts Try.infoInt2
  have HO := Lib.hid (corder_any (some ad) ca n l w hr hn (by omega) hca)
  have HR := Lib.hid hr
  have HN := Lib.hid hn
  have hta : (l.take k).length = k := by rw [List.length_take]; omega
  have hdb : (l.drop k).length = n - k := by rw [List.length_drop]; omega
  have HTA := Lib.hid (And.intro hta hdb)
  have hlj : M.lev (l.take k) j = M.lev l j := by
    unfold M.lev
    rw [List.getD_eq_getElem?_getD, List.getD_eq_getElem?_getD, List.getElem?_take, if_pos (by omega)]
  have hlk : M.lev (l.drop k) 0 = M.lev l k := by
    unfold M.lev
    rw [List.getD_eq_getElem?_getD, List.getD_eq_getElem?_getD, List.getElem?_drop, Nat.add_zero]
  have hjo := M.ints_joins (a := l.take k) (b := l.drop k) (fun q hq => by
    obtain rfl : q = j := by rw [hta] at hq; omega
    rw [hlj, hlk]
    rcases hz with h | h
    · exact .inl (by omega)
    · exact .inr (by omega)) (by intro e; rw [e] at hta; simp at hta; omega) (by intro e; rw [e] at hdb; simp at hdb; omega)
  rw [List.take_append_drop, hta] at hjo
  obtain ⟨X, hX⟩ : ∃ X, M.ints (M.order l) = X := ⟨_, rfl⟩
  obtain ⟨Y, hY⟩ : ∃ Y, M.ints (M.order (l.take k)) = Y := ⟨_, rfl⟩
  obtain ⟨Z, hZ⟩ : ∃ Z, M.ints (M.order (l.drop k)) = Z := ⟨_, rfl⟩
  rw [hX, hY, hZ] at hjo
  have hXl : X.length = n := by rw [← hX, M.ints_len, M.order_len, hn]
  have hYl : Y.length = k := by rw [← hY, M.ints_len, M.order_len, hta]
  have hZl : Z.length = n - k := by rw [← hZ, M.ints_len, M.order_len, hdb]
  have hZr : ∀ x ∈ Z, 0 ≤ x ∧ x < 200 := fun x hx => by
    rw [← hZ] at hx
    have := (M.order_isOrd (l := l.drop k)).1 x hx
    rw [M.ints_len, M.order_len, hdb] at this
    omega
  have HX := Lib.hid (And.intro hX hXl)
  have HY := Lib.hid (And.intro hY hYl)
  have HZ := Lib.hid (And.intro hZ (And.intro hZl hZr))
  have HJO := Lib.hid hjo
  have HOK := Lib.hid (show M.ordOk l ∧ M.ordOk (l.take k) ∧ M.ordOk (l.drop k) from ⟨hok, fun x hx => hok x (List.mem_of_mem_take hx), fun x hx => hok x (List.mem_of_mem_drop hx)⟩)
  obtain ⟨ad1, u, hA1, hcu, hxu, -⟩ := rd_at hr (Below.refl _ _) (by rw [hn]; omega : j < l.length)
  injection hA1 with hA1
  subst hA1
  obtain ⟨ad2, v, hA2, hcv, hxv, -⟩ := rd_at hr (Below.refl _ _) (by rw [hn]; exact hkn : k < l.length)
  injection hA2 with hA2
  subst hA2
  unfold M.lev at hz
  rw [List.getD_eq_getElem?_getD, List.getD_eq_getElem?_getD, hxu, hxv] at hz
  have hzz : (u != 0) = false ∨ ((u != 0) = true ∧ (v != 0) = false) := by
    by_cases h : u = 0
    · exact .inl (by simp [h])
    · exact .inr ⟨by simp [h], by rcases hz with h1 | h1
                                  · exact absurd h1 h
                                  · have : v = 0 := h1
                                    simp [this]⟩
  have HCU := Lib.hid (And.intro hcu hcv)
  have HLT := Lib.hid (hr_lt hr hxu)
  have HLV := Lib.hid (hr_lt hr hxv)
  have HRT := Lib.hid (show RdS .i64 w w.heap.size (some ad) (l.take k) from fun q x hx => hr q x (by
    rw [List.getElem?_take] at hx
    split at hx
    · exact hx
    · cases hx))
  have HRD := Lib.hid (show RdS .i64 w w.heap.size (some (ad.add k)) (l.drop k) from fun q x hx => by
    rw [List.getElem?_drop] at hx
    obtain ⟨ad', hA, hlt, hc⟩ := hr _ x hx
    injection hA with hA
    subst hA
    exact ⟨_, rfl, by rw [add_blk]; exact hlt, by rw [addr_add_add]; exact hc⟩)
  have hk1 : (k : Int) - 1 = j := by omega
  have j0 : (0 : Int) ≤ j := by omega
  have j1 : (j : Int) < n := by omega
  have k0 : (0 : Int) ≤ k := by omega
  have k1 : (k : Int) < n := by omega
  have i1 : ¬ (k : Int) < 1 := by omega
  have i2 : ¬ (n : Int) ≤ k := by omega
  have n2 : ¬ (200 : Int) < n := by omega
  have n2' : (n : Int) ≤ 200 := by omega
  have kc : (k : Int) ≤ ca := by omega
  have kn : (k : Int) ≤ n := by omega
  have nc : (n : Int) ≤ ca := by omega
  have kca : k ≤ ca := by omega
  have knca : n - k ≤ ca - k := by omega
  have kne : ca ≠ k := by omega
  have kne2 : k ≠ ca := by omega
  clear hr hn hta hdb hlj hlk hjo hX hY hZ hXl hYl hZl hZr hok hxu hxv hz hcu hcv hkj hca
  rcases hzz with bu | ⟨bu, bv⟩
  all_goals
    go_enter Try.func6, Try.ntmps6
    go_wp2_with fail
    refine HO.out.mono ?_
    rintro r w1 hout
    obtain ⟨A1, c1, rfl, hr1, hb1, -, -, -⟩ := row_ok hout HOK.out.1
    rw [HX.out.1] at hr1 ⊢
    rw [HX.out.2]
    have hcu := (hb1.cell HLT.out).trans HCU.out.1
    have hcv := (hb1.cell HLV.out).trans HCU.out.2
    have HX1 := Lib.hid hr1
    have HB1 := Lib.hid hb1
    have HRT1 := Lib.hid ((HRT.out.below hb1).more hb1.size)
    have HRD1 := Lib.hid ((HRD.out.below hb1).more hb1.size)
    clear hout hr1 hb1
    go_wp2_with fail
    refine (corder_any (some ad) ca k (l.take k) w1 HRT1.out HTA.out.1 (by omega) kca).mono ?_
    rintro r w2 hout
    obtain ⟨A2, c2, rfl, -, hb2, -, ho2, -⟩ := row_ok hout HOK.out.2.1
    rw [HY.out.1] at ho2 ⊢
    rw [HY.out.2] at ho2 ⊢
    have HY2 := Lib.hid ho2
    have HB2 := Lib.hid hb2
    have HRD2 := Lib.hid ((HRD1.out.below hb2).more hb2.size)
    clear hout hb2 ho2 hcu hcv
    go_wp2_with fail
    refine (corder_any (some (ad.add k)) (ca - k) (n - k) (l.drop k) w2 HRD2.out HTA.out.2 (by omega) knca).mono ?_
    rintro r w3 hout
    obtain ⟨A3, c3, rfl, -, hb3, -, ho3, -⟩ := row_ok hout HOK.out.2.2
    rw [HZ.out.1] at ho3 ⊢
    rw [HZ.out.2.1] at ho3 ⊢
    obtain ⟨m, hm⟩ : ∃ m, n - k = m := ⟨_, rfl⟩
    rw [hm] at ho3 ⊢
    have hap := rows_apart HY2.out ho3 (Nat.le_refl _)
    have htw : TwAt w1.heap.size w1 w3 (.slice A2 k c2) (.slice A3 m c3) Y Z :=
      ⟨HB2.out.trans (hb3.mono HB2.out.size), by rw [HY.out.2]; exact own_below HY2.out hb3, by rw [HZ.out.2.1, hm]; exact own_base ho3 HB2.out.size, fun b hb e => hap b e hb⟩
    have HTW := Lib.hid htw
    have HM := Lib.hid (show n - k = m ∧ m ≤ 200 by omega)
    have m2 : (m : Int) ≤ 200 := by omega
    clear hout hb3 ho3 hap htw hm
    go_wp2_with fail
    go_loopw [7, 11] (fun vy v wr => ∃ (q : Nat) (L : List Int), v = .int .i64 q ∧ q ≤ m ∧ L = Y ++ (Z.take q).map (· + (k : Int)) ∧ TwAt w1.heap.size w1 wr vy (.slice A3 m c3) L Z) (fun _ v _ => m - (intOf v).toNat)
    case atStart => exact ⟨0, Y, rfl, Nat.zero_le _, by simp, HTW.out⟩
    case round =>
      obtain ⟨q, L, rfl, hq, hL, htw⟩ := hrel
      rename World => wr
      have HT := Lib.hid htw
      have q0 : (0 : Int) ≤ q := by omega
      have hsz := htw.below.size
      have hLl : L.length = k + q := by rw [hL, List.length_append, List.length_map, List.length_take, HY.out.2, HZ.out.2.1, HM.out.1]; omega
      by_cases hlt : q < m
      · have q1 : (q : Int) < m := by omega
        obtain ⟨A4, c4, hv, hr4, -, -, -⟩ := reads_own htw.rm
        injection hv with hv1 hv2 hv3
        subst hv1
        subst hv3
        obtain ⟨ae, x, rfl, hcx, hx, -⟩ := rd_at hr4 (Below.refl _ _) (by rw [HZ.out.2.1, HM.out.1]; exact hlt : q < Z.length)
        have hxr := HZ.out.2.2 x (List.mem_of_getElem? hx)
        have x0 := hxr.1
        have x1 := hxr.2
        have HL2 := Lib.hid (show L ++ [x + (k : Int)] = Y ++ (Z.take (q + 1)).map (· + (k : Int)) by rw [hL, M.take_snoc hx, List.map_append, List.append_assoc]; rfl)
        have hrl := htw.rl
        rw [hLl] at hrl
        have HRL := Lib.hid hrl
        have HLL := Lib.hid hLl
        clear htw hx hL hLl hrl hr4 hxr hv2
        go_wp2_with (at_builtin; refine wpList_append_lies _ rfl _ _ 22 rfl w1.heap.size 3 i0 (.int .i64 0) 1 8 Try.underlying22 hi hz0 hz1 hz2 rfl (by decide) _ _ _ rfl (World.ownsRow.alloc HRL.out _) ⟨wr.heap.size, 0, none⟩ 1 1 [.int .i64 (x + (k : Int))] rfl rfl (one_new _ _ _) one_cell (by decide) (by unfold maxLen; omega) (by omega) (by simp; omega) (wr.heap.size + 1) (by simp) ?_)
        intro g cap w5 hown5 hgrow5 hat5 _
        have hd5 := TwAt.pushL (x := x + (k : Int)) HT.out hsz (by rw [HLL.out]; exact hown5) hgrow5 (hat5.imp_right (fun e => by simpa using e))
        rw [HLL.out] at hd5
        have HD5 := Lib.hid hd5
        clear hown5 hgrow5 hat5 hd5 hcx
        go_wp2_with fail
        go_roundw
        case rel => exact ⟨q + 1, L ++ [x + (k : Int)], by go_num, by omega, HL2.out, HD5.out⟩
        case measure => simp [intOf]; omega
      · obtain rfl : m = q := by omega
        have q1 : ¬ (m : Int) < m := by omega
        have hLX : L = X := by
          rw [hL, ← HM.out.1, ← HZ.out.2.1, List.take_length]
          exact HJO.out.symm
        obtain ⟨A5, c5, rfl, hr5, -, -, -⟩ := reads_own htw.rl
        rw [hLX] at hr5 ⊢
        rw [HX.out.2]
        have HY5 := Lib.hid hr5
        have HX5 := Lib.hid ((HX1.out.below htw.below).more htw.below.size)
        have HB5 := Lib.hid (HB1.out.trans (htw.below.mono HB1.out.size))
        clear htw hr5 hL hLl hLX
        go_wp2_with fail
        refine (alive_any _).mono ?_
        rintro r w7 ⟨rfl, hb7⟩
        have HB7 := Lib.hid (HB5.out.trans (hb7.mono HB5.out.size))
        have HX7 := Lib.hid ((HX5.out.below hb7).more hb7.size)
        have HY7 := Lib.hid ((HY5.out.below hb7).more hb7.size)
        clear hb7
        go_wp2_with fail
        refine (ints_same A1 A5 c1 c5 n X w7 HX7.out HY7.out HX.out.2 (by omega)).mono ?_
        rintro r w8 ⟨rfl, hb8⟩
        have HB8 := Lib.hid (HB7.out.trans (hb8.mono HB7.out.size))
        clear hb8
        go_wp2_with fail
        go_ret
        exact ⟨rfl, HB8.out⟩
theorem joinsLaw_any (A : Option Addr) (ca n : Nat) (l : List Int) (i : Int) (w : World) (hr : RdS .i64 w w.heap.size A l) (hn : l.length = n) (hl8 : n * 8 ≤ 140737488351232) (hca : n ≤ ca) :
    Calls Try.prog 6 #[.slice A n ca, .int .i64 i] w fun r w' => r = .returned (.bool true) ∧ Below w.heap.size w w' := by
  by_cases h1 : 200 < n
  · exact joinsOther_any A ca n l i w hr hn hl8 hca (.inl h1)
  by_cases h2 : M.ordOk l
  rotate_left
  · exact joinsOther_any A ca n l i w hr hn hl8 hca (.inr (.inl h2))
  by_cases h3 : i < 1
  · exact joinsOther_any A ca n l i w hr hn hl8 hca (.inr (.inr (.inl h3)))
  by_cases h4 : (n : Int) ≤ i
  · exact joinsOther_any A ca n l i w hr hn hl8 hca (.inr (.inr (.inr (.inl h4))))
  obtain ⟨k, rfl⟩ : ∃ k : Nat, i = k := ⟨i.toNat, by omega⟩
  obtain ⟨j, hj⟩ : ∃ j, k = j + 1 := ⟨k - 1, by omega⟩
  by_cases h5 : M.lev l j = 0 ∨ M.lev l k = 0
  · obtain ⟨ad, -, rfl, -⟩ := rd_at hr (Below.refl _ _) (by rw [hn]; omega : k < l.length)
    exact joinsIn_any ad ca n j k l w hr hn hca (by omega) h2 hj (by omega) h5
  · exact joinsOther_any A ca n l k w hr hn hl8 hca (.inr (.inr (.inr (.inr ⟨j, k, rfl, hj, by omega, fun e => h5 (.inl e), fun e => h5 (.inr e)⟩))))
end Go.Proofs.Ytahjkndphkpieaa
