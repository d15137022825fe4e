/- The library's merge of two stretches where the second one is a single word, by the code's Order, over the translation. Conditions: both rise; the words are of eight bytes. -/
import Derived.Test.YtdjdgpfoakkamaaMerge
namespace Go.Proofs.Ytdjdgpfoakkamaa
open Go.RowKit

set_option maxRecDepth 100000 in
set_option maxHeartbeats 4000000 in
theorem mergeRight_any (g a m b len ca : Nat) (p : List Int) (u : List Int) (y : Int) (s : List Int) (w : World) (hr : Row w g (p ++ (u ++ (y :: s)))) (hp : p.length = a) (hm : a + u.length = m) (h2 : 2 ≤ u.length) (hb : m + 1 = b) (hl : b + s.length = len) (hc : len ≤ 1000) (hy : 0 ≤ y ∧ y ≤ 18446744073709551615) (hw : M.Wd u) (hu : M.Sor u) :
    Calls Try.prog 41 #[.slice (some ⟨g, 0, none⟩) len ca, .int .i64 a, .int .i64 m, .int .i64 b, ordV] w (MergeOut g p (u ++ [y]) s w) := by
  have HR := Lib.hid hr
  have HW := Lib.hid hw
  have HU := Lib.hid hu
  have HP := Lib.hid hp
  have HY := Lib.hid hy
  have HL := Lib.hid hl
  have HM := Lib.hid hm
  have hbl : b ≤ len := by omega
  have a0 : (0 : Int) ≤ a := by omega
  have a1 : (a : Int) + 2 ≤ m := by omega
  have b1 : (m : Int) < b := by omega
  have b2 : (b : Int) ≤ len := by omega
  have b3 : (len : Int) ≤ 1000 := by omega
  have e0 : ((m : Int) - a == 1) = false := by rw [beq_eq_false_iff_ne]; omega
  have e1 : (b : Int) - m = 1 := by omega
  have HBM := Lib.hid hb
  clear hr hw hu hp hy hl hb hm h2
  go_enter Try.func41, Try.ntmps41
  go_wp2_with fail
  go_loopw [14, 15] (fun y' z wr => ∃ (i j : Nat), y' = .int .i64 (a + i : Nat) ∧ z = .int .i64 (a + j : Nat) ∧ i ≤ j ∧ a + j ≤ m ∧ (∀ k z, k < i → u[k]? = some z → M.rk z ≤ M.rk y) ∧ (∀ k z, j ≤ k → u[k]? = some z → M.rk y < M.rk z) ∧ Row wr g (p ++ (u ++ (y :: s))) ∧ Below g w wr) (fun y z _ => (intOf z - intOf y).toNat)
  case atStart => exact ⟨0, u.length, by simp, by have := HM.out; subst this; rfl, Nat.zero_le _, by have := HM.out; omega, (fun k z hk => by omega), (fun k z hk hz => by rw [List.getElem?_eq_none hk] at hz; cases hz), HR.out, Below.refl _ _⟩
  case round =>
    obtain ⟨i, j, rfl, rfl, hij, hjm, k1, k2, hr, hb⟩ := hrel
    have K1 := Lib.hid k1
    have K2 := Lib.hid k2
    have HB := Lib.hid hb
    clear k1 k2 hb
    by_cases hlt : i < j
    · obtain ⟨h, hh⟩ : ∃ h, (i + j) / 2 = h := ⟨_, rfl⟩
      have hhi : i ≤ h := by omega
      have hhj : h < j := by omega
      have hml := HM.out
      obtain ⟨x, hx⟩ : ∃ x, u[h]? = some x := ⟨_, List.getElem?_eq_getElem (by omega)⟩
      have hxw := HW.out x (List.mem_of_getElem? hx)
      have hyw := HY.out
      have hpl := HP.out
      have hcy := row_at hr (i := m) (x := y) (by rw [List.getElem?_append_right (by omega), List.getElem?_append_right (by omega), show m - p.length - u.length = 0 by omega]; rfl)
      have hcx := row_at hr (i := a + h) (x := x) (by
        rw [List.getElem?_append_right (by omega), show a + h - p.length = h by omega, List.getElem?_append_left (by omega)]
        exact hx)
      have C0 := fun d os => order_below y x (Sort.grow (redrawn wr d) os) hyw.1 hyw.2 hxw.1 hxw.2
      have eh : (((a + i : Nat) : Int) + ((a + j : Nat) : Int)) / 2 = ((a + h : Nat) : Int) := by omega
      have c1 : ((a + i : Nat) : Int) < ((a + j : Nat) : Int) := by omega
      have c2 : ((a + j : Nat) : Int) ≤ m := by omega
      have c3 : ((a + h : Nat) : Int) < m := by omega
      have c4 : (0 : Int) ≤ ((a + h : Nat) : Int) := by omega
      have c5 : (0 : Int) ≤ ((a + i : Nat) : Int) := by omega
      have HHI := Lib.hid (show i ≤ h ∧ h < j ∧ a + j ≤ m ∧ i ≤ j from ⟨hhi, hhj, hjm, hij⟩)
      obtain ⟨I, hI⟩ : ∃ I, a + i = I := ⟨_, rfl⟩
      obtain ⟨J, hJ⟩ : ∃ J, a + j = J := ⟨_, rfl⟩
      obtain ⟨H, hH⟩ : ∃ H, a + h = H := ⟨_, rfl⟩
      rw [hI, hJ, hH] at eh
      rw [hI, hJ] at c1
      rw [hJ] at c2
      rw [hH] at c3 c4 hcx
      rw [hI] at c5
      rw [hI, hJ]
      have HIJ := Lib.hid (show a + i = I ∧ a + j = J ∧ a + h = H from ⟨hI, hJ, hH⟩)
      by_cases hyx : M.rk y < M.rk x
      · have e : M.signI (M.rk y) (M.rk x) = -1 := by unfold M.signI; rw [if_pos hyx]
        rw [e] at C0
        have C1 := Lib.hid (fun d os => Calls.regrown_of (C0 d os))
        have cx := fun d os => cell_regrown hcx d os
        have cy := fun d os => cell_regrown hcy d os
        have HN := Lib.hid (show ∀ k z, h ≤ k → u[k]? = some z → M.rk y < M.rk z from fun k z hk hz => by
          have := HU.out.at hk hx hz
          omega)
        have HRR := Lib.hid hr
        clear hr hcx hcy C0 e hyx hx hyw hxw hpl hml hhi hhj hh hI hJ hH hij hjm hlt
        go_wp2_with fail
        refine wp_region_quiet_below (by kernel_rfl) (by kernel_rfl) ?_
        repeat (go_big_quiet_step (with_reducible exact C1.out _ _))
        refine wpQuiet_nil ?_
        intro _ hw'
        obtain ⟨⟨dq, osq⟩, hw4⟩ := hw'
        subst hw4
        have hbq := below_regrown wr dq osq
        have HR5 := Lib.hid (HRR.out.below hbq HRR.out.b)
        have HB5 := Lib.hid (show Below g w (Sort.grow (redrawn wr dq) osq) from HB.out.trans (hbq.mono (Nat.le_of_lt HRR.out.b)))
        clear cx cy hbq
        go_wp2_with fail
        go_roundw
        case rel =>
          obtain ⟨z1, z2, z3, z4⟩ := HHI.out
          obtain ⟨y1, y2, y3⟩ := HIJ.out
          exact ⟨i, h, by rw [y1], by rw [y3], z1, by omega, K1.out, HN.out, HR5.out, HB5.out⟩
        case measure =>
          obtain ⟨z1, z2, z3, z4⟩ := HHI.out
          obtain ⟨y1, y2, y3⟩ := HIJ.out
          simp [intOf]
          omega
      · obtain ⟨e, he⟩ : ∃ e, M.signI (M.rk y) (M.rk x) = e := ⟨_, rfl⟩
        have e0 : ¬ e < 0 := by rw [← he, signI_lt]; exact hyx
        have e3 : 0 ≤ e := by omega
        have e4 : decide (e < 0) = false := decide_eq_false e0
        rw [he] at C0
        have C1 := Lib.hid (fun d os => Calls.regrown_of (C0 d os))
        have cx := fun d os => cell_regrown hcx d os
        have cy := fun d os => cell_regrown hcy d os
        have HN := Lib.hid (show ∀ k z, k < h + 1 → u[k]? = some z → M.rk z ≤ M.rk y from fun k z hk hz => by
          have := HU.out.at (show k ≤ h by omega) hz hx
          omega)
        have HRR := Lib.hid hr
        clear hr hcx hcy C0 he hyx hx hyw hxw hpl hml hhi hhj hh hI hJ hH hij hjm hlt
        go_wp2_with fail
        refine wp_region_quiet_below (by kernel_rfl) (by kernel_rfl) ?_
        repeat (go_big_quiet_step (with_reducible exact C1.out _ _))
        refine wpQuiet_nil ?_
        intro _ hw'
        obtain ⟨⟨dq, osq⟩, hw4⟩ := hw'
        subst hw4
        have hbq := below_regrown wr dq osq
        have HR5 := Lib.hid (HRR.out.below hbq HRR.out.b)
        have HB5 := Lib.hid (show Below g w (Sort.grow (redrawn wr dq) osq) from HB.out.trans (hbq.mono (Nat.le_of_lt HRR.out.b)))
        clear cx cy hbq
        go_wp2_with fail
        go_roundw
        case rel =>
          obtain ⟨z1, z2, z3, z4⟩ := HHI.out
          obtain ⟨y1, y2, y3⟩ := HIJ.out
          exact ⟨h + 1, j, by rw [← Nat.add_assoc, y3]; go_num, by rw [y2], by omega, z3, HN.out, K2.out, HR5.out, HB5.out⟩
        case measure =>
          obtain ⟨z1, z2, z3, z4⟩ := HHI.out
          obtain ⟨y1, y2, y3⟩ := HIJ.out
          simp [intOf]
          omega
    · obtain rfl : i = j := by omega
      have hml := HM.out
      obtain ⟨u1, u2, hu12, hl1⟩ : ∃ u1 u2, u = u1 ++ u2 ∧ u1.length = i := ⟨u.take i, u.drop i, by simp, by simp; omega⟩
      have HLO := Lib.hid (show ∀ z ∈ u1, M.rk z ≤ M.rk y from fun z hz => by
        obtain ⟨k, hk, hkz⟩ := List.mem_iff_getElem.1 hz
        refine K1.out k z (by omega) ?_
        rw [hu12, List.getElem?_append_left hk]
        exact List.getElem?_eq_some_iff.2 ⟨hk, hkz⟩)
      have HHI := Lib.hid (show ∀ z ∈ u2, M.rk y < M.rk z from fun z hz => by
        obtain ⟨k, hk, hkz⟩ := List.mem_iff_getElem.1 hz
        refine K2.out (i + k) z (by omega) ?_
        rw [hu12, List.getElem?_append_right (by omega), show i + k - u1.length = k by omega]
        exact List.getElem?_eq_some_iff.2 ⟨hk, hkz⟩)
      have HU12 := Lib.hid hu12
      have HL1 := Lib.hid hl1
      have HL2 := Lib.hid (show a + i + u2.length = m by rw [hu12] at hml; simp at hml; omega)
      have HRR := Lib.hid (show Row wr g (p ++ (u1 ++ (u2.take u2.length ++ y :: (u2.drop u2.length ++ s)))) by rw [hu12] at hr; simpa using hr)
      obtain ⟨I, hI⟩ : ∃ I, a + i = I := ⟨_, rfl⟩
      have hIb : (I : Int) ≤ m := by omega
      have hI0 : (a : Int) ≤ I := by omega
      have HI := Lib.hid hI
      rw [hI]
      clear hr hml hu12 hl1 hI hjm hlt hij
      go_wp2_with fail
      go_loopw [17] (fun y' w2 => ∃ (q : Nat), y' = .int .i64 (I + q : Nat) ∧ q ≤ u2.length ∧ Row w2 g (p ++ (u1 ++ (u2.take q ++ y :: (u2.drop q ++ s)))) ∧ Below g w w2) (fun y' _ => (intOf y').toNat)
      case atStart => exact ⟨u2.length, by have h1 := HL2.out; have h2 := HI.out; rw [show I + u2.length = m by omega], Nat.le_refl _, HRR.out, HB.out⟩
      case round =>
        obtain ⟨q, rfl, hqi, hr, hb⟩ := hrel
        have HB6 := Lib.hid hb
        clear hb
        have hI2 := HI.out
        have hpl := HP.out
        have hl1 := HL1.out
        have hl2 := HL2.out
        by_cases hlt : 0 < q
        · obtain ⟨d, hd⟩ : ∃ d, u2.drop (q - 1) = d :: u2.drop q := ⟨u2[q - 1]'(by omega), by rw [List.drop_eq_getElem_cons (by omega), show q - 1 + 1 = q by omega]⟩
          have td : u2.take q = u2.take (q - 1) ++ [d] := by
            have h1 := List.take_succ_eq_append_getElem (l := u2) (i := q - 1) (by omega)
            rw [show q - 1 + 1 = q by omega] at h1
            rw [h1]
            congr 2
            have := List.drop_eq_getElem_cons (l := u2) (i := q - 1) (by omega)
            rw [hd] at this
            injection this with h _
            exact h.symm
          rw [td] at hr
          have hr2 : Row wr g ((p ++ (u1 ++ u2.take (q - 1))) ++ d :: ([] ++ y :: (u2.drop q ++ s))) := by simpa using hr
          have hi1 : I + q - 1 = (p ++ (u1 ++ u2.take (q - 1))).length := by simp; omega
          have hj1 : I + q = (p ++ (u1 ++ u2.take (q - 1))).length + 1 + ([] : List Int).length := by rw [← hi1]; simp; omega
          obtain ⟨cd, cy, fd, fy⟩ := hr2.at2 hi1 hj1
          have HN := Lib.hid (hr2.exch hi1 hj1)
          have HN' := Lib.hid (hr2.exch' hi1 hj1)
          have HTD := Lib.hid hd
          obtain ⟨A, hA⟩ : ∃ A, I + q = A := ⟨_, rfl⟩
          have hA1 : (I : Int) < A := by omega
          have hA2 : (A : Int) ≤ m := by omega
          have HA := Lib.hid hA
          have HQ := Lib.hid (show q - 1 ≤ u2.length ∧ I + (q - 1) = A - 1 from ⟨by omega, by omega⟩)
          rw [hA] at cy fy cd fd HN HN'
          rw [hA]
          have n1 : A ≠ A - 1 := by omega
          have n2 : A - 1 ≠ A := by omega
          clear hr hr2 hi1 hj1 td hd hA hlt hqi hI2 hpl hl1 hl2
          go_wp2_with fail
          go_region
          all_goals
            go_wp2_with fail
            go_roundw
            case rel =>
              obtain ⟨y1, y2⟩ := HQ.out
              refine ⟨q - 1, by rw [y2]; go_num, y1, ?_, by first | exact (HB6.out.setCell (p := ⟨g, _, none⟩) (Nat.le_refl _) _).setCell (p := ⟨g, _, none⟩) (Nat.le_refl _) _ | exact ((HB6.out.setCell (p := ⟨g, _, none⟩) (Nat.le_refl _) _).setCell (p := ⟨g, _, none⟩) (Nat.le_refl _) _).drew⟩
              rw [HTD.out]
              first | simpa using HN.out | simpa using HN.out.drew | simpa using HN'.out | simpa using HN'.out.drew
            case measure => simp [intOf]; omega
        · obtain rfl : q = 0 := by omega
          have hfin : p ++ (u1 ++ (u2.take 0 ++ y :: (u2.drop 0 ++ s))) = p ++ ((u1 ++ y :: u2) ++ s) := by simp
          rw [hfin] at hr
          have HN := Lib.hid hr
          rw [Nat.add_zero]
          clear hr hfin hlt hqi hI2 hpl hl1 hl2
          go_wp2_with fail
          go_end0
          have hs := HU.out
          rw [HU12.out] at hs ⊢
          obtain ⟨s1, s2, s3⟩ := M.Sor.app.1 hs
          refine ⟨rfl, u1 ++ y :: u2, HN.out, M.Sor.app.2 ⟨s1, M.Sor.cons.2 ⟨fun z hz => Int.le_of_lt (HHI.out z hz), s2⟩, fun z hz v hv => ?_⟩, ?_, HB6.out⟩
          · have := HLO.out z hz
            rcases List.mem_cons.1 hv with k | k
            · rw [k]; omega
            · exact s3 z hz v k
          · have h1 : M.St (u2 ++ [y]) ([y] ++ u2) := M.St.turn (fun c hc d hd => by simp at hd; subst hd; have := HHI.out c hc; omega)
            have h2 := (M.St.refl u1).app h1
            simpa using h2
end Go.Proofs.Ytdjdgpfoakkamaa
