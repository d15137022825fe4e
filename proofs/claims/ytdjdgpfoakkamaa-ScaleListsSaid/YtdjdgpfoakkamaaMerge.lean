/- The library's merge of two stretches where one of them is a single word, by the code's Order, over the translation. Conditions: both rise; the words are of eight bytes. -/
import Derived.Test.YtdjdgpfoakkamaaInsert
import Derived.Test.YtdjdgpfoakkamaaRotate
namespace Go.Proofs.Ytdjdgpfoakkamaa
open Go.RowKit

/-- What a merge leaves: the stretch in order, stably. -/
def MergeOut (g : Nat) (p l s : List Int) (w : World) (r : Ending) (w' : World) : Prop :=
  r = .returned (.tuple #[]) ∧ ∃ t, Row w' g (p ++ (t ++ s)) ∧ M.Sor t ∧ M.St l t ∧ Below g w w'
theorem row_at {w : World} {g : Nat} {l : List Int} {i : Nat} {x : Int} (h : Row w g l) (hx : l[i]? = some x) : w.cell? ⟨g, i, none⟩ = some (.int .u64 x) := h.c i x hx
theorem signI_lt {a b : Int} : (M.signI a b < 0) ↔ a < b := by unfold M.signI; repeat' split; all_goals omega

set_option maxRecDepth 100000 in
set_option maxHeartbeats 4000000 in
theorem mergeLeft_any (g a m b len ca : Nat) (p : List Int) (x : Int) (v s : List Int) (w : World) (hr : Row w g (p ++ (x :: (v ++ s)))) (hp : p.length = a) (hm : a + 1 = m) (hb : m + v.length = b) (hl : b + s.length = len) (hc : len ≤ 1000) (hx : 0 ≤ x ∧ x ≤ 18446744073709551615) (hw : M.Wd v) (hv : M.Sor v) :
    Calls Try.prog 41 #[.slice (some ⟨g, 0, none⟩) len ca, .int .i64 a, .int .i64 m, .int .i64 b, ordV] w (MergeOut g p ([x] ++ v) s w) := by
  have HR := Lib.hid hr
  have HW := Lib.hid hw
  have HV := Lib.hid hv
  have HP := Lib.hid hp
  have HX := Lib.hid hx
  have HL := Lib.hid hl
  have HBB := Lib.hid hb
  have hbl : b ≤ len := by omega
  have a0 : (0 : Int) ≤ a := by omega
  have a1 : (a : Int) < m := by omega
  have b1 : (m : Int) ≤ b := by omega
  have b2 : (b : Int) ≤ len := by omega
  have b3 : (len : Int) ≤ 1000 := by omega
  have e1 : (m : Int) - a = 1 := by omega
  have HM := Lib.hid hm
  clear hr hw hv hp hx hl hb hm
  go_enter Try.func41, Try.ntmps41
  go_wp2_with fail
  go_loopw [10, 11] (fun y z wr => ∃ (i j : Nat), y = .int .i64 (m + i : Nat) ∧ z = .int .i64 (m + j : Nat) ∧ i ≤ j ∧ m + j ≤ b ∧ (∀ k z, k < i → v[k]? = some z → M.rk z < M.rk x) ∧ (∀ k z, j ≤ k → v[k]? = some z → M.rk x ≤ M.rk z) ∧ Row wr g (p ++ (x :: (v ++ s))) ∧ Below g w wr) (fun y z _ => (intOf z - intOf y).toNat)
  case atStart => exact ⟨0, v.length, by simp, by have := HBB.out; subst this; rfl, Nat.zero_le _, by have := HBB.out; omega, (fun k z hk => by omega), (fun k z hk hz => by rw [List.getElem?_eq_none hk] at hz; cases hz), HR.out, Below.refl _ _⟩
  case round =>
    obtain ⟨i, j, rfl, rfl, hij, hjb, k1, k2, hr, hb⟩ := hrel
    have K1 := Lib.hid k1
    have K2 := Lib.hid k2
    have HB := Lib.hid hb
    clear k1 k2 hb
    by_cases hlt : i < j
    · obtain ⟨h, hh⟩ : ∃ h, (i + j) / 2 = h := ⟨_, rfl⟩
      have hhi : i ≤ h := by omega
      have hhj : h < j := by omega
      have hv1 := HBB.out
      obtain ⟨y, hy⟩ : ∃ y, v[h]? = some y := ⟨_, List.getElem?_eq_getElem (by omega)⟩
      have hyw := HW.out y (List.mem_of_getElem? hy)
      have hxw := HX.out
      have hpl := HP.out
      have hml := HM.out
      have hcx := row_at hr (i := a) (x := x) (by rw [List.getElem?_append_right (by omega), show a - p.length = 0 by omega]; rfl)
      have hcy := row_at hr (i := m + h) (x := y) (by
        rw [List.getElem?_append_right (by omega), show m + h - p.length = h + 1 by omega, List.getElem?_cons_succ, List.getElem?_append_left (by omega)]
        exact hy)
      have C0 := fun d os => order_below y x (Sort.grow (redrawn wr d) os) hyw.1 hyw.2 hxw.1 hxw.2
      have eh : (((m + i : Nat) : Int) + ((m + j : Nat) : Int)) / 2 = ((m + h : Nat) : Int) := by omega
      have c1 : ((m + i : Nat) : Int) < ((m + j : Nat) : Int) := by omega
      have c2 : ((m + j : Nat) : Int) ≤ b := by omega
      have c3 : ((m + h : Nat) : Int) < b := by omega
      have c4 : (0 : Int) ≤ ((m + h : Nat) : Int) := by omega
      have c5 : (0 : Int) ≤ ((m + i : Nat) : Int) := by omega
      have HHI := Lib.hid (show i ≤ h ∧ h < j ∧ m + j ≤ b ∧ i ≤ j from ⟨hhi, hhj, hjb, hij⟩)
      obtain ⟨I, hI⟩ : ∃ I, m + i = I := ⟨_, rfl⟩
      obtain ⟨J, hJ⟩ : ∃ J, m + j = J := ⟨_, rfl⟩
      obtain ⟨H, hH⟩ : ∃ H, m + h = H := ⟨_, rfl⟩
      rw [hI, hJ, hH] at eh
      rw [hI, hJ] at c1
      rw [hJ] at c2
      rw [hH] at c3 c4 hcy
      rw [hI] at c5
      rw [hI, hJ]
      have HIJ := Lib.hid (show m + i = I ∧ m + j = J ∧ m + h = H from ⟨hI, hJ, hH⟩)
      by_cases hyx : M.rk y < M.rk x
      · have e : M.signI (M.rk y) (M.rk x) = -1 := by unfold M.signI; rw [if_pos hyx]
        rw [e] at C0
        have C1 := Lib.hid (fun d os => Calls.regrown_of (C0 d os))
        have cx := fun d os => cell_regrown hcx d os
        have cy := fun d os => cell_regrown hcy d os
        have HN := Lib.hid (show ∀ k z, k < h + 1 → v[k]? = some z → M.rk z < M.rk x from fun k z hk hz => by
          have := HV.out.at (show k ≤ h by omega) hz hy
          omega)
        have HRR := Lib.hid hr
        clear hr hcx hcy C0 e hyx hy hyw hxw hpl hml hv1 hhi hhj hh hI hJ hH hij hjb hlt
        go_wp2_with fail
        refine wp_region_quiet_below (by kernel_rfl) (by kernel_rfl) ?_
        repeat (go_big_quiet_step (with_reducible exact C1.out _ _))
        refine wpQuiet_nil ?_
        intro _ hw'
        obtain ⟨⟨dq, osq⟩, hw4⟩ := hw'
        subst hw4
        have hbq := below_regrown wr dq osq
        have HR5 := Lib.hid (HRR.out.below hbq HRR.out.b)
        have HB5 := Lib.hid (show Below g w (Sort.grow (redrawn wr dq) osq) from HB.out.trans (hbq.mono (Nat.le_of_lt HRR.out.b)))
        clear cx cy hbq
        go_wp2_with fail
        go_roundw
        case rel =>
          obtain ⟨z1, z2, z3, z4⟩ := HHI.out
          obtain ⟨y1, y2, y3⟩ := HIJ.out
          exact ⟨h + 1, j, by rw [← Nat.add_assoc, y3]; go_num, by rw [y2], by omega, z3, HN.out, K2.out, HR5.out, HB5.out⟩
        case measure =>
          obtain ⟨z1, z2, z3, z4⟩ := HHI.out
          obtain ⟨y1, y2, y3⟩ := HIJ.out
          simp [intOf]
          omega
      · obtain ⟨e, he⟩ : ∃ e, M.signI (M.rk y) (M.rk x) = e := ⟨_, rfl⟩
        have e0 : ¬ e < 0 := by rw [← he, signI_lt]; exact hyx
        rw [he] at C0
        have C1 := Lib.hid (fun d os => Calls.regrown_of (C0 d os))
        have cx := fun d os => cell_regrown hcx d os
        have cy := fun d os => cell_regrown hcy d os
        have HN := Lib.hid (show ∀ k z, h ≤ k → v[k]? = some z → M.rk x ≤ M.rk z from fun k z hk hz => by
          have := HV.out.at hk hy hz
          omega)
        have HRR := Lib.hid hr
        clear hr hcx hcy C0 he hyx hy hyw hxw hpl hml hv1 hhi hhj hh hI hJ hH hij hjb hlt
        go_wp2_with fail
        refine wp_region_quiet_below (by kernel_rfl) (by kernel_rfl) ?_
        repeat (go_big_quiet_step (with_reducible exact C1.out _ _))
        refine wpQuiet_nil ?_
        intro _ hw'
        obtain ⟨⟨dq, osq⟩, hw4⟩ := hw'
        subst hw4
        have hbq := below_regrown wr dq osq
        have HR5 := Lib.hid (HRR.out.below hbq HRR.out.b)
        have HB5 := Lib.hid (show Below g w (Sort.grow (redrawn wr dq) osq) from HB.out.trans (hbq.mono (Nat.le_of_lt HRR.out.b)))
        clear cx cy hbq
        go_wp2_with fail
        go_roundw
        case rel =>
          obtain ⟨z1, z2, z3, z4⟩ := HHI.out
          obtain ⟨y1, y2, y3⟩ := HIJ.out
          exact ⟨i, h, by rw [y1], by rw [y3], z1, by omega, K1.out, HN.out, HR5.out, HB5.out⟩
        case measure =>
          obtain ⟨z1, z2, z3, z4⟩ := HHI.out
          obtain ⟨y1, y2, y3⟩ := HIJ.out
          simp [intOf]
          omega
    · obtain rfl : i = j := by omega
      have hv1 := HBB.out
      obtain ⟨v1, v2, hv12, hl1⟩ : ∃ v1 v2, v = v1 ++ v2 ∧ v1.length = i := ⟨v.take i, v.drop i, by simp, by simp; omega⟩
      have HLO := Lib.hid (show ∀ z ∈ v1, M.rk z < M.rk x from fun z hz => by
        obtain ⟨k, hk, hkz⟩ := List.mem_iff_getElem.1 hz
        refine K1.out k z (by omega) ?_
        rw [hv12, List.getElem?_append_left hk]
        exact List.getElem?_eq_some_iff.2 ⟨hk, hkz⟩)
      have HHI := Lib.hid (show ∀ z ∈ v2, M.rk x ≤ M.rk z from fun z hz => by
        obtain ⟨k, hk, hkz⟩ := List.mem_iff_getElem.1 hz
        refine K2.out (i + k) z (by omega) ?_
        rw [hv12, List.getElem?_append_right (by omega), show i + k - v1.length = k by omega]
        exact List.getElem?_eq_some_iff.2 ⟨hk, hkz⟩)
      have HV12 := Lib.hid hv12
      have HL1 := Lib.hid hl1
      have HRR := Lib.hid (show Row wr g (p ++ (v1.take 0 ++ x :: (v1.drop 0 ++ (v2 ++ s)))) by rw [hv12] at hr; simpa using hr)
      obtain ⟨I, hI⟩ : ∃ I, m + i = I := ⟨_, rfl⟩
      have hIb : (I : Int) ≤ b := by omega
      have hI0 : (m : Int) ≤ I := by omega
      have HI := Lib.hid (show a + 1 + i = I by have := HM.out; omega)
      rw [hI]
      clear hr hv1 hv12 hl1 hI hjb hlt hij
      go_wp2_with fail
      go_loopw [13] (fun y w2 => ∃ (q : Nat), y = .int .i64 (a + q : Nat) ∧ q ≤ i ∧ Row w2 g (p ++ (v1.take q ++ x :: (v1.drop q ++ (v2 ++ s)))) ∧ Below g w w2) (fun y _ => I - (intOf y).toNat)
      case atStart => exact ⟨0, by simp, Nat.zero_le _, HRR.out, HB.out⟩
      case round =>
        obtain ⟨q, rfl, hqi, hr, hb⟩ := hrel
        have HB6 := Lib.hid hb
        clear hb
        have hI2 := HI.out
        have hpl := HP.out
        have hl1 := HL1.out
        by_cases hlt : q < i
        · obtain ⟨d, hd⟩ : ∃ d, v1.drop q = d :: v1.drop (q + 1) := ⟨_, List.drop_eq_getElem_cons (by omega)⟩
          have td : v1.take (q + 1) = v1.take q ++ [d] := by
            rw [List.take_succ_eq_append_getElem (by omega)]
            congr 2
            have := List.drop_eq_getElem_cons (l := v1) (i := q) (by omega)
            rw [hd] at this
            injection this with h _
            exact h.symm
          rw [hd] at hr
          have hr2 : Row wr g ((p ++ v1.take q) ++ x :: ([] ++ d :: (v1.drop (q + 1) ++ (v2 ++ s)))) := by simpa using hr
          have hi1 : a + q = (p ++ v1.take q).length := by simp; omega
          have hj1 : a + q + 1 = (p ++ v1.take q).length + 1 + ([] : List Int).length := by simp; omega
          obtain ⟨cx, cd, fx, fd⟩ := hr2.at2 hi1 hj1
          have HN := Lib.hid (hr2.exch hi1 hj1)
          have HN' := Lib.hid (hr2.exch' hi1 hj1)
          have HTD := Lib.hid td
          obtain ⟨A, hA⟩ : ∃ A, a + q = A := ⟨_, rfl⟩
          have hA1 : (A : Int) < (I : Int) - 1 := by omega
          have hA0 : (0 : Int) ≤ A := by omega
          have HA := Lib.hid hA
          have HQ := Lib.hid (show q + 1 ≤ i from hlt)
          rw [hA] at cx cd fx fd HN HN' ⊢
          have n1 : A ≠ A + 1 := by omega
          have n2 : A + 1 ≠ A := by omega
          clear hr hr2 hi1 hj1 td hd hA hlt hqi hI2 hpl hl1
          go_wp2_with fail
          go_region
          all_goals
            go_wp2_with fail
            go_roundw
            case rel =>
              have y1 := HA.out
              refine ⟨q + 1, by rw [← Nat.add_assoc, y1]; go_num, HQ.out, ?_, by first | exact (HB6.out.setCell (p := ⟨g, _, none⟩) (Nat.le_refl _) _).setCell (p := ⟨g, _, none⟩) (Nat.le_refl _) _ | exact ((HB6.out.setCell (p := ⟨g, _, none⟩) (Nat.le_refl _) _).setCell (p := ⟨g, _, none⟩) (Nat.le_refl _) _).drew⟩
              rw [HTD.out]
              first | simpa using HN.out | simpa using HN.out.drew | simpa using HN'.out | simpa using HN'.out.drew
            case measure => simp [intOf]; omega
        · obtain rfl : q = i := by omega
          have hfin : p ++ (v1.take q ++ x :: (v1.drop q ++ (v2 ++ s))) = p ++ ((v1 ++ x :: v2) ++ s) := by
            rw [List.take_of_length_le (by omega), List.drop_of_length_le (by omega)]; simp
          rw [hfin] at hr
          have HN := Lib.hid hr
          obtain ⟨A, hA⟩ : ∃ A, a + q = A := ⟨_, rfl⟩
          have hA1 : ¬ (A : Int) < (I : Int) - 1 := by omega
          rw [hA]
          clear hr hfin hA hlt hqi hI2 hpl hl1
          go_wp2_with fail
          go_end0
          have hs := HV.out
          rw [HV12.out] at hs ⊢
          obtain ⟨s1, s2, s3⟩ := M.Sor.app.1 hs
          refine ⟨rfl, v1 ++ x :: v2, HN.out, M.Sor.app.2 ⟨s1, M.Sor.cons.2 ⟨HHI.out, s2⟩, fun z hz y hy => ?_⟩, ?_, HB6.out⟩
          · have := HLO.out z hz
            rcases List.mem_cons.1 hy with k | k
            · rw [k]; omega
            · have := HHI.out y k; omega
          · have h1 : M.St ([x] ++ v1) (v1 ++ [x]) := M.St.turn (fun c hc d hd => by simp at hc; subst hc; have := HLO.out d hd; omega)
            have h2 := h1.app (M.St.refl v2)
            simpa using h2
end Go.Proofs.Ytdjdgpfoakkamaa
