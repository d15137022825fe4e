/- The walk of stage 6's fourth law: it answers true. Conditions: the slice reads as a list of kinds, within its capacity. -/
import Derived.Test.YtfackeiommiejaaAlive
import Derived.Test.YtfackeiommiejaaMathMarks
namespace Go.Proofs.Ytfackeiommiejaa
open Go.RowKit

set_option maxHeartbeats 4000000 in
theorem marksLong_any (A : Option Addr) (ca n : Nat) (w : World) (hn : 80 < n) (hm : n ≤ maxLen) :
    Calls Try.prog 6 #[.slice A n ca] w fun r w' => r = .returned (.bool true) ∧ Below w.heap.size w w' := by
  unfold maxLen at hm
  have h1 : (80 : Int) < n := by omega
  go_enter Try.func6, Try.ntmps6
  go_wp2_with fail
  refine (alive_any _).mono ?_
  rintro r w2 ⟨rfl, hb⟩
  have HB := Lib.hid hb
  clear hb
  go_wp2_with fail
  go_ret
  exact ⟨rfl, HB.out⟩

/-- Two rows of cells of two kinds are apart. -/
theorem rows_kinds {w : World} {b b' n n' : Nat} {e e' : TypeId} {v v' : Value} {xs xs' : List Value} (h : w.ownsRow b e 1 v n xs) (h' : w.ownsRow b' e' 1 v' n' xs') (hne : e ≠ e') : v.ownBlock = none ∨ v.ownBlock ≠ v'.ownBlock := by
  rcases hv : v.ownBlock with _ | g
  · exact .inl rfl
  · refine .inr fun e => ?_
    obtain ⟨_, c1, m1, h1⟩ := own_type h hv
    obtain ⟨_, c2, m2, h2⟩ := own_type h' e.symm
    rw [h1] at h2
    injection h2 with h2
    injection h2 with _ h2 _
    exact hne h2

/-- What is gathered of the first k. -/
structure Kept (w0 : World) (base : Nat) (l : List Int) (k : Nat) (f v : Value) (w : World) : Prop where
  few : w.ownsRow base 31 1 f (M.few l k).length ((M.few l k).map (Value.int .i64))
  want : w.ownsRow base 3 1 v (M.want l k).length ((M.want l k).map (Value.int .i64))
  below : Below w0.heap.size w0 w
  size : base ≤ w.heap.size

set_option maxRecDepth 100000 in
set_option maxHeartbeats 8000000 in
theorem marksShort_any (A : Option Addr) (ca n : Nat) (l : List Int) (w : World) (hr : RdS .i64 w w.heap.size A l) (hn : l.length = n) (hl : n ≤ 80) (hca : n ≤ ca) :
    Calls Try.prog 6 #[.slice A n ca] w fun r w' => r = .returned (.bool true) ∧ Below w.heap.size w w' := by
  obtain ⟨i0, hi, hz0, hz1, hz2⟩ := info_parts Try.infoInt
  obtain ⟨j0, hj, hy0, hy1, hy2⟩ := info_parts Try.infoKind
  have HR := Lib.hid hr
  have HN := Lib.hid hn
  have hl1 : (n : Int) ≤ 80 := by omega
  have HAL := Lib.hid (show (M.all l).length = n by rw [M.all_len, hn])
  have HCL := Lib.hid (show (M.cnts l).length = n by rw [M.cnts_len, hn])
  have hnn : ((n : Int) == (n : Int)) = true := by simp
  have hnn' : (n == n) = true := by simp
  clear hr hn
  go_enter Try.func6, Try.ntmps6
  go_wp2_with fail
  refine (all_any A ca n l w HR.out HN.out (by omega) hca).mono ?_
  rintro r w1 ⟨A1, c1, rfl, hr1, _, _, _, hb1⟩
  rw [HAL.out]
  have HR1 := Lib.hid hr1
  have HB1 := Lib.hid hb1
  have HRl := Lib.hid ((HR.out.below hb1).more hb1.size)
  clear hr1 hb1
  go_wp2_with fail
  refine (counts_any A ca n l w1 HRl.out HN.out (by omega)).mono ?_
  rintro r w2 ⟨A2, c2, rfl, hr2, _, _, _, hb2⟩
  rw [HCL.out]
  have HR2 := Lib.hid hr2
  have HR12 := Lib.hid ((HR1.out.below hb2).more hb2.size)
  have HRl2 := Lib.hid ((HRl.out.below hb2).more hb2.size)
  have HB2 := Lib.hid (HB1.out.trans (hb2.mono HB1.out.size))
  clear hr2 hb2
  go_wp2_with fail
  go_loopw [5, 6, 7] (fun f v i wr => ∃ (k : Nat) (fv wv : Value), fv = f ∧ wv = v ∧ i = .int .i64 k ∧ k ≤ n ∧ Kept w2 w2.heap.size l k fv wv wr) (fun _ _ i _ => n - (intOf i).toNat)
  case atStart => exact ⟨0, _, _, rfl, rfl, rfl, Nat.zero_le _, World.ownsRow_nil _ _ _ _, World.ownsRow_nil _ _ _ _, Below.refl _ _, Nat.le_refl _⟩
  case round =>
    obtain ⟨k, fv, wv, rfl, rfl, rfl, hk, hkept⟩ := hrel
    have HK := Lib.hid hkept
    have hn := HN.out
    have k0 : (0 : Int) ≤ k := by omega
    clear hkept
    by_cases hlt : k < n
    · have k1 : (k : Int) < n := by omega
      obtain ⟨ad, x, rfl, hcx, hx, _⟩ := rd_at HRl2.out HK.out.below (by omega : k < l.length)
      obtain ⟨ad1, hA1, _, hch⟩ := (HR12.out.below HK.out.below) k (M.how l (k + 1)) (M.all_at (by omega))
      subst hA1
      obtain ⟨ad2, hA2, _, hcc⟩ := (HR2.out.below HK.out.below) k _ (M.cnts_at (by omega))
      subst hA2
      have hget : l.getD k 0 = x := by rw [List.getD_eq_getElem?_getD, hx]; rfl
      obtain ⟨u, hu⟩ : ∃ u, M.how l (k + 1) = u := ⟨_, rfl⟩
      obtain ⟨c, hc⟩ : ∃ c, (M.st (l.take (k + 1))).b = c := ⟨_, rfl⟩
      rw [hu] at hch
      rw [hc] at hcc
      obtain ⟨a, ha⟩ : ∃ a, (M.st (l.take k)).b = a := ⟨_, rfl⟩
      cases hg : M.goes l k with
      | true =>
        have hgo := M.how_go (by omega) hg
        have hg2 := hg
        unfold M.goes at hg2
        rw [hget, ha] at hg2
        simp at hg2
        obtain ⟨⟨hpos, rfl⟩, hbe⟩ := hg2
        unfold M.bears at hbe
        simp at hbe
        obtain ⟨q1, q2, q3⟩ := hbe
        have d1 : (a != 8) = true := by rw [bne_iff_ne]; exact q1
        have d2 : (a != 9) = true := by rw [bne_iff_ne]; exact q2
        have d3 : (a != 11) = true := by rw [bne_iff_ne]; exact q3
        obtain ⟨j, hj⟩ : ∃ j : Nat, k = j + 1 := ⟨k - 1, by omega⟩
        have hjk : (k : Int) - 1 = j := by omega
        obtain ⟨ad3, hA3, _, hca⟩ := (HR2.out.below HK.out.below) j a (by rw [M.cnts_at (by omega), ← hj, ha])
        injection hA3 with hA3
        subst hA3
        obtain ⟨ad4, hA4, _, hcz⟩ := (HR12.out.below HK.out.below) j 0 (by rw [M.all_at (by omega), ← hj, hgo])
        injection hA4 with hA4
        subst hA4
        have j0 : (0 : Int) ≤ j := by omega
        have j1 : (j : Int) < n := by omega
        have kp : (0 : Int) < k := by omega
        have hwant := M.want_go hg
        have hfew := M.few_go hg
        have hwl : 0 < (M.want l k).length := by rw [M.want_len]; exact M.few_pos hpos
        have hwl2 : (M.want l k).length ≤ 80 := by rw [M.want_len]; have := M.few_len l k; omega
        obtain ⟨m, hm⟩ : ∃ m, (M.want l k).length = m + 1 := ⟨_, (Nat.sub_add_cancel hwl).symm⟩
        have hwrow := HK.out.want
        rw [hm] at hwrow
        obtain ⟨g, cap, rfl⟩ := ownsRow_succ hwrow
        have hcm := World.ownsRow.cellAt hwrow m (by omega)
        obtain ⟨y, hy⟩ : ∃ y, ((M.want l k).map (Value.int IntKind.i64))[m]? = some y := ⟨_, List.getElem?_eq_getElem (by simp; omega)⟩
        rw [hy] at hcm
        have hfm := World.ownsRow.frozenAt hwrow m
        obtain ⟨hst1, hst2⟩ := World.ownsRow.stored hwrow m (.int .i64 u)
        have hset : ((M.want l k).map (Value.int IntKind.i64)).set m (.int .i64 u) = ((M.want l (k + 1)).map (Value.int .i64)) := by
          rw [hwant, hu, ← List.map_set]
          congr 1
          conv => lhs; rw [← List.dropLast_concat_getLast (List.ne_nil_of_length_pos hwl)]
          rw [List.set_append_right _ _ (by rw [List.length_dropLast]; omega), List.length_dropLast, show m - ((M.want l k).length - 1) = 0 by omega]
          rfl
        have hwlen : m + 1 = (M.want l (k + 1)).length := by rw [hwant]; simp; omega
        rw [hset, hwlen] at hst1
        have HNEXT := Lib.hid (show Kept w2 w2.heap.size l (k + 1) fv (.slice (some ⟨g, 0, none⟩) (m + 1) cap) (wr.setCell ⟨g, m, none⟩ (.int .i64 u)) from
          ⟨by rw [hfew]; exact World.ownsRow.kept HK.out.few hst2 (rows_kinds HK.out.few hwrow (by decide)), by rw [← hwlen]; rw [← hwlen] at hst1; exact hst1, HK.out.below.setCell (p := ⟨g, m, none⟩) (World.ownsRow.lt hwrow g rfl).1 _, by simpa [World.setCell] using HK.out.size⟩)
        have m0 : (0 : Int) ≤ m := by omega
        have m1 : (m : Int) + 1 ≤ 80 := by omega
        have e1 : (m : Int) + 1 - 1 = m := by omega
        clear hn hx hget hu hc hg ha hgo hpos q1 q2 q3 hj hwant hfew hwl hwl2 hm hwrow hy hst1 hst2 hset hwlen
        go_wp2_with fail
        go_roundw
        case rel => exact ⟨k + 1, _, _, rfl, rfl, by go_num, by omega, HNEXT.out⟩
        case measure => simp [intOf]; omega
      | false =>
        have HF := Lib.hid (show (M.few l (k + 1)).length = (M.few l k).length + 1 ∧ (M.few l (k + 1)).map (Value.int .i64) = (M.few l k).map (Value.int .i64) ++ [Value.int .i64 c] ∧ (M.want l (k + 1)).length = (M.few l k).length + 1 ∧ (M.want l (k + 1)).map (Value.int .i64) = (M.want l k).map (Value.int .i64) ++ [Value.int .i64 u] from
          ⟨by rw [M.few_stay hg]; simp, by rw [M.few_stay hg, hc, List.map_append]; rfl, by rw [M.want_stay hg, List.length_append, M.want_len]; rfl, by rw [M.want_stay hg, hu, List.map_append]; rfl⟩)
        have hfl := M.few_len l k
        have hwl := M.want_len l k
        have HALL := Lib.hid (M.all_at (l := l) (i := k) (by omega))
        have hsz := HK.out.size
        have HU := Lib.hid hu
        rcases Nat.eq_zero_or_pos k with hz | hpos
        · have kz : ¬ (0 : Int) < k := by omega
          clear hu hc hget hx hg ha hn hz
          go_wp2_with (at_builtin; refine wpList_append_own _ rfl _ _ 22 rfl w2.heap.size 31 j0 (.int .i64 0) 1 8 Try.underlying22 hj hy0 hy1 hy2 rfl (by decide) fv _ _ rfl (World.ownsRow.alloc HK.out.few _) ⟨wr.heap.size, 0, none⟩ 1 1 [.int .i64 c] rfl rfl (one_new _ _ _) one_cell (by unfold maxLen; omega) (by omega) (by simp; omega) ?_)
          intro v4 w4 ho4 hg4 _
          have hb4 : Below w2.heap.size w2 w4 := grow_below0 (HK.out.below.alloc (by omega) _) (World.ownsRow.alloc HK.out.few _) hg4 (by simp; omega)
          have hw4 := World.ownsRow.kept (World.ownsRow.alloc HK.out.want (.cells #[.int .i64 c] 31)) hg4 (rows_kinds HK.out.want HK.out.few (by decide))
          obtain ⟨_, hA9, _, hch4⟩ := (HR12.out.below hb4) k _ HALL.out
          injection hA9 with hA9
          subst hA9
          rw [HU.out] at hch4
          have hs4 := hb4.size
          rw [← HF.out.1, ← HF.out.2.1] at ho4
          have HO4 := Lib.hid ho4
          have HW4 := Lib.hid hw4
          have HB4 := Lib.hid hb4
          clear ho4 hw4 hb4 hg4
          go_wp2_with (at_builtin; refine wpList_append_own _ rfl _ _ 25 rfl w2.heap.size 3 i0 (.int .i64 0) 1 8 Try.underlying25 hi hz0 hz1 hz2 rfl (by decide) wv _ _ rfl (World.ownsRow.alloc HW4.out _) ⟨w4.heap.size, 0, none⟩ 1 1 [.int .i64 u] rfl rfl (one_new _ _ _) one_cell (by unfold maxLen; omega) (by omega) (by simp; omega) ?_)
          intro v5 w5 ho5 hg5 _
          have hb5 : Below w2.heap.size w2 w5 := grow_below0 (HB4.out.alloc hs4 _) (World.ownsRow.alloc HW4.out _) hg5 (by simp; omega)
          have hf5 := World.ownsRow.kept (World.ownsRow.alloc HO4.out (.cells #[.int .i64 u] 3)) hg5 (rows_kinds HO4.out HW4.out (by decide))
          rw [← HF.out.2.2.1, ← HF.out.2.2.2] at ho5
          have HNEXT := Lib.hid (show Kept w2 w2.heap.size l (k + 1) v4 v5 w5 from ⟨hf5, ho5, hb5, hb5.size⟩)
          clear ho5 hf5 hb5 hg5
          go_wp2_with fail
          go_roundw
          case rel => exact ⟨k + 1, _, _, rfl, rfl, by go_num, by omega, HNEXT.out⟩
          case measure => simp [intOf]; omega
        · have kp : (0 : Int) < k := by omega
          by_cases h10 : x = 10
          · have hbad : a = 8 ∨ a = 9 ∨ a = 11 := by
              unfold M.goes M.bears at hg
              rw [hget, ha, h10] at hg
              simp [hpos] at hg
              omega
            obtain ⟨j, hjj⟩ : ∃ j : Nat, k = j + 1 := ⟨k - 1, by omega⟩
            have hjk : (k : Int) - 1 = j := by omega
            obtain ⟨ad3, hA3, _, hca⟩ := (HR2.out.below HK.out.below) j a (by rw [M.cnts_at (by omega), ← hjj, ha])
            injection hA3 with hA3
            subst hA3
            have j0' : (0 : Int) ≤ j := by omega
            have j1' : (j : Int) < n := by omega
            subst h10
            clear hu hc hget hx hg ha hn hpos hjj
            rcases hbad with rfl | rfl | rfl
            all_goals
              go_wp2_with (at_builtin; refine wpList_append_own _ rfl _ _ 22 rfl w2.heap.size 31 j0 (.int .i64 0) 1 8 Try.underlying22 hj hy0 hy1 hy2 rfl (by decide) fv _ _ rfl (World.ownsRow.alloc HK.out.few _) ⟨wr.heap.size, 0, none⟩ 1 1 [.int .i64 c] rfl rfl (one_new _ _ _) one_cell (by unfold maxLen; omega) (by omega) (by simp; omega) ?_)
              intro v4 w4 ho4 hg4 _
              have hb4 : Below w2.heap.size w2 w4 := grow_below0 (HK.out.below.alloc (by omega) _) (World.ownsRow.alloc HK.out.few _) hg4 (by simp; omega)
              have hw4 := World.ownsRow.kept (World.ownsRow.alloc HK.out.want (.cells #[.int .i64 c] 31)) hg4 (rows_kinds HK.out.want HK.out.few (by decide))
              obtain ⟨_, hA9, _, hch4⟩ := (HR12.out.below hb4) k _ HALL.out
              injection hA9 with hA9
              subst hA9
              rw [HU.out] at hch4
              have hs4 := hb4.size
              rw [← HF.out.1, ← HF.out.2.1] at ho4
              have HO4 := Lib.hid ho4
              have HW4 := Lib.hid hw4
              have HB4 := Lib.hid hb4
              clear ho4 hw4 hb4 hg4
              go_wp2_with (at_builtin; refine wpList_append_own _ rfl _ _ 25 rfl w2.heap.size 3 i0 (.int .i64 0) 1 8 Try.underlying25 hi hz0 hz1 hz2 rfl (by decide) wv _ _ rfl (World.ownsRow.alloc HW4.out _) ⟨w4.heap.size, 0, none⟩ 1 1 [.int .i64 u] rfl rfl (one_new _ _ _) one_cell (by unfold maxLen; omega) (by omega) (by simp; omega) ?_)
              intro v5 w5 ho5 hg5 _
              have hb5 : Below w2.heap.size w2 w5 := grow_below0 (HB4.out.alloc hs4 _) (World.ownsRow.alloc HW4.out _) hg5 (by simp; omega)
              have hf5 := World.ownsRow.kept (World.ownsRow.alloc HO4.out (.cells #[.int .i64 u] 3)) hg5 (rows_kinds HO4.out HW4.out (by decide))
              rw [← HF.out.2.2.1, ← HF.out.2.2.2] at ho5
              have HNEXT := Lib.hid (show Kept w2 w2.heap.size l (k + 1) v4 v5 w5 from ⟨hf5, ho5, hb5, hb5.size⟩)
              clear ho5 hf5 hb5 hg5
              go_wp2_with fail
              go_roundw
              case rel => exact ⟨k + 1, _, _, rfl, rfl, by go_num, by omega, HNEXT.out⟩
              case measure => simp [intOf]; omega
          · have bx : (x == 10) = false := by rw [beq_eq_false_iff_ne]; exact h10
            clear hu hc hget hx hg ha hn hpos h10
            go_wp2_with (at_builtin; refine wpList_append_own _ rfl _ _ 22 rfl w2.heap.size 31 j0 (.int .i64 0) 1 8 Try.underlying22 hj hy0 hy1 hy2 rfl (by decide) fv _ _ rfl (World.ownsRow.alloc HK.out.few _) ⟨wr.heap.size, 0, none⟩ 1 1 [.int .i64 c] rfl rfl (one_new _ _ _) one_cell (by unfold maxLen; omega) (by omega) (by simp; omega) ?_)
            intro v4 w4 ho4 hg4 _
            have hb4 : Below w2.heap.size w2 w4 := grow_below0 (HK.out.below.alloc (by omega) _) (World.ownsRow.alloc HK.out.few _) hg4 (by simp; omega)
            have hw4 := World.ownsRow.kept (World.ownsRow.alloc HK.out.want (.cells #[.int .i64 c] 31)) hg4 (rows_kinds HK.out.want HK.out.few (by decide))
            obtain ⟨_, hA9, _, hch4⟩ := (HR12.out.below hb4) k _ HALL.out
            injection hA9 with hA9
            subst hA9
            rw [HU.out] at hch4
            have hs4 := hb4.size
            rw [← HF.out.1, ← HF.out.2.1] at ho4
            have HO4 := Lib.hid ho4
            have HW4 := Lib.hid hw4
            have HB4 := Lib.hid hb4
            clear ho4 hw4 hb4 hg4
            go_wp2_with (at_builtin; refine wpList_append_own _ rfl _ _ 25 rfl w2.heap.size 3 i0 (.int .i64 0) 1 8 Try.underlying25 hi hz0 hz1 hz2 rfl (by decide) wv _ _ rfl (World.ownsRow.alloc HW4.out _) ⟨w4.heap.size, 0, none⟩ 1 1 [.int .i64 u] rfl rfl (one_new _ _ _) one_cell (by unfold maxLen; omega) (by omega) (by simp; omega) ?_)
            intro v5 w5 ho5 hg5 _
            have hb5 : Below w2.heap.size w2 w5 := grow_below0 (HB4.out.alloc hs4 _) (World.ownsRow.alloc HW4.out _) hg5 (by simp; omega)
            have hf5 := World.ownsRow.kept (World.ownsRow.alloc HO4.out (.cells #[.int .i64 u] 3)) hg5 (rows_kinds HO4.out HW4.out (by decide))
            rw [← HF.out.2.2.1, ← HF.out.2.2.2] at ho5
            have HNEXT := Lib.hid (show Kept w2 w2.heap.size l (k + 1) v4 v5 w5 from ⟨hf5, ho5, hb5, hb5.size⟩)
            clear ho5 hf5 hb5 hg5
            go_wp2_with fail
            go_roundw
            case rel => exact ⟨k + 1, _, _, rfl, rfl, by go_num, by omega, HNEXT.out⟩
            case measure => simp [intOf]; omega
    · obtain rfl : k = n := by omega
      have hfin := M.want_all l
      rw [hn] at hfin
      obtain ⟨Af, cf, rfl, hrf, hcf, _, _⟩ := reads_own HK.out.few
      have hkw := HK.out.want
      obtain ⟨Aw, cw, rfl, hrw, _, _, _⟩ := reads_own hkw
      have hfl := M.few_len l k
      have hwl := M.want_len l k
      rw [hfin] at hrw
      obtain ⟨m, hm⟩ : ∃ m, (M.few l k).length = m := ⟨_, rfl⟩
      rw [hwl, hm]
      rw [hm] at hcf
      have HM := Lib.hid hm
      have HM2 := Lib.hid (show (M.all (M.few l k)).length = m by rw [M.all_len, hm])
      have HRF := Lib.hid hrf
      have HRW := Lib.hid hrw
      have hm80 : m ≤ 80 := by omega
      clear hfin hrf hrw hkw hfl hwl hm hn
      go_wp2_with fail
      refine (alive_any _).mono ?_
      rintro r w4 ⟨rfl, hb4⟩
      have HB4 := Lib.hid (HK.out.below.trans (hb4.mono HK.out.below.size))
      have HRF4 := Lib.hid ((HRF.out.below hb4).more hb4.size)
      have HRW4 := Lib.hid ((HRW.out.below hb4).more hb4.size)
      clear hb4
      go_wp2_with fail
      refine (all_any Af cf m (M.few l k) w4 HRF4.out HM.out (by omega) hcf).mono ?_
      rintro r w5 ⟨A5, c5, rfl, hr5, _, _, _, hb5⟩
      rw [HM2.out]
      have HB5 := Lib.hid (HB4.out.trans (hb5.mono HB4.out.size))
      have HR5 := Lib.hid hr5
      have HRW5 := Lib.hid ((HRW4.out.below hb5).more hb5.size)
      clear hr5 hb5
      go_wp2_with fail
      refine (ints_same A5 Aw c5 cw m _ w5 HR5.out HRW5.out HM2.out (by omega)).mono ?_
      rintro r w6 ⟨rfl, hb6⟩
      have HB6 := Lib.hid (HB5.out.trans (hb6.mono HB5.out.size))
      clear hb6
      go_wp2_with fail
      go_ret
      exact ⟨rfl, HB2.out.trans (HB6.out.mono HB2.out.size)⟩

theorem marksLaw_any (A : Option Addr) (ca n : Nat) (l : List Int) (w : World) (hr : RdS .i64 w w.heap.size A l) (hn : l.length = n) (hca : n ≤ ca) (hcm : ca ≤ maxLen) :
    Calls Try.prog 6 #[.slice A n ca] w fun r w' => r = .returned (.bool true) ∧ Below w.heap.size w w' := by
  rcases Nat.lt_or_ge 80 n with h | h
  · exact marksLong_any A ca n w h (Nat.le_trans hca hcm)
  · exact marksShort_any A ca n l w hr hn h hca
end Go.Proofs.Ytfackeiommiejaa
