/- The Go function RangesShort answers true, over the translation. Conditions: the slices read as lists of entries, and of strings, no longer than the model lets them be. -/
import Derived.Test.YtjbpjnnflcmmhaaShortFix
import Derived.Test.YtjbpjnnflcmmhaaFits
import Derived.Test.YtjbpjnnflcmmhaaLive
import Derived.Test.YtjbpjnnflcmmhaaSame
namespace Go.Proofs.Ytjbpjnnflcmmhaa
open Go.RowKit

set_option maxRecDepth 100000 in
set_option maxHeartbeats 8000000 in
theorem shortLaw_any (A B : Option Addr) (ca cb : Nat) (l : List M.E) (ns : List ByteArray) (c : Int) (w : World) (hr : RdE w w.heap.size A l) (hn : RdN w w.heap.size B ns) (hm : l.length ≤ maxLen) (hmn : ns.length ≤ maxLen) (hz : Sized l) (hzn : SizedN ns) :
    Calls Try.prog 5 #[.agg #[.slice A l.length ca, .slice B ns.length cb], .int .i64 c] w fun e w' => e = .returned (.bool true) ∧ Below w.heap.size w w' := by
  obtain ⟨W, hW⟩ : ∃ W, w.alloc (.cells #[.slice A l.length ca, .slice B ns.length cb] 25) = W := ⟨_, rfl⟩
  have hbW : Below w.heap.size w W := by rw [← hW]; exact (Below.refl _ _).alloc (Nat.le_refl _) _
  have hWs : w.heap.size < W.heap.size := by rw [← hW]; simp
  have x0 : W.cell? ⟨w.heap.size, 0, none⟩ = some (.slice A l.length ca) := by rw [← hW]; simp [go_sem]
  have x1 : W.cell? ⟨w.heap.size, 1, none⟩ = some (.slice B ns.length cb) := by rw [← hW]; simp [go_sem]
  have HBW := Lib.hid hbW
  have HR := Lib.hid ((hr.below hbW).more hbW.size)
  have HN := Lib.hid ((hn.below hbW).more hbW.size)
  have HZ := Lib.hid hz
  have HZN := Lib.hid hzn
  have HM := Lib.hid hm
  have HMN := Lib.hid hmn
  have HX := Lib.hid (fun (w' : World) (hb : Below W.heap.size W w') => And.intro ((hb.cell (p := ⟨w.heap.size, 0, none⟩) hWs).trans x0) ((hb.cell (p := ⟨w.heap.size, 1, none⟩) hWs).trans x1))
  unfold maxLen at hm hmn
  clear hr hn hz hzn hbW
  go_enter Try.func5, Try.ntmps5
  go_wp2_with fail
  refine (fits_any A B ca cb l ns W HR.out HN.out HM.out HMN.out HZ.out HZN.out).mono ?_
  rintro r w1 ⟨q, rfl, hq, hb1⟩
  have HB1 := Lib.hid hb1
  obtain ⟨y0, y1⟩ := HX.out w1 hb1
  have HQ := Lib.hid hq
  clear hb1 hq x0 x1
  go_wp2_with fail
  refine (new_any A B ca cb l ns w1 ((HR.out.below HB1.out).more HB1.out.size) ((HN.out.below HB1.out).more HB1.out.size) HM.out HMN.out HZ.out HZN.out).mono ?_
  rintro r w2 ⟨hb2, hyes, hno⟩
  have HB2 := Lib.hid (HB1.out.trans (hb2.mono HB1.out.size))
  by_cases hok : M.TabOk l ns
  · obtain ⟨tb, rfl, ht⟩ := hyes hok
    have HT2 := Lib.hid ht
    have HOK := Lib.hid hok
    clear hyes hno hb2 hok ht y0 y1
    cases q with
    | false =>
      go_wp2_with fail
      refine (alive_true w2).mono ?_
      rintro r w3 ⟨rfl, hb3⟩
      have HB3 := Lib.hid (HB2.out.trans (hb3.mono HB2.out.size))
      clear hb3
      go_wp2
      go_ret
      exact ⟨rfl, HBW.out.trans (HB3.out.mono HBW.out.size)⟩
    | true =>
      obtain ⟨told, htold⟩ : ∃ t, M.short ns l = t := ⟨_, rfl⟩
      have hlen : told.length ≤ l.length := by rw [← htold]; exact M.short_len ns l
      have h600 : told.length ≤ 600 := Nat.le_trans hlen HOK.out.rises.1
      have HSZ := Lib.hid (show Sized told by rw [← htold]; exact HZ.out.short)
      have HSRT := Lib.hid (show M.Srt told by rw [← htold]; exact HOK.out.good.1)
      have HTOK := Lib.hid (show M.TabOk told ns by rw [← htold]; exact HOK.out.short)
      have HIDEM := Lib.hid (show M.short ns told = told by rw [← htold]; exact M.short_idem ns l)
      have HGAP := Lib.hid (show M.Gap told by rw [← htold]; exact M.short_gap ns l)
      have HFIRST := Lib.hid (show ∀ e ∈ told, ∀ s, ns[0]? = some s → e.v ≠ s from fun e he s hs => by rw [← htold] at he; exact M.short_first he hs)
      have htm : told.length ≤ maxLen := by unfold maxLen; omega
      rw [htold] at HT2
      clear htold
      have hl60 := (HQ.out rfl).1
      have hn60 := (HQ.out rfl).2
      have hlow : ∀ e ∈ told, -9223372036854775807 ≤ e.b ∧ e.b ≤ 1114111 := fun e he => by have := M.right_le (HTOK.out.up e he).1; omega
      have HLOW := Lib.hid hlow
      clear hlow
      go_wp2_with fail
      refine (tableRanges_any _ tb told ns w2 HT2.out h600).mono ?_
      rintro r w3 ⟨⟨v, rfl, ho⟩, hb3⟩
      obtain ⟨A3, c3, rfl, hrd, _, _, _⟩ := ho.shape
      have HR3 := Lib.hid hrd
      have HT3 := Lib.hid (HT2.out.below hb3)
      have HB3 := Lib.hid (HB2.out.trans (hb3.mono HB2.out.size))
      obtain ⟨y0, y1⟩ := HX.out w3 HB3.out
      clear hb3 ho hrd
      go_wp2_with fail
      refine (new_any A3 B c3 cb told ns w3 HR3.out ((HN.out.below HB3.out).more HB3.out.size) htm HMN.out HSZ.out HZN.out).mono ?_
      rintro r w4 ⟨hb4, hyes, _⟩
      obtain ⟨ub, rfl, hu⟩ := hyes HTOK.out
      rw [HIDEM.out] at hu
      have HU4 := Lib.hid hu
      have HT4 := Lib.hid (HT3.out.below hb4)
      have HR4 := Lib.hid ((HR3.out.below hb4).more hb4.size)
      have HB4 := Lib.hid (HB3.out.trans (hb4.mono HB3.out.size))
      clear hb4 hyes hu y0 y1
      go_wp2_with fail
      refine (tableAt_any _ ub told ns c w4 HU4.out HSRT.out htm HSZ.out).mono ?_
      rintro r w5 ⟨rfl, hb5⟩
      have HU5 := Lib.hid (HU4.out.below hb5)
      have HT5 := Lib.hid (HT4.out.below hb5)
      have HR5 := Lib.hid ((HR4.out.below hb5).more hb5.size)
      have HB5 := Lib.hid (HB4.out.trans (hb5.mono HB4.out.size))
      obtain ⟨nc, hnc⟩ : ∃ n, M.numAt told ns c = n := ⟨_, rfl⟩
      have HNC := Lib.hid hnc
      rw [hnc]
      clear hb5 hnc
      go_wp2_with fail
      refine (tableAt_any _ tb told ns c w5 HT5.out HSRT.out htm HSZ.out).mono ?_
      rintro r w6 ⟨rfl, hb6⟩
      rw [HNC.out]
      have HU6 := Lib.hid (HU5.out.below hb6)
      have HT6 := Lib.hid (HT5.out.below hb6)
      have HR6 := Lib.hid ((HR5.out.below hb6).more hb6.size)
      have HB6 := Lib.hid (HB5.out.trans (hb6.mono HB5.out.size))
      clear hb6
      go_wp2_with fail
      refine (tableRanges_any _ ub told ns w6 HU6.out h600).mono ?_
      rintro r w7 ⟨⟨v, rfl, ho⟩, hb7⟩
      obtain ⟨A7, c7, rfl, hrd, _, _, _⟩ := ho.shape
      have HRU7 := Lib.hid hrd
      have HU7 := Lib.hid (HU6.out.below hb7)
      have HT7 := Lib.hid (HT6.out.below hb7)
      have HR7 := Lib.hid ((HR6.out.below hb7).more hb7.size)
      have HB7 := Lib.hid (HB6.out.trans (hb7.mono HB6.out.size))
      clear hb7 ho hrd
      go_wp2_with fail
      refine (same_any A7 A3 c7 c3 told told w7 HRU7.out HR7.out htm).mono ?_
      rintro r w8 ⟨rfl, hb8⟩
      rw [M.same_self]
      have HU8 := Lib.hid (HU7.out.below hb8)
      have HT8 := Lib.hid (HT7.out.below hb8)
      have HR8 := Lib.hid ((HR7.out.below hb8).more hb8.size)
      have HB8 := Lib.hid (HB7.out.trans (hb8.mono HB7.out.size))
      obtain ⟨y0, y1⟩ := HX.out w8 HB8.out
      have hgt : decide (l.length < told.length) = false := by rw [decide_eq_false_iff_not]; omega
      clear hb8
      go_wp2
      go_loopw [11] (fun i wr => ∃ k : Nat, k ≤ told.length ∧ i = .int .i64 k ∧ Below w8.heap.size w8 wr) (fun i _ => told.length - (intOf i).toNat)
      case atStart => exact ⟨0, Nat.zero_le _, rfl, Below.refl _ _⟩
      case round =>
        obtain ⟨k, hk, rfl, hb⟩ := hrel
        have HBL := Lib.hid hb
        have HB9 := Lib.hid (HB8.out.trans (hb.mono HB8.out.size))
        have HU9 := Lib.hid (HU8.out.below hb)
        have HT9 := Lib.hid (HT8.out.below hb)
        have HR9 := Lib.hid ((HR8.out.below hb).more hb.size)
        clear hb y0 y1
        by_cases hlt : k < told.length
        · obtain ⟨e, he⟩ : ∃ e, told[k]? = some e := ⟨_, List.getElem?_eq_getElem hlt⟩
          have hmem := List.mem_of_getElem? he
          obtain ⟨ad, rfl, hab, c0, c1, c2, c3'⟩ := HR9.out k e he
          obtain ⟨y0, y1⟩ := HX.out wr HB9.out
          -- the first name
          obtain ⟨s, hs⟩ : ∃ s, ns[0]? = some s := by
            have := (HTOK.out.up e hmem).2
            cases ns with
            | nil => simp [M.idx] at this
            | cons x r => exact ⟨x, rfl⟩
          have hnpos := (List.getElem?_eq_some_iff.1 hs).1
          obtain ⟨bd, rfl, _, n0⟩ := (HN.out.below HB9.out) 0 s hs
          have n0' : wr.cell? bd = some (.string s) := by simpa [Addr.add] using n0
          have hvs := HFIRST.out e hmem s hs
          have hv1 : ¬ e.v.toList = s.toList := by rw [str_eq]; exact hvs
          have hv2 : (e.v.toList == s.toList) = false := by rw [beq_eq_false_iff_ne]; exact hv1
          have hk1 : (0 : Int) ≤ (k : Int) := by omega
          have hk2 : (k : Int) < (told.length : Int) := by omega
          have HE := Lib.hid he
          clear he hmem n0 hvs c3' hs
          by_cases hk0 : k = 0
          · have hdk : decide (0 < k) = false := by rw [decide_eq_false_iff_not]; omega
            clear hk0
            go_wp2
            go_big_quiet (fail)
            obtain ⟨W9, hW9⟩ : ∃ W, wr.drewN nq = W := ⟨_, rfl⟩
            have hbd : Below wr.heap.size wr W9 := by rw [← hW9]; exact below_drewN (Below.refl _ _) nq
            have d0 := (hbd.cell (by have := World.block_lt_of_cell? wr _ c0; exact this)).trans c0
            have d1 := (hbd.cell (by have := World.block_lt_of_cell? wr _ c1; exact this)).trans c1
            have HBD := Lib.hid (HBL.out.trans (hbd.mono HBL.out.size))
            have HU10 := Lib.hid (HU9.out.below hbd)
            have HT10 := Lib.hid (HT9.out.below hbd)
            rw [hW9]
            clear hbd hW9 c0 c1 c2 y0 y1 n0'
            have g0 := fun d os => cell_regrown d0 d os
            have g1 := fun d os => cell_regrown d1 d os
            have CU := Lib.hid (fun cc d os => Calls.regrown_of (tableAt_any w3.heap.size ub told ns cc (Sort.grow (redrawn W9 d) os) (HU10.out.below (below_regrown W9 d os)) HSRT.out htm HSZ.out))
            have CT := Lib.hid (fun cc d os => Calls.regrown_of (tableAt_any w1.heap.size tb told ns cc (Sort.grow (redrawn W9 d) os) (HT10.out.below (below_regrown W9 d os)) HSRT.out htm HSZ.out))
            go_wp2
            refine wp_region_quiet_below (by kernel_rfl) (by kernel_rfl) ?_
            repeat (go_big_quiet_step (first | (with_reducible exact CU.out _ _ _) | (with_reducible exact CT.out _ _ _)))
            refine wpQuiet_nil ?_
            intro _ hw'
            obtain ⟨⟨dq, osq⟩, hw4⟩ := hw'
            subst hw4
            go_wp2
            go_roundw
            case rel => exact ⟨k + 1, by omega, by go_num, HBD.out.trans ((below_regrown W9 dq osq).mono HBD.out.size)⟩
            case measure => simp [intOf]; omega
          · obtain ⟨f, hf⟩ : ∃ f, told[k - 1]? = some f := ⟨_, List.getElem?_eq_getElem (by omega)⟩
            obtain ⟨j, hj⟩ : ∃ j : Nat, k - 1 = j := ⟨_, rfl⟩
            rw [hj] at hf
            have hlf := HLOW.out f (List.mem_of_getElem? hf)
            obtain ⟨ad', hA', _, _, e1, e2, _⟩ := HR9.out j f hf
            obtain rfl : ad = ad' := by injection hA'
            have hgap := HGAP.out j f e hf (by rw [show j + 1 = k by omega]; exact HE.out)
            have hdk : decide (0 < k) = true := by rw [decide_eq_true_iff]; omega
            have hj1 : IntKind.i64.wrap ((k : Int) - 1) = (j : Int) := by rw [IntKind.wrap_i64]; omega
            have hj2 : (0 : Int) ≤ (j : Int) := by omega
            have hj3 : (j : Int) < (told.length : Int) := by omega
            have HJ := Lib.hid hj
            have HF := Lib.hid hf
            clear hk0 hj hf hA'
            by_cases ht1 : e.a = f.b + 1
            · have h1 : (e.a == f.b + 1) = true := by rw [beq_iff_eq]; exact ht1
              have hv3 : ¬ e.v.toList = f.v.toList := by
                rw [str_eq]
                exact fun h => hgap ⟨ht1.symm, h.symm⟩
              have hv4 : (e.v.toList == f.v.toList) = false := by rw [beq_eq_false_iff_ne]; exact hv3
              clear ht1 hgap
              go_wp2
              go_big_quiet (fail)
              obtain ⟨W9, hW9⟩ : ∃ W, wr.drewN nq = W := ⟨_, rfl⟩
              have hbd : Below wr.heap.size wr W9 := by rw [← hW9]; exact below_drewN (Below.refl _ _) nq
              have d0 := (hbd.cell (by have := World.block_lt_of_cell? wr _ c0; exact this)).trans c0
              have d1 := (hbd.cell (by have := World.block_lt_of_cell? wr _ c1; exact this)).trans c1
              have HBD := Lib.hid (HBL.out.trans (hbd.mono HBL.out.size))
              have HU10 := Lib.hid (HU9.out.below hbd)
              have HT10 := Lib.hid (HT9.out.below hbd)
              rw [hW9]
              clear hbd hW9 c0 c1 c2 y0 y1 n0' e1 e2
              have g0 := fun d os => cell_regrown d0 d os
              have g1 := fun d os => cell_regrown d1 d os
              have CU := Lib.hid (fun cc d os => Calls.regrown_of (tableAt_any w3.heap.size ub told ns cc (Sort.grow (redrawn W9 d) os) (HU10.out.below (below_regrown W9 d os)) HSRT.out htm HSZ.out))
              have CT := Lib.hid (fun cc d os => Calls.regrown_of (tableAt_any w1.heap.size tb told ns cc (Sort.grow (redrawn W9 d) os) (HT10.out.below (below_regrown W9 d os)) HSRT.out htm HSZ.out))
              go_wp2
              refine wp_region_quiet_below (by kernel_rfl) (by kernel_rfl) ?_
              repeat (go_big_quiet_step (first | (with_reducible exact CU.out _ _ _) | (with_reducible exact CT.out _ _ _)))
              refine wpQuiet_nil ?_
              intro _ hw'
              obtain ⟨⟨dq, osq⟩, hw4⟩ := hw'
              subst hw4
              go_wp2
              go_roundw
              case rel => exact ⟨k + 1, by omega, by go_num, HBD.out.trans ((below_regrown W9 dq osq).mono HBD.out.size)⟩
              case measure => simp [intOf]; omega
            · have h1 : (e.a == f.b + 1) = false := by rw [beq_eq_false_iff_ne]; exact ht1
              clear ht1 hgap
              go_wp2
              go_big_quiet (fail)
              obtain ⟨W9, hW9⟩ : ∃ W, wr.drewN nq = W := ⟨_, rfl⟩
              have hbd : Below wr.heap.size wr W9 := by rw [← hW9]; exact below_drewN (Below.refl _ _) nq
              have d0 := (hbd.cell (by have := World.block_lt_of_cell? wr _ c0; exact this)).trans c0
              have d1 := (hbd.cell (by have := World.block_lt_of_cell? wr _ c1; exact this)).trans c1
              have HBD := Lib.hid (HBL.out.trans (hbd.mono HBL.out.size))
              have HU10 := Lib.hid (HU9.out.below hbd)
              have HT10 := Lib.hid (HT9.out.below hbd)
              rw [hW9]
              clear hbd hW9 c0 c1 c2 y0 y1 n0' e1 e2
              have g0 := fun d os => cell_regrown d0 d os
              have g1 := fun d os => cell_regrown d1 d os
              have CU := Lib.hid (fun cc d os => Calls.regrown_of (tableAt_any w3.heap.size ub told ns cc (Sort.grow (redrawn W9 d) os) (HU10.out.below (below_regrown W9 d os)) HSRT.out htm HSZ.out))
              have CT := Lib.hid (fun cc d os => Calls.regrown_of (tableAt_any w1.heap.size tb told ns cc (Sort.grow (redrawn W9 d) os) (HT10.out.below (below_regrown W9 d os)) HSRT.out htm HSZ.out))
              go_wp2
              refine wp_region_quiet_below (by kernel_rfl) (by kernel_rfl) ?_
              repeat (go_big_quiet_step (first | (with_reducible exact CU.out _ _ _) | (with_reducible exact CT.out _ _ _)))
              refine wpQuiet_nil ?_
              intro _ hw'
              obtain ⟨⟨dq, osq⟩, hw4⟩ := hw'
              subst hw4
              go_wp2
              go_roundw
              case rel => exact ⟨k + 1, by omega, by go_num, HBD.out.trans ((below_regrown W9 dq osq).mono HBD.out.size)⟩
              case measure => simp [intOf]; omega
        · go_wp2_with fail
          refine (alive_true wr).mono ?_
          rintro r w10 ⟨rfl, hb10⟩
          have HB10 := Lib.hid (HB9.out.trans (hb10.mono HB9.out.size))
          clear hb10
          go_wp2
          go_ret
          exact ⟨rfl, HBW.out.trans (HB10.out.mono HBW.out.size)⟩
  · obtain rfl := hno hok
    clear hyes hno hb2 hok y0 y1
    cases q
    all_goals
      go_wp2_with fail
      refine (alive_true w2).mono ?_
      rintro r w3 ⟨rfl, hb3⟩
      have HB3 := Lib.hid (HB2.out.trans (hb3.mono HB2.out.size))
      clear hb3
      go_wp2
      go_ret
      exact ⟨rfl, HBW.out.trans (HB3.out.mono HBW.out.size)⟩
end Go.Proofs.Ytjbpjnnflcmmhaa
