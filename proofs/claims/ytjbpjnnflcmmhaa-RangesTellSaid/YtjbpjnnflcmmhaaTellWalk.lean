/- The Go function RangesTell answers true, over the translation. Conditions: the slices read as lists of entries, and of strings, no longer than the model lets them be. -/
import Derived.Test.YtjbpjnnflcmmhaaShortFix
import Derived.Test.YtjbpjnnflcmmhaaFits
import Derived.Test.YtjbpjnnflcmmhaaLive
import Derived.Test.YtjbpjnnflcmmhaaSame
import Derived.Test.YtjbpjnnflcmmhaaRefRanges
import Derived.Deep.RegionWith
namespace Go.Proofs.Ytjbpjnnflcmmhaa
open Go.RowKit

theorem M.TabOk.ref {l : List M.E} {ns : List ByteArray} (h : M.TabOk l ns) (c : Int) : M.refAt l ns c = M.numAt (M.short ns l) ns c := by
  rw [h.good.2 c]
  unfold M.refAt M.numAt
  cases hf : M.find l c with
  | none => rfl
  | some e => exact M.idxI_eq (h.up e (M.find_mem hf)).2

set_option maxRecDepth 100000 in
set_option maxHeartbeats 8000000 in
theorem tellLaw_any (A B : Option Addr) (ca cb : Nat) (l : List M.E) (ns : List ByteArray) (c : Int) (w : World) (hr : RdE w w.heap.size A l) (hn : RdN w w.heap.size B ns) (hm : l.length ≤ maxLen) (hmn : ns.length ≤ maxLen) (hz : Sized l) (hzn : SizedN ns) :
    Calls Try.prog 3 #[.agg #[.slice A l.length ca, .slice B ns.length cb], .int .i64 c] w fun e w' => e = .returned (.bool true) ∧ Below w.heap.size w w' := by
  obtain ⟨W, hW⟩ : ∃ W, w.alloc (.cells #[.slice A l.length ca, .slice B ns.length cb] 25) = W := ⟨_, rfl⟩
  have hbW : Below w.heap.size w W := by rw [← hW]; exact (Below.refl _ _).alloc (Nat.le_refl _) _
  have hWs : w.heap.size < W.heap.size := by rw [← hW]; simp
  have x0 : W.cell? ⟨w.heap.size, 0, none⟩ = some (.slice A l.length ca) := by rw [← hW]; simp [go_sem]
  have x1 : W.cell? ⟨w.heap.size, 1, none⟩ = some (.slice B ns.length cb) := by rw [← hW]; simp [go_sem]
  have HBW := Lib.hid hbW
  have HR := Lib.hid ((hr.below hbW).more hbW.size)
  have HN := Lib.hid ((hn.below hbW).more hbW.size)
  have HZ := Lib.hid hz
  have HZN := Lib.hid hzn
  have HM := Lib.hid hm
  have HMN := Lib.hid hmn
  have HX := Lib.hid (fun (w' : World) (hb : Below W.heap.size W w') => And.intro ((hb.cell (p := ⟨w.heap.size, 0, none⟩) hWs).trans x0) ((hb.cell (p := ⟨w.heap.size, 1, none⟩) hWs).trans x1))
  unfold maxLen at hm hmn
  clear hr hn hz hzn hbW
  go_enter Try.func3, Try.ntmps3
  go_wp2_with fail
  refine (fits_any A B ca cb l ns W HR.out HN.out HM.out HMN.out HZ.out HZN.out).mono ?_
  rintro r w1 ⟨q, rfl, hq, hb1⟩
  have HB1 := Lib.hid hb1
  obtain ⟨y0, y1⟩ := HX.out w1 hb1
  have HQ := Lib.hid hq
  clear hb1 hq x0 x1
  cases q with
  | false =>
    go_wp2_with fail
    refine (alive_true w1).mono ?_
    rintro r w3 ⟨rfl, hb3⟩
    have HB3 := Lib.hid (HB1.out.trans (hb3.mono HB1.out.size))
    clear hb3
    go_wp2
    go_ret
    exact ⟨rfl, HBW.out.trans (HB3.out.mono HBW.out.size)⟩
  | true =>
    have hl60 := (HQ.out rfl).1
    have hn60 := (HQ.out rfl).2
    by_cases hok : M.TabOk l ns
    · have HOK := Lib.hid hok
      have HTAB := Lib.hid (M.tab_yes hok)
      clear hok
      go_wp2_with fail
      refine (refTabRight_any A B ca cb l ns w1 ((HR.out.below HB1.out).more HB1.out.size) ((HN.out.below HB1.out).more HB1.out.size) HM.out HMN.out HZ.out HZN.out).mono ?_
      rintro r w2 ⟨rfl, hb2⟩
      rw [HTAB.out]
      have HB2 := Lib.hid (HB1.out.trans (hb2.mono HB1.out.size))
      clear hb2 y0 y1
      obtain ⟨y0, y1⟩ := HX.out w2 HB2.out
      go_wp2_with fail
      refine (new_any A B ca cb l ns w2 ((HR.out.below HB2.out).more HB2.out.size) ((HN.out.below HB2.out).more HB2.out.size) HM.out HMN.out HZ.out HZN.out).mono ?_
      rintro r w3 ⟨hb3, hyes, _⟩
      obtain ⟨tb, rfl, ht⟩ := hyes HOK.out
      obtain ⟨told, htold⟩ : ∃ t, M.short ns l = t := ⟨_, rfl⟩
      have HTOLD := Lib.hid htold
      have hlen : told.length ≤ l.length := by rw [← htold]; exact M.short_len ns l
      have h600 : told.length ≤ 600 := Nat.le_trans hlen HOK.out.rises.1
      have HSZ := Lib.hid (show Sized told by rw [← htold]; exact HZ.out.short)
      have HSRT := Lib.hid (show M.Srt told by rw [← htold]; exact HOK.out.good.1)
      have HREF := Lib.hid (show ∀ cc, M.refAt l ns cc = M.numAt told ns cc by rw [← htold]; exact HOK.out.ref)
      have htm : told.length ≤ maxLen := by unfold maxLen; omega
      rw [htold] at ht
      have HT3 := Lib.hid ht
      have HB3 := Lib.hid (HB2.out.trans (hb3.mono HB2.out.size))
      clear hb3 hyes ht htold y0 y1
      have CONS := Lib.hid (fun (V : World) (hbV : Below w3.heap.size w3 V) (cc : Int) (d : Nat) (os : Array Obj) => Calls.regrown_of (tableAt_any w2.heap.size tb told ns cc (Sort.grow (redrawn V d) os) ((HT3.out.below hbV).below (below_regrown V d os)) HSRT.out htm HSZ.out))
      have CONR := Lib.hid (fun (V : World) (hbV : Below w3.heap.size w3 V) (cc : Int) (d : Nat) (os : Array Obj) => (by
        have hb1 := HB3.out.trans (hbV.mono HB3.out.size)
        have hb2 := hb1.trans ((below_regrown V d os).mono hb1.size)
        have := (refAt_any A B ca cb l ns cc (Sort.grow (redrawn V d) os) ((HR.out.below hb2).more hb2.size) ((HN.out.below hb2).more hb2.size) HM.out HMN.out).mono (fun e w' ⟨he, hw⟩ => (show e = Ending.returned (.int .i64 (M.refAt l ns cc)) ∧ Below (Sort.grow (redrawn V d) os).heap.size (Sort.grow (redrawn V d) os) w' from ⟨he, by subst hw; exact Below.refl _ _⟩))
        rw [HREF.out cc] at this
        exact Calls.regrown_of this : Calls Try.prog 13 #[.slice A l.length ca, .slice B ns.length cb, .int .i64 cc] (Sort.grow (redrawn V d) os) fun e w'' => e = .returned (.int .i64 (M.numAt told ns cc)) ∧ ∃ p : Regrown, w'' = Sort.grow (redrawn V p.d) p.os))
      have y2 := fun d os => cell_regrown (HX.out w3 HB3.out).1 d os
      have y3 := fun d os => cell_regrown (HX.out w3 HB3.out).2 d os
      have CT := Lib.hid (CONS.out w3 (Below.refl _ _))
      have CR := Lib.hid (CONR.out w3 (Below.refl _ _))
      obtain ⟨y0, y1⟩ := HX.out w3 HB3.out
      go_wp2
      refine wp_region_quiet_below (by kernel_rfl) (by kernel_rfl) ?_
      repeat (go_big_quiet_step (first | (with_reducible exact CT.out _ _ _) | (with_reducible exact CR.out _ _ _)))
      refine wpQuiet_nil ?_
      intro w4 hw'
      obtain ⟨⟨dq, osq⟩, hw4⟩ := hw'
      have hb4 : Below w3.heap.size w3 w4 := by rw [hw4]; exact below_regrown w3 dq osq
      have HB34 := Lib.hid hb4
      clear hw4 CT CR y0 y1 y2 y3 hb4
      obtain ⟨y0, y1⟩ := HX.out w4 (HB3.out.trans (HB34.out.mono HB3.out.size))
      go_wp2
      go_loopw [9] (fun i wr => ∃ k : Nat, k ≤ l.length ∧ i = .int .i64 k ∧ Below w3.heap.size w3 wr) (fun i _ => l.length - (intOf i).toNat)
      case atStart => exact ⟨0, Nat.zero_le _, rfl, HB34.out⟩
      case round =>
        obtain ⟨k, hk, rfl, hb⟩ := hrel
        have HBL := Lib.hid hb
        have HB5 := Lib.hid (HB3.out.trans (hb.mono HB3.out.size))
        clear hb y0 y1
        obtain ⟨y0, y1⟩ := HX.out wr HB5.out
        by_cases hlt : k < l.length
        · obtain ⟨e, he⟩ : ∃ e, l[k]? = some e := ⟨_, List.getElem?_eq_getElem hlt⟩
          obtain ⟨ha0, hab0, hb0⟩ := M.right_le (HOK.out.up e (List.mem_of_getElem? he)).1
          obtain ⟨ad, rfl, hab, c0, c1, c2, c3⟩ := HR.out.below HB5.out k e he
          have hk1 : (0 : Int) ≤ (k : Int) := by omega
          have hk2 : (k : Int) < (l.length : Int) := by omega
          have CT := Lib.hid (CONS.out wr HBL.out)
          have CR := Lib.hid (CONR.out wr HBL.out)
          have y2 := fun d os => cell_regrown y0 d os
          have y3 := fun d os => cell_regrown y1 d os
          clear he c2 c3
          go_wp2
          refine wp_region_quiet_below (by kernel_rfl) (by kernel_rfl) ?_
          repeat (go_big_quiet_step (first | (with_reducible exact CT.out _ _ _) | (with_reducible exact CR.out _ _ _)))
          refine wpQuiet_nil ?_
          intro _ hw'
          obtain ⟨⟨dq, osq⟩, hw4⟩ := hw'
          subst hw4
          clear CT CR y2 y3 c0 c1
          go_wp2
          go_roundw
          case rel => exact ⟨k + 1, by omega, by go_num, HBL.out.trans ((below_regrown wr dq osq).mono HBL.out.size)⟩
          case measure => simp [intOf]; omega
        · have hl600 : l.length ≤ 600 := HOK.out.rises.1
          have HLOW := Lib.hid (HOK.out.rises.2.low)
          have HVAL := Lib.hid (show ∀ e ∈ l, (M.idx ns e.v).isSome = true from fun e he => (HOK.out.up e he).2)
          go_wp2
          go_region_with (first
            | (go_at_call 9
               refine (alive_true _).mono ?_
               rintro r wa ⟨rfl, hba⟩
               have hbaa : Below wr.heap.size wr wa := (Below.refl _ _).drew.trans hba
               have HBa := Lib.hid (HBL.out.trans (hbaa.mono HBL.out.size))
               obtain ⟨z0, z1⟩ := HX.out wa (HB3.out.trans (HBa.out.mono HB3.out.size))
               clear hba hbaa)
            | (go_at_call 15
               refine (tableRanges_any w2.heap.size tb told ns _ ?_ h600).mono ?_
               (first | exact HT3.out.below HBr.out | exact HT3.out.below HBa.out)
               rintro r wt ⟨⟨vt, rfl, hot⟩, hbt⟩
               obtain ⟨At, ct, rfl, hrt, _, _, _⟩ := hot.shape
               have HBt := Lib.hid (show Below w3.heap.size w3 wt by first | exact HBr.out.trans (hbt.mono HBr.out.size) | exact HBa.out.trans (hbt.mono HBa.out.size))
               have HRt := Lib.hid hrt
               have HBtr := Lib.hid hbt
               obtain ⟨t0, t1⟩ := HX.out wt (HB3.out.trans (HBt.out.mono HB3.out.size))
               clear hot hbt hrt)
            | (go_at_call 16
               refine (refRanges_any A B ca cb l ns _ ?_ ?_ hl600 HMN.out HLOW.out HVAL.out).mono ?_
               (first
                 | exact (HR.out.below (HB3.out.trans (HBt.out.mono HB3.out.size))).more (HB3.out.trans (HBt.out.mono HB3.out.size)).size
                 | exact (HR.out.below (HB3.out.trans (HBa.out.mono HB3.out.size))).more (HB3.out.trans (HBa.out.mono HB3.out.size)).size)
               (first
                 | exact (HN.out.below (HB3.out.trans (HBt.out.mono HB3.out.size))).more (HB3.out.trans (HBt.out.mono HB3.out.size)).size
                 | exact (HN.out.below (HB3.out.trans (HBa.out.mono HB3.out.size))).more (HB3.out.trans (HBa.out.mono HB3.out.size)).size)
               rintro r wz ⟨⟨vz, rfl, hoz⟩, hbz⟩
               rw [HTOLD.out] at hoz
               obtain ⟨Az, cz, rfl, hrz, _, _, _⟩ := hoz.shape
               have HBr := Lib.hid (show Below w3.heap.size w3 wz by first | exact HBt.out.trans (hbz.mono HBt.out.size) | exact HBa.out.trans (hbz.mono HBa.out.size))
               have HRz := Lib.hid hrz
               have HBzr := Lib.hid hbz
               clear hoz hbz hrz)
            | (go_at_call 14
               refine (same_any _ _ _ _ told told _ ?_ ?_ htm).mono ?_
               (first | exact HRt.out | exact (HRt.out.below HBzr.out).more HBzr.out.size)
               (first | exact HRz.out | exact (HRz.out.below HBtr.out).more HBtr.out.size)
               rintro r ws ⟨rfl, hbs⟩
               rw [M.same_self]
               have HBs := Lib.hid (show Below w3.heap.size w3 ws by first | exact HBr.out.trans (hbs.mono HBr.out.size) | exact HBt.out.trans (hbs.mono HBt.out.size))
               clear hbs))
          all_goals
            go_wp2
            go_ret
            exact ⟨rfl, HBW.out.trans ((HB3.out.trans (HBs.out.mono HB3.out.size)).mono HBW.out.size)⟩
    · have HNO := Lib.hid hok
      have HTAB := Lib.hid (M.tab_no hok)
      clear hok
      go_wp2_with fail
      refine (refTabRight_any A B ca cb l ns w1 ((HR.out.below HB1.out).more HB1.out.size) ((HN.out.below HB1.out).more HB1.out.size) HM.out HMN.out HZ.out HZN.out).mono ?_
      rintro r w2 ⟨rfl, hb2⟩
      rw [HTAB.out]
      have HB2 := Lib.hid (HB1.out.trans (hb2.mono HB1.out.size))
      clear hb2 y0 y1
      obtain ⟨y0, y1⟩ := HX.out w2 HB2.out
      go_wp2_with fail
      refine (new_any A B ca cb l ns w2 ((HR.out.below HB2.out).more HB2.out.size) ((HN.out.below HB2.out).more HB2.out.size) HM.out HMN.out HZ.out HZN.out).mono ?_
      rintro r w3 ⟨hb3, _, hno⟩
      obtain rfl := hno HNO.out
      have HB3 := Lib.hid (HB2.out.trans (hb3.mono HB2.out.size))
      clear hb3 hno y0 y1
      go_wp2_with fail
      refine (alive_true w3).mono ?_
      rintro r w4 ⟨rfl, hb4⟩
      have HB4 := Lib.hid (HB3.out.trans (hb4.mono HB3.out.size))
      clear hb4
      go_wp2
      go_ret
      exact ⟨rfl, HBW.out.trans (HB4.out.mono HBW.out.size)⟩
end Go.Proofs.Ytjbpjnnflcmmhaa
