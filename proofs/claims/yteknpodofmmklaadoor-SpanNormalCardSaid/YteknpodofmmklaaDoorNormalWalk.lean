/- The walk of the statement SpanNormal over the translation: it answers true. Conditions: the slice reads as a list of spans whose fields are of their types; the variable lengths holds the four rows of the program's text. -/
import Derived.Test.YteknpodofmmklaaDoorFits
import Derived.Test.YteknpodofmmklaaDoorMathN
import Derived.Lib.QuietBelow
namespace Go.Proofs.YteknpodofmmklaaDoor
open Go.RowKit

theorem norm_szd {l : List M.S} {n : Int} (h : Fit l n) (hs : Szd l) : Szd (M.norm l) := fun z hz => by
  have hm := M.made rfl (M.right_iff.1 h.right).2
  obtain ⟨h0, h1, h2, _⟩ := hm.right.each z hz
  obtain ⟨s, hsm, e⟩ := hm.from_ z hz
  obtain ⟨_, hx, hr⟩ := hs s hsm
  have ex : z.x = s.x := (show z.bare.x = s.bare.x by rw [e])
  have er : z.r = s.r := (show z.bare.r = s.bare.r by rw [e])
  have := h.hi
  exact ⟨⟨by omega, by omega⟩, by rw [ex]; exact hx, by rw [er]; exact hr⟩
set_option maxRecDepth 100000 in
set_option maxHeartbeats 8000000 in
theorem normals_any (A : Option Addr) (ca : Nat) (l : List M.S) (n i : Int) (w : World) (hl : LensOk w) (hr : RdP w w.heap.size A l) (hcl : l.length ≤ ca) (hca : ca ≤ maxLen) (ht : Typed l) (_hna : A = none → ca = 0) :
    Calls Tryd.prog 5 #[.slice A l.length ca, .int .i64 n, .int .i64 i] w fun r w' => r = .returned (.bool true) ∧ Below w.heap.size w w' := by
  have HF := Lib.hid (fits_any A ca l n w hr (Nat.le_trans hcl hca) ht)
  have HR := Lib.hid hr
  have HT := Lib.hid ht
  have HL := Lib.hid hl
  clear hl hr hca ht
  go_enter Tryd.func5, Tryd.ntmps5
  go_wp2_with fail
  refine HF.out.mono ?_
  rintro r w1 ⟨bb, rfl, himp, hb1⟩
  have HB1 := Lib.hid hb1
  have HR1 := Lib.hid (HR.out.after hb1)
  clear hb1
  cases bb
  · clear himp
    go_wp2_with fail
    refine (alive_any _ (HL.out.below HB1.out HL.out.lt)).mono ?_
    rintro r wz ⟨rfl, hbz⟩
    have HBZ := Lib.hid (HB1.out.trans (hbz.mono HB1.out.size))
    clear hbz
    go_wp2_with fail
    go_ret
    exact ⟨rfl, HBZ.out⟩
  · have hfit := himp rfl
    have hm60 := hfit.len
    have hmade := M.made rfl (M.right_iff.1 hfit.right).2
    have hlen := M.norm_len l
    have HRT := Lib.hid (show M.right (M.norm l) n = true from M.right_iff.2 ⟨Nat.le_trans hlen (M.right_iff.1 hfit.right).1, hmade.right⟩)
    have HNN := Lib.hid (show M.norm (M.norm l) = M.norm l from hmade.nrm.norm rfl)
    have HLK := Lib.hid hmade.look
    have HSZ := Lib.hid (norm_szd hfit (szd_of HT.out hfit.ruby))
    have HFIT := Lib.hid hfit
    have hlz : (M.norm l).length ≤ 60 := Nat.le_trans hlen hm60
    clear himp hfit hmade
    obtain ⟨m, hm⟩ : ∃ m, M.norm l = m := ⟨_, rfl⟩
    have HN := Lib.hid (normal_any A ca l w1 HR1.out hm60)
    rw [hm] at HN HRT HNN HLK HSZ hlen hlz
    clear hm
    go_wp2_with fail
    refine HN.out.mono ?_
    rintro r w2 ⟨v2, rfl, ho2, hb2⟩
    obtain ⟨A2, c2, rfl, hr2, hc2, hm2, hn2⟩ := ho2.shape
    have HR2 := Lib.hid (HR1.out.after hb2)
    have HM2 := Lib.hid hr2
    have HB2 := Lib.hid (HB1.out.trans (hb2.mono HB1.out.size))
    clear hb2 ho2 hr2 hc2 hm2 hn2
    go_wp2_with fail
    refine (right_any A2 c2 m n w2 (HL.out.below HB2.out HL.out.lt) HM2.out hlz HSZ.out).mono ?_
    rintro r w3 ⟨rfl, hb3⟩
    rw [HRT.out]
    have HR3 := Lib.hid (HR2.out.after hb3)
    have HM3 := Lib.hid (HM2.out.after hb3)
    have HB3 := Lib.hid (HB2.out.trans (hb3.mono HB2.out.size))
    clear hb3
    go_wp2_with fail
    refine (normal_any A2 c2 m w3 HM3.out hlz).mono ?_
    rintro r w4 ⟨v4, rfl, ho4, hb4⟩
    rw [HNN.out] at ho4
    obtain ⟨A4, c4, rfl, hr4, hc4, hm4, hn4⟩ := ho4.shape
    have HR4 := Lib.hid (HR3.out.after hb4)
    have HM4 := Lib.hid (HM3.out.after hb4)
    have HX4 := Lib.hid hr4
    have HB4 := Lib.hid (HB3.out.trans (hb4.mono HB3.out.size))
    clear hb4 ho4 hr4 hc4 hm4 hn4
    go_wp2_with fail
    refine (same_any A4 A2 c4 c2 m m w4 HX4.out HM4.out hlz).mono ?_
    rintro r w5 ⟨rfl, hb5⟩
    rw [M.sameL_self]
    have HR5 := Lib.hid (HR4.out.after hb5)
    have HM5 := Lib.hid (HM4.out.after hb5)
    have HB5 := Lib.hid (HB4.out.trans (hb5.mono HB4.out.size))
    clear hb5
    go_wp2_with fail
    go_loopw [9] (fun v wr => ∃ k : Nat, k ≤ l.length ∧ v = .int .i64 k ∧ Below w5.heap.size w5 wr) (fun v _ => l.length - (intOf v).toNat)
    case atStart => exact ⟨0, Nat.zero_le _, rfl, Below.refl _ _⟩
    case round =>
      obtain ⟨k, hk, rfl, hbr⟩ := hrel
      have HB := Lib.hid hbr
      clear hbr
      by_cases hlt : k < l.length
      · obtain ⟨s, hs⟩ : ∃ s, l[k]? = some s := ⟨_, List.getElem?_eq_getElem hlt⟩
        obtain ⟨s0, s1, s2, _⟩ := HFIT.out.lim s (List.mem_of_getElem? hs)
        obtain ⟨ad, hA, hab, c0, c1, c2', c3, c4', c5⟩ := HR5.out.below HB.out k s hs
        subst hA
        have hk1 : (0 : Int) ≤ (k : Int) := by omega
        have hk2 : (k : Int) < (l.length : Int) := by omega
        have g0 := fun d os => cell_regrown c0 d os
        have g1 := fun d os => cell_regrown c1 d os
        have CL := Lib.hid (fun (x : Int) d os => Calls.regrown_of (look_any (some ad) ca l x (Sort.grow (redrawn wr d) os) ((HR5.out.after HB.out).after (below_regrown wr d os)) hm60))
        have CM := Lib.hid (fun (x : Int) d os => by
          have := Calls.regrown_of (look_any A2 c2 m x (Sort.grow (redrawn wr d) os) ((HM5.out.after HB.out).after (below_regrown wr d os)) hlz)
          rw [HLK.out] at this
          exact this)
        unfold M.S.val at CL CM
        have hg := guard_span
        have hq := fun (y : M.S) w => (neq_span w y.f y.t y.p y.c y.r y.x y.f y.t y.p y.c y.r y.x).trans (by rw [show M.eq6 y.f y.t y.p y.c y.r y.x y.f y.t y.p y.c y.r y.x = true from M.same_iff (a := y) (b := y) |>.2 rfl]; rfl : _ = .ok (.bool false) w)
        clear hs c0 c1 c2' c3 c4' c5
        go_wp2_with fail
        refine wp_region_quiet_below (by kernel_rfl) (by kernel_rfl) ?_
        repeat (go_big_quiet_step (first | (with_reducible exact CL.out _ _ _) | (with_reducible exact CM.out _ _ _)))
        refine wpQuiet_nil ?_
        intro _ hw'
        obtain ⟨⟨dq, osq⟩, hw4⟩ := hw'
        subst hw4
        have HBV := Lib.hid (HB.out.trans ((below_regrown wr dq osq).mono HB.out.size))
        go_wp2
        go_roundw
        case rel => exact ⟨k + 1, by omega, by go_num, HBV.out⟩
        case measure => simp [intOf]; omega
      · obtain rfl : k = l.length := by omega
        have HB6 := Lib.hid (HB5.out.trans (HB.out.mono HB5.out.size))
        go_wp2_with fail
        refine (alive_any _ (HL.out.below HB6.out HL.out.lt)).mono ?_
        rintro r w8 ⟨rfl, hb8⟩
        have HR8 := Lib.hid ((HR5.out.after HB.out).after hb8)
        have HM8 := Lib.hid ((HM5.out.after HB.out).after hb8)
        have HB8 := Lib.hid (HB6.out.trans (hb8.mono HB6.out.size))
        clear hb8
        go_wp2_with fail
        refine (look_any A2 c2 m i w8 HM8.out hlz).mono ?_
        rintro r w9 ⟨rfl, hb9⟩
        rw [HLK.out]
        have HR9 := Lib.hid (HR8.out.after hb9)
        have HB9 := Lib.hid (HB8.out.trans (hb9.mono HB8.out.size))
        clear hb9
        go_wp2_with fail
        refine (look_any A ca l i w9 HR9.out hm60).mono ?_
        rintro r w10 ⟨rfl, hb10⟩
        have HB10 := Lib.hid (HB9.out.trans (hb10.mono HB9.out.size))
        clear hb10
        unfold M.S.val
        have hg := guard_span
        obtain ⟨y, hy⟩ : ∃ y, M.look l i = y := ⟨_, rfl⟩
        rw [hy]
        have hq := fun w => eql_span w y.f y.t y.p y.c y.r y.x y.f y.t y.p y.c y.r y.x
        rw [show M.eq6 y.f y.t y.p y.c y.r y.x y.f y.t y.p y.c y.r y.x = true from M.same_iff (a := y) (b := y) |>.2 rfl] at hq
        have HY := Lib.hid hy
        clear hy
        go_wp2_with fail
        go_ret
        exact ⟨rfl, HB10.out⟩
end Go.Proofs.YteknpodofmmklaaDoor
