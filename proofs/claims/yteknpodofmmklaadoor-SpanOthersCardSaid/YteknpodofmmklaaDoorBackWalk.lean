/- The walk of the statement SpanBack over the translation: it answers true. Conditions: the slice reads as a list of spans whose fields are of their types; the variable lengths holds the four rows of the program's text. -/
import Derived.Test.YteknpodofmmklaaDoorFits
import Derived.Test.YteknpodofmmklaaDoorMathM
namespace Go.Proofs.YteknpodofmmklaaDoor
open Go.RowKit

theorem and_1023 (n : Int) : 0 ≤ bits .and .i64 n 1023 ∧ bits .and .i64 n 1023 ≤ 1023 := by
  have h : (BitVec.ofInt 64 n &&& BitVec.ofInt 64 1023).toNat ≤ 1023 := by
    rw [BitVec.toNat_and]
    exact Nat.and_le_right
  have e : bits .and .i64 n 1023 = IntKind.i64.wrap ((BitVec.ofInt 64 n &&& BitVec.ofInt 64 1023).toNat : Int) := rfl
  obtain ⟨k, hk⟩ : ∃ k, (BitVec.ofInt 64 n &&& BitVec.ofInt 64 1023).toNat = k := ⟨_, rfl⟩
  rw [hk] at h e
  rw [e, IntKind.wrap_i64]
  omega
theorem and_63 (n : Int) : 0 ≤ bits .and .i64 n 63 ∧ bits .and .i64 n 63 ≤ 63 := by
  have h : (BitVec.ofInt 64 n &&& BitVec.ofInt 64 63).toNat ≤ 63 := by
    rw [BitVec.toNat_and]
    exact Nat.and_le_right
  have e : bits .and .i64 n 63 = IntKind.i64.wrap ((BitVec.ofInt 64 n &&& BitVec.ofInt 64 63).toNat : Int) := rfl
  obtain ⟨k, hk⟩ : ∃ k, (BitVec.ofInt 64 n &&& BitVec.ofInt 64 63).toNat = k := ⟨_, rfl⟩
  rw [hk] at h e
  rw [e, IntKind.wrap_i64]
  omega
theorem ins_len (l : List M.S) (a b : Int) : (M.ins l a b).length ≤ l.length := by
  unfold M.ins
  split
  · exact Nat.le_refl _
  · exact List.length_filterMap_le _ _
theorem del_len (l : List M.S) (a b : Int) : (M.del l a b).length ≤ l.length := by
  unfold M.del
  split
  · exact Nat.le_refl _
  · exact List.length_filterMap_le _ _
/-- Spans that are right and look as some of others have fields as theirs. -/
theorem szd_part {l m : List M.S} {n : Int} (h : M.Rt n m) (hn : n ≤ 4000000) (hf : ∀ z ∈ m, ∃ s ∈ l, z.bare = s.bare) (hs : Szd l) : Szd m := fun z hz => by
  obtain ⟨h0, h1, h2, _⟩ := h.each z hz
  obtain ⟨s, hsm, e⟩ := hf z hz
  obtain ⟨_, hx, hr⟩ := hs s hsm
  have ex : z.x = s.x := (show z.bare.x = s.bare.x by rw [e])
  have er : z.r = s.r := (show z.bare.r = s.bare.r by rw [e])
  exact ⟨⟨by omega, by omega⟩, by rw [ex]; exact hx, by rw [er]; exact hr⟩
set_option maxRecDepth 100000 in
set_option maxHeartbeats 8000000 in
theorem backs_any (A : Option Addr) (ca : Nat) (l : List M.S) (n a b : Int) (w : World) (hl : LensOk w) (hr : RdP w w.heap.size A l) (hcl : l.length ≤ ca) (hca : ca ≤ maxLen) (ht : Typed l) (_hna : A = none → ca = 0) :
    Calls Tryd.prog 6 #[.slice A l.length ca, .int .i64 n, .agg #[.int .i64 a, .int .i64 b]] w fun r w' => r = .returned (.bool true) ∧ Below w.heap.size w w' := by
  obtain ⟨i0, hi, hz0, hz1, hz2⟩ := info_parts Tryd.infoSpan
  obtain ⟨W0, hW0⟩ : ∃ W0, w.alloc (.cells #[.int .i64 a, .int .i64 b] 38) = W0 := ⟨_, rfl⟩
  have hb0 : Below w.heap.size w W0 := by rw [← hW0]; exact (Below.refl _ _).alloc (Nat.le_refl _) _
  have hlt0 : w.heap.size < W0.heap.size := by rw [← hW0]; simp
  have k0' : W0.cell? ⟨w.heap.size, 0, none⟩ = some (.int .i64 a) := by rw [← hW0]; simp [go_sem]
  have k1' : W0.cell? ⟨w.heap.size, 1, none⟩ = some (.int .i64 b) := by rw [← hW0]; simp [go_sem]
  have KA := Lib.hid (fun (W : World) (hW : Below W0.heap.size W0 W) => (hW.cell (p := ⟨w.heap.size, 0, none⟩) hlt0).trans k0')
  have KB := Lib.hid (fun (W : World) (hW : Below W0.heap.size W0 W) => (hW.cell (p := ⟨w.heap.size, 1, none⟩) hlt0).trans k1')
  have HR0 := Lib.hid (hr.after hb0)
  have HF := Lib.hid (fits_any A ca l n W0 (hr.after hb0) (Nat.le_trans hcl hca) ht)
  have HL := Lib.hid hl
  have HB0 := Lib.hid hb0
  have HT := Lib.hid ht
  obtain ⟨j0, j1⟩ := and_1023 a
  obtain ⟨k1, k2⟩ := and_63 b
  obtain ⟨q0, hq0⟩ : ∃ q0, bits .and .i64 a 1023 = q0 := ⟨_, rfl⟩
  obtain ⟨q1, hq1⟩ : ∃ q1, bits .and .i64 b 63 = q1 := ⟨_, rfl⟩
  rw [hq0] at j0 j1
  rw [hq1] at k1 k2
  clear hl hr hca ht hb0 k0' k1'
  go_enter Tryd.func6, Tryd.ntmps6
  go_wp2_with fail
  refine HF.out.mono ?_
  rintro r w1 ⟨bb, rfl, himp, hb1⟩
  have HB1 := Lib.hid (HB0.out.trans (hb1.mono HB0.out.size))
  have HR1 := Lib.hid (HR0.out.after hb1)
  have ka := KA.out w1 hb1
  have kb := KB.out w1 hb1
  clear hb1
  cases bb
  · clear himp
    go_wp2_with fail
    refine (alive_any _ (HL.out.below HB1.out HL.out.lt)).mono ?_
    rintro r wz ⟨rfl, hbz⟩
    have HBZ := Lib.hid (HB1.out.trans (hbz.mono HB1.out.size))
    clear hbz
    go_wp2_with fail
    go_ret
    exact ⟨rfl, HBZ.out⟩
  · have hfit := himp rfl
    have hm60 := hfit.len
    have hn0 := hfit.lo
    have hn1 := hfit.hi
    have HSZ := Lib.hid (szd_of HT.out hfit.ruby)
    have HFIT := Lib.hid hfit
    clear himp hfit
    by_cases hgt : n < q0
    · have hi0 : 0 ≤ n := by omega
      have hAn : n ≤ n := by omega
      have hri := HFIT.out.right
      have hrt := (M.right_iff.1 hri).2
      have hl40 := (M.right_iff.1 hri).1
      have hmi : M.ins l n q1 = l.filterMap (M.insS n q1) := by unfold M.ins; rw [if_neg (by omega)]
      have hrm : M.Rt (n + q1) (M.ins l n q1) := by rw [hmi]; exact M.ins_rt hrt hi0 k1
      have HI := Lib.hid (insert_any A ca l n q1 w1 HR1.out hm60 HFIT.out.lim (by omega) (by omega))
      have HRT := Lib.hid (show M.right (M.ins l n q1) (n + q1) = true from M.right_iff.2 ⟨Nat.le_trans (ins_len l n q1) hl40, hrm⟩)
      have HLM := Lib.hid (rt_lim hrm (by omega))
      have HSM := Lib.hid (show Szd (M.ins l n q1) from szd_part hrm (by omega) (fun z hz => by
        rw [hmi] at hz
        obtain ⟨s, hs, he⟩ := List.mem_filterMap.1 hz
        exact ⟨s, hs, (M.insS_some he).2.2.2.1⟩) HSZ.out)
      have hlm : (M.ins l n q1).length ≤ 60 := Nat.le_trans (ins_len l n q1) hm60
      have HDM := Lib.hid (show M.del (M.ins l n q1) n (n + q1) = l.filter (M.stays n q1) by
        unfold M.del
        rw [if_neg (by omega), hmi]
        exact M.there_back hrt hi0 k1)
      have hde : M.del l n (n + q1) = l.filterMap (M.delS n (n + q1)) := by unfold M.del; rw [if_neg (by omega)]
      have hre : ∀ x, x = n - min q1 (n - n) → M.Rt x (M.del l n (n + q1)) := fun x hx => by
        rw [hde]
        exact M.del_rt hrt hi0 (by omega) (fun y hy => by rw [hx]; unfold M.back; split <;> omega)
      have HRE := Lib.hid (fun x (hx : x = n - min q1 (n - n)) => (show M.right (M.del l n (n + q1)) x = true from M.right_iff.2 ⟨Nat.le_trans (del_len l n (n + q1)) hl40, hre x hx⟩))
      have HSE := Lib.hid (show Szd (M.del l n (n + q1)) from szd_part (hre _ rfl) (by omega) (fun z hz => by
        rw [hde] at hz
        obtain ⟨s, hs, he⟩ := List.mem_filterMap.1 hz
        exact ⟨s, hs, (M.delS_some he).2.2.2.1⟩) HSZ.out)
      have hle : (M.del l n (n + q1)).length ≤ 60 := Nat.le_trans (del_len l n (n + q1)) hm60
      have hlf : (l.filter (M.stays n q1)).length ≤ 60 := Nat.le_trans (List.length_filter_le _ _) hm60
      clear hri hrt hmi hrm hde hre
      obtain ⟨m, hm⟩ : ∃ m, M.ins l n q1 = m := ⟨_, rfl⟩
      rw [hm] at HI HRT HLM HSM hlm HDM
      obtain ⟨e, he⟩ : ∃ e, M.del l n (n + q1) = e := ⟨_, rfl⟩
      rw [he] at HRE HSE hle
      have HE := Lib.hid he
      clear hm he
      go_wp2_with fail
      refine HI.out.mono ?_
      rintro r w2 ⟨v2, rfl, ho2, hb2⟩
      obtain ⟨A2, c2, rfl, hr2, hc2, hm2, hn2⟩ := ho2.shape
      have HR2 := Lib.hid (HR1.out.after hb2)
      have HM2 := Lib.hid hr2
      have HB2 := Lib.hid (HB1.out.trans (hb2.mono HB1.out.size))
      clear hb2 ho2 hr2 hc2 hm2 hn2
      go_wp2_with fail
      refine (right_any A2 c2 m (n + q1) w2 (HL.out.below HB2.out HL.out.lt) HM2.out hlm HSM.out).mono ?_
      rintro r w3 ⟨rfl, hb3⟩
      rw [HRT.out]
      have HR3 := Lib.hid (HR2.out.after hb3)
      have HM3 := Lib.hid (HM2.out.after hb3)
      have HB3 := Lib.hid (HB2.out.trans (hb3.mono HB2.out.size))
      clear hb3
      go_wp2_with fail
      refine (delete_any A2 c2 m n (n + q1) w3 HM3.out hlm HLM.out (by omega) (by omega)).mono ?_
      rintro r w5 ⟨v5, rfl, ho5, hb5⟩
      rw [HDM.out] at ho5
      obtain ⟨fl, hfl⟩ : ∃ fl, l.filter (M.stays n q1) = fl := ⟨_, rfl⟩
      rw [hfl] at ho5 hlf
      have HFL := Lib.hid hfl
      obtain ⟨A5, c5', rfl, hr5, hc5, hm5, hn5⟩ := ho5.shape
      have HR5 := Lib.hid (HR3.out.after hb5)
      have HD5 := Lib.hid hr5
      have HB5 := Lib.hid (HB3.out.trans (hb5.mono HB3.out.size))
      clear hb5 ho5 hr5 hc5 hm5 hn5 hfl
      go_wp2_with fail
      go_loopw [12, 13] (fun v i wr => ∃ k : Nat, k ≤ l.length ∧ i = .int .i64 k ∧ OwnP wr w5.heap.size v ((l.take k).filter (M.stays n q1)) ∧ Below w5.heap.size w5 wr) (fun _ i _ => l.length - (intOf i).toNat)
      case atStart => exact ⟨0, Nat.zero_le _, rfl, OwnP.nil _ _, Below.refl _ _⟩
      case round =>
        obtain ⟨k, hk, rfl, hown, hb⟩ := hrel
        have HO := Lib.hid hown
        have HB := Lib.hid hb
        have hbs := hb.size
        clear hown hb
        by_cases hlt : k < l.length
        · obtain ⟨s, hs⟩ : ∃ s, l[k]? = some s := ⟨_, List.getElem?_eq_getElem hlt⟩
          have HTK := Lib.hid (show (l.take (k + 1)).filter (M.stays n q1) = (l.take k).filter (M.stays n q1) ++ (if M.stays n q1 s = true then [s] else []) by
            obtain ⟨hk', rfl⟩ := List.getElem?_eq_some_iff.1 hs
            rw [List.take_succ_eq_append_getElem hk', List.filter_append]
            congr 1
            rw [List.filter_cons]
            rfl)
          have hlen : ((l.take k).filter (M.stays n q1)).length ≤ 60 := by
            have := List.length_filter_le (M.stays n q1) (l.take k)
            rw [List.length_take] at this
            omega
          obtain ⟨s0, s1, s2, s3⟩ := HFIT.out.lim s (List.mem_of_getElem? hs)
          obtain ⟨ad, rfl, hab, c0, c1, c2'', c3, c4, c5⟩ := HR5.out.below HB.out k s hs
          obtain ⟨f, t, p, c, r, x⟩ := s
          dsimp only at c0 c1 c2'' c3 c4 c5 s0 s1 s2 s3
          have hk1 : (0 : Int) ≤ (k : Int) := by omega
          have hk2 : (k : Int) < (l.length : Int) := by omega
          obtain ⟨W, hW, hbW, ⟨e0, e1, e2, e3, e4, e5, _, _, _, _, _, _⟩, -⟩ := new_span wr ⟨f, t, p, c, r, x⟩
          dsimp only at hW e0 e1 e2 e3 e4 e5
          have HOW := Lib.hid (HO.out.below hbW)
          have HBW := Lib.hid (HB.out.trans (hbW.mono hbs))
          have hsW : w5.heap.size ≤ W.heap.size := HBW.out.size
          clear hs hbW
          cases c
          · have hst : M.stays n q1 ⟨f, t, p, false, r, x⟩ = true := rfl
            have HN := Lib.hid (show (l.take (k + 1)).filter (M.stays n q1) = (l.take k).filter (M.stays n q1) ++ [⟨f, t, p, false, r, x⟩] by rw [HTK.out, if_pos (hst)])
            go_wp2_with (at_builtin; refine wpList_append_own _ rfl _ _ 22 rfl w5.heap.size 27 i0 _ 6 56 Tryd.underlying22 hi hz0 hz1 hz2 rfl (by decide) _ _ _ rfl (World.ownsRow.alloc HOW.out _) ⟨W.heap.size, 0, none⟩ 1 1 (M.S.cells ⟨f, t, p, false, r, x⟩) rfl rfl (news_cells _ ⟨f, t, p, false, r, x⟩ _) (news_one ⟨f, t, p, false, r, x⟩) (by unfold maxLen; omega) (by first | omega | (simp; omega)) (by simp; omega) ?_)
            intro v3 w3 hown3 hgrow3 _
            have HO3 := Lib.hid (OwnP.snoc (l := (l.take k).filter (M.stays n q1)) hown3)
            have HB3 := Lib.hid ((HBW.out.alloc hsW _).grown hgrow3 (by simp; omega) (fun q hq => (World.ownsRow.lt HOW.out q hq).1))
            clear hown3 hgrow3
            go_wp2
            go_roundw
            case rel => exact ⟨k + 1, by omega, by go_num, by rw [HN.out]; exact HO3.out, HB3.out⟩
            case measure => simp [intOf]; omega
          · by_cases h1 : n ≤ f
            · have hst : M.stays n q1 ⟨f, t, p, true, r, x⟩ = true := by unfold M.stays; dsimp only; rw [decide_eq_true h1]; rfl
              have HN := Lib.hid (show (l.take (k + 1)).filter (M.stays n q1) = (l.take k).filter (M.stays n q1) ++ [⟨f, t, p, true, r, x⟩] by rw [HTK.out, if_pos (hst)])
              go_wp2_with (at_builtin; refine wpList_append_own _ rfl _ _ 22 rfl w5.heap.size 27 i0 _ 6 56 Tryd.underlying22 hi hz0 hz1 hz2 rfl (by decide) _ _ _ rfl (World.ownsRow.alloc HOW.out _) ⟨W.heap.size, 0, none⟩ 1 1 (M.S.cells ⟨f, t, p, true, r, x⟩) rfl rfl (news_cells _ ⟨f, t, p, true, r, x⟩ _) (news_one ⟨f, t, p, true, r, x⟩) (by unfold maxLen; omega) (by first | omega | (simp; omega)) (by simp; omega) ?_)
              intro v3 w3 hown3 hgrow3 _
              have HO3 := Lib.hid (OwnP.snoc (l := (l.take k).filter (M.stays n q1)) hown3)
              have HB3 := Lib.hid ((HBW.out.alloc hsW _).grown hgrow3 (by simp; omega) (fun q hq => (World.ownsRow.lt HOW.out q hq).1))
              clear hown3 hgrow3
              go_wp2
              go_roundw
              case rel => exact ⟨k + 1, by omega, by go_num, by rw [HN.out]; exact HO3.out, HB3.out⟩
              case measure => simp [intOf]; omega
            · by_cases h2 : t ≤ n
              · have hst : M.stays n q1 ⟨f, t, p, true, r, x⟩ = true := by unfold M.stays; dsimp only; rw [decide_eq_true h2]; simp
                have HN := Lib.hid (show (l.take (k + 1)).filter (M.stays n q1) = (l.take k).filter (M.stays n q1) ++ [⟨f, t, p, true, r, x⟩] by rw [HTK.out, if_pos (hst)])
                go_wp2_with (at_builtin; refine wpList_append_own _ rfl _ _ 22 rfl w5.heap.size 27 i0 _ 6 56 Tryd.underlying22 hi hz0 hz1 hz2 rfl (by decide) _ _ _ rfl (World.ownsRow.alloc HOW.out _) ⟨W.heap.size, 0, none⟩ 1 1 (M.S.cells ⟨f, t, p, true, r, x⟩) rfl rfl (news_cells _ ⟨f, t, p, true, r, x⟩ _) (news_one ⟨f, t, p, true, r, x⟩) (by unfold maxLen; omega) (by first | omega | (simp; omega)) (by simp; omega) ?_)
                intro v3 w3 hown3 hgrow3 _
                have HO3 := Lib.hid (OwnP.snoc (l := (l.take k).filter (M.stays n q1)) hown3)
                have HB3 := Lib.hid ((HBW.out.alloc hsW _).grown hgrow3 (by simp; omega) (fun q hq => (World.ownsRow.lt HOW.out q hq).1))
                clear hown3 hgrow3
                go_wp2
                go_roundw
                case rel => exact ⟨k + 1, by omega, by go_num, by rw [HN.out]; exact HO3.out, HB3.out⟩
                case measure => simp [intOf]; omega
              · by_cases h3 : t - f + q1 ≤ 4
                · have hst : M.stays n q1 ⟨f, t, p, true, r, x⟩ = true := by unfold M.stays; dsimp only; rw [decide_eq_true h3]; simp
                  have HN := Lib.hid (show (l.take (k + 1)).filter (M.stays n q1) = (l.take k).filter (M.stays n q1) ++ [⟨f, t, p, true, r, x⟩] by rw [HTK.out, if_pos (hst)])
                  go_wp2_with (at_builtin; refine wpList_append_own _ rfl _ _ 22 rfl w5.heap.size 27 i0 _ 6 56 Tryd.underlying22 hi hz0 hz1 hz2 rfl (by decide) _ _ _ rfl (World.ownsRow.alloc HOW.out _) ⟨W.heap.size, 0, none⟩ 1 1 (M.S.cells ⟨f, t, p, true, r, x⟩) rfl rfl (news_cells _ ⟨f, t, p, true, r, x⟩ _) (news_one ⟨f, t, p, true, r, x⟩) (by unfold maxLen; omega) (by first | omega | (simp; omega)) (by simp; omega) ?_)
                  intro v3 w3 hown3 hgrow3 _
                  have HO3 := Lib.hid (OwnP.snoc (l := (l.take k).filter (M.stays n q1)) hown3)
                  have HB3 := Lib.hid ((HBW.out.alloc hsW _).grown hgrow3 (by simp; omega) (fun q hq => (World.ownsRow.lt HOW.out q hq).1))
                  clear hown3 hgrow3
                  go_wp2
                  go_roundw
                  case rel => exact ⟨k + 1, by omega, by go_num, by rw [HN.out]; exact HO3.out, HB3.out⟩
                  case measure => simp [intOf]; omega
                · have hst : ¬ M.stays n q1 ⟨f, t, p, true, r, x⟩ = true := by unfold M.stays; dsimp only; rw [decide_eq_false h1, decide_eq_false h2, decide_eq_false h3]; simp
                  have HN := Lib.hid (show (l.take (k + 1)).filter (M.stays n q1) = (l.take k).filter (M.stays n q1) by rw [HTK.out, if_neg hst, List.append_nil])
                  go_wp2
                  go_roundw
                  case rel => exact ⟨k + 1, by omega, by go_num, by rw [HN.out]; exact HOW.out, HBW.out⟩
                  case measure => simp [intOf]; omega
        · obtain rfl : k = l.length := by omega
          have HO6 := Lib.hid (show OwnP wr w5.heap.size _ fl by rw [← HFL.out]; have := HO.out; rw [List.take_length] at this; exact this)
          obtain ⟨A6, c6, rfl, hr6, hc6, hm6, hn6⟩ := HO6.out.shape
          have HW6 := Lib.hid hr6
          have HR6 := Lib.hid (HR5.out.after HB.out)
          have HD6 := Lib.hid (HD5.out.after HB.out)
          have HB6 := Lib.hid (HB5.out.trans (HB.out.mono HB5.out.size))
          have HDL := Lib.hid (delete_any A ca l n (n + q1) wr HR6.out hm60 HFIT.out.lim (by omega) (by omega))
          rw [HE.out] at HDL
          clear hr6 hc6 hm6 hn6
          rcases (show q1 < n - n ∨ (q1 ≤ n - n ∧ n - n ≤ q1) ∨ n - n < q1 by omega) with h7 | h7 | h7
          all_goals
            go_wp2_with fail
            refine HDL.out.mono ?_
            rintro r w7 ⟨v7, rfl, ho7, hb7⟩
            obtain ⟨A7, c7, rfl, hr7, hc7, hm7, hn7⟩ := ho7.shape
            have HW7 := Lib.hid (HW6.out.after hb7)
            have HD7 := Lib.hid (HD6.out.after hb7)
            have HE7 := Lib.hid hr7
            have HB7 := Lib.hid (HB6.out.trans (hb7.mono HB6.out.size))
            clear hb7 ho7 hr7 hc7 hm7 hn7
            go_wp2_with fail
            refine (alive_any _ (HL.out.below HB7.out HL.out.lt)).mono ?_
            rintro r w8 ⟨rfl, hb8⟩
            have HW8 := Lib.hid (HW7.out.after hb8)
            have HD8 := Lib.hid (HD7.out.after hb8)
            have HE8 := Lib.hid (HE7.out.after hb8)
            have HB8 := Lib.hid (HB7.out.trans (hb8.mono HB7.out.size))
            clear hb8
            go_wp2_with fail
            refine (same_any A5 A6 c5' c6 fl fl w8 HD8.out HW8.out hlf).mono ?_
            rintro r w9 ⟨rfl, hb9⟩
            rw [M.sameL_self]
            have HE9 := Lib.hid (HE8.out.after hb9)
            have HB9 := Lib.hid (HB8.out.trans (hb9.mono HB8.out.size))
            clear hb9
            go_wp2_with fail
            refine (right_any A7 c7 e _ w9 (HL.out.below HB9.out HL.out.lt) HE9.out hle HSE.out).mono ?_
            rintro r w10 ⟨rfl, hb10⟩
            rw [HRE.out _ (by omega)]
            have HB10 := Lib.hid (HB9.out.trans (hb10.mono HB9.out.size))
            clear hb10
            go_wp2_with fail
            go_ret
            exact ⟨rfl, HB10.out⟩
    · have hi0 : 0 ≤ q0 := by omega
      have hAn : q0 ≤ n := by omega
      have hri := HFIT.out.right
      have hrt := (M.right_iff.1 hri).2
      have hl40 := (M.right_iff.1 hri).1
      have hmi : M.ins l q0 q1 = l.filterMap (M.insS q0 q1) := by unfold M.ins; rw [if_neg (by omega)]
      have hrm : M.Rt (n + q1) (M.ins l q0 q1) := by rw [hmi]; exact M.ins_rt hrt hi0 k1
      have HI := Lib.hid (insert_any A ca l q0 q1 w1 HR1.out hm60 HFIT.out.lim (by omega) (by omega))
      have HRT := Lib.hid (show M.right (M.ins l q0 q1) (n + q1) = true from M.right_iff.2 ⟨Nat.le_trans (ins_len l q0 q1) hl40, hrm⟩)
      have HLM := Lib.hid (rt_lim hrm (by omega))
      have HSM := Lib.hid (show Szd (M.ins l q0 q1) from szd_part hrm (by omega) (fun z hz => by
        rw [hmi] at hz
        obtain ⟨s, hs, he⟩ := List.mem_filterMap.1 hz
        exact ⟨s, hs, (M.insS_some he).2.2.2.1⟩) HSZ.out)
      have hlm : (M.ins l q0 q1).length ≤ 60 := Nat.le_trans (ins_len l q0 q1) hm60
      have HDM := Lib.hid (show M.del (M.ins l q0 q1) q0 (q0 + q1) = l.filter (M.stays q0 q1) by
        unfold M.del
        rw [if_neg (by omega), hmi]
        exact M.there_back hrt hi0 k1)
      have hde : M.del l q0 (q0 + q1) = l.filterMap (M.delS q0 (q0 + q1)) := by unfold M.del; rw [if_neg (by omega)]
      have hre : ∀ x, x = n - min q1 (n - q0) → M.Rt x (M.del l q0 (q0 + q1)) := fun x hx => by
        rw [hde]
        exact M.del_rt hrt hi0 (by omega) (fun y hy => by rw [hx]; unfold M.back; split <;> omega)
      have HRE := Lib.hid (fun x (hx : x = n - min q1 (n - q0)) => (show M.right (M.del l q0 (q0 + q1)) x = true from M.right_iff.2 ⟨Nat.le_trans (del_len l q0 (q0 + q1)) hl40, hre x hx⟩))
      have HSE := Lib.hid (show Szd (M.del l q0 (q0 + q1)) from szd_part (hre _ rfl) (by omega) (fun z hz => by
        rw [hde] at hz
        obtain ⟨s, hs, he⟩ := List.mem_filterMap.1 hz
        exact ⟨s, hs, (M.delS_some he).2.2.2.1⟩) HSZ.out)
      have hle : (M.del l q0 (q0 + q1)).length ≤ 60 := Nat.le_trans (del_len l q0 (q0 + q1)) hm60
      have hlf : (l.filter (M.stays q0 q1)).length ≤ 60 := Nat.le_trans (List.length_filter_le _ _) hm60
      clear hri hrt hmi hrm hde hre
      obtain ⟨m, hm⟩ : ∃ m, M.ins l q0 q1 = m := ⟨_, rfl⟩
      rw [hm] at HI HRT HLM HSM hlm HDM
      obtain ⟨e, he⟩ : ∃ e, M.del l q0 (q0 + q1) = e := ⟨_, rfl⟩
      rw [he] at HRE HSE hle
      have HE := Lib.hid he
      clear hm he
      go_wp2_with fail
      refine HI.out.mono ?_
      rintro r w2 ⟨v2, rfl, ho2, hb2⟩
      obtain ⟨A2, c2, rfl, hr2, hc2, hm2, hn2⟩ := ho2.shape
      have HR2 := Lib.hid (HR1.out.after hb2)
      have HM2 := Lib.hid hr2
      have HB2 := Lib.hid (HB1.out.trans (hb2.mono HB1.out.size))
      clear hb2 ho2 hr2 hc2 hm2 hn2
      go_wp2_with fail
      refine (right_any A2 c2 m (n + q1) w2 (HL.out.below HB2.out HL.out.lt) HM2.out hlm HSM.out).mono ?_
      rintro r w3 ⟨rfl, hb3⟩
      rw [HRT.out]
      have HR3 := Lib.hid (HR2.out.after hb3)
      have HM3 := Lib.hid (HM2.out.after hb3)
      have HB3 := Lib.hid (HB2.out.trans (hb3.mono HB2.out.size))
      clear hb3
      go_wp2_with fail
      refine (delete_any A2 c2 m q0 (q0 + q1) w3 HM3.out hlm HLM.out (by omega) (by omega)).mono ?_
      rintro r w5 ⟨v5, rfl, ho5, hb5⟩
      rw [HDM.out] at ho5
      obtain ⟨fl, hfl⟩ : ∃ fl, l.filter (M.stays q0 q1) = fl := ⟨_, rfl⟩
      rw [hfl] at ho5 hlf
      have HFL := Lib.hid hfl
      obtain ⟨A5, c5', rfl, hr5, hc5, hm5, hn5⟩ := ho5.shape
      have HR5 := Lib.hid (HR3.out.after hb5)
      have HD5 := Lib.hid hr5
      have HB5 := Lib.hid (HB3.out.trans (hb5.mono HB3.out.size))
      clear hb5 ho5 hr5 hc5 hm5 hn5 hfl
      go_wp2_with fail
      go_loopw [12, 13] (fun v i wr => ∃ k : Nat, k ≤ l.length ∧ i = .int .i64 k ∧ OwnP wr w5.heap.size v ((l.take k).filter (M.stays q0 q1)) ∧ Below w5.heap.size w5 wr) (fun _ i _ => l.length - (intOf i).toNat)
      case atStart => exact ⟨0, Nat.zero_le _, rfl, OwnP.nil _ _, Below.refl _ _⟩
      case round =>
        obtain ⟨k, hk, rfl, hown, hb⟩ := hrel
        have HO := Lib.hid hown
        have HB := Lib.hid hb
        have hbs := hb.size
        clear hown hb
        by_cases hlt : k < l.length
        · obtain ⟨s, hs⟩ : ∃ s, l[k]? = some s := ⟨_, List.getElem?_eq_getElem hlt⟩
          have HTK := Lib.hid (show (l.take (k + 1)).filter (M.stays q0 q1) = (l.take k).filter (M.stays q0 q1) ++ (if M.stays q0 q1 s = true then [s] else []) by
            obtain ⟨hk', rfl⟩ := List.getElem?_eq_some_iff.1 hs
            rw [List.take_succ_eq_append_getElem hk', List.filter_append]
            congr 1
            rw [List.filter_cons]
            rfl)
          have hlen : ((l.take k).filter (M.stays q0 q1)).length ≤ 60 := by
            have := List.length_filter_le (M.stays q0 q1) (l.take k)
            rw [List.length_take] at this
            omega
          obtain ⟨s0, s1, s2, s3⟩ := HFIT.out.lim s (List.mem_of_getElem? hs)
          obtain ⟨ad, rfl, hab, c0, c1, c2'', c3, c4, c5⟩ := HR5.out.below HB.out k s hs
          obtain ⟨f, t, p, c, r, x⟩ := s
          dsimp only at c0 c1 c2'' c3 c4 c5 s0 s1 s2 s3
          have hk1 : (0 : Int) ≤ (k : Int) := by omega
          have hk2 : (k : Int) < (l.length : Int) := by omega
          obtain ⟨W, hW, hbW, ⟨e0, e1, e2, e3, e4, e5, _, _, _, _, _, _⟩, -⟩ := new_span wr ⟨f, t, p, c, r, x⟩
          dsimp only at hW e0 e1 e2 e3 e4 e5
          have HOW := Lib.hid (HO.out.below hbW)
          have HBW := Lib.hid (HB.out.trans (hbW.mono hbs))
          have hsW : w5.heap.size ≤ W.heap.size := HBW.out.size
          clear hs hbW
          cases c
          · have hst : M.stays q0 q1 ⟨f, t, p, false, r, x⟩ = true := rfl
            have HN := Lib.hid (show (l.take (k + 1)).filter (M.stays q0 q1) = (l.take k).filter (M.stays q0 q1) ++ [⟨f, t, p, false, r, x⟩] by rw [HTK.out, if_pos (hst)])
            go_wp2_with (at_builtin; refine wpList_append_own _ rfl _ _ 22 rfl w5.heap.size 27 i0 _ 6 56 Tryd.underlying22 hi hz0 hz1 hz2 rfl (by decide) _ _ _ rfl (World.ownsRow.alloc HOW.out _) ⟨W.heap.size, 0, none⟩ 1 1 (M.S.cells ⟨f, t, p, false, r, x⟩) rfl rfl (news_cells _ ⟨f, t, p, false, r, x⟩ _) (news_one ⟨f, t, p, false, r, x⟩) (by unfold maxLen; omega) (by first | omega | (simp; omega)) (by simp; omega) ?_)
            intro v3 w3 hown3 hgrow3 _
            have HO3 := Lib.hid (OwnP.snoc (l := (l.take k).filter (M.stays q0 q1)) hown3)
            have HB3 := Lib.hid ((HBW.out.alloc hsW _).grown hgrow3 (by simp; omega) (fun q hq => (World.ownsRow.lt HOW.out q hq).1))
            clear hown3 hgrow3
            go_wp2
            go_roundw
            case rel => exact ⟨k + 1, by omega, by go_num, by rw [HN.out]; exact HO3.out, HB3.out⟩
            case measure => simp [intOf]; omega
          · by_cases h1 : q0 ≤ f
            · have hst : M.stays q0 q1 ⟨f, t, p, true, r, x⟩ = true := by unfold M.stays; dsimp only; rw [decide_eq_true h1]; rfl
              have HN := Lib.hid (show (l.take (k + 1)).filter (M.stays q0 q1) = (l.take k).filter (M.stays q0 q1) ++ [⟨f, t, p, true, r, x⟩] by rw [HTK.out, if_pos (hst)])
              go_wp2_with (at_builtin; refine wpList_append_own _ rfl _ _ 22 rfl w5.heap.size 27 i0 _ 6 56 Tryd.underlying22 hi hz0 hz1 hz2 rfl (by decide) _ _ _ rfl (World.ownsRow.alloc HOW.out _) ⟨W.heap.size, 0, none⟩ 1 1 (M.S.cells ⟨f, t, p, true, r, x⟩) rfl rfl (news_cells _ ⟨f, t, p, true, r, x⟩ _) (news_one ⟨f, t, p, true, r, x⟩) (by unfold maxLen; omega) (by first | omega | (simp; omega)) (by simp; omega) ?_)
              intro v3 w3 hown3 hgrow3 _
              have HO3 := Lib.hid (OwnP.snoc (l := (l.take k).filter (M.stays q0 q1)) hown3)
              have HB3 := Lib.hid ((HBW.out.alloc hsW _).grown hgrow3 (by simp; omega) (fun q hq => (World.ownsRow.lt HOW.out q hq).1))
              clear hown3 hgrow3
              go_wp2
              go_roundw
              case rel => exact ⟨k + 1, by omega, by go_num, by rw [HN.out]; exact HO3.out, HB3.out⟩
              case measure => simp [intOf]; omega
            · by_cases h2 : t ≤ q0
              · have hst : M.stays q0 q1 ⟨f, t, p, true, r, x⟩ = true := by unfold M.stays; dsimp only; rw [decide_eq_true h2]; simp
                have HN := Lib.hid (show (l.take (k + 1)).filter (M.stays q0 q1) = (l.take k).filter (M.stays q0 q1) ++ [⟨f, t, p, true, r, x⟩] by rw [HTK.out, if_pos (hst)])
                go_wp2_with (at_builtin; refine wpList_append_own _ rfl _ _ 22 rfl w5.heap.size 27 i0 _ 6 56 Tryd.underlying22 hi hz0 hz1 hz2 rfl (by decide) _ _ _ rfl (World.ownsRow.alloc HOW.out _) ⟨W.heap.size, 0, none⟩ 1 1 (M.S.cells ⟨f, t, p, true, r, x⟩) rfl rfl (news_cells _ ⟨f, t, p, true, r, x⟩ _) (news_one ⟨f, t, p, true, r, x⟩) (by unfold maxLen; omega) (by first | omega | (simp; omega)) (by simp; omega) ?_)
                intro v3 w3 hown3 hgrow3 _
                have HO3 := Lib.hid (OwnP.snoc (l := (l.take k).filter (M.stays q0 q1)) hown3)
                have HB3 := Lib.hid ((HBW.out.alloc hsW _).grown hgrow3 (by simp; omega) (fun q hq => (World.ownsRow.lt HOW.out q hq).1))
                clear hown3 hgrow3
                go_wp2
                go_roundw
                case rel => exact ⟨k + 1, by omega, by go_num, by rw [HN.out]; exact HO3.out, HB3.out⟩
                case measure => simp [intOf]; omega
              · by_cases h3 : t - f + q1 ≤ 4
                · have hst : M.stays q0 q1 ⟨f, t, p, true, r, x⟩ = true := by unfold M.stays; dsimp only; rw [decide_eq_true h3]; simp
                  have HN := Lib.hid (show (l.take (k + 1)).filter (M.stays q0 q1) = (l.take k).filter (M.stays q0 q1) ++ [⟨f, t, p, true, r, x⟩] by rw [HTK.out, if_pos (hst)])
                  go_wp2_with (at_builtin; refine wpList_append_own _ rfl _ _ 22 rfl w5.heap.size 27 i0 _ 6 56 Tryd.underlying22 hi hz0 hz1 hz2 rfl (by decide) _ _ _ rfl (World.ownsRow.alloc HOW.out _) ⟨W.heap.size, 0, none⟩ 1 1 (M.S.cells ⟨f, t, p, true, r, x⟩) rfl rfl (news_cells _ ⟨f, t, p, true, r, x⟩ _) (news_one ⟨f, t, p, true, r, x⟩) (by unfold maxLen; omega) (by first | omega | (simp; omega)) (by simp; omega) ?_)
                  intro v3 w3 hown3 hgrow3 _
                  have HO3 := Lib.hid (OwnP.snoc (l := (l.take k).filter (M.stays q0 q1)) hown3)
                  have HB3 := Lib.hid ((HBW.out.alloc hsW _).grown hgrow3 (by simp; omega) (fun q hq => (World.ownsRow.lt HOW.out q hq).1))
                  clear hown3 hgrow3
                  go_wp2
                  go_roundw
                  case rel => exact ⟨k + 1, by omega, by go_num, by rw [HN.out]; exact HO3.out, HB3.out⟩
                  case measure => simp [intOf]; omega
                · have hst : ¬ M.stays q0 q1 ⟨f, t, p, true, r, x⟩ = true := by unfold M.stays; dsimp only; rw [decide_eq_false h1, decide_eq_false h2, decide_eq_false h3]; simp
                  have HN := Lib.hid (show (l.take (k + 1)).filter (M.stays q0 q1) = (l.take k).filter (M.stays q0 q1) by rw [HTK.out, if_neg hst, List.append_nil])
                  go_wp2
                  go_roundw
                  case rel => exact ⟨k + 1, by omega, by go_num, by rw [HN.out]; exact HOW.out, HBW.out⟩
                  case measure => simp [intOf]; omega
        · obtain rfl : k = l.length := by omega
          have HO6 := Lib.hid (show OwnP wr w5.heap.size _ fl by rw [← HFL.out]; have := HO.out; rw [List.take_length] at this; exact this)
          obtain ⟨A6, c6, rfl, hr6, hc6, hm6, hn6⟩ := HO6.out.shape
          have HW6 := Lib.hid hr6
          have HR6 := Lib.hid (HR5.out.after HB.out)
          have HD6 := Lib.hid (HD5.out.after HB.out)
          have HB6 := Lib.hid (HB5.out.trans (HB.out.mono HB5.out.size))
          have HDL := Lib.hid (delete_any A ca l q0 (q0 + q1) wr HR6.out hm60 HFIT.out.lim (by omega) (by omega))
          rw [HE.out] at HDL
          clear hr6 hc6 hm6 hn6
          rcases (show q1 < n - q0 ∨ (q1 ≤ n - q0 ∧ n - q0 ≤ q1) ∨ n - q0 < q1 by omega) with h7 | h7 | h7
          all_goals
            go_wp2_with fail
            refine HDL.out.mono ?_
            rintro r w7 ⟨v7, rfl, ho7, hb7⟩
            obtain ⟨A7, c7, rfl, hr7, hc7, hm7, hn7⟩ := ho7.shape
            have HW7 := Lib.hid (HW6.out.after hb7)
            have HD7 := Lib.hid (HD6.out.after hb7)
            have HE7 := Lib.hid hr7
            have HB7 := Lib.hid (HB6.out.trans (hb7.mono HB6.out.size))
            clear hb7 ho7 hr7 hc7 hm7 hn7
            go_wp2_with fail
            refine (alive_any _ (HL.out.below HB7.out HL.out.lt)).mono ?_
            rintro r w8 ⟨rfl, hb8⟩
            have HW8 := Lib.hid (HW7.out.after hb8)
            have HD8 := Lib.hid (HD7.out.after hb8)
            have HE8 := Lib.hid (HE7.out.after hb8)
            have HB8 := Lib.hid (HB7.out.trans (hb8.mono HB7.out.size))
            clear hb8
            go_wp2_with fail
            refine (same_any A5 A6 c5' c6 fl fl w8 HD8.out HW8.out hlf).mono ?_
            rintro r w9 ⟨rfl, hb9⟩
            rw [M.sameL_self]
            have HE9 := Lib.hid (HE8.out.after hb9)
            have HB9 := Lib.hid (HB8.out.trans (hb9.mono HB8.out.size))
            clear hb9
            go_wp2_with fail
            refine (right_any A7 c7 e _ w9 (HL.out.below HB9.out HL.out.lt) HE9.out hle HSE.out).mono ?_
            rintro r w10 ⟨rfl, hb10⟩
            rw [HRE.out _ (by omega)]
            have HB10 := Lib.hid (HB9.out.trans (hb10.mono HB9.out.size))
            clear hb10
            go_wp2_with fail
            go_ret
            exact ⟨rfl, HB10.out⟩
end Go.Proofs.YteknpodofmmklaaDoor
