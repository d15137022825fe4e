/- The Go function RangesOwn answers true, over the translation. Conditions: the slices read as lists of entries, and of strings, no longer than the model lets them be; each takes at most 2^47 - 4096 bytes. -/
import Derived.Test.YtjbpjnnflcmmhaaOwn
import Derived.Deep.AppendLies
namespace Go.Proofs.Ytjbpjnnflcmmhaa
open Go.RowKit

theorem ownBlock_lt {w : World} {base n sz : Nat} {e : TypeId} {v : Value} {xs : List Value} (h : w.ownsRow base e sz v n xs) {hi : Nat} (hh : w.heap.size ≤ hi) : ∀ g, v.ownBlock = some g → g < hi := fun g hg => Nat.lt_of_lt_of_le (World.ownsRow.lt h g hg).2 hh
theorem row_at {w : World} {base g n cap sz : Nat} {e : TypeId} {xs : List Value} (h : w.ownsRow base e sz (.slice (some ⟨g, 0, none⟩) n cap) n xs) (j : Nat) (hj : j < n * sz) : ∃ u, w.cell? ⟨g, j, none⟩ = some u ∧ w.frozen? ⟨g, j, none⟩ = false := by
  have hl : xs.length = n * sz := h.1
  refine ⟨xs[j]'(by omega), ?_, World.ownsRow.frozenAt h _⟩
  have := World.ownsRow.cells h rfl j _ (List.getElem?_eq_getElem (by omega))
  rw [addr0_add] at this
  exact this

set_option maxRecDepth 100000 in
set_option maxHeartbeats 8000000 in
theorem ownLaw_any (A B : Option Addr) (ca cb : Nat) (l : List M.E) (ns : List ByteArray) (c : Int) (w : World) (hr : RdE w w.heap.size A l) (hn : RdN w w.heap.size B ns) (hm : l.length * 48 ≤ 140737488351232) (hmn : ns.length * 16 ≤ 140737488351232) (hz : Sized l) (hzn : SizedN ns) (hA : A = none → ca = 0) (hB : B = none → cb = 0) :
    Calls Try.prog 6 #[.agg #[.slice A l.length ca, .slice B ns.length cb], .int .i64 c] w fun e w' => e = .returned (.bool true) ∧ Below w.heap.size w w' := by
  obtain ⟨i0, hi, hz0, hz1, hz2⟩ := info_parts Try.infoEntry
  obtain ⟨j0, hj, hy0, hy1, hy2⟩ := info_parts Try.infoString
  have HM := Lib.hid (show l.length ≤ maxLen by unfold maxLen; omega)
  have HMN := Lib.hid (show ns.length ≤ maxLen by unfold maxLen; omega)
  obtain ⟨W, hW⟩ : ∃ W, w.alloc (.cells #[.slice A l.length ca, .slice B ns.length cb] 25) = W := ⟨_, rfl⟩
  have hbW : Below w.heap.size w W := by rw [← hW]; exact (Below.refl _ _).alloc (Nat.le_refl _) _
  have hWs : w.heap.size < W.heap.size := by rw [← hW]; simp
  have x0 : W.cell? ⟨w.heap.size, 0, none⟩ = some (.slice A l.length ca) := by rw [← hW]; simp [go_sem]
  have x1 : W.cell? ⟨w.heap.size, 1, none⟩ = some (.slice B ns.length cb) := by rw [← hW]; simp [go_sem]
  have HBW := Lib.hid hbW
  have HR := Lib.hid ((hr.below hbW).more hbW.size)
  have HN := Lib.hid ((hn.below hbW).more hbW.size)
  have HZ := Lib.hid hz
  have HZN := Lib.hid hzn
  have HAN := Lib.hid (show A = none → l.length = 0 ∧ ca = 0 from fun h => ⟨(by
    cases l with
    | nil => rfl
    | cons y r => obtain ⟨ad, h', _⟩ := hr 0 y rfl; rw [h] at h'; cases h'), hA h⟩)
  have HBN := Lib.hid (show B = none → ns.length = 0 ∧ cb = 0 from fun h => ⟨(by
    cases ns with
    | nil => rfl
    | cons y r => obtain ⟨ad, h', _⟩ := hn 0 y rfl; rw [h] at h'; cases h'), hB h⟩)
  have HX := Lib.hid (fun (w' : World) (hb : Below W.heap.size W w') => And.intro ((hb.cell (p := ⟨w.heap.size, 0, none⟩) hWs).trans x0) ((hb.cell (p := ⟨w.heap.size, 1, none⟩) hWs).trans x1))
  clear hr hn hz hzn hbW hA hB
  go_enter Try.func6, Try.ntmps6
  go_wp2_with fail
  refine (fits_any A B ca cb l ns W HR.out HN.out HM.out HMN.out HZ.out HZN.out).mono ?_
  rintro r w1 ⟨q, rfl, hq, hb1⟩
  have HB1 := Lib.hid hb1
  have HQ := Lib.hid hq
  -- a copy of the entries
  have hbe : Below w1.heap.size w1 (w1.alloc (.cells #[] 36)) := (Below.refl _ _).alloc (Nat.le_refl _) _
  obtain ⟨W1, hW1⟩ : ∃ V, w1.alloc (.cells #[] 36) = V := ⟨_, rfl⟩
  have hmade : (w1.alloc (.cells #[] 36)).ownsRow w1.heap.size 36 4 (.slice (some ⟨w1.heap.size, 0, none⟩) 0 0) 0 [] := World.ownsRow_made w1 #[] 0 (Nat.le_refl _) (Nat.zero_le _) rfl
  rw [hW1] at hbe hmade
  have hs1 : w1.heap.size < W1.heap.size := by rw [← hW1]; simp
  have HMADE := Lib.hid hmade
  have HB2 := Lib.hid (hb1.trans (hbe.mono hb1.size))
  have HR2 := Lib.hid ((HR.out.below HB2.out).more HB2.out.size)
  obtain ⟨y0, y1⟩ := HX.out W1 HB2.out
  clear hb1 hq x0 x1 hbe hmade
  go_wp2_with (at_builtin; refine append_gen _ rfl _ _ 22 rfl w1.heap.size 36 i0 _ 4 48 Try.underlying22 hi hz0 hz1 hz2 rfl (by decide) _ 0 [] rfl HMADE.out A l.length ca (cellsE l) rfl (cellsE_length l) HAN.out (fun ad h => HR2.out.cellsAt h) (cells_one l) (by unfold maxLen; omega) (by omega) (Nat.le_of_lt hs1) ?_)
  intro v2 w2 hown2 hgrow2
  have ho2 : OwnE w2 w1.heap.size v2 l := by unfold OwnE; simpa using hown2
  obtain ⟨A2, c2, rfl, hr2, _, _, _⟩ := ho2.shape
  have hb3 : Below W.heap.size W w2 := HB2.out.grown hgrow2 HB2.out.size (fun j hj => Nat.le_trans HB1.out.size (World.ownsRow.lt HMADE.out j hj).1)
  have hs2 : w1.heap.size < w2.heap.size := Nat.lt_of_lt_of_le hs1 hgrow2.size
  have HO2 := Lib.hid ho2
  have HB3 := Lib.hid hb3
  -- a copy of the names
  have hbe : Below w2.heap.size w2 (w2.alloc (.cells #[] 9)) := (Below.refl _ _).alloc (Nat.le_refl _) _
  obtain ⟨W3, hW3⟩ : ∃ V, w2.alloc (.cells #[] 9) = V := ⟨_, rfl⟩
  have hmade : (w2.alloc (.cells #[] 9)).ownsRow w2.heap.size 9 1 (.slice (some ⟨w2.heap.size, 0, none⟩) 0 0) 0 [] := World.ownsRow_made w2 #[] 0 (Nat.le_refl _) (Nat.zero_le _) rfl
  rw [hW3] at hbe hmade
  have hs3 : w2.heap.size < W3.heap.size := by rw [← hW3]; simp
  have HMADE3 := Lib.hid hmade
  have HBE3 := Lib.hid hbe
  have HB4 := Lib.hid (hb3.trans (hbe.mono hb3.size))
  have HN4 := Lib.hid ((HN.out.below HB4.out).more HB4.out.size)
  clear y0 y1
  obtain ⟨y0, y1⟩ := HX.out W3 HB4.out
  clear hown2 hgrow2 ho2 hr2 hb3 hbe hmade hW1
  go_wp2_with (at_builtin; refine append_gen _ rfl _ _ 23 rfl w2.heap.size 9 j0 _ 1 16 Try.underlying23 hj hy0 hy1 hy2 rfl (by decide) _ 0 [] rfl HMADE3.out B ns.length cb (ns.map Value.string) rfl (by simp) HBN.out (fun ad h => HN4.out.cellsAt h) (by intro u hu; simp only [List.mem_map] at hu; obtain ⟨s, _, rfl⟩ := hu; rfl) (by unfold maxLen; omega) (by omega) (Nat.le_of_lt hs3) ?_)
  intro v4 w4 hown4 hgrow4
  have ho4 : OwnN w4 w2.heap.size v4 ns := by unfold OwnN; simpa using hown4
  obtain ⟨B4, c4, rfl, hr4, _, _⟩ := ho4.shape
  have hb24 : Below w2.heap.size w2 w4 := HBE3.out.grown hgrow4 (Nat.le_of_lt hs3) (fun j hj => (World.ownsRow.lt HMADE3.out j hj).1)
  have hs4 : w2.heap.size < w4.heap.size := Nat.lt_of_lt_of_le hs3 hgrow4.size
  have HB5 := Lib.hid (HB3.out.trans (hb24.mono HB3.out.size))
  have HO4 := Lib.hid (HO2.out.below hb24)
  have HN5 := Lib.hid ho4
  have HRN := Lib.hid hr4
  obtain ⟨_, _, hv2, hrd4, _, _, _⟩ := HO4.out.shape
  injection hv2 with e1 e2 e3
  subst e1 e3
  have HRD := Lib.hid hrd4
  clear hown4 hgrow4 ho4 hr4 hb24 hrd4 e2 hW3 y0 y1
  go_wp2_with fail
  refine (new_any A2 B4 c2 c4 l ns w4 HRD.out HRN.out HM.out HMN.out HZ.out HZN.out).mono ?_
  rintro r w5 ⟨hb5, hyes, hno⟩
  have HB45 := Lib.hid hb5
  have HB6 := Lib.hid (HB5.out.trans (hb5.mono HB5.out.size))
  by_cases hok : M.TabOk l ns
  · obtain ⟨tb, rfl, ht⟩ := hyes hok
    obtain ⟨told, htold⟩ : ∃ t, M.short ns l = t := ⟨_, rfl⟩
    rw [htold] at ht
    have HT5 := Lib.hid ht
    have HOK := Lib.hid hok
    clear hyes hno hb5 hok ht
    cases q with
    | false =>
      go_wp2_with fail
      refine (alive_true w5).mono ?_
      rintro r w6 ⟨rfl, hb6⟩
      have HB7 := Lib.hid (HB6.out.trans (hb6.mono HB6.out.size))
      clear hb6
      go_wp2
      go_ret
      exact ⟨rfl, HBW.out.trans (HB7.out.mono HBW.out.size)⟩
    | true =>
      have hlen : told.length ≤ l.length := by rw [← htold]; exact M.short_len ns l
      have h600 : told.length ≤ 600 := Nat.le_trans hlen HOK.out.rises.1
      have HSZ := Lib.hid (show Sized told by rw [← htold]; exact HZ.out.short)
      have HSRT := Lib.hid (show M.Srt told by rw [← htold]; exact HOK.out.good.1)
      have htm : told.length ≤ maxLen := by unfold maxLen; omega
      have hl60 := (HQ.out rfl).1
      have hn60 := (HQ.out rfl).2
      obtain ⟨was, hwas⟩ : ∃ n, M.numAt told ns c = n := ⟨_, rfl⟩
      have HWAS := Lib.hid hwas
      clear htold hwas
      go_wp2_with fail
      refine (tableAt_any w4.heap.size tb told ns c w5 HT5.out HSRT.out htm HSZ.out).mono ?_
      rintro r w6 ⟨rfl, hb6⟩
      rw [HWAS.out]
      have HB56 := Lib.hid hb6
      clear hb6
      go_wp2_with fail
      refine (tableRanges_any w4.heap.size tb told ns w6 (HT5.out.below HB56.out) h600).mono ?_
      rintro r w7 ⟨⟨v7, rfl, ho7⟩, hb7⟩
      obtain ⟨A7, c7, rfl, hr7, _, _, _⟩ := ho7.shape
      have HO7 := Lib.hid ho7
      have HB57 := Lib.hid (HB56.out.trans (hb7.mono HB56.out.size))
      clear ho7 hb7 hr7
      go_wp2_with fail
      refine (tableRanges_any w4.heap.size tb told ns w7 (HT5.out.below HB57.out) h600).mono ?_
      rintro r w8 ⟨⟨v8, rfl, ho8⟩, hb8⟩
      obtain ⟨A8, c8, rfl, hr8, _, _, _⟩ := ho8.shape
      have HO8 := Lib.hid ho8
      have HB78 := Lib.hid hb8
      have HB58 := Lib.hid (HB57.out.trans (hb8.mono HB57.out.size))
      have HB48 := Lib.hid (HB45.out.trans (HB58.out.mono HB45.out.size))
      have HBw8 := Lib.hid (HB5.out.trans (HB48.out.mono HB5.out.size))
      have HOWN8 := Lib.hid (row_below HO4.out HB48.out)
      have HNAM8 := Lib.hid (row_below HN5.out HB48.out)
      have HL8 := Lib.hid (row_below HO7.out HB78.out)
      have z12 : w1.heap.size ≤ w2.heap.size := Nat.le_of_lt hs2
      have z24 : w2.heap.size ≤ w4.heap.size := Nat.le_of_lt hs4
      have z45 : w4.heap.size ≤ w5.heap.size := HB45.out.size
      have z57 : w5.heap.size ≤ w7.heap.size := HB57.out.size
      have z56 : w5.heap.size ≤ w6.heap.size := HB56.out.size
      have z78 : w7.heap.size ≤ w8.heap.size := HB78.out.size
      have zW1 : W.heap.size ≤ w1.heap.size := HB1.out.size
      have hown_lt := ownBlock_lt HO2.out (Nat.le_refl _)
      have hnam_lt := ownBlock_lt HN5.out (Nat.le_refl _)
      have hl_lt := ownBlock_lt HO7.out (Nat.le_refl _)
      have HOLT := Lib.hid hown_lt
      have HNLT := Lib.hid hnam_lt
      have HLLT := Lib.hid hl_lt
      clear ho8 hb8 hr8 hown_lt hnam_lt hl_lt
      go_wp2
      go_loopw [13] (fun i wr => ∃ k : Nat, k ≤ l.length ∧ i = .int .i64 k ∧ (∃ xs, wr.ownsRow w1.heap.size 36 4 (.slice A2 l.length c2) l.length xs) ∧ Kept w2.heap.size w8.heap.size w8 wr ∧ Below W.heap.size W wr) (fun i _ => l.length - (intOf i).toNat)
      case atStart => exact ⟨0, Nat.zero_le _, rfl, ⟨_, HOWN8.out⟩, Kept.refl _ _ _, HBw8.out⟩
      case round =>
        obtain ⟨k, hk, rfl, ⟨xs, hrow⟩, hkept, hb⟩ := hrel
        have HK := Lib.hid hkept
        have HBr := Lib.hid hb
        clear hkept hb
        by_cases hlt : k < l.length
        · obtain ⟨g, cap, hv, hbg, hgl⟩ := World.ownsRow.form hrow (by omega)
          injection hv with e1 e2 e3
          subst e1 e3
          clear e2
          have hg2 : g < w2.heap.size := HOLT.out g rfl
          obtain ⟨u0, q0, f0⟩ := row_at hrow (k * 4) (by omega)
          obtain ⟨u2, q2, f2⟩ := row_at hrow (k * 4 + 2) (by omega)
          have HROW := Lib.hid (World.ownsRow.stored (World.ownsRow.stored hrow (k * 4) (.int .i64 5)).1 (k * 4 + 2) (.string ⟨#[113]⟩)).1
          have HK2 := Lib.hid ((HK.out.setCell (a := ⟨g, k * 4, none⟩) (.inl hg2) (.int .i64 5)).setCell (a := ⟨g, k * 4 + 2, none⟩) (.inl hg2) (.string ⟨#[113]⟩))
          have HB2r := Lib.hid ((HBr.out.setCell (p := ⟨g, k * 4, none⟩) (Nat.le_trans zW1 hbg) (.int .i64 5)).setCell (p := ⟨g, k * 4 + 2, none⟩) (Nat.le_trans zW1 hbg) (.string ⟨#[113]⟩))
          have hk1 : (0 : Int) ≤ (k : Int) := by omega
          have hk2 : (k : Int) < (l.length : Int) := by omega
          clear hrow
          go_wp2
          go_roundw
          case rel => exact ⟨k + 1, by omega, by go_num, ⟨_, HROW.out⟩, HK2.out, HB2r.out⟩
          case measure => simp [intOf]; omega
        · have HNAM9 := Lib.hid (row_keep HNAM8.out HK.out (Nat.le_refl _) (fun g hg => Nat.lt_of_lt_of_le (HNLT.out g hg) (by omega)))
          have HM9 := Lib.hid (row_keep HO8.out HK.out (by omega) (ownBlock_lt HO8.out (Nat.le_refl _)))
          clear hrow
          go_wp2
          go_loopw [14] (fun i wq => ∃ j : Nat, j ≤ ns.length ∧ i = .int .i64 j ∧ (∃ xs, wq.ownsRow w2.heap.size 9 1 (.slice B4 ns.length c4) ns.length xs) ∧ Kept w4.heap.size w8.heap.size w8 wq ∧ Below W.heap.size W wq) (fun i _ => ns.length - (intOf i).toNat)
          case atStart => exact ⟨0, Nat.zero_le _, rfl, ⟨_, HNAM9.out⟩, HK.out.less (by omega) (Nat.le_refl _), HBr.out⟩
          case round =>
            obtain ⟨j, hj', rfl, ⟨xs, hrow⟩, hkept, hb⟩ := hrel
            have HKq := Lib.hid hkept
            have HBq := Lib.hid hb
            clear hkept hb
            by_cases hjt : j < ns.length
            · obtain ⟨g, cap, hv, hbg, hgl⟩ := World.ownsRow.form hrow (by omega)
              injection hv with e1 e2 e3
              subst e1 e3
              clear e2
              have hg2 : g < w4.heap.size := HNLT.out g rfl
              obtain ⟨u0, q0, f0⟩ := row_at hrow j (by omega)
              have HROW := Lib.hid (World.ownsRow.stored hrow j (.string ⟨#[122]⟩)).1
              have HK2 := Lib.hid (HKq.out.setCell (a := ⟨g, j, none⟩) (.inl hg2) (.string ⟨#[122]⟩))
              have HB2r := Lib.hid (HBq.out.setCell (p := ⟨g, j, none⟩) (Nat.le_trans (Nat.le_trans zW1 z12) hbg) (.string ⟨#[122]⟩))
              have hk1 : (0 : Int) ≤ (j : Int) := by omega
              have hk2 : (j : Int) < (ns.length : Int) := by omega
              clear hrow
              go_wp2
              go_roundw
              case rel => exact ⟨j + 1, by omega, by go_num, ⟨_, HROW.out⟩, HK2.out, HB2r.out⟩
              case measure => simp [intOf]; omega
            · have HM10 := Lib.hid (row_keep HO8.out HKq.out (by omega) (ownBlock_lt HO8.out (Nat.le_refl _)))
              clear hrow
              go_wp2
              go_loopw [15] (fun i wz => ∃ m : Nat, m ≤ told.length ∧ i = .int .i64 m ∧ (∃ xs, wz.ownsRow w7.heap.size 36 4 (.slice A8 told.length c8) told.length xs) ∧ Kept w4.heap.size w7.heap.size w8 wz ∧ Below W.heap.size W wz) (fun i _ => told.length - (intOf i).toNat)
              case atStart => exact ⟨0, Nat.zero_le _, rfl, ⟨_, HM10.out⟩, HKq.out.less (Nat.le_refl _) z78, HBq.out⟩
              case round =>
                obtain ⟨m, hm', rfl, ⟨xs, hrow⟩, hkept, hb⟩ := hrel
                have HKz := Lib.hid hkept
                have HBz := Lib.hid hb
                clear hkept hb
                by_cases hmt : m < told.length
                · obtain ⟨g, cap, hv, hbg, hgl⟩ := World.ownsRow.form hrow (by omega)
                  injection hv with e1 e2 e3
                  subst e1 e3
                  clear e2
                  obtain ⟨u0, q0, f0⟩ := row_at hrow (m * 4 + 1) (by omega)
                  have HROW := Lib.hid (World.ownsRow.stored hrow (m * 4 + 1) (.int .i64 0)).1
                  have HK2 := Lib.hid (HKz.out.setCell (a := ⟨g, m * 4 + 1, none⟩) (.inr hbg) (.int .i64 0))
                  have HB2r := Lib.hid (HBz.out.setCell (p := ⟨g, m * 4 + 1, none⟩) (Nat.le_trans (by omega) hbg) (.int .i64 0))
                  have hk1 : (0 : Int) ≤ (m : Int) := by omega
                  have hk2 : (m : Int) < (told.length : Int) := by omega
                  clear hrow
                  go_wp2
                  go_roundw
                  case rel => exact ⟨m + 1, by omega, by go_num, ⟨_, HROW.out⟩, HK2.out, HB2r.out⟩
                  case measure => simp [intOf]; omega
                · have HT9 := Lib.hid (HT5.out.keep HB58.out HKz.out z57)
                  have HL9 := Lib.hid (show OwnE _ w6.heap.size (.slice A7 told.length c7) told from row_keep HL8.out HKz.out (by omega) HLLT.out)
                  clear hrow
                  go_wp2_with fail
                  refine (alive_true _).mono ?_
                  rintro r wa ⟨rfl, hba⟩
                  have HBa := Lib.hid (HBz.out.trans (hba.mono HBz.out.size))
                  have HTa := Lib.hid (HT9.out.below hba)
                  have HLa := Lib.hid (HL9.out.below hba)
                  clear hba
                  go_wp2_with fail
                  refine (tableAt_any w4.heap.size tb told ns c wa HTa.out HSRT.out htm HSZ.out).mono ?_
                  rintro r wb ⟨rfl, hbb⟩
                  rw [HWAS.out]
                  have HBb := Lib.hid (HBa.out.trans (hbb.mono HBa.out.size))
                  have HTb := Lib.hid (HTa.out.below hbb)
                  have HLb := Lib.hid (HLa.out.below hbb)
                  clear hbb
                  go_wp2_with fail
                  refine (tableRanges_any w4.heap.size tb told ns wb HTb.out h600).mono ?_
                  rintro r wc ⟨⟨vc, rfl, hoc⟩, hbc⟩
                  obtain ⟨Ac, cc, rfl, hrc, _, _, _⟩ := hoc.shape
                  have HBc := Lib.hid (HBb.out.trans (hbc.mono HBb.out.size))
                  have HRc := Lib.hid hrc
                  obtain ⟨_, _, hv7, hr7, _, _, _⟩ := (HLb.out.below hbc).shape
                  injection hv7 with e1 e2 e3
                  subst e1 e3
                  have HRl := Lib.hid hr7
                  clear hoc hbc hrc hr7 e2
                  go_wp2_with fail
                  refine (same_any Ac A7 cc c7 told told wc HRc.out HRl.out htm).mono ?_
                  rintro r wd ⟨rfl, hbd⟩
                  rw [M.same_self]
                  have HBd := Lib.hid (HBc.out.trans (hbd.mono HBc.out.size))
                  clear hbd
                  go_wp2
                  go_ret
                  exact ⟨rfl, HBW.out.trans (HBd.out.mono HBW.out.size)⟩
  · obtain rfl := hno hok
    clear hyes hno hb5 hok
    cases q
    all_goals
      go_wp2_with fail
      refine (alive_true w5).mono ?_
      rintro r w6 ⟨rfl, hb6⟩
      have HB7 := Lib.hid (HB6.out.trans (hb6.mono HB6.out.size))
      clear hb6
      go_wp2
      go_ret
      exact ⟨rfl, HBW.out.trans (HB7.out.mono HBW.out.size)⟩
end Go.Proofs.Ytjbpjnnflcmmhaa
