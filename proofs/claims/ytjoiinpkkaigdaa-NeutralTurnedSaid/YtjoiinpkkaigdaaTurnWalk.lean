/- The walk of NeutralTurned: it answers true. Conditions: the slice reads as a list of classes, within its capacity. -/
import Derived.Test.YtjoiinpkkaigdaaAlive
namespace Go.Proofs.Ytjoiinpkkaigdaa
open Go.RowKit
set_option maxRecDepth 100000

set_option maxHeartbeats 4000000 in
theorem turnLong_any (A : Option Addr) (ca n : Nat) (lv f g : Int) (w : World) (hn : 150 < n) (hm : n ≤ maxLen) :
    Calls Try.prog 5 #[.slice A n ca, .agg #[.int .i64 lv, .int .i64 f, .int .i64 g]] w fun r w' => r = .returned (.bool true) ∧ Below w.heap.size w w' := by
  unfold maxLen at hm
  have h1 : (150 : Int) < n := by omega
  obtain ⟨W1, hW1, hb1, e0, e1, e2, -⟩ := new_three w lv f g 25
  have HB1 := Lib.hid hb1
  clear hb1
  go_enter Try.func5, Try.ntmps5
  go_wp2_with fail
  refine (alive_any _).mono ?_
  rintro r w2 ⟨rfl, hb⟩
  have HB := Lib.hid (HB1.out.trans (hb.mono HB1.out.size))
  clear hb
  go_wp2_with fail
  go_ret
  exact ⟨rfl, HB.out⟩
theorem M.turn_or (lv f g : Int) (l : List Int) : M.orNil (M.setOk lv g f) (M.settle lv g f l.reverse) = (M.orNil (M.setOk lv f g) (M.settle lv f g l)).reverse ∧ M.orArg (M.setOk lv g f) = M.orArg (M.setOk lv f g) := by
  have h : M.setOk lv g f ↔ M.setOk lv f g := by unfold M.setOk; exact ⟨fun h => ⟨h.1, h.2.2, h.2.1⟩, fun h => ⟨h.1, h.2.2, h.2.1⟩⟩
  unfold M.orNil M.orArg
  by_cases hk : M.setOk lv f g
  · rw [if_pos (h.2 hk), if_pos hk, if_pos (h.2 hk), if_pos hk]
    exact ⟨M.settle_turn, rfl⟩
  · rw [if_neg (fun e => hk (h.1 e)), if_neg hk, if_neg (fun e => hk (h.1 e)), if_neg hk]
    exact ⟨rfl, rfl⟩
set_option maxHeartbeats 8000000 in
theorem turnShort_any (A : Option Addr) (ca n : Nat) (l : List Int) (lv f g : Int) (w : World) (hr : RdS .i64 w w.heap.size A l) (hn : l.length = n) (hl : n ≤ 150) (hca : n ≤ ca) :
    Calls Try.prog 5 #[.slice A n ca, .agg #[.int .i64 lv, .int .i64 f, .int .i64 g]] w fun r w' => r = .returned (.bool true) ∧ Below w.heap.size w w' := by
  obtain ⟨i0, hi, hz0, hz1, hz2⟩ := info_parts Try.infoCls2
  obtain ⟨W1, hW1, hbw1, e0, e1, e2, hgt⟩ := new_three w lv f g 25
  have HF1 := Lib.hid (show Three W1 w.heap.size lv f g from ⟨e0, e1, e2⟩)
  have HR := Lib.hid ((hr.below hbw1).more hbw1.size)
  have HN := Lib.hid hn
  have HCA := Lib.hid hca
  have HBW := Lib.hid hbw1
  have HGT := Lib.hid hgt
  have hl1 : (n : Int) ≤ 150 := by omega
  obtain ⟨xs, hxs⟩ : ∃ xs, M.orNil (M.setOk lv f g) (M.settle lv f g l) = xs := ⟨_, rfl⟩
  obtain ⟨ex, hex⟩ : ∃ e, M.orArg (M.setOk lv f g) = e := ⟨_, rfl⟩
  obtain ⟨px, hpx⟩ : ∃ p, xs.length = p := ⟨_, rfl⟩
  obtain ⟨ht1, ht2⟩ := M.turn_or lv f g l
  rw [hxs] at ht1
  rw [hex] at ht2
  have hpx1 : px ≤ n := by
    have := M.orNil_len (ok := M.setOk lv f g) (t := M.settle lv f g l)
    rw [hxs, hpx, M.settle_len] at this
    omega
  have HXS := Lib.hid hxs
  have HEX := Lib.hid hex
  have HPX := Lib.hid hpx
  have HT1 := Lib.hid (And.intro ht1 ht2)
  clear hr hn hca hxs hex hpx hbw1 ht1 ht2 e0 e1 e2 hgt
  obtain ⟨e0, e1, e2⟩ := HF1.out
  go_enter Try.func5, Try.ntmps5
  go_wp2_with fail
  go_loopw [5, 6] (fun o v wr => ∃ (i : Nat) (L : List Int), v = .int .i64 i ∧ i ≤ n ∧ L = l.reverse.take i ∧ wr.ownsRow W1.heap.size 23 1 o i (L.map (Value.int .i64)) ∧ Below W1.heap.size W1 wr) (fun _ v _ => n - (intOf v).toNat)
  case atStart => exact ⟨0, [], rfl, Nat.zero_le _, rfl, ⟨rfl, .inl ⟨rfl, rfl⟩⟩, Below.refl _ _⟩
  case round =>
    obtain ⟨i, L, rfl, hi2, hL, ho, hb⟩ := hrel
    rename World => wr
    have HB := Lib.hid hb
    have HO := Lib.hid ho
    have HL := Lib.hid hL
    have i00 : (0 : Int) ≤ i := by omega
    by_cases hlt : i < n
    · have i01 : (i : Int) < n := by omega
      obtain ⟨m1, hm1⟩ : ∃ m, m = n - 1 := ⟨n - 1, rfl⟩
      obtain ⟨j, hj⟩ : ∃ j, j = m1 - i := ⟨_, rfl⟩
      have hwa : IntKind.i64.wrap ((n : Int) - 1) = (m1 : Int) := by rw [IntKind.wrap_i64]; omega
      have hwb : IntKind.i64.wrap ((m1 : Int) - (i : Int)) = (j : Int) := by rw [IntKind.wrap_i64]; omega
      have j0 : (0 : Int) ≤ j := by omega
      have j1 : (j : Int) < n := by omega
      obtain ⟨ad, c, rfl, hcc, hc, -⟩ := rd_at HR.out hb (by rw [HN.out]; omega : j < l.length)
      have hbs := hb.size
      have HNX := Lib.hid (show L ++ [c] = l.reverse.take (i + 1) by
        have hri : l.reverse[i]? = some c := by
          rw [List.getElem?_reverse (by rw [HN.out]; exact hlt), HN.out, show n - 1 - i = j by omega]
          exact hc
        obtain ⟨hl, e⟩ := List.getElem?_eq_some_iff.1 hri
        rw [hL, List.take_succ_eq_append_getElem hl, e])
      clear hb ho hL hc hm1 hj
      go_wp2_with (at_builtin; refine wpList_append_own _ rfl _ _ 22 rfl W1.heap.size 23 i0 (.int .i64 0) 1 8 Try.underlying22 hi hz0 hz1 hz2 rfl (by decide) _ _ _ rfl (World.ownsRow.alloc HO.out _) ⟨wr.heap.size, 0, none⟩ 1 1 [.int .i64 c] rfl rfl (one_new _ _ _) one_cell (by unfold maxLen; omega) (by omega) (by simp; omega) ?_)
      intro v4 w4 ho4 hg4 _
      have hb4 : Below W1.heap.size W1 w4 := grow_below0 (HB.out.alloc hbs _) (World.ownsRow.alloc HO.out _) hg4 (by simp; omega)
      have HB4 := Lib.hid hb4
      have hmap : L.map (Value.int .i64) ++ [Value.int .i64 c] = (L ++ [c]).map (Value.int .i64) := by rw [List.map_append]; rfl
      rw [hmap] at ho4
      have HO4 := Lib.hid ho4
      clear ho4 hg4 hb4 hmap hcc hwa hwb
      go_wp2_with fail
      go_roundw
      case rel => exact ⟨i + 1, L ++ [c], by go_num, by omega, HNX.out, HO4.out, HB4.out⟩
      case measure => simp [intOf]; omega
    · obtain rfl : n = i := by omega
      have i01 : ¬ (n : Int) < (n : Int) := by omega
      have hLr : L = l.reverse := by rw [hL, List.take_of_length_le (by rw [List.length_reverse, HN.out]; exact Nat.le_refl _)]
      rw [hLr] at ho
      have hrl : l.reverse.length = n := by rw [List.length_reverse, HN.out]
      obtain ⟨A5, c5, rfl, hr5, hc5, -, -⟩ := reads_own (l := l.reverse) (by rw [hrl]; exact ho)
      rw [hrl] at hc5 ⊢
      have HR5 := Lib.hid hr5
      have HC5 := Lib.hid hc5
      have HRL := Lib.hid hrl
      have HLw := Lib.hid ((HR.out.below hb).more hb.size)
      have HBw := Lib.hid (HBW.out.trans (hb.mono HBW.out.size))
      have HTw := Lib.hid (HF1.out.later hb HGT.out)
      have HGw := Lib.hid (Nat.lt_of_lt_of_le HGT.out hb.size)
      clear hb ho hL hLr hrl hr5 hc5 e0 e1 e2
      obtain ⟨e0, e1, e2⟩ := HTw.out
      go_wp2_with fail
      refine (seq_any lv f g wr).mono ?_
      rintro r w2 ⟨rfl, hb2⟩
      have HB2 := Lib.hid (HBw.out.trans (hb2.mono HBw.out.size))
      have HL2 := Lib.hid ((HLw.out.below hb2).more hb2.size)
      have HR52 := Lib.hid ((HR5.out.below hb2).more hb2.size)
      have HT2 := Lib.hid (HTw.out.later hb2 HGw.out)
      have HG2 := Lib.hid (Nat.lt_of_lt_of_le HGw.out hb2.size)
      clear hb2 e0 e1 e2
      go_wp2_with fail
      refine (csettle_any A ca n l lv f g w2 HL2.out HN.out (by omega) HCA.out).mono ?_
      rintro r w3 hout
      obtain ⟨A3, c3, rfl, hr3, hb3, -⟩ := row_out hout
      rw [HXS.out] at hr3 ⊢
      rw [HEX.out, HPX.out]
      have HX3 := Lib.hid hr3
      have HB3 := Lib.hid (HB2.out.trans (hb3.mono HB2.out.size))
      have HR53 := Lib.hid ((HR52.out.below hb3).more hb3.size)
      have HT3 := Lib.hid (HT2.out.later hb3 HG2.out)
      clear hout hr3 hb3
      obtain ⟨e0, e1, e2⟩ := HT3.out
      go_wp2_with fail
      refine (csettle_any A5 c5 n l.reverse lv g f w3 HR53.out HRL.out (by omega) HC5.out).mono ?_
      rintro r w4 hout
      obtain ⟨A4, c4, rfl, hr4, hb4, -⟩ := row_out hout
      rw [HT1.out.1] at hr4 ⊢
      rw [HT1.out.2, List.length_reverse, HPX.out]
      have HX4 := Lib.hid hr4
      have HX34 := Lib.hid ((HX3.out.below hb4).more hb4.size)
      have HB4 := Lib.hid (HB3.out.trans (hb4.mono HB3.out.size))
      have bee : (ex != ex) = false := by simp
      have bpp : ((px : Int) != (px : Int)) = false := by simp
      have hp150 : (px : Int) ≤ 150 := by omega
      clear hout hr4 hb4 e0 e1 e2
      go_wp2_with fail
      go_loopw [11] (fun v ws => ∃ k : Nat, v = .int .i64 k ∧ k ≤ px ∧ Below w4.heap.size w4 ws) (fun v _ => px - (intOf v).toNat)
      case atStart => exact ⟨0, rfl, Nat.zero_le _, Below.refl _ _⟩
      case round =>
        obtain ⟨k, rfl, hk, hb5⟩ := hrel
        rename World => ws
        have HB5 := Lib.hid hb5
        have k0 : (0 : Int) ≤ k := by omega
        by_cases hlt : k < px
        · have k1 : (k : Int) < px := by omega
          obtain ⟨m1, hm1⟩ : ∃ m, m = px - 1 := ⟨px - 1, rfl⟩
          obtain ⟨j, hj⟩ : ∃ j, j = m1 - k := ⟨_, rfl⟩
          have hwa : IntKind.i64.wrap ((px : Int) - 1) = (m1 : Int) := by rw [IntKind.wrap_i64]; omega
          have hwb : IntKind.i64.wrap ((m1 : Int) - (k : Int)) = (j : Int) := by rw [IntKind.wrap_i64]; omega
          have j0 : (0 : Int) ≤ j := by omega
          have j1 : (j : Int) < px := by omega
          obtain ⟨ad, c, rfl, hcc, hc, -⟩ := rd_at HX34.out hb5 (by rw [HPX.out]; exact hlt : k < xs.length)
          obtain ⟨ad2, d, rfl, hcd, hd, -⟩ := rd_at HX4.out hb5 (by rw [List.length_reverse, HPX.out]; omega : j < xs.reverse.length)
          obtain rfl : c = d := by
            rw [List.getElem?_reverse (by rw [HPX.out]; omega), HPX.out, show px - 1 - j = k by omega, hc] at hd
            injection hd
          have bcc : (c != c) = false := by simp
          have cc' := fun d os => cell_regrown hcc d os
          have cd' := fun d os => cell_regrown hcd d os
          clear hb5 hc hd hcc hcd hm1 hj
          go_wp2_with fail
          refine wp_region_quiet_below (by kernel_rfl) (by kernel_rfl) ?_
          repeat (go_big_quiet_step (fail))
          refine wpQuiet_nil ?_
          intro _ hw'
          obtain ⟨⟨dq, osq⟩, hw4⟩ := hw'
          subst hw4
          have hbg := below_regrown ws dq osq
          have hbx := HB5.out.trans (hbg.mono HB5.out.size)
          obtain ⟨Z, hZ⟩ : ∃ Z, Sort.grow (redrawn ws dq) osq = Z := ⟨_, rfl⟩
          rw [hZ] at hbx
          have HBX := Lib.hid hbx
          dsimp only
          rw [hZ]
          clear hZ hbg hbx cc' cd' bcc hwa hwb
          go_wp2_with fail
          go_roundw
          case rel => exact ⟨k + 1, by go_num, by omega, HBX.out⟩
          case measure => simp [intOf]; omega
        · obtain rfl : px = k := by omega
          have k1 : ¬ (px : Int) < (px : Int) := by omega
          have HB6 := Lib.hid (HB4.out.trans (hb5.mono HB4.out.size))
          clear hb5
          go_wp2_with fail
          refine (alive_any _).mono ?_
          rintro r w9 ⟨rfl, hb9⟩
          have HB9 := Lib.hid (HB6.out.trans (hb9.mono HB6.out.size))
          clear hb9
          go_wp2_with fail
          go_ret
          exact ⟨rfl, HB9.out⟩
theorem turnLaw_any (A : Option Addr) (ca n : Nat) (l : List Int) (lv f g : Int) (w : World) (hr : RdS .i64 w w.heap.size A l) (hn : l.length = n) (hca : n ≤ ca) (hm : ca ≤ maxLen) :
    Calls Try.prog 5 #[.slice A n ca, .agg #[.int .i64 lv, .int .i64 f, .int .i64 g]] w fun r w' => r = .returned (.bool true) ∧ Below w.heap.size w w' := by
  by_cases h : n ≤ 150
  · exact turnShort_any A ca n l lv f g w hr hn h hca
  · exact turnLong_any A ca n lv f g w (by omega) (by omega)
end Go.Proofs.Ytjoiinpkkaigdaa
