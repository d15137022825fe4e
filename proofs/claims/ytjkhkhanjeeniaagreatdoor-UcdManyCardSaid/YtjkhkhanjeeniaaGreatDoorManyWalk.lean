/- The Go function UcdMany answers true, over the translation. Conditions: the variable MaxLen of the library holds some number, and its table deBruijn64tab is as the program's text lays it. -/
import Derived.Test.YtjkhkhanjeeniaaGreatDoorRefText
import Derived.Test.YtjkhkhanjeeniaaGreatDoorConv
import Derived.Laws.Bits128
namespace Go.Proofs.YtjkhkhanjeeniaaGreatDoor
open Go.RowKit

theorem and3 (n : Int) : bits .and .i64 n 3 = n % 4 := by
  have h3 : (BitVec.ofInt 64 3).toNat = 2 ^ 2 - 1 := by decide
  have key : (BitVec.ofInt 64 n &&& BitVec.ofInt 64 3).toNat = (n % ((2 ^ 64 : Nat) : Int)).toNat % 2 ^ 2 := by
    rw [BitVec.toNat_and, BitVec.toNat_ofInt, h3, Nat.and_two_pow_sub_one_eq_mod]
  show IntKind.i64.wrap ((BitVec.ofInt 64 n &&& BitVec.ofInt 64 3).toNat : Nat) = n % 4
  rw [key, IntKind.wrap_i64]
  omega

theorem M.all_rep {e : M.E} (h : M.right e = true) (n : Nat) : (List.replicate n e).all M.right = true := by
  rw [List.all_eq_true]
  intro x hx
  rw [List.eq_of_mem_replicate hx]
  exact h
theorem M.lines_snoc (e : M.E) (k : Nat) : M.lines (List.replicate (k + 1) e) = M.lines (List.replicate k e) ++ (M.line e ++ [10]) := by
  rw [List.replicate_succ']
  simp [M.lines]
theorem M.text_rep {e : M.E} (h : M.right e = true) {n : Nat} (hn : n ≤ 600) : M.text (List.replicate n e) = some (M.lines (List.replicate n e)) := by
  rw [M.text_eq, if_pos ⟨by simpa using hn, M.all_rep h n⟩]
theorem M.text_over {e : M.E} {n : Nat} (hn : 600 < n) : M.text (List.replicate n e) = none := by
  rw [M.text_eq, if_neg (fun k => by have := k.1; simp at this; omega)]
theorem M.parse_over {e : M.E} (h : M.right e = true) {n : Nat} (hn : n = 600) : M.parse (M.lines (List.replicate (n + 1) e)) = none := by
  unfold M.parse
  rw [M.parts_lines (M.all_rep h (n + 1)), List.replicate_succ', List.map_append, List.append_assoc, M.parseGo_lines (M.all_rep h n) [] (by rw [List.length_nil, List.length_replicate]; omega)]
  show M.parseGo (M.line e :: [[]]) _ = none
  rw [M.parseGo_line h (.inl (M.counted_line h)), if_pos (by rw [List.nil_append, List.length_replicate]; exact hn)]
theorem size_rep {e : M.E} (h : M.right e = true) (k : Nat) : (M.bytes (M.lines (List.replicate k e))).size ≤ 61 * k := by
  rw [bytes_size]
  have := M.lines_le (M.all_rep h k)
  simpa using this

section
variable (e : M.E) (more : Int) (w : World)
set_option maxHeartbeats 4000000 in
theorem many_bad (hv : e.v.size ≤ maxLen) (hy : e.x.size ≤ maxLen) (hx : MaxOk w) (ht : TabOk w) (hr : M.right e = false) :
    Calls Tryz.prog 7 #[e.val, .int .i64 more] w fun e w' => e = .returned (.bool true) ∧ Below w.heap.size w w' := by
  have HX := Lib.hid hx
  have HT := Lib.hid ht
  have HR := Lib.hid hr
  have hb0 : Below w.heap.size w (w.alloc (.cells #[.int .i64 e.a, .int .i64 e.b, .string e.v, .string e.x] 35)) := (Below.refl _ _).alloc (Nat.le_refl _) _
  have HB0 := Lib.hid hb0
  clear hx ht hr hb0
  unfold M.E.val
  go_enter Tryz.func7, Tryz.ntmps7
  go_wp2_with fail
  refine (refRight_any e _ hv hy).mono ?_
  rintro r w1 ⟨rfl, hb1⟩
  rw [HR.out]
  have HB1 := Lib.hid (HB0.out.trans (hb1.mono HB0.out.size))
  clear hb1
  go_wp2_with fail
  refine (alive_true w1 (HX.out.next HB1.out) (HT.out.next HB1.out)).mono ?_
  rintro e w3 ⟨rfl, hb3⟩
  go_wp2
  go_ret
  exact ⟨rfl, HB1.out.trans (hb3.mono HB1.out.size)⟩

set_option maxRecDepth 100000 in
set_option maxHeartbeats 4000000 in
theorem many_good (hv : e.v.size ≤ maxLen) (hy : e.x.size ≤ maxLen) (hx : MaxOk w) (ht : TabOk w) (hr : M.right e = true) :
    Calls Tryz.prog 7 #[e.val, .int .i64 more] w fun e w' => e = .returned (.bool true) ∧ Below w.heap.size w w' := by
  obtain ⟨i0, hi, hz0, hz1, hz2⟩ := info_parts Tryz.infoEntry
  have HX := Lib.hid hx
  have HT := Lib.hid ht
  have HR := Lib.hid hr
  have hb0 : Below w.heap.size w (w.alloc (.cells #[.int .i64 e.a, .int .i64 e.b, .string e.v, .string e.x] 35)) := (Below.refl _ _).alloc (Nat.le_refl _) _
  have HB0 := Lib.hid hb0
  have HF4 := Lib.hid (Four.new w (.int .i64 e.a) (.int .i64 e.b) (.string e.v) (.string e.x) 35)
  obtain ⟨q, hq, hq3⟩ : ∃ q : Nat, bits .and .i64 more 3 = (q : Int) ∧ q ≤ 3 := ⟨(more % 4).toNat, by rw [and3]; omega, by omega⟩
  clear hx ht hr hb0
  unfold M.E.val
  go_enter Tryz.func7, Tryz.ntmps7
  go_wp2_with fail
  refine (refRight_any e _ hv hy).mono ?_
  rintro r w1 ⟨rfl, hb1⟩
  rw [HR.out]
  have HB1 := Lib.hid (HB0.out.trans (hb1.mono HB0.out.size))
  have hs1 : w.heap.size + 1 ≤ w1.heap.size := by have := hb1.size; simpa using this
  have HF1 := Lib.hid (HF4.out.below hb1 (by simp))
  clear hb1
  go_wp2
  go_loopw [7, 8, 9] (fun v s i wr => ∃ k : Nat, k ≤ 598 + q ∧ i = .int .i64 k ∧ s = .string (M.bytes (M.lines (List.replicate k e))) ∧ OwnE wr (w.heap.size + 1) v (List.replicate k e) ∧ Four wr w.heap.size (.int .i64 e.a) (.int .i64 e.b) (.string e.v) (.string e.x) ∧ Below w.heap.size w wr ∧ w.heap.size + 1 ≤ wr.heap.size) (fun _ _ i _ => 598 + q - (intOf i).toNat)
  case atStart => exact ⟨0, Nat.zero_le _, rfl, rfl, ⟨rfl, .inl ⟨rfl, rfl⟩⟩, HF1.out, HB1.out, hs1⟩
  case round =>
    obtain ⟨k, hk, rfl, rfl, hown, hf, hb, hsz⟩ := hrel
    obtain ⟨S, hS⟩ : ∃ S, M.bytes (M.lines (List.replicate k e)) = S := ⟨_, rfl⟩
    have hSs : S.size ≤ 61 * k := by rw [← hS]; exact size_rep HR.out k
    rw [hS]
    have HS := Lib.hid hS
    have HO := Lib.hid hown
    have HF := Lib.hid hf
    have HB := Lib.hid hb
    clear hS hown hb
    by_cases hlt : k < 598 + q
    · obtain ⟨c0, c1, c2, c3, g0, g1, g2, g3⟩ := hf
      clear g0 g1 g2 g3
      have hd : decide ((k : Int) < 598 + (q : Int)) = true := by rw [decide_eq_true_iff]; omega
      go_wp2_with (at_builtin; refine wpList_append_own _ rfl _ _ 24 rfl (w.heap.size + 1) 35 i0 _ 4 48 Tryz.underlying24 hi hz0 hz1 hz2 rfl (by decide) _ _ _ rfl (World.ownsRow.alloc HO.out _) ⟨wr.heap.size, 0, none⟩ 1 1 e.cells rfl rfl (news_cells wr e _) (news_one e) (by unfold maxLen; rw [List.length_replicate]; omega) (by rw [List.length_replicate]; omega) (by simp; omega) ?_)
      intro v3 w3 hown3 hgrow3 _
      have hbe : Below (w.heap.size + 1) wr w3 := ((Below.refl _ _).alloc hsz _).grown hgrow3 (by simp; omega) (fun j hj => (World.ownsRow.lt HO.out j hj).1)
      have HO3 := Lib.hid (show OwnE w3 (w.heap.size + 1) v3 (List.replicate (k + 1) e) by
        unfold OwnE
        rw [List.replicate_succ', cellsE_snoc, List.length_append, List.length_replicate]
        exact hown3)
      have hf3 := HF.out.below hbe (Nat.lt_succ_self _)
      have HF3 := Lib.hid hf3
      have HB3 := Lib.hid (HB.out.trans (hbe.mono (Nat.le_succ _)))
      have hsz3 : w.heap.size + 1 ≤ w3.heap.size := Nat.le_trans hsz hbe.size
      clear hown3 hgrow3 hbe c0 c1 c2 c3
      obtain ⟨c0, c1, c2, c3, g0, g1, g2, g3⟩ := hf3
      clear g0 g1 g2 g3
      go_wp2_with fail
      refine (refLine_any e _ HR.out).mono ?_
      rintro r w4 ⟨rfl, hb4⟩
      have HO4 := Lib.hid (HO3.out.below hb4)
      have HF4 := Lib.hid (HF3.out.below hb4 (by omega))
      have HB4 := Lib.hid (HB3.out.trans (hb4.mono (by omega)))
      have hsz4 : w.heap.size + 1 ≤ w4.heap.size := Nat.le_trans hsz3 hb4.size
      have hll : (M.bytes (M.line e ++ [10])).size ≤ 61 := by rw [bytes_size, List.length_append]; have := M.line_le HR.out; simp; omega
      obtain ⟨L, hL⟩ : ∃ L, M.bytes (M.line e ++ [10]) = L := ⟨_, rfl⟩
      have HLE := Lib.hid hL
      rw [hL] at hll ⊢
      clear hL hb4 c0 c1 c2 c3
      go_wp2
      go_roundw
      case rel => exact ⟨k + 1, by omega, by go_num, congrArg Value.string (by rw [M.lines_snoc, ← bytes_append, HS.out, HLE.out]), HO4.out, HF4.out, HB4.out, hsz4⟩
      case measure => simp [intOf]; omega
    · obtain rfl : k = 598 + q := by omega
      obtain ⟨l, hl⟩ : ∃ l, List.replicate (598 + q) e = l := ⟨_, rfl⟩
      have hlz : Sized l := fun x hx => by rw [← hl] at hx; rw [List.eq_of_mem_replicate hx]; exact ⟨hv, hy⟩
      have HSZ := Lib.hid hlz
      have hlen : (l.length : Int) = 598 + (q : Int) := by rw [← hl, List.length_replicate]; omega
      rw [hl] at HO
      obtain ⟨A1, c1, rfl, hr1, hc1, hm1, _⟩ := reads_own HO.out
      have HLL := Lib.hid hl
      clear hl hlz
      obtain ⟨n, hn⟩ : ∃ n, 598 + q = n := ⟨_, rfl⟩
      obtain ⟨t, ht'⟩ : ∃ t, M.lines (List.replicate n e) = t := ⟨_, rfl⟩
      have hNt : S.data.toList = t := by rw [← HS.out, hn, ht', M.bytes_list]
      have hNz : S.size = t.length := by rw [← hNt]; simp
      obtain ⟨w2, c2, hcv, hb2, hr2, hg2, hm2⟩ := conv_bytes S wr (by unfold maxLen; omega)
      rw [hNz] at hcv hg2
      rw [hNt] at hr2
      have HB2 := Lib.hid (HB.out.trans (hb2.mono HB.out.size))
      have HR2 := Lib.hid hr2
      have HM2 := Lib.hid hm2
      have HR1 := Lib.hid ((hr1.below hb2).more hb2.size)
      have HM1 := Lib.hid hm1
      have HC1 := Lib.hid hc1
      clear hb2 hr2 hm2 hr1 hm1 hc1 hf
      by_cases h6 : n ≤ 600
      · have HP := Lib.hid (show M.parse t = some l by rw [← HLL.out, ← ht', hn]; exact M.parse_text (M.text_rep HR.out h6))
        have HTX := Lib.hid (show M.text l = some t by rw [← HLL.out, ← ht', hn]; exact M.text_rep HR.out h6)
        have hd6 : decide ((600 : Int) < 598 + (q : Int)) = false := by rw [decide_eq_false_iff_not]; omega
        go_wp2_with fail
        refine (parse_some _ c2 w2 t l HR2.out (HX.out.next HB2.out) hg2 HM2.out (fun h => by cases h) (by omega) HP.out).mono ?_
        rintro r w3 ⟨A3, c3, rfl, hr3, hc3, hm3, _, hb3⟩
        have HB3 := Lib.hid (HB2.out.trans (hb3.mono HB2.out.size))
        have HR13 := Lib.hid ((HR1.out.below hb3).more hb3.size)
        clear hb3 hr3 hm3
        go_wp2_with fail
        refine (text_some A1 c1 w3 l t HR13.out HSZ.out (HT.out.next HB3.out) HM1.out HC1.out HTX.out).mono ?_
        rintro r w4 ⟨A4, c4, rfl, hr4, hc4, hm4, hn4, hb4⟩
        have HB4 := Lib.hid (HB3.out.trans (hb4.mono HB3.out.size))
        have HR4 := Lib.hid hr4
        clear hb4 hr4 hm4 hn4
        go_wp2_with fail
        refine (alive_true w4 (HX.out.next HB4.out) (HT.out.next HB4.out)).mono ?_
        rintro r w5 ⟨rfl, hb5⟩
        have HB5 := Lib.hid (HB4.out.trans (hb5.mono HB4.out.size))
        have r1 := (HR4.out.below hb5).run_str (n := t.length) (cap := c4) rfl
        rw [← hNt, M.bytes_self, hNt] at r1
        clear hb5
        go_wp2
        go_ret
        exact ⟨rfl, HB5.out⟩
      · have h601 : 598 + q = 600 + 1 := by omega
        have HP := Lib.hid (show M.parse t = none by rw [← ht', ← hn, h601]; exact M.parse_over HR.out rfl)
        have HTX := Lib.hid (show M.text l = none by rw [← HLL.out, hn]; exact M.text_over (by omega))
        have hd6 : decide ((600 : Int) < 598 + (q : Int)) = true := by rw [decide_eq_true_iff]; omega
        clear h601
        go_wp2_with fail
        refine (parse_none _ c2 w2 t HR2.out (HX.out.next HB2.out) hg2 HM2.out (fun h => by cases h) (by omega) HP.out).mono ?_
        rintro r w3 ⟨rfl, hb3⟩
        have HB3 := Lib.hid (HB2.out.trans (hb3.mono HB2.out.size))
        have HR13 := Lib.hid ((HR1.out.below hb3).more hb3.size)
        clear hb3
        go_wp2_with fail
        refine (text_none A1 c1 w3 l HR13.out HSZ.out (HT.out.next HB3.out) HM1.out HC1.out HTX.out).mono ?_
        rintro r w4 ⟨rfl, hb4⟩
        have HB4 := Lib.hid (HB3.out.trans (hb4.mono HB3.out.size))
        clear hb4
        go_wp2_with fail
        refine (alive_true w4 (HX.out.next HB4.out) (HT.out.next HB4.out)).mono ?_
        rintro r w5 ⟨rfl, hb5⟩
        have HB5 := Lib.hid (HB4.out.trans (hb5.mono HB4.out.size))
        clear hb5
        go_wp2
        go_ret
        exact ⟨rfl, HB5.out⟩
end
theorem many_any (e : M.E) (more : Int) (w : World) (hv : e.v.size ≤ maxLen) (hy : e.x.size ≤ maxLen) (hx : MaxOk w) (ht : TabOk w) :
    Calls Tryz.prog 7 #[e.val, .int .i64 more] w fun e w' => e = .returned (.bool true) ∧ Below w.heap.size w w' := by
  cases hr : M.right e with
  | false => exact many_bad e more w hv hy hx ht hr
  | true => exact many_good e more w hv hy hx ht hr
end Go.Proofs.YtjkhkhanjeeniaaGreatDoor
