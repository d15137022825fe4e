/- The walk of the statement UtfOrder over the translation: it answers true. Conditions: the variable lengths holds the four rows of the program's text. -/
import Derived.Test.YtamlknnkahhfmaaDoorAlive
import Derived.Test.YtamlknnkahhfmaaDoorMathC
import Derived.Lib.QuietBelow
namespace Go.Proofs.YtamlknnkahhfmaaDoor
open Go.RowKit

theorem enc_one_some {c : Int} (h : M.scal c = true) : M.enc [c] = some (M.bytes1 c) := by simp [M.enc, M.allScal, M.encAll, h]
theorem enc_one_none {c : Int} (h : M.scal c = false) : M.enc [c] = none := by simp [M.enc, M.allScal, h]

theorem bytesLess_map {a b : List Int} (ha : ∀ x ∈ a, 0 ≤ x ∧ x ≤ 255) (hb : ∀ x ∈ b, 0 ≤ x ∧ x ≤ 255) : Op.bytesLess (a.map (fun n => UInt8.ofNat n.toNat)) (b.map (fun n => UInt8.ofNat n.toNat)) = M.lessI a b := by
  induction a generalizing b with
  | nil => cases b <;> simp [Op.bytesLess, M.lessI]
  | cons x r ih => cases b with
    | nil => simp [Op.bytesLess, M.lessI]
    | cons y s =>
      obtain ⟨x0, x1⟩ := ha x (by simp)
      obtain ⟨y0, y1⟩ := hb y (by simp)
      have hi := ih (b := s) (fun z hz => ha z (by simp [hz])) (fun z hz => hb z (by simp [hz]))
      have hlt : (UInt8.ofNat x.toNat < UInt8.ofNat y.toNat) ↔ x < y := by
        rw [UInt8.lt_iff_toNat_lt, UInt8.toNat_ofNat', UInt8.toNat_ofNat']
        omega
      have heq : (UInt8.ofNat x.toNat = UInt8.ofNat y.toNat) ↔ x = y := ⟨ofNat_inj ⟨x0, x1⟩ ⟨y0, y1⟩, fun e => by rw [e]⟩
      simp only [List.map_cons, Op.bytesLess, M.lessI, hi, hlt]
      by_cases h1 : x < y
      · simp [h1]
      · by_cases h2 : y < x
        · have : ¬ x = y := by omega
          simp [h1, h2, heq, this]
        · have : x = y := by omega
          simp [this]
theorem LensOk.drew {w : World} (h : LensOk w) : LensOk w.drew := h
theorem below_undrew {w w' : World} (h : Below w.drew.heap.size w.drew w') : Below w.heap.size w w' := ⟨h.os, h.tape, h.output, h.size, h.block⟩

set_option maxHeartbeats 1000000 in
theorem order_bad1 (c d : Int) (w : World) (hl : LensOk w) (hc : M.scal c = false) (hd : M.scal d = false) :
    Calls Tryd.prog 6 #[.int .i64 c, .int .i64 d] w fun e w' => e = .returned (.bool true) ∧ Below w.heap.size w w' := by
  have H := Lib.hid hl
  clear hl
  go_enter Tryd.func6, Tryd.ntmps6
  go_wp2_with fail
  have hb1 : Below w.heap.size w (w.alloc (.cells #[.int .i64 c] 3)) := (Below.refl _ _).alloc (Nat.le_refl _) _
  refine (encode_none _ 1 [c] _ (H.out.below hb1 H.out.lt) (RdS.lit w _ _ _ _ _ (by rfl) (by simp)) (by simp) (enc_one_none hc)).mono ?_
  rintro e w2 ⟨rfl, hb2⟩
  have hw2 : Below w.heap.size w w2 := hb1.trans (hb2.mono (by simp))
  clear hb1 hb2
  go_wp2_with fail
  have hb3 : Below w2.heap.size w2 (w2.alloc (.cells #[.int .i64 d] 3)) := (Below.refl _ _).alloc (Nat.le_refl _) _
  refine (encode_none _ 1 [d] _ (H.out.below (hw2.trans (hb3.mono hw2.size)) H.out.lt) (RdS.lit w2 _ _ _ _ _ (by rfl) (by simp)) (by simp) (enc_one_none hd)).mono ?_
  rintro e w3 ⟨rfl, hb4⟩
  have hw3 : Below w.heap.size w w3 := hw2.trans ((hb3.trans (hb4.mono (by simp))).mono hw2.size)
  clear hb3 hb4 hw2
  have HL := Lib.hid (H.out.below hw3 H.out.lt)
  go_wp2_with fail
  refine (alive_true _ HL.out).mono ?_
  rintro e w4 ⟨rfl, hb5⟩
  go_wp2_with fail
  refine (scalar_any c _).mono ?_
  rintro e w' ⟨rfl, rfl⟩
  rw [hc]
  go_wp2_with fail
  refine (scalar_any d _).mono ?_
  rintro e w' ⟨rfl, rfl⟩
  rw [hd]
  go_wp2_with fail
  go_ret
  exact ⟨rfl, hw3.trans (hb5.mono hw3.size)⟩

set_option maxHeartbeats 1000000 in
theorem order_bad2 (c d : Int) (w : World) (hl : LensOk w) (hc : M.scal c = false) (hd : M.scal d = true) :
    Calls Tryd.prog 6 #[.int .i64 c, .int .i64 d] w fun e w' => e = .returned (.bool true) ∧ Below w.heap.size w w' := by
  have H := Lib.hid hl
  clear hl
  go_enter Tryd.func6, Tryd.ntmps6
  go_wp2_with fail
  have hb1 : Below w.heap.size w (w.alloc (.cells #[.int .i64 c] 3)) := (Below.refl _ _).alloc (Nat.le_refl _) _
  refine (encode_none _ 1 [c] _ (H.out.below hb1 H.out.lt) (RdS.lit w _ _ _ _ _ (by rfl) (by simp)) (by simp) (enc_one_none hc)).mono ?_
  rintro e w2 ⟨rfl, hb2⟩
  have hw2 : Below w.heap.size w w2 := hb1.trans (hb2.mono (by simp))
  clear hb1 hb2
  go_wp2_with fail
  have hb3 : Below w2.heap.size w2 (w2.alloc (.cells #[.int .i64 d] 3)) := (Below.refl _ _).alloc (Nat.le_refl _) _
  refine (encode_some _ 1 [d] _ _ (H.out.below (hw2.trans (hb3.mono hw2.size)) H.out.lt) (RdS.lit w2 _ _ _ _ _ (by rfl) (by simp)) (by simp) (enc_one_some hd)).mono ?_
  rintro e w3 ⟨A3, c3, rfl, _, _, _, hb4⟩
  have hw3 : Below w.heap.size w w3 := hw2.trans ((hb3.trans (hb4.mono (by simp))).mono hw2.size)
  clear hb3 hb4 hw2
  have HL := Lib.hid (H.out.below hw3 H.out.lt)
  go_wp2_with fail
  refine (alive_true _ HL.out).mono ?_
  rintro e w4 ⟨rfl, hb5⟩
  go_wp2_with fail
  refine (scalar_any c _).mono ?_
  rintro e w' ⟨rfl, rfl⟩
  rw [hc]
  go_wp2_with fail
  refine (scalar_any d _).mono ?_
  rintro e w' ⟨rfl, rfl⟩
  rw [hd]
  go_wp2_with fail
  go_ret
  exact ⟨rfl, hw3.trans (hb5.mono hw3.size)⟩

set_option maxHeartbeats 1000000 in
theorem order_bad3 (c d : Int) (w : World) (hl : LensOk w) (hc : M.scal c = true) (hd : M.scal d = false) :
    Calls Tryd.prog 6 #[.int .i64 c, .int .i64 d] w fun e w' => e = .returned (.bool true) ∧ Below w.heap.size w w' := by
  have H := Lib.hid hl
  clear hl
  go_enter Tryd.func6, Tryd.ntmps6
  go_wp2_with fail
  have hb1 : Below w.heap.size w (w.alloc (.cells #[.int .i64 c] 3)) := (Below.refl _ _).alloc (Nat.le_refl _) _
  refine (encode_some _ 1 [c] _ _ (H.out.below hb1 H.out.lt) (RdS.lit w _ _ _ _ _ (by rfl) (by simp)) (by simp) (enc_one_some hc)).mono ?_
  rintro e w2 ⟨A2, c2, rfl, _, _, _, hb2⟩
  have hw2 : Below w.heap.size w w2 := hb1.trans (hb2.mono (by simp))
  clear hb1 hb2
  go_wp2_with fail
  have hb3 : Below w2.heap.size w2 (w2.alloc (.cells #[.int .i64 d] 3)) := (Below.refl _ _).alloc (Nat.le_refl _) _
  refine (encode_none _ 1 [d] _ (H.out.below (hw2.trans (hb3.mono hw2.size)) H.out.lt) (RdS.lit w2 _ _ _ _ _ (by rfl) (by simp)) (by simp) (enc_one_none hd)).mono ?_
  rintro e w3 ⟨rfl, hb4⟩
  have hw3 : Below w.heap.size w w3 := hw2.trans ((hb3.trans (hb4.mono (by simp))).mono hw2.size)
  clear hb3 hb4 hw2
  have HL := Lib.hid (H.out.below hw3 H.out.lt)
  go_wp2_with fail
  refine (alive_true _ HL.out).mono ?_
  rintro e w4 ⟨rfl, hb5⟩
  go_wp2_with fail
  refine (scalar_any c _).mono ?_
  rintro e w' ⟨rfl, rfl⟩
  rw [hc]
  go_wp2_with fail
  refine (scalar_any d _).mono ?_
  rintro e w' ⟨rfl, rfl⟩
  rw [hd]
  go_wp2_with fail
  go_ret
  exact ⟨rfl, hw3.trans (hb5.mono hw3.size)⟩

set_option maxHeartbeats 1000000 in
theorem order_bad4 (c d : Int) (w : World) (hl : LensOk w) (hc : M.scal c = true) (hd : M.scal d = true) (hcd : d ≤ c) :
    Calls Tryd.prog 6 #[.int .i64 c, .int .i64 d] w fun e w' => e = .returned (.bool true) ∧ Below w.heap.size w w' := by
  have H := Lib.hid hl
  clear hl
  go_enter Tryd.func6, Tryd.ntmps6
  go_wp2_with fail
  have hb1 : Below w.heap.size w (w.alloc (.cells #[.int .i64 c] 3)) := (Below.refl _ _).alloc (Nat.le_refl _) _
  refine (encode_some _ 1 [c] _ _ (H.out.below hb1 H.out.lt) (RdS.lit w _ _ _ _ _ (by rfl) (by simp)) (by simp) (enc_one_some hc)).mono ?_
  rintro e w2 ⟨A2, c2, rfl, _, _, _, hb2⟩
  have hw2 : Below w.heap.size w w2 := hb1.trans (hb2.mono (by simp))
  clear hb1 hb2
  go_wp2_with fail
  have hb3 : Below w2.heap.size w2 (w2.alloc (.cells #[.int .i64 d] 3)) := (Below.refl _ _).alloc (Nat.le_refl _) _
  refine (encode_some _ 1 [d] _ _ (H.out.below (hw2.trans (hb3.mono hw2.size)) H.out.lt) (RdS.lit w2 _ _ _ _ _ (by rfl) (by simp)) (by simp) (enc_one_some hd)).mono ?_
  rintro e w3 ⟨A3, c3, rfl, _, _, _, hb4⟩
  have hw3 : Below w.heap.size w w3 := hw2.trans ((hb3.trans (hb4.mono (by simp))).mono hw2.size)
  clear hb3 hb4 hw2
  have HL := Lib.hid (H.out.below hw3 H.out.lt)
  go_wp2_with fail
  refine (alive_true _ HL.out).mono ?_
  rintro e w4 ⟨rfl, hb5⟩
  go_wp2_with fail
  refine (scalar_any c _).mono ?_
  rintro e w' ⟨rfl, rfl⟩
  rw [hc]
  go_wp2_with fail
  refine (scalar_any d _).mono ?_
  rintro e w' ⟨rfl, rfl⟩
  rw [hd]
  go_wp2_with fail
  go_ret
  exact ⟨rfl, hw3.trans (hb5.mono hw3.size)⟩

set_option maxHeartbeats 1000000 in
theorem order_good (c d : Int) (w : World) (hl : LensOk w) (hc : M.scal c = true) (hd : M.scal d = true) (hcd : c < d) (hle : (M.bytes1 c).length ≤ (M.bytes1 d).length)
    (hless : Op.bytesLess (str (M.bytes1 c)).toList (str (M.bytes1 d)).toList = true) (hne : ((str ((M.bytes1 c).take (M.bytes1 c).length)).toList == (str ((M.bytes1 d).take (M.bytes1 c).length)).toList) = false) :
    Calls Tryd.prog 6 #[.int .i64 c, .int .i64 d] w fun e w' => e = .returned (.bool true) ∧ Below w.heap.size w w' := by
  have H := Lib.hid hl
  clear hl
  go_enter Tryd.func6, Tryd.ntmps6
  go_wp2_with fail
  have hb1 : Below w.heap.size w (w.alloc (.cells #[.int .i64 c] 3)) := (Below.refl _ _).alloc (Nat.le_refl _) _
  refine (encode_some _ 1 [c] _ _ (H.out.below hb1 H.out.lt) (RdS.lit w _ _ _ _ _ (by rfl) (by simp)) (by simp) (enc_one_some hc)).mono ?_
  rintro e w2 ⟨A2, c2, rfl, hr2, hx2, hm2, hb2⟩
  have hw2 : Below w.heap.size w w2 := hb1.trans (hb2.mono (by simp))
  clear hb1 hb2
  go_wp2_with fail
  have hb3 : Below w2.heap.size w2 (w2.alloc (.cells #[.int .i64 d] 3)) := (Below.refl _ _).alloc (Nat.le_refl _) _
  refine (encode_some _ 1 [d] _ _ (H.out.below (hw2.trans (hb3.mono hw2.size)) H.out.lt) (RdS.lit w2 _ _ _ _ _ (by rfl) (by simp)) (by simp) (enc_one_some hd)).mono ?_
  rintro e w3 ⟨A3, c3, rfl, hr3, hx3, hm3, hb4⟩
  have hw23 : Below w2.heap.size w2 w3 := hb3.trans (hb4.mono (by simp))
  have hw3 : Below w.heap.size w w3 := hw2.trans (hw23.mono hw2.size)
  have HR2 := Lib.hid ((hr2.below hw23).more hw23.size)
  have HR3 := Lib.hid hr3
  clear hb3 hb4 hw2 hw23 hr2 hr3
  have HL := Lib.hid (H.out.below hw3 H.out.lt)
  unfold maxLen at hm2 hm3
  have l4 := (M.bytes1_len c).2
  have l4' := (M.bytes1_len d).2
  generalize M.bytes1 c = x at *
  generalize M.bytes1 d = y at *
  have hxc3 : x.length ≤ c3 := by omega
  have hdc : decide (d ≤ c) = false := by simp; omega
  go_wp2_with fail
  have i1 : (x.length : Int) ≤ (c2 : Int) := by omega
  have i2 : (x.length : Int) ≤ (c3 : Int) := by omega
  have i3 : (x.length : Int) ≤ (y.length : Int) := by omega
  have i4 : decide ((x.length : Int) ≤ (y.length : Int)) = true := by simp; omega
  rw [List.take_length] at hne
  have hne2 : ((str x).toList != (str (y.take x.length)).toList) = true := by rw [bne, hne]; rfl
  have r1 := fun d os => run_str (Sort.grow (redrawn w3 d) os) _ A2 x x.length c2 rfl (HR2.out.below (below_regrown w3 d os))
  have r2 := fun d os => run_str (Sort.grow (redrawn w3 d) os) _ A3 y y.length c3 rfl (HR3.out.below (below_regrown w3 d os))
  have r3 := fun d os => run_str (Sort.grow (redrawn w3 d) os) _ A3 (y.take x.length) x.length c3 (by rw [List.length_take]; omega) ((HR3.out.below (below_regrown w3 d os)).take x.length)
  have CA := Lib.hid (fun d os => Calls.regrown_of (alive_true (Sort.grow (redrawn w3 d) os) (HL.out.below (below_regrown w3 d os) HL.out.lt)))
  refine wp_region_quiet_below (by kernel_rfl) (by kernel_rfl) ?_
  repeat (quiet_step (exact CA.out _ _))
  refine wpQuiet_nil ?_
  intro _ hw'
  obtain ⟨⟨dq, osq⟩, hw4⟩ := hw'
  subst hw4
  go_wp2
  go_ret
  exact ⟨rfl, hw3.trans ((below_regrown w3 dq osq).mono hw3.size)⟩

theorem order_any (c d : Int) (w : World) (hl : LensOk w) :
    Calls Tryd.prog 6 #[.int .i64 c, .int .i64 d] w fun e w' => e = .returned (.bool true) ∧ Below w.heap.size w w' := by
  cases hc : M.scal c with
  | false => cases hd : M.scal d with
    | false => exact order_bad1 c d w hl hc hd
    | true => exact order_bad2 c d w hl hc hd
  | true => cases hd : M.scal d with
    | false => exact order_bad3 c d w hl hc hd
    | true =>
      by_cases hcd : d ≤ c
      · exact order_bad4 c d w hl hc hd hcd
      · have hlt : c < d := by omega
        refine order_good c d w hl hc hd hlt (M.len_mono hc hd hlt) ?_ ?_
        · rw [str_list, str_list, bytesLess_map (M.bytes1_range hc) (M.bytes1_range hd)]
          exact M.lessI_bytes hc hd hlt
        · rw [str_list, str_list, List.take_length, beq_eq_false_iff_ne]
          intro e
          exact M.no_front hc hd hlt (map_byte_inj (M.bytes1_range hc) (fun x hx => M.bytes1_range hd x (List.mem_of_mem_take hx)) e)
end Go.Proofs.YtamlknnkahhfmaaDoor
