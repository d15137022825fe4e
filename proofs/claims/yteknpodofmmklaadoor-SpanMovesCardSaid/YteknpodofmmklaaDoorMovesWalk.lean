/- The walk of the statement SpanMoves over the translation: it answers true. Conditions: the slice reads as a list of spans whose fields are of their types; the variable lengths holds the four rows of the program's text. -/
import Derived.Test.YteknpodofmmklaaDoorFits
import Derived.Deep.RegionHeld3
namespace Go.Proofs.YteknpodofmmklaaDoor
open Go.RowKit

theorem ins_len (l : List M.S) (a b : Int) : (M.ins l a b).length ≤ l.length := by
  unfold M.ins
  split
  · exact Nat.le_refl _
  · exact List.length_filterMap_le _ _
theorem del_len (l : List M.S) (a b : Int) : (M.del l a b).length ≤ l.length := by
  unfold M.del
  split
  · exact Nat.le_refl _
  · exact List.length_filterMap_le _ _
set_option maxRecDepth 100000 in
set_option maxHeartbeats 8000000 in
theorem moves_any (A : Option Addr) (ca : Nat) (l : List M.S) (n a b c : Int) (w : World) (hl : LensOk w) (hr : RdP w w.heap.size A l) (hcl : l.length ≤ ca) (hca : ca ≤ maxLen) (ht : Typed l) (hna : A = none → ca = 0) :
    Calls Tryd.prog 4 #[.slice A l.length ca, .int .i64 n, .agg #[.int .i64 a, .int .i64 b, .int .i64 c]] w fun r w' => r = .returned (.bool true) ∧ Below w.heap.size w w' := by
  obtain ⟨i0, hi, hz0, hz1, hz2⟩ := info_parts Tryd.infoSpan
  obtain ⟨W0, hW0⟩ : ∃ W0, w.alloc (.cells #[.int .i64 a, .int .i64 b, .int .i64 c] 35) = W0 := ⟨_, rfl⟩
  have hb0 : Below w.heap.size w W0 := by rw [← hW0]; exact (Below.refl _ _).alloc (Nat.le_refl _) _
  have hlt0 : w.heap.size < W0.heap.size := by rw [← hW0]; simp
  have k0 : W0.cell? ⟨w.heap.size, 0, none⟩ = some (.int .i64 a) := by rw [← hW0]; simp [go_sem]
  have k1 : W0.cell? ⟨w.heap.size, 1, none⟩ = some (.int .i64 b) := by rw [← hW0]; simp [go_sem]
  have k2 : W0.cell? ⟨w.heap.size, 2, none⟩ = some (.int .i64 c) := by rw [← hW0]; simp [go_sem]
  have KA := Lib.hid (fun (W : World) (hW : Below W0.heap.size W0 W) => (hW.cell (p := ⟨w.heap.size, 0, none⟩) hlt0).trans k0)
  have KB := Lib.hid (fun (W : World) (hW : Below W0.heap.size W0 W) => (hW.cell (p := ⟨w.heap.size, 1, none⟩) hlt0).trans k1)
  have KC := Lib.hid (fun (W : World) (hW : Below W0.heap.size W0 W) => (hW.cell (p := ⟨w.heap.size, 2, none⟩) hlt0).trans k2)
  have HR0 := Lib.hid (hr.after hb0)
  have HF := Lib.hid (fits_any A ca l n W0 (hr.after hb0) (Nat.le_trans hcl hca) ht)
  have HL := Lib.hid hl
  have HB0 := Lib.hid hb0
  have HNA := Lib.hid hna
  have HCA := Lib.hid hca
  clear hl hr hca ht hb0 hna k0 k1 k2
  go_enter Tryd.func4, Tryd.ntmps4
  go_wp2_with fail
  refine HF.out.mono ?_
  rintro r w1 ⟨bb, rfl, himp, hb1⟩
  have HI1 := Lib.hid hb1
  have HB1 := Lib.hid (HB0.out.trans (hb1.mono HB0.out.size))
  have ka := KA.out w1 hb1
  have kb := KB.out w1 hb1
  have kc := KC.out w1 hb1
  clear hb1
  cases bb
  · clear himp
    go_wp2_with fail
    refine (alive_any _ (HL.out.below HB1.out HL.out.lt)).mono ?_
    rintro r wz ⟨rfl, hbz⟩
    have HBZ := Lib.hid (HB1.out.trans (hbz.mono HB1.out.size))
    clear hbz
    go_wp2_with fail
    go_ret
    exact ⟨rfl, HBZ.out⟩
  · have hfit := himp rfl
    clear himp
    by_cases ha : 1048576 < a
    · go_wp2_with fail
      refine (alive_any _ (HL.out.below HB1.out HL.out.lt)).mono ?_
      rintro r wz ⟨rfl, hbz⟩
      have HBZ := Lib.hid (HB1.out.trans (hbz.mono HB1.out.size))
      clear hbz
      go_wp2_with fail
      go_ret
      exact ⟨rfl, HBZ.out⟩
    · by_cases hb : 1048576 < b
      · go_wp2_with fail
        refine (alive_any _ (HL.out.below HB1.out HL.out.lt)).mono ?_
        rintro r wz ⟨rfl, hbz⟩
        have HBZ := Lib.hid (HB1.out.trans (hbz.mono HB1.out.size))
        clear hbz
        go_wp2_with fail
        go_ret
        exact ⟨rfl, HBZ.out⟩
      · by_cases hc : 1048576 < c
        · go_wp2_with fail
          refine (alive_any _ (HL.out.below HB1.out HL.out.lt)).mono ?_
          rintro r wz ⟨rfl, hbz⟩
          have HBZ := Lib.hid (HB1.out.trans (hbz.mono HB1.out.size))
          clear hbz
          go_wp2_with fail
          go_ret
          exact ⟨rfl, HBZ.out⟩
        · have hm60 := hfit.len
          have HLIM := Lib.hid hfit.lim
          have HR1 := Lib.hid (HR0.out.after HI1.out)
          have hs1 := HB1.out.size
          clear hfit
          cases A with
          | none =>
            obtain rfl := HNA.out rfl
            obtain rfl : l = [] := List.eq_nil_of_length_eq_zero (by omega)
            have HW := Lib.hid (show ∃ W2 : World, w1.alloc (.cells #[] 27) = W2 ∧ Below w1.heap.size w1 W2 from ⟨_, rfl, (Below.refl _ _).alloc (Nat.le_refl _) _⟩)
            obtain ⟨w2, hW2, hb2⟩ := HW.out
            have HB2 := Lib.hid (HB1.out.trans (hb2.mono hs1))
            have HI2 := Lib.hid (HI1.out.trans (hb2.mono HI1.out.size))
            have HR2 := Lib.hid (HR1.out.after hb2)
            have HW2 := Lib.hid (show RdP w2 w2.heap.size (some ⟨w1.heap.size, 0, none⟩) [] from fun j e hj => by simp at hj)
            have ka2 := KA.out _ HI2.out
            have kb2 := KB.out _ HI2.out
            have kc2 := KC.out _ HI2.out
            clear hb2
            have hlenb := ins_len [] a b
            have hlenc := del_len [] a c
            have hlenb : (M.ins [] a b).length ≤ 60 := Nat.le_trans hlenb hm60
            have hlenc : (M.del [] a c).length ≤ 60 := Nat.le_trans hlenc hm60
            go_wp2
            go_region_held3 (fun w' => w'.cell? ⟨w.heap.size, 0, none⟩ = some (.int .i64 a) ∧ w'.cell? ⟨w.heap.size, 1, none⟩ = some (.int .i64 b))
              (first | go_keep | exact ⟨ka3, kb3⟩ | exact ⟨ka4, kb4⟩ | exact ⟨ka5, kb5⟩)
              (first
                | (go_at_call 19; (refine (insert_any none 0 [] a b _ (by exact HR2.out) hm60 HLIM.out (by omega) (by omega)).mono ?_); rintro r w3 ⟨v3, rfl, ho3, hb3⟩; obtain ⟨A3, c3, rfl, hr3, hc3, hm3, hn3⟩ := ho3.shape; have hg3 : Below w2.heap.size w2 w3 := ⟨hb3.os, hb3.tape, hb3.output, hb3.size, hb3.block⟩; have HI3 := Lib.hid (HI2.out.trans (hg3.mono HI2.out.size)); have HB3 := Lib.hid (HB2.out.trans (hg3.mono HB2.out.size)); have ka3 := KA.out _ HI3.out; have kb3 := KB.out _ HI3.out; have HR3 := Lib.hid (HR2.out.after hg3); have HW3 := Lib.hid (HW2.out.after hg3); have HX3 := Lib.hid hr3; clear ho3 hb3 hr3 hg3)
                | (go_at_call 20; (refine (refIns_any none 0 [] a b _ (by exact HR3.out) hm60 (Nat.le_refl _) HCA.out (fun _ => rfl) HLIM.out (by omega) (by omega)).mono ?_); rintro r w4 ⟨v4, rfl, ho4, hb4⟩; obtain ⟨A4, c4, rfl, hr4, hc4, hm4, hn4⟩ := ho4.shape; have hg4 : Below w3.heap.size w3 w4 := ⟨hb4.os, hb4.tape, hb4.output, hb4.size, hb4.block⟩; have HI4 := Lib.hid (HI3.out.trans (hg4.mono HI3.out.size)); have HB4 := Lib.hid (HB3.out.trans (hg4.mono HB3.out.size)); have ka4 := KA.out _ HI4.out; have kb4 := KB.out _ HI4.out; have HR4 := Lib.hid (HR3.out.after hg4); have HW4 := Lib.hid (HW3.out.after hg4); have HX4 := Lib.hid (HX3.out.after hg4); have HY4 := Lib.hid hr4; clear ho4 hb4 hr4 hg4)
                | (go_at_call 13; (refine (same_any A3 A4 c3 c4 (M.ins [] a b) (M.ins [] a b) _ (by exact HX4.out) (by exact HY4.out) hlenb).mono ?_); rintro r w5 ⟨rfl, hb5⟩; have hg5 : Below w4.heap.size w4 w5 := ⟨hb5.os, hb5.tape, hb5.output, hb5.size, hb5.block⟩; have HI5 := Lib.hid (HI4.out.trans (hg5.mono HI4.out.size)); have HB5 := Lib.hid (HB4.out.trans (hg5.mono HB4.out.size)); have ka5 := KA.out _ HI5.out; have kb5 := KB.out _ HI5.out; have HR5 := Lib.hid (HR4.out.after hg5); have HW5 := Lib.hid (HW4.out.after hg5); clear hb5 hg5; rw [M.sameL_self]))
            have kc5 := KC.out _ HI5.out
            clear ka3 kb3 ka4 kb4 kb5 ka2 kb2 kc2
            go_wp2_with fail
            go_region_held3 (fun w' => w'.cell? ⟨w.heap.size, 0, none⟩ = some (.int .i64 a) ∧ w'.cell? ⟨w.heap.size, 2, none⟩ = some (.int .i64 c))
              (first | go_keep | exact ⟨ka6, kb6⟩ | exact ⟨ka7, kb7⟩ | exact ⟨ka8, kb8⟩)
              (first
                | (go_at_call 21; (refine (delete_any none 0 [] a c _ (by exact HR5.out) hm60 HLIM.out (by omega) (by omega)).mono ?_); rintro r w6 ⟨v6, rfl, ho6, hb6⟩; obtain ⟨A6, c6, rfl, hr6, hc6, hm6, hn6⟩ := ho6.shape; have hg6 : Below w5.heap.size w5 w6 := ⟨hb6.os, hb6.tape, hb6.output, hb6.size, hb6.block⟩; have HI6 := Lib.hid (HI5.out.trans (hg6.mono HI5.out.size)); have HB6 := Lib.hid (HB5.out.trans (hg6.mono HB5.out.size)); have ka6 := KA.out _ HI6.out; have kb6 := KC.out _ HI6.out; have HR6 := Lib.hid (HR5.out.after hg6); have HW6 := Lib.hid (HW5.out.after hg6); have HX6 := Lib.hid hr6; clear ho6 hb6 hr6 hg6)
                | (go_at_call 22; (refine (refDel_any none 0 [] a c _ (by exact HR6.out) hm60 (Nat.le_refl _) HCA.out (fun _ => rfl) HLIM.out (by omega) (by omega)).mono ?_); rintro r w7 ⟨v7, rfl, ho7, hb7⟩; obtain ⟨A7, c7, rfl, hr7, hc7, hm7, hn7⟩ := ho7.shape; have hg7 : Below w6.heap.size w6 w7 := ⟨hb7.os, hb7.tape, hb7.output, hb7.size, hb7.block⟩; have HI7 := Lib.hid (HI6.out.trans (hg7.mono HI6.out.size)); have HB7 := Lib.hid (HB6.out.trans (hg7.mono HB6.out.size)); have ka7 := KA.out _ HI7.out; have kb7 := KC.out _ HI7.out; have HR7 := Lib.hid (HR6.out.after hg7); have HW7 := Lib.hid (HW6.out.after hg7); have HX7 := Lib.hid (HX6.out.after hg7); have HY7 := Lib.hid hr7; clear ho7 hb7 hr7 hg7)
                | (go_at_call 13; (refine (same_any A6 A7 c6 c7 (M.del [] a c) (M.del [] a c) _ (by exact HX7.out) (by exact HY7.out) hlenc).mono ?_); rintro r w8 ⟨rfl, hb8⟩; have hg8 : Below w7.heap.size w7 w8 := ⟨hb8.os, hb8.tape, hb8.output, hb8.size, hb8.block⟩; have HI8 := Lib.hid (HI7.out.trans (hg8.mono HI7.out.size)); have HB8 := Lib.hid (HB7.out.trans (hg8.mono HB7.out.size)); have ka8 := KA.out _ HI8.out; have kb8 := KC.out _ HI8.out; have HR8 := Lib.hid (HR7.out.after hg8); have HW8 := Lib.hid (HW7.out.after hg8); clear hb8 hg8; rw [M.sameL_self]))
            go_wp2_with fail
            refine (same_any none (some ⟨w1.heap.size, 0, none⟩) 0 0 [] [] w8 HR8.out HW8.out hm60).mono ?_
            rintro r w9 ⟨rfl, hb9⟩
            have HB9 := Lib.hid (HB8.out.trans (hb9.mono HB8.out.size))
            rw [M.sameL_self]
            clear hb9
            go_wp2_with fail
            refine (alive_any _ (HL.out.below HB9.out HL.out.lt)).mono ?_
            rintro r wz ⟨rfl, hbz⟩
            have HBZ := Lib.hid (HB9.out.trans (hbz.mono HB9.out.size))
            clear hbz
            go_wp2_with fail
            go_ret
            exact ⟨rfl, HBZ.out⟩
          | some ad =>
            have HC := Lib.hid (fun j u (hu : (cellsP l)[j]? = some u) (o : Obj) => (show (w1.alloc o).cell? (ad.add j) = some u by
              have h := HR1.out.cellsAt rfl j u hu
              exact (((Below.refl _ w1).alloc (Nat.le_refl _) o).cell (World.block_lt_of_cell? w1 _ h)).trans h))
            go_wp2_with (at_builtin; refine wpList_append_own _ rfl _ _ 22 rfl w1.heap.size 27 i0 _ 6 56 Tryd.underlying22 hi hz0 hz1 hz2 rfl (by decide) _ 0 [] rfl (World.ownsRow_made w1 #[] 0 (Nat.le_refl _) (Nat.zero_le _) rfl) ad l.length ca (cellsP l) rfl (cellsP_length l) (fun j u hu => HC.out j u hu _) (cells_one l) (by unfold maxLen; omega) (by omega) (by simp) ?_)
            intro v2 w2 hown3 hgrow3 _
            have hown : OwnP w2 w1.heap.size v2 l := by unfold OwnP; simpa using hown3
            have hb2 : Below w1.heap.size w1 w2 := ((Below.refl _ w1).alloc (Nat.le_refl _) (.cells #[] 27)).grown hgrow3 (by simp) (by intro k hk; simp [Value.ownBlock] at hk; omega)
            clear hown3 hgrow3
            have HB2 := Lib.hid (HB1.out.trans (hb2.mono hs1))
            have HI2 := Lib.hid (HI1.out.trans (hb2.mono HI1.out.size))
            have HR2 := Lib.hid (HR1.out.after hb2)
            have HO2 := Lib.hid hown
            have ka2 := KA.out _ HI2.out
            have kb2 := KB.out _ HI2.out
            have kc2 := KC.out _ HI2.out
            clear hb2 hown ka kb kc
            obtain ⟨A2, c2, rfl, hrw, hcw, hmw, hnw⟩ := HO2.out.shape
            have HW2 := Lib.hid hrw
            have hlenb := ins_len l a b
            have hlenc := del_len l a c
            have hlenb : (M.ins l a b).length ≤ 60 := Nat.le_trans hlenb hm60
            have hlenc : (M.del l a c).length ≤ 60 := Nat.le_trans hlenc hm60
            clear hrw hcw hmw hnw HO2
            go_wp2_with fail
            go_region_held3 (fun w' => w'.cell? ⟨w.heap.size, 0, none⟩ = some (.int .i64 a) ∧ w'.cell? ⟨w.heap.size, 1, none⟩ = some (.int .i64 b))
              (first | go_keep | exact ⟨ka3, kb3⟩ | exact ⟨ka4, kb4⟩ | exact ⟨ka5, kb5⟩)
              (first
                | (go_at_call 19; (refine (insert_any (some ad) ca l a b _ (by exact HR2.out) hm60 HLIM.out (by omega) (by omega)).mono ?_); rintro r w3 ⟨v3, rfl, ho3, hb3⟩; obtain ⟨A3, c3, rfl, hr3, hc3, hm3, hn3⟩ := ho3.shape; have hg3 : Below w2.heap.size w2 w3 := ⟨hb3.os, hb3.tape, hb3.output, hb3.size, hb3.block⟩; have HI3 := Lib.hid (HI2.out.trans (hg3.mono HI2.out.size)); have HB3 := Lib.hid (HB2.out.trans (hg3.mono HB2.out.size)); have ka3 := KA.out _ HI3.out; have kb3 := KB.out _ HI3.out; have HR3 := Lib.hid (HR2.out.after hg3); have HW3 := Lib.hid (HW2.out.after hg3); have HX3 := Lib.hid hr3; clear ho3 hb3 hr3 hg3)
                | (go_at_call 20; (refine (refIns_any (some ad) ca l a b _ (by exact HR3.out) hm60 hcl HCA.out (fun h => by cases h) HLIM.out (by omega) (by omega)).mono ?_); rintro r w4 ⟨v4, rfl, ho4, hb4⟩; obtain ⟨A4, c4, rfl, hr4, hc4, hm4, hn4⟩ := ho4.shape; have hg4 : Below w3.heap.size w3 w4 := ⟨hb4.os, hb4.tape, hb4.output, hb4.size, hb4.block⟩; have HI4 := Lib.hid (HI3.out.trans (hg4.mono HI3.out.size)); have HB4 := Lib.hid (HB3.out.trans (hg4.mono HB3.out.size)); have ka4 := KA.out _ HI4.out; have kb4 := KB.out _ HI4.out; have HR4 := Lib.hid (HR3.out.after hg4); have HW4 := Lib.hid (HW3.out.after hg4); have HX4 := Lib.hid (HX3.out.after hg4); have HY4 := Lib.hid hr4; clear ho4 hb4 hr4 hg4)
                | (go_at_call 13; (refine (same_any A3 A4 c3 c4 (M.ins l a b) (M.ins l a b) _ (by exact HX4.out) (by exact HY4.out) hlenb).mono ?_); rintro r w5 ⟨rfl, hb5⟩; have hg5 : Below w4.heap.size w4 w5 := ⟨hb5.os, hb5.tape, hb5.output, hb5.size, hb5.block⟩; have HI5 := Lib.hid (HI4.out.trans (hg5.mono HI4.out.size)); have HB5 := Lib.hid (HB4.out.trans (hg5.mono HB4.out.size)); have ka5 := KA.out _ HI5.out; have kb5 := KB.out _ HI5.out; have HR5 := Lib.hid (HR4.out.after hg5); have HW5 := Lib.hid (HW4.out.after hg5); clear hb5 hg5; rw [M.sameL_self]))
            have kc5 := KC.out _ HI5.out
            clear ka3 kb3 ka4 kb4 kb5 ka2 kb2 kc2
            go_wp2_with fail
            go_region_held3 (fun w' => w'.cell? ⟨w.heap.size, 0, none⟩ = some (.int .i64 a) ∧ w'.cell? ⟨w.heap.size, 2, none⟩ = some (.int .i64 c))
              (first | go_keep | exact ⟨ka6, kb6⟩ | exact ⟨ka7, kb7⟩ | exact ⟨ka8, kb8⟩)
              (first
                | (go_at_call 21; (refine (delete_any (some ad) ca l a c _ (by exact HR5.out) hm60 HLIM.out (by omega) (by omega)).mono ?_); rintro r w6 ⟨v6, rfl, ho6, hb6⟩; obtain ⟨A6, c6, rfl, hr6, hc6, hm6, hn6⟩ := ho6.shape; have hg6 : Below w5.heap.size w5 w6 := ⟨hb6.os, hb6.tape, hb6.output, hb6.size, hb6.block⟩; have HI6 := Lib.hid (HI5.out.trans (hg6.mono HI5.out.size)); have HB6 := Lib.hid (HB5.out.trans (hg6.mono HB5.out.size)); have ka6 := KA.out _ HI6.out; have kb6 := KC.out _ HI6.out; have HR6 := Lib.hid (HR5.out.after hg6); have HW6 := Lib.hid (HW5.out.after hg6); have HX6 := Lib.hid hr6; clear ho6 hb6 hr6 hg6)
                | (go_at_call 22; (refine (refDel_any (some ad) ca l a c _ (by exact HR6.out) hm60 hcl HCA.out (fun h => by cases h) HLIM.out (by omega) (by omega)).mono ?_); rintro r w7 ⟨v7, rfl, ho7, hb7⟩; obtain ⟨A7, c7, rfl, hr7, hc7, hm7, hn7⟩ := ho7.shape; have hg7 : Below w6.heap.size w6 w7 := ⟨hb7.os, hb7.tape, hb7.output, hb7.size, hb7.block⟩; have HI7 := Lib.hid (HI6.out.trans (hg7.mono HI6.out.size)); have HB7 := Lib.hid (HB6.out.trans (hg7.mono HB6.out.size)); have ka7 := KA.out _ HI7.out; have kb7 := KC.out _ HI7.out; have HR7 := Lib.hid (HR6.out.after hg7); have HW7 := Lib.hid (HW6.out.after hg7); have HX7 := Lib.hid (HX6.out.after hg7); have HY7 := Lib.hid hr7; clear ho7 hb7 hr7 hg7)
                | (go_at_call 13; (refine (same_any A6 A7 c6 c7 (M.del l a c) (M.del l a c) _ (by exact HX7.out) (by exact HY7.out) hlenc).mono ?_); rintro r w8 ⟨rfl, hb8⟩; have hg8 : Below w7.heap.size w7 w8 := ⟨hb8.os, hb8.tape, hb8.output, hb8.size, hb8.block⟩; have HI8 := Lib.hid (HI7.out.trans (hg8.mono HI7.out.size)); have HB8 := Lib.hid (HB7.out.trans (hg8.mono HB7.out.size)); have ka8 := KA.out _ HI8.out; have kb8 := KC.out _ HI8.out; have HR8 := Lib.hid (HR7.out.after hg8); have HW8 := Lib.hid (HW7.out.after hg8); clear hb8 hg8; rw [M.sameL_self]))
            go_wp2_with fail
            refine (same_any (some ad) A2 ca c2 l l w8 HR8.out HW8.out hm60).mono ?_
            rintro r w9 ⟨rfl, hb9⟩
            have HB9 := Lib.hid (HB8.out.trans (hb9.mono HB8.out.size))
            rw [M.sameL_self]
            clear hb9
            go_wp2_with fail
            refine (alive_any _ (HL.out.below HB9.out HL.out.lt)).mono ?_
            rintro r wz ⟨rfl, hbz⟩
            have HBZ := Lib.hid (HB9.out.trans (hbz.mono HB9.out.size))
            clear hbz
            go_wp2_with fail
            go_ret
            exact ⟨rfl, HBZ.out⟩
end Go.Proofs.YteknpodofmmklaaDoor
