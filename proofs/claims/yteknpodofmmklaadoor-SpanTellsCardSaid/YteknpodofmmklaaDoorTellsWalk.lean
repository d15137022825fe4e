/- The walk of the statement SpanTells over the translation: it answers true. Conditions: the slice reads as a list of spans whose fields are of their types; the variable lengths holds the four rows of the program's text. -/
import Derived.Test.YteknpodofmmklaaDoorFits
namespace Go.Proofs.YteknpodofmmklaaDoor
open Go.RowKit

set_option maxRecDepth 100000 in
set_option maxHeartbeats 8000000 in
theorem tells_any (A : Option Addr) (ca : Nat) (l : List M.S) (n i : Int) (w : World) (hl : LensOk w) (hr : RdP w w.heap.size A l) (hcl : l.length ≤ ca) (hca : ca ≤ maxLen) (ht : Typed l) (hna : A = none → ca = 0) :
    Calls Tryd.prog 3 #[.slice A l.length ca, .int .i64 n, .int .i64 i] w fun r w' => r = .returned (.bool true) ∧ Below w.heap.size w w' := by
  obtain ⟨i0, hi, hz0, hz1, hz2⟩ := info_parts Tryd.infoSpan
  have HB0 := Lib.hid (Below.refl w.heap.size w)
  have hcm := Nat.le_trans hcl hca
  unfold maxLen at hcm
  have HR := Lib.hid hr
  have HT := Lib.hid ht
  have HL := Lib.hid hl
  have HNA := Lib.hid hna
  clear hl hr hca ht hna
  by_cases h60 : 60 < l.length
  · have h61 : (60 : Int) < (l.length : Int) := by omega
    go_enter Tryd.func3, Tryd.ntmps3
    go_wp2_with fail
    refine (alive_any _ (HL.out.below HB0.out HL.out.lt)).mono ?_
    rintro r wz ⟨rfl, hbz⟩
    have HBZ := Lib.hid (HB0.out.trans (hbz.mono HB0.out.size))
    clear hbz
    go_wp2_with fail
    go_ret
    exact ⟨rfl, HBZ.out⟩
  · have h61 : (l.length : Int) ≤ 60 := by omega
    go_enter Tryd.func3, Tryd.ntmps3
    go_wp2_with fail
    go_loopw [7] (fun v wr => ∃ k : Nat, k ≤ l.length ∧ v = .int .i64 k ∧ RubyTo l k ∧ Below w.heap.size w wr) (fun v _ => l.length - (intOf v).toNat)
    case atStart => exact ⟨0, Nat.zero_le _, rfl, fun j z hj => absurd hj (Nat.not_lt_zero j), Below.refl _ _⟩
    case round =>
      obtain ⟨k, hk, rfl, hru, hbr⟩ := hrel
      have HU := Lib.hid hru
      have HB := Lib.hid hbr
      have hbs := hbr.size
      clear hru hbr
      by_cases hlt : k < l.length
      · obtain ⟨s, hs⟩ : ∃ s, l[k]? = some s := ⟨_, List.getElem?_eq_getElem hlt⟩
        obtain ⟨ad, rfl, hab, c0, c1, c2, c3, c4, c5⟩ := HR.out.below HB.out k s hs
        have hk1 : (0 : Int) ≤ (k : Int) := by omega
        have hk2 : (k : Int) < (l.length : Int) := by omega
        have hz := (HT.out s (List.mem_of_getElem? hs)).2.2.2
        unfold maxLen at hz
        by_cases h200 : 200 < s.r.size
        · have h201 : (200 : Int) < (s.r.size : Int) := by omega
          clear hs
          go_wp2_with fail
          refine (alive_any _ (HL.out.below HB.out HL.out.lt)).mono ?_
          rintro r wz ⟨rfl, hbz⟩
          have HBZ := Lib.hid (HB.out.trans (hbz.mono HB.out.size))
          clear hbz
          go_wp2_with fail
          go_ret
          exact ⟨rfl, HBZ.out⟩
        · have h201 : (s.r.size : Int) ≤ 200 := by omega
          have HU2 := Lib.hid (HU.out.succ hs (by omega))
          clear hs
          go_wp2_with fail
          go_roundw
          case rel => exact ⟨k + 1, by omega, by go_num, HU2.out, HB.out⟩
          case measure => simp [intOf]; omega
      · obtain rfl : k = l.length := by omega
        have hm60 : l.length ≤ 60 := by omega
        have HSZ := Lib.hid (szd_of HT.out (RubyTo.all HU.out))
        have HRW := Lib.hid (HR.out.after HB.out)
        go_wp2_with fail
        refine (refRight_any A ca l n wr HRW.out hm60 HSZ.out).mono ?_
        rintro r wa ⟨rfl, hba⟩
        have HRA := Lib.hid (HRW.out.after hba)
        have HBA := Lib.hid (HB.out.trans (hba.mono hbs))
        clear hba
        obtain ⟨rb, hrb⟩ : ∃ rb, M.right l n = rb := ⟨_, rfl⟩
        rw [hrb]
        have HRB := Lib.hid hrb
        clear hrb
        go_wp2_with fail
        refine (right_any A ca l n wa (HL.out.below HBA.out HL.out.lt) HRA.out hm60 HSZ.out).mono ?_
        rintro r w1 ⟨rfl, hb1⟩
        have HR1 := Lib.hid (HRA.out.after hb1)
        have HB1 := Lib.hid (HBA.out.trans (hb1.mono HBA.out.size))
        have hs1 := HB1.out.size
        rw [HRB.out]
        clear hb1
        cases rb
        · go_wp2_with fail
          refine (alive_any _ (HL.out.below HB1.out HL.out.lt)).mono ?_
          rintro r wz ⟨rfl, hbz⟩
          have HBZ := Lib.hid (HB1.out.trans (hbz.mono HB1.out.size))
          clear hbz
          go_wp2_with fail
          go_ret
          exact ⟨rfl, HBZ.out⟩
        · cases A with
          | none =>
            obtain rfl := HNA.out rfl
            obtain rfl : l = [] := List.eq_nil_of_length_eq_zero (by omega)
            obtain ⟨w2, hW2, hb2⟩ : ∃ W2 : World, w1.alloc (.cells #[] 27) = W2 ∧ Below w1.heap.size w1 W2 := ⟨_, rfl, (Below.refl _ _).alloc (Nat.le_refl _) _⟩
            have HB2 := Lib.hid (HB1.out.trans (hb2.mono hs1))
            have HR2 := Lib.hid (HR1.out.after hb2)
            obtain ⟨A2, c2, hA2, HW2⟩ : ∃ A2 c2, Value.slice (some ⟨w1.heap.size, 0, none⟩) 0 0 = .slice A2 0 c2 ∧ Hid (RdP w2 w2.heap.size A2 []) := ⟨_, _, rfl, Lib.hid (fun j e hj => by simp at hj)⟩
            injection hA2 with hA2 _ hc2
            subst hA2 hc2
            clear hb2
            go_wp2_with fail
            refine (at_any none 0 [] i w2 HR2.out hm60).mono ?_
            rintro r w3 ⟨rfl, hb3⟩
            have HR3 := Lib.hid (HR2.out.after hb3)
            have HW3 := Lib.hid (HW2.out.after hb3)
            have HB3 := Lib.hid (HB2.out.trans (hb3.mono HB2.out.size))
            clear hb3
            cases hat : M.atI [] i with
            | none =>
              have HAT := Lib.hid hat
              clear hat
              dsimp only [M.atV]
              go_wp2_with fail
              refine (refAt_any none 0 [] i w3 HR3.out hm60).mono ?_
              rintro r w3 ⟨rfl, rfl⟩
              rw [HAT.out]
              dsimp only [M.atV]
              go_wp2_with fail
              refine (normal_any none 0 [] w3 HR3.out hm60).mono ?_
              rintro r w4 ⟨v4, rfl, ho4, hb4⟩
              obtain ⟨A4, c4, rfl, hr4, hc4, hm4, hn4⟩ := ho4.shape
              have HR4 := Lib.hid (HR3.out.after hb4)
              have HW4 := Lib.hid (HW3.out.after hb4)
              have HX4 := Lib.hid hr4
              have HB4 := Lib.hid (HB3.out.trans (hb4.mono HB3.out.size))
              clear hb4 ho4 hr4 hc4 hm4 hn4
              go_wp2_with fail
              refine (refNormal_any none 0 [] w4 HR4.out hm60).mono ?_
              rintro r w5 ⟨v5, rfl, ho5, hb5⟩
              obtain ⟨A5, c5, rfl, hr5, hc5, hm5, hn5⟩ := ho5.shape
              have HR5 := Lib.hid (HR4.out.after hb5)
              have HW5 := Lib.hid (HW4.out.after hb5)
              have HX5 := Lib.hid (HX4.out.after hb5)
              have HY5 := Lib.hid hr5
              have HB5 := Lib.hid (HB4.out.trans (hb5.mono HB4.out.size))
              clear hb5 ho5 hr5 hc5 hm5 hn5
              go_wp2_with fail
              refine (same_any A4 A5 c4 c5 (M.norm []) (M.norm []) w5 HX5.out HY5.out (Nat.le_trans (M.norm_len []) hm60)).mono ?_
              rintro r w6 ⟨rfl, hb6⟩
              have HR6 := Lib.hid (HR5.out.after hb6)
              have HW6 := Lib.hid (HW5.out.after hb6)
              have HB6 := Lib.hid (HB5.out.trans (hb6.mono HB5.out.size))
              rw [M.sameL_self]
              clear hb6
              go_wp2_with fail
              refine (same_any none (some ⟨w1.heap.size, 0, none⟩) 0 0 [] [] w6 HR6.out HW6.out hm60).mono ?_
              rintro r w7 ⟨rfl, hb7⟩
              have HR7 := Lib.hid (HR6.out.after hb7)
              have HB7 := Lib.hid (HB6.out.trans (hb7.mono HB6.out.size))
              rw [M.sameL_self]
              clear hb7
              go_wp2_with fail
              refine (alive_any _ (HL.out.below HB7.out HL.out.lt)).mono ?_
              rintro r w8 ⟨rfl, hb8⟩
              have HR8 := Lib.hid (HR7.out.after hb8)
              have HB8 := Lib.hid (HB7.out.trans (hb8.mono HB7.out.size))
              clear hb8
              go_wp2_with fail
              refine (look_any none 0 [] i w8 HR8.out hm60).mono ?_
              rintro r w9 ⟨rfl, hb9⟩
              have HR9 := Lib.hid (HR8.out.after hb9)
              have HB9 := Lib.hid (HB8.out.trans (hb9.mono HB8.out.size))
              clear hb9
              go_wp2_with fail
              refine (refLook_any none 0 [] i w9 HR9.out hm60).mono ?_
              rintro r w10 ⟨rfl, hb10⟩
              have HB10 := Lib.hid (HB9.out.trans (hb10.mono HB9.out.size))
              clear hb10
              unfold M.S.val
              have hg := guard_span
              obtain ⟨y, hy⟩ : ∃ y, M.look [] i = y := ⟨_, rfl⟩
              rw [hy]
              have hq := fun w => eql_span w y.f y.t y.p y.c y.r y.x y.f y.t y.p y.c y.r y.x
              rw [show M.eq6 y.f y.t y.p y.c y.r y.x y.f y.t y.p y.c y.r y.x = true from M.same_iff (a := y) (b := y) |>.2 rfl] at hq
              have HY := Lib.hid hy
              clear hy
              go_wp2_with fail
              go_ret
              exact ⟨rfl, HB10.out⟩
            | some kk =>
              have HAT := Lib.hid hat
              clear hat
              dsimp only [M.atV]
              go_wp2_with fail
              refine (refAt_any none 0 [] i w3 HR3.out hm60).mono ?_
              rintro r w3 ⟨rfl, rfl⟩
              rw [HAT.out]
              dsimp only [M.atV]
              go_wp2_with fail
              refine (normal_any none 0 [] w3 HR3.out hm60).mono ?_
              rintro r w4 ⟨v4, rfl, ho4, hb4⟩
              obtain ⟨A4, c4, rfl, hr4, hc4, hm4, hn4⟩ := ho4.shape
              have HR4 := Lib.hid (HR3.out.after hb4)
              have HW4 := Lib.hid (HW3.out.after hb4)
              have HX4 := Lib.hid hr4
              have HB4 := Lib.hid (HB3.out.trans (hb4.mono HB3.out.size))
              clear hb4 ho4 hr4 hc4 hm4 hn4
              go_wp2_with fail
              refine (refNormal_any none 0 [] w4 HR4.out hm60).mono ?_
              rintro r w5 ⟨v5, rfl, ho5, hb5⟩
              obtain ⟨A5, c5, rfl, hr5, hc5, hm5, hn5⟩ := ho5.shape
              have HR5 := Lib.hid (HR4.out.after hb5)
              have HW5 := Lib.hid (HW4.out.after hb5)
              have HX5 := Lib.hid (HX4.out.after hb5)
              have HY5 := Lib.hid hr5
              have HB5 := Lib.hid (HB4.out.trans (hb5.mono HB4.out.size))
              clear hb5 ho5 hr5 hc5 hm5 hn5
              go_wp2_with fail
              refine (same_any A4 A5 c4 c5 (M.norm []) (M.norm []) w5 HX5.out HY5.out (Nat.le_trans (M.norm_len []) hm60)).mono ?_
              rintro r w6 ⟨rfl, hb6⟩
              have HR6 := Lib.hid (HR5.out.after hb6)
              have HW6 := Lib.hid (HW5.out.after hb6)
              have HB6 := Lib.hid (HB5.out.trans (hb6.mono HB5.out.size))
              rw [M.sameL_self]
              clear hb6
              go_wp2_with fail
              refine (same_any none (some ⟨w1.heap.size, 0, none⟩) 0 0 [] [] w6 HR6.out HW6.out hm60).mono ?_
              rintro r w7 ⟨rfl, hb7⟩
              have HR7 := Lib.hid (HR6.out.after hb7)
              have HB7 := Lib.hid (HB6.out.trans (hb7.mono HB6.out.size))
              rw [M.sameL_self]
              clear hb7
              go_wp2_with fail
              refine (alive_any _ (HL.out.below HB7.out HL.out.lt)).mono ?_
              rintro r w8 ⟨rfl, hb8⟩
              have HR8 := Lib.hid (HR7.out.after hb8)
              have HB8 := Lib.hid (HB7.out.trans (hb8.mono HB7.out.size))
              clear hb8
              go_wp2_with fail
              refine (look_any none 0 [] i w8 HR8.out hm60).mono ?_
              rintro r w9 ⟨rfl, hb9⟩
              have HR9 := Lib.hid (HR8.out.after hb9)
              have HB9 := Lib.hid (HB8.out.trans (hb9.mono HB8.out.size))
              clear hb9
              go_wp2_with fail
              refine (refLook_any none 0 [] i w9 HR9.out hm60).mono ?_
              rintro r w10 ⟨rfl, hb10⟩
              have HB10 := Lib.hid (HB9.out.trans (hb10.mono HB9.out.size))
              clear hb10
              unfold M.S.val
              have hg := guard_span
              obtain ⟨y, hy⟩ : ∃ y, M.look [] i = y := ⟨_, rfl⟩
              rw [hy]
              have hq := fun w => eql_span w y.f y.t y.p y.c y.r y.x y.f y.t y.p y.c y.r y.x
              rw [show M.eq6 y.f y.t y.p y.c y.r y.x y.f y.t y.p y.c y.r y.x = true from M.same_iff (a := y) (b := y) |>.2 rfl] at hq
              have HY := Lib.hid hy
              clear hy
              go_wp2_with fail
              go_ret
              exact ⟨rfl, HB10.out⟩
          | some ad =>
            have HC := Lib.hid (fun j u (hu : (cellsP l)[j]? = some u) (o : Obj) => (show (w1.alloc o).cell? (ad.add j) = some u by
              have h := HR1.out.cellsAt rfl j u hu
              exact (((Below.refl _ w1).alloc (Nat.le_refl _) o).cell (World.block_lt_of_cell? w1 _ h)).trans h))
            go_wp2_with (at_builtin; refine wpList_append_own _ rfl _ _ 22 rfl w1.heap.size 27 i0 _ 6 56 Tryd.underlying22 hi hz0 hz1 hz2 rfl (by decide) _ 0 [] rfl (World.ownsRow_made w1 #[] 0 (Nat.le_refl _) (Nat.zero_le _) rfl) ad l.length ca (cellsP l) rfl (cellsP_length l) (fun j u hu => HC.out j u hu _) (cells_one l) (by unfold maxLen; omega) (by omega) (by simp) ?_)
            intro v2 w2 hown3 hgrow3 _
            have hown : OwnP w2 w1.heap.size v2 l := by unfold OwnP; simpa using hown3
            have hb2 : Below w1.heap.size w1 w2 := ((Below.refl _ w1).alloc (Nat.le_refl _) (.cells #[] 27)).grown hgrow3 (by simp) (by intro k hk; simp [Value.ownBlock] at hk; omega)
            clear hown3 hgrow3
            obtain ⟨A2, c2, rfl, hrw, hcw, hmw, hnw⟩ := hown.shape
            have HB2 := Lib.hid (HB1.out.trans (hb2.mono hs1))
            have HR2 := Lib.hid (HR1.out.after hb2)
            have HW2 := Lib.hid hrw
            clear hrw hcw hmw hnw hb2 hown
            go_wp2_with fail
            refine (at_any (some ad) ca l i w2 HR2.out hm60).mono ?_
            rintro r w3 ⟨rfl, hb3⟩
            have HR3 := Lib.hid (HR2.out.after hb3)
            have HW3 := Lib.hid (HW2.out.after hb3)
            have HB3 := Lib.hid (HB2.out.trans (hb3.mono HB2.out.size))
            clear hb3
            cases hat : M.atI l i with
            | none =>
              have HAT := Lib.hid hat
              clear hat
              dsimp only [M.atV]
              go_wp2_with fail
              refine (refAt_any (some ad) ca l i w3 HR3.out hm60).mono ?_
              rintro r w3 ⟨rfl, rfl⟩
              rw [HAT.out]
              dsimp only [M.atV]
              go_wp2_with fail
              refine (normal_any (some ad) ca l w3 HR3.out hm60).mono ?_
              rintro r w4 ⟨v4, rfl, ho4, hb4⟩
              obtain ⟨A4, c4, rfl, hr4, hc4, hm4, hn4⟩ := ho4.shape
              have HR4 := Lib.hid (HR3.out.after hb4)
              have HW4 := Lib.hid (HW3.out.after hb4)
              have HX4 := Lib.hid hr4
              have HB4 := Lib.hid (HB3.out.trans (hb4.mono HB3.out.size))
              clear hb4 ho4 hr4 hc4 hm4 hn4
              go_wp2_with fail
              refine (refNormal_any (some ad) ca l w4 HR4.out hm60).mono ?_
              rintro r w5 ⟨v5, rfl, ho5, hb5⟩
              obtain ⟨A5, c5, rfl, hr5, hc5, hm5, hn5⟩ := ho5.shape
              have HR5 := Lib.hid (HR4.out.after hb5)
              have HW5 := Lib.hid (HW4.out.after hb5)
              have HX5 := Lib.hid (HX4.out.after hb5)
              have HY5 := Lib.hid hr5
              have HB5 := Lib.hid (HB4.out.trans (hb5.mono HB4.out.size))
              clear hb5 ho5 hr5 hc5 hm5 hn5
              go_wp2_with fail
              refine (same_any A4 A5 c4 c5 (M.norm l) (M.norm l) w5 HX5.out HY5.out (Nat.le_trans (M.norm_len l) hm60)).mono ?_
              rintro r w6 ⟨rfl, hb6⟩
              have HR6 := Lib.hid (HR5.out.after hb6)
              have HW6 := Lib.hid (HW5.out.after hb6)
              have HB6 := Lib.hid (HB5.out.trans (hb6.mono HB5.out.size))
              rw [M.sameL_self]
              clear hb6
              go_wp2_with fail
              refine (same_any (some ad) A2 ca c2 l l w6 HR6.out HW6.out hm60).mono ?_
              rintro r w7 ⟨rfl, hb7⟩
              have HR7 := Lib.hid (HR6.out.after hb7)
              have HB7 := Lib.hid (HB6.out.trans (hb7.mono HB6.out.size))
              rw [M.sameL_self]
              clear hb7
              go_wp2_with fail
              refine (alive_any _ (HL.out.below HB7.out HL.out.lt)).mono ?_
              rintro r w8 ⟨rfl, hb8⟩
              have HR8 := Lib.hid (HR7.out.after hb8)
              have HB8 := Lib.hid (HB7.out.trans (hb8.mono HB7.out.size))
              clear hb8
              go_wp2_with fail
              refine (look_any (some ad) ca l i w8 HR8.out hm60).mono ?_
              rintro r w9 ⟨rfl, hb9⟩
              have HR9 := Lib.hid (HR8.out.after hb9)
              have HB9 := Lib.hid (HB8.out.trans (hb9.mono HB8.out.size))
              clear hb9
              go_wp2_with fail
              refine (refLook_any (some ad) ca l i w9 HR9.out hm60).mono ?_
              rintro r w10 ⟨rfl, hb10⟩
              have HB10 := Lib.hid (HB9.out.trans (hb10.mono HB9.out.size))
              clear hb10
              unfold M.S.val
              have hg := guard_span
              obtain ⟨y, hy⟩ : ∃ y, M.look l i = y := ⟨_, rfl⟩
              rw [hy]
              have hq := fun w => eql_span w y.f y.t y.p y.c y.r y.x y.f y.t y.p y.c y.r y.x
              rw [show M.eq6 y.f y.t y.p y.c y.r y.x y.f y.t y.p y.c y.r y.x = true from M.same_iff (a := y) (b := y) |>.2 rfl] at hq
              have HY := Lib.hid hy
              clear hy
              go_wp2_with fail
              go_ret
              exact ⟨rfl, HB10.out⟩
            | some kk =>
              have HAT := Lib.hid hat
              clear hat
              dsimp only [M.atV]
              go_wp2_with fail
              refine (refAt_any (some ad) ca l i w3 HR3.out hm60).mono ?_
              rintro r w3 ⟨rfl, rfl⟩
              rw [HAT.out]
              dsimp only [M.atV]
              go_wp2_with fail
              refine (normal_any (some ad) ca l w3 HR3.out hm60).mono ?_
              rintro r w4 ⟨v4, rfl, ho4, hb4⟩
              obtain ⟨A4, c4, rfl, hr4, hc4, hm4, hn4⟩ := ho4.shape
              have HR4 := Lib.hid (HR3.out.after hb4)
              have HW4 := Lib.hid (HW3.out.after hb4)
              have HX4 := Lib.hid hr4
              have HB4 := Lib.hid (HB3.out.trans (hb4.mono HB3.out.size))
              clear hb4 ho4 hr4 hc4 hm4 hn4
              go_wp2_with fail
              refine (refNormal_any (some ad) ca l w4 HR4.out hm60).mono ?_
              rintro r w5 ⟨v5, rfl, ho5, hb5⟩
              obtain ⟨A5, c5, rfl, hr5, hc5, hm5, hn5⟩ := ho5.shape
              have HR5 := Lib.hid (HR4.out.after hb5)
              have HW5 := Lib.hid (HW4.out.after hb5)
              have HX5 := Lib.hid (HX4.out.after hb5)
              have HY5 := Lib.hid hr5
              have HB5 := Lib.hid (HB4.out.trans (hb5.mono HB4.out.size))
              clear hb5 ho5 hr5 hc5 hm5 hn5
              go_wp2_with fail
              refine (same_any A4 A5 c4 c5 (M.norm l) (M.norm l) w5 HX5.out HY5.out (Nat.le_trans (M.norm_len l) hm60)).mono ?_
              rintro r w6 ⟨rfl, hb6⟩
              have HR6 := Lib.hid (HR5.out.after hb6)
              have HW6 := Lib.hid (HW5.out.after hb6)
              have HB6 := Lib.hid (HB5.out.trans (hb6.mono HB5.out.size))
              rw [M.sameL_self]
              clear hb6
              go_wp2_with fail
              refine (same_any (some ad) A2 ca c2 l l w6 HR6.out HW6.out hm60).mono ?_
              rintro r w7 ⟨rfl, hb7⟩
              have HR7 := Lib.hid (HR6.out.after hb7)
              have HB7 := Lib.hid (HB6.out.trans (hb7.mono HB6.out.size))
              rw [M.sameL_self]
              clear hb7
              go_wp2_with fail
              refine (alive_any _ (HL.out.below HB7.out HL.out.lt)).mono ?_
              rintro r w8 ⟨rfl, hb8⟩
              have HR8 := Lib.hid (HR7.out.after hb8)
              have HB8 := Lib.hid (HB7.out.trans (hb8.mono HB7.out.size))
              clear hb8
              go_wp2_with fail
              refine (look_any (some ad) ca l i w8 HR8.out hm60).mono ?_
              rintro r w9 ⟨rfl, hb9⟩
              have HR9 := Lib.hid (HR8.out.after hb9)
              have HB9 := Lib.hid (HB8.out.trans (hb9.mono HB8.out.size))
              clear hb9
              go_wp2_with fail
              refine (refLook_any (some ad) ca l i w9 HR9.out hm60).mono ?_
              rintro r w10 ⟨rfl, hb10⟩
              have HB10 := Lib.hid (HB9.out.trans (hb10.mono HB9.out.size))
              clear hb10
              unfold M.S.val
              have hg := guard_span
              obtain ⟨y, hy⟩ : ∃ y, M.look l i = y := ⟨_, rfl⟩
              rw [hy]
              have hq := fun w => eql_span w y.f y.t y.p y.c y.r y.x y.f y.t y.p y.c y.r y.x
              rw [show M.eq6 y.f y.t y.p y.c y.r y.x y.f y.t y.p y.c y.r y.x = true from M.same_iff (a := y) (b := y) |>.2 rfl] at hq
              have HY := Lib.hid hy
              clear hy
              go_wp2_with fail
              go_ret
              exact ⟨rfl, HB10.out⟩
end Go.Proofs.YteknpodofmmklaaDoor
