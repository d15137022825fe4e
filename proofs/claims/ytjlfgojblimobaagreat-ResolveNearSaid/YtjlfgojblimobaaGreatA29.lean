/- The contract of package bracket's Resolve. Conditions: the slices read as lists that take at most 2^47 bytes each. -/
/- Arguments that came in: a slice of marks, and a struct of two slices of classes, a number and a class, opened. No function of the program is walked here. -/
import Derived.Test.YtjlfgojblimobaaGreatA28
import Derived.Test.YtjlfgojblimobaaGreatA00
import Derived.Test.YtjlfgojblimobaaGreatA22
import Derived.Deep.Slices
import Derived.OpenShut
import Derived.SizedLaws
section
namespace Go.Proofs.YtjlfgojblimobaaGreat.S11
open Go.RowKit
set_option maxRecDepth 100000

theorem index2_0 (a b : Int) (w : World) : (Instr.index 96 (.agg #[.int .i64 a, .int .i64 b]) (.int .i64 0)).run Tryz.prog w = .ok (.int .i64 a) w := by kernel_rfl
theorem index2_1 (a b : Int) (w : World) : (Instr.index 96 (.agg #[.int .i64 a, .int .i64 b]) (.int .i64 1)).run Tryz.prog w = .ok (.int .i64 b) w := by kernel_rfl
set_option maxHeartbeats 16000000 in
theorem cres_ok0 (A B C : Option Addr) (ca cb cc n k : Nat) (came l : List Int) (ms : List (Int × Int)) (lv f : Int) (w : World) (hr : RdS .i64 w w.heap.size A came) (hr2 : RdS .i64 w w.heap.size B l) (hr3 : RdT w w.heap.size C ms) (hn : came.length = n) (hm : l.length = n) (hk : ms.length = k) (hl : n * 8 ≤ 140737488351232) (hl3 : k * 16 ≤ 140737488351232) (h : M.resOk came l lv f) (hs : lv % 2 = 0) :
    Calls Tryz.prog 42 #[.slice A n ca, .slice B n cb, .slice C k cc, .int .i64 lv, .int .i64 f] w (ResOut (M.resOk came l lv f) (M.res came l ms lv f) w) := by
  obtain ⟨i0, hi, hz0, hz1, hz2⟩ := info_parts Tryz.infoCls2
  have hmk := run_make (P := Tryz.prog) w 22 39 i0 (.int .i64 0) Tryz.underlying22 hi hz0 .i64 .i64 n n (by omega) (Int.le_refl _) (by rw [hz2]; omega) (by omega)
  rw [Int.toNat_natCast, hz1, Nat.mul_one] at hmk
  obtain ⟨Z, hZ⟩ : ∃ Z, madeCells (Value.int IntKind.i64 0).cells n = Z := ⟨_, rfl⟩
  have hZs : Z.size = n := by rw [← hZ]; exact size_madeCells _ _
  rw [hZ] at hmk
  obtain ⟨W1, hW1⟩ : ∃ W1, w.alloc (.cells Z 39) = W1 := ⟨_, rfl⟩
  have hg1 : W1.heap[w.heap.size]? = some (.cells Z 39 (0, 0)) := by rw [← hW1]; exact World.alloc_heap_new _ _
  have hb1 : Below w.heap.size w W1 := by rw [← hW1]; exact (Below.refl _ _).alloc (Nat.le_refl _) _
  have hs1 : w.heap.size < W1.heap.size := by rw [← hW1]; simp
  rw [hW1] at hmk
  obtain ⟨G, hG⟩ : ∃ G, w.heap.size = G := ⟨_, rfl⟩
  rw [hG] at hmk hg1
  obtain ⟨v, W2, hcp, hblk, hb2⟩ := copy_any B cb n G l w W1 Z (hr2.below hb1) hm (by omega) hg1 hZs (fun h0 => Array.eq_empty_of_size_eq_zero (by rw [hZs]; exact h0)) hb1
  have hown := hblk.own (base := w.heap.size) hm (by unfold maxLen; omega) (Nat.le_of_eq hG)
  have HGS := Lib.hid (show G < W2.heap.size from (World.ownsRow.lt hown G rfl).2)
  have HG := Lib.hid hG
  have HOWN := Lib.hid hown
  have HB2 := Lib.hid hb2
  have HR := Lib.hid hr
  have HR2 := Lib.hid hr2
  have HR3 := Lib.hid hr3
  have HN := Lib.hid hn
  have HM := Lib.hid hm
  have HK := Lib.hid hk
  have HF := Lib.hid h.2.2
  have HOK := Lib.hid h
  have HL := Lib.hid (And.intro hl hl3)
  have hl1 : (n : Int) ≤ 17592186044416 := by omega
  have hk1 : (k : Int) ≤ 8796093022208 := by omega
  have lv0 : ¬ lv < 0 := by have := h.2.1; omega
  have lv1 : 0 ≤ lv := h.2.1
  have bn : ((n : Int) != (n : Int)) = false := by simp
  have b2 : (lv % 2 == 1) = false := by rw [hs]; rfl
  have HRES := Lib.hid (show M.res came l ms lv f = M.resTo came l ms 0 1 f (M.prs l ms).length by unfold M.res; rw [hs]; rfl)
  have hfe : (f != 0) = false ∨ ((f != 0) = true ∧ (f != 1) = false) := by rcases h.2.2 with e | e <;> simp [e]
  clear hr hr2 hr3 hn hm hk hl hl3 h hs hZ hZs hW1 hg1 hb1 hs1 hG hz0 hz1 hz2 hi hblk hb2 hown
  rcases hfe with b0 | ⟨b0, b1⟩
  all_goals
    go_enter Tryz.func42, Tryz.ntmps42
    go_wp2_with fail
    refine (cpairs_big B C cb cc n k l ms W2 ((HR2.out.below HB2.out).more HB2.out.size) HM.out (by omega) ((HR3.out.below HB2.out).more HB2.out.size) HK.out (by omega)).mono ?_
    rintro r w3 ⟨v3, rfl, ho3, hb3⟩
    obtain ⟨K, hK⟩ : ∃ K, (M.prs l ms).length = K := ⟨_, rfl⟩
    obtain ⟨A3, c3, rfl, hr3, -, -, -⟩ := ho3.shape
    have hA3 : ∀ ad, A3 = some ad → ad.block ≠ G := fun ad e => by
      rcases ho3.2 with ⟨e1, _⟩ | ⟨g, cap, cur, e1, hgb, _⟩
      · injection e1 with e1
        rw [e] at e1
        cases e1
      · injection e1 with e1
        rw [e] at e1
        injection e1 with e1
        rw [e1]
        show g ≠ G
        have := HGS.out
        omega
    have hKn : K ≤ n := by
      have := M.prs_len (l := l) (ms := ms)
      rw [hK, HM.out] at this
      exact this
    rw [hK]
    have HKK := Lib.hid hK
    have HA3 := Lib.hid hA3
    have HRT := Lib.hid hr3
    have HOWN3 := Lib.hid (own_below HOWN.out hb3)
    have HB3 := Lib.hid (HB2.out.trans (hb3.mono HB2.out.size))
    have HGS3 := Lib.hid (Nat.lt_of_lt_of_le HGS.out hb3.size)
    clear ho3 hb3 hr3 hK hA3
    go_wp2_with fail
    go_loopw [50] (fun v wr => ∃ i : Nat, v = .int .i64 i ∧ i ≤ K ∧ wr.ownsRow w.heap.size 39 1 (.slice (some ⟨G, 0, none⟩) n n) n ((M.resTo came l ms 0 1 f i).map (Value.int .i64)) ∧ Kp w3 wr G) (fun v _ => K - (intOf v).toNat)
    case atStart => exact ⟨0, rfl, Nat.zero_le _, HOWN3.out, Kp.refl _ _⟩
    case round =>
      obtain ⟨i, rfl, hi, ho, hkp⟩ := hrel
      rename World => wr
      have i00 : (0 : Int) ≤ i := by omega
      by_cases hlt : i < K
      · have i01 : (i : Int) < K := by omega
        obtain ⟨a, ha⟩ : ∃ a, (M.prs l ms)[i]? = some a := ⟨_, List.getElem?_eq_getElem (by rw [HKK.out]; exact hlt)⟩
        obtain ⟨p, q, rfl, hpq, hqn, -⟩ := M.prs_at ha
        rw [HM.out] at hqn
        obtain ⟨ad3, rfl, -, ce0, ce1⟩ := (HRT.out.kp hkp (Nat.le_refl _) HA3.out) i _ ha
        dsimp only at ce0 ce1
        obtain ⟨O, hO⟩ : ∃ O, M.resTo came l ms 0 1 f i = O := ⟨_, rfl⟩
        have hOl : O.length = n := by rw [← hO, M.resTo_len, HM.out]
        have hj : M.JInv came l ms i O := by rw [← hO]; exact M.resTo_j (by rw [HKK.out]; exact hi)
        have hnext := M.resTo_succ (came := came) (side := 0) (other := 1) (f := f) ha
        rw [hO] at hnext ho
        have hr1 : M.res1 came 0 1 f O ((p : Int), (q : Int)) = if M.toOf 0 1 f O p q = 13 then O else M.bec came (M.bec came O p (M.toOf 0 1 f O p q)) q (M.toOf 0 1 f O p q) := rfl
        rw [hr1] at hnext
        obtain ⟨W4, hW4, hbw4, e0, e1, -, -, hgt⟩ := new_two wr p q 96
        have hown4 := own_below ho hbw4
        have hgl := (World.ownsRow.lt ho G rfl).2
        have hrd4 : RdS .i64 W4 W4.heap.size (some ⟨G, 0, none⟩) O := by
          have h1 := hown4
          rw [← hOl] at h1
          obtain ⟨A', c', e, h2, -⟩ := reads_own h1
          injection e with e _ _
          subst e
          exact h2
        have HC1 := Lib.hid (cbec_any (some ⟨G, 0, none⟩) n n p q O 0 f W4 hrd4 hOl (by omega) hpq hqn (Nat.le_refl _) (by omega))
        obtain ⟨V, hV⟩ : ∃ V, M.becV 0 f O p q = V := ⟨_, rfl⟩
        obtain ⟨Y, hY⟩ : ∃ Y, M.becB 0 O p q = Y := ⟨_, rfl⟩
        rw [hV, hY] at HC1
        have HV := Lib.hid hV
        have HY := Lib.hid hY
        have HJ := Lib.hid hj
        have HA := Lib.hid ha
        have HOL := Lib.hid hOl
        have HW4 := Lib.hid hown4
        have HB4 := Lib.hid hbw4
        have HKP := Lib.hid hkp
        have HGT := Lib.hid hgt
        have HNEXT := Lib.hid hnext
        have HPQ := Lib.hid (show p < n ∧ q < n by omega)
        clear hr1 hj ho hkp hO hOl hown4 hrd4 hbw4 hgt hV hY ha hnext hgl hpq hqn
        cases Y with
        | false =>
          have hnx : M.resTo came l ms 0 1 f (i + 1) = O := by rw [HNEXT.out, if_pos (M.bec_none (side := 0) (other := 1) HF.out (by decide) HY.out)]
          have HNX := Lib.hid hnx
          clear hnx
          go_wp2_with fail
          refine HC1.out.mono ?_
          rintro r w5 ⟨rfl, hb5⟩
          have HO5 := Lib.hid (show w5.ownsRow w.heap.size 39 1 (.slice (some ⟨G, 0, none⟩) n n) n ((M.resTo came l ms 0 1 f (i + 1)).map (Value.int .i64)) from by rw [HNX.out]; exact own_below HW4.out hb5)
          have HK5 := Lib.hid (HKP.out.on (HB4.out.trans (hb5.mono HB4.out.size)))
          clear hb5
          go_wp2_with fail
          go_roundw
          case rel => exact ⟨i + 1, by go_num, by omega, HO5.out, HK5.out⟩
          case measure => simp [intOf]; omega
        | true =>
          obtain ⟨hto, hto2⟩ := M.bec_some (side := 0) (other := 1) HF.out (by decide) HY.out
          rw [HV.out] at hto hto2
          have hnx : M.resTo came l ms 0 1 f (i + 1) = M.bec came (M.bec came O p V) q V := by rw [HNEXT.out, hto, if_neg (by omega)]
          have c1 := M.cset_fst HJ.out (by rw [HOL.out, HM.out]) HA.out hto2
          have c2 := M.cset_snd HJ.out (by rw [HOL.out, HM.out]) HA.out hto2
          have HNX := Lib.hid hnx
          have HC := Lib.hid (And.intro c1 c2)
          clear hnx hto hto2 c1 c2
          go_wp2_with fail
          refine HC1.out.mono ?_
          rintro r w5 ⟨rfl, hb5⟩
          have HO5 := Lib.hid (own_below HW4.out hb5)
          have HK5 := Lib.hid (HKP.out.on (HB4.out.trans (hb5.mono HB4.out.size)))
          have e0' := (hb5.cell (p := ⟨wr.heap.size, 0, none⟩) HGT.out).trans e0
          have e1' := (hb5.cell (p := ⟨wr.heap.size, 1, none⟩) HGT.out).trans e1
          clear hb5 e0 e1 ce0 ce1
          go_wp2_with fail
          go_loopw [65] (fun v ws => ∃ (j : Int) (O' : List Int), v = .int .i64 j ∧ ((j = 0 ∧ O' = O) ∨ (j = 1 ∧ O' = M.bec came O p V) ∨ (j = 2 ∧ O' = M.bec came (M.bec came O p V) q V)) ∧ ws.ownsRow w.heap.size 39 1 (.slice (some ⟨G, 0, none⟩) n n) n (O'.map (Value.int .i64)) ∧ O'.length = n ∧ Kp w3 ws G) (fun v _ => (2 - intOf v).toNat)
          case atStart => exact ⟨0, O, rfl, .inl ⟨rfl, rfl⟩, HO5.out, HOL.out, HK5.out⟩
          case round =>
            obtain ⟨j, O', rfl, hj, ho, hol, hkp⟩ := hrel
            rename World => ws
            have HOs := Lib.hid ho
            have HKs := Lib.hid hkp
            have HLs := Lib.hid hol
            have HRC := Lib.hid (HR.out.below (HB3.out.trans (hkp.below (Nat.le_of_eq HG.out) HB3.out.size)))
            clear ho hol hkp e0' e1'
            rcases hj with ⟨rfl, rfl⟩ | ⟨rfl, rfl⟩ | ⟨rfl, rfl⟩
            · have hix := fun w => index2_0 (p : Int) (q : Int) w
              go_wp2_with fail
              refine (cset_any A ca G n n p w.heap.size came O' V ws HRC.out HN.out (by omega) HOs.out HLs.out HPQ.out.1).mono ?_
              rintro r w6 ⟨rfl, ho6, ht6⟩
              rw [HC.out.1] at ho6
              have HO6 := Lib.hid ho6
              have HK6 := Lib.hid (HKs.out.turn ht6)
              clear ho6 ht6
              go_wp2_with fail
              go_roundw
              case rel => exact ⟨1, _, by go_num, .inr (.inl ⟨rfl, rfl⟩), HO6.out, by rw [M.bec_len]; exact HLs.out, HK6.out⟩
              case measure => simp [intOf]
            · have hix := fun w => index2_1 (p : Int) (q : Int) w
              go_wp2_with fail
              refine (cset_any A ca G n n q w.heap.size came (M.bec came O p V) V ws HRC.out HN.out (by omega) HOs.out HLs.out HPQ.out.2).mono ?_
              rintro r w6 ⟨rfl, ho6, ht6⟩
              rw [HC.out.2] at ho6
              have HO6 := Lib.hid ho6
              have HK6 := Lib.hid (HKs.out.turn ht6)
              clear ho6 ht6
              go_wp2_with fail
              go_roundw
              case rel => exact ⟨2, _, by go_num, .inr (.inr ⟨rfl, rfl⟩), HO6.out, by rw [M.bec_len]; exact HLs.out, HK6.out⟩
              case measure => simp [intOf]
            · have HO7 := Lib.hid (show ws.ownsRow w.heap.size 39 1 (.slice (some ⟨G, 0, none⟩) n n) n ((M.resTo came l ms 0 1 f (i + 1)).map (Value.int .i64)) from by rw [HNX.out]; exact HOs.out)
              go_wp2_with fail
              go_roundw
              case rel => exact ⟨i + 1, by go_num, by omega, HO7.out, HKs.out⟩
              case measure => simp [intOf]; omega
      · obtain rfl : i = K := by omega
        have i01 : ¬ (i : Int) < (i : Int) := by omega
        have hfin : M.resTo came l ms 0 1 f i = M.res came l ms lv f := by rw [HRES.out, HKK.out]
        rw [hfin] at ho
        have HFO := Lib.hid ho
        have HFK := Lib.hid hkp
        clear ho hkp hfin
        go_wp2_with fail
        go_returns
        refine ⟨HB3.out.trans (HFK.out.below (Nat.le_of_eq HG.out) HB3.out.size), fun _ => ⟨_, rfl, ?_⟩, fun h => absurd HOK.out h⟩
        rw [M.res_len, HM.out]
        exact HFO.out

set_option maxHeartbeats 16000000 in
theorem cres_ok1 (A B C : Option Addr) (ca cb cc n k : Nat) (came l : List Int) (ms : List (Int × Int)) (lv f : Int) (w : World) (hr : RdS .i64 w w.heap.size A came) (hr2 : RdS .i64 w w.heap.size B l) (hr3 : RdT w w.heap.size C ms) (hn : came.length = n) (hm : l.length = n) (hk : ms.length = k) (hl : n * 8 ≤ 140737488351232) (hl3 : k * 16 ≤ 140737488351232) (h : M.resOk came l lv f) (hs : lv % 2 = 1) :
    Calls Tryz.prog 42 #[.slice A n ca, .slice B n cb, .slice C k cc, .int .i64 lv, .int .i64 f] w (ResOut (M.resOk came l lv f) (M.res came l ms lv f) w) := by
  obtain ⟨i0, hi, hz0, hz1, hz2⟩ := info_parts Tryz.infoCls2
  have hmk := run_make (P := Tryz.prog) w 22 39 i0 (.int .i64 0) Tryz.underlying22 hi hz0 .i64 .i64 n n (by omega) (Int.le_refl _) (by rw [hz2]; omega) (by omega)
  rw [Int.toNat_natCast, hz1, Nat.mul_one] at hmk
  obtain ⟨Z, hZ⟩ : ∃ Z, madeCells (Value.int IntKind.i64 0).cells n = Z := ⟨_, rfl⟩
  have hZs : Z.size = n := by rw [← hZ]; exact size_madeCells _ _
  rw [hZ] at hmk
  obtain ⟨W1, hW1⟩ : ∃ W1, w.alloc (.cells Z 39) = W1 := ⟨_, rfl⟩
  have hg1 : W1.heap[w.heap.size]? = some (.cells Z 39 (0, 0)) := by rw [← hW1]; exact World.alloc_heap_new _ _
  have hb1 : Below w.heap.size w W1 := by rw [← hW1]; exact (Below.refl _ _).alloc (Nat.le_refl _) _
  have hs1 : w.heap.size < W1.heap.size := by rw [← hW1]; simp
  rw [hW1] at hmk
  obtain ⟨G, hG⟩ : ∃ G, w.heap.size = G := ⟨_, rfl⟩
  rw [hG] at hmk hg1
  obtain ⟨v, W2, hcp, hblk, hb2⟩ := copy_any B cb n G l w W1 Z (hr2.below hb1) hm (by omega) hg1 hZs (fun h0 => Array.eq_empty_of_size_eq_zero (by rw [hZs]; exact h0)) hb1
  have hown := hblk.own (base := w.heap.size) hm (by unfold maxLen; omega) (Nat.le_of_eq hG)
  have HGS := Lib.hid (show G < W2.heap.size from (World.ownsRow.lt hown G rfl).2)
  have HG := Lib.hid hG
  have HOWN := Lib.hid hown
  have HB2 := Lib.hid hb2
  have HR := Lib.hid hr
  have HR2 := Lib.hid hr2
  have HR3 := Lib.hid hr3
  have HN := Lib.hid hn
  have HM := Lib.hid hm
  have HK := Lib.hid hk
  have HF := Lib.hid h.2.2
  have HOK := Lib.hid h
  have HL := Lib.hid (And.intro hl hl3)
  have hl1 : (n : Int) ≤ 17592186044416 := by omega
  have hk1 : (k : Int) ≤ 8796093022208 := by omega
  have lv0 : ¬ lv < 0 := by have := h.2.1; omega
  have lv1 : 0 ≤ lv := h.2.1
  have bn : ((n : Int) != (n : Int)) = false := by simp
  have b2 : (lv % 2 == 1) = true := by rw [hs]; rfl
  have HRES := Lib.hid (show M.res came l ms lv f = M.resTo came l ms 1 0 f (M.prs l ms).length by unfold M.res; rw [hs]; rfl)
  have hfe : (f != 0) = false ∨ ((f != 0) = true ∧ (f != 1) = false) := by rcases h.2.2 with e | e <;> simp [e]
  clear hr hr2 hr3 hn hm hk hl hl3 h hs hZ hZs hW1 hg1 hb1 hs1 hG hz0 hz1 hz2 hi hblk hb2 hown
  rcases hfe with b0 | ⟨b0, b1⟩
  all_goals
    go_enter Tryz.func42, Tryz.ntmps42
    go_wp2_with fail
    refine (cpairs_big B C cb cc n k l ms W2 ((HR2.out.below HB2.out).more HB2.out.size) HM.out (by omega) ((HR3.out.below HB2.out).more HB2.out.size) HK.out (by omega)).mono ?_
    rintro r w3 ⟨v3, rfl, ho3, hb3⟩
    obtain ⟨K, hK⟩ : ∃ K, (M.prs l ms).length = K := ⟨_, rfl⟩
    obtain ⟨A3, c3, rfl, hr3, -, -, -⟩ := ho3.shape
    have hA3 : ∀ ad, A3 = some ad → ad.block ≠ G := fun ad e => by
      rcases ho3.2 with ⟨e1, _⟩ | ⟨g, cap, cur, e1, hgb, _⟩
      · injection e1 with e1
        rw [e] at e1
        cases e1
      · injection e1 with e1
        rw [e] at e1
        injection e1 with e1
        rw [e1]
        show g ≠ G
        have := HGS.out
        omega
    have hKn : K ≤ n := by
      have := M.prs_len (l := l) (ms := ms)
      rw [hK, HM.out] at this
      exact this
    rw [hK]
    have HKK := Lib.hid hK
    have HA3 := Lib.hid hA3
    have HRT := Lib.hid hr3
    have HOWN3 := Lib.hid (own_below HOWN.out hb3)
    have HB3 := Lib.hid (HB2.out.trans (hb3.mono HB2.out.size))
    have HGS3 := Lib.hid (Nat.lt_of_lt_of_le HGS.out hb3.size)
    clear ho3 hb3 hr3 hK hA3
    go_wp2_with fail
    go_loopw [50] (fun v wr => ∃ i : Nat, v = .int .i64 i ∧ i ≤ K ∧ wr.ownsRow w.heap.size 39 1 (.slice (some ⟨G, 0, none⟩) n n) n ((M.resTo came l ms 1 0 f i).map (Value.int .i64)) ∧ Kp w3 wr G) (fun v _ => K - (intOf v).toNat)
    case atStart => exact ⟨0, rfl, Nat.zero_le _, HOWN3.out, Kp.refl _ _⟩
    case round =>
      obtain ⟨i, rfl, hi, ho, hkp⟩ := hrel
      rename World => wr
      have i00 : (0 : Int) ≤ i := by omega
      by_cases hlt : i < K
      · have i01 : (i : Int) < K := by omega
        obtain ⟨a, ha⟩ : ∃ a, (M.prs l ms)[i]? = some a := ⟨_, List.getElem?_eq_getElem (by rw [HKK.out]; exact hlt)⟩
        obtain ⟨p, q, rfl, hpq, hqn, -⟩ := M.prs_at ha
        rw [HM.out] at hqn
        obtain ⟨ad3, rfl, -, ce0, ce1⟩ := (HRT.out.kp hkp (Nat.le_refl _) HA3.out) i _ ha
        dsimp only at ce0 ce1
        obtain ⟨O, hO⟩ : ∃ O, M.resTo came l ms 1 0 f i = O := ⟨_, rfl⟩
        have hOl : O.length = n := by rw [← hO, M.resTo_len, HM.out]
        have hj : M.JInv came l ms i O := by rw [← hO]; exact M.resTo_j (by rw [HKK.out]; exact hi)
        have hnext := M.resTo_succ (came := came) (side := 1) (other := 0) (f := f) ha
        rw [hO] at hnext ho
        have hr1 : M.res1 came 1 0 f O ((p : Int), (q : Int)) = if M.toOf 1 0 f O p q = 13 then O else M.bec came (M.bec came O p (M.toOf 1 0 f O p q)) q (M.toOf 1 0 f O p q) := rfl
        rw [hr1] at hnext
        obtain ⟨W4, hW4, hbw4, e0, e1, -, -, hgt⟩ := new_two wr p q 96
        have hown4 := own_below ho hbw4
        have hgl := (World.ownsRow.lt ho G rfl).2
        have hrd4 : RdS .i64 W4 W4.heap.size (some ⟨G, 0, none⟩) O := by
          have h1 := hown4
          rw [← hOl] at h1
          obtain ⟨A', c', e, h2, -⟩ := reads_own h1
          injection e with e _ _
          subst e
          exact h2
        have HC1 := Lib.hid (cbec_any (some ⟨G, 0, none⟩) n n p q O 1 f W4 hrd4 hOl (by omega) hpq hqn (Nat.le_refl _) (by omega))
        obtain ⟨V, hV⟩ : ∃ V, M.becV 1 f O p q = V := ⟨_, rfl⟩
        obtain ⟨Y, hY⟩ : ∃ Y, M.becB 1 O p q = Y := ⟨_, rfl⟩
        rw [hV, hY] at HC1
        have HV := Lib.hid hV
        have HY := Lib.hid hY
        have HJ := Lib.hid hj
        have HA := Lib.hid ha
        have HOL := Lib.hid hOl
        have HW4 := Lib.hid hown4
        have HB4 := Lib.hid hbw4
        have HKP := Lib.hid hkp
        have HGT := Lib.hid hgt
        have HNEXT := Lib.hid hnext
        have HPQ := Lib.hid (show p < n ∧ q < n by omega)
        clear hr1 hj ho hkp hO hOl hown4 hrd4 hbw4 hgt hV hY ha hnext hgl hpq hqn
        cases Y with
        | false =>
          have hnx : M.resTo came l ms 1 0 f (i + 1) = O := by rw [HNEXT.out, if_pos (M.bec_none (side := 1) (other := 0) HF.out (by decide) HY.out)]
          have HNX := Lib.hid hnx
          clear hnx
          go_wp2_with fail
          refine HC1.out.mono ?_
          rintro r w5 ⟨rfl, hb5⟩
          have HO5 := Lib.hid (show w5.ownsRow w.heap.size 39 1 (.slice (some ⟨G, 0, none⟩) n n) n ((M.resTo came l ms 1 0 f (i + 1)).map (Value.int .i64)) from by rw [HNX.out]; exact own_below HW4.out hb5)
          have HK5 := Lib.hid (HKP.out.on (HB4.out.trans (hb5.mono HB4.out.size)))
          clear hb5
          go_wp2_with fail
          go_roundw
          case rel => exact ⟨i + 1, by go_num, by omega, HO5.out, HK5.out⟩
          case measure => simp [intOf]; omega
        | true =>
          obtain ⟨hto, hto2⟩ := M.bec_some (side := 1) (other := 0) HF.out (by decide) HY.out
          rw [HV.out] at hto hto2
          have hnx : M.resTo came l ms 1 0 f (i + 1) = M.bec came (M.bec came O p V) q V := by rw [HNEXT.out, hto, if_neg (by omega)]
          have c1 := M.cset_fst HJ.out (by rw [HOL.out, HM.out]) HA.out hto2
          have c2 := M.cset_snd HJ.out (by rw [HOL.out, HM.out]) HA.out hto2
          have HNX := Lib.hid hnx
          have HC := Lib.hid (And.intro c1 c2)
          clear hnx hto hto2 c1 c2
          go_wp2_with fail
          refine HC1.out.mono ?_
          rintro r w5 ⟨rfl, hb5⟩
          have HO5 := Lib.hid (own_below HW4.out hb5)
          have HK5 := Lib.hid (HKP.out.on (HB4.out.trans (hb5.mono HB4.out.size)))
          have e0' := (hb5.cell (p := ⟨wr.heap.size, 0, none⟩) HGT.out).trans e0
          have e1' := (hb5.cell (p := ⟨wr.heap.size, 1, none⟩) HGT.out).trans e1
          clear hb5 e0 e1 ce0 ce1
          go_wp2_with fail
          go_loopw [65] (fun v ws => ∃ (j : Int) (O' : List Int), v = .int .i64 j ∧ ((j = 0 ∧ O' = O) ∨ (j = 1 ∧ O' = M.bec came O p V) ∨ (j = 2 ∧ O' = M.bec came (M.bec came O p V) q V)) ∧ ws.ownsRow w.heap.size 39 1 (.slice (some ⟨G, 0, none⟩) n n) n (O'.map (Value.int .i64)) ∧ O'.length = n ∧ Kp w3 ws G) (fun v _ => (2 - intOf v).toNat)
          case atStart => exact ⟨0, O, rfl, .inl ⟨rfl, rfl⟩, HO5.out, HOL.out, HK5.out⟩
          case round =>
            obtain ⟨j, O', rfl, hj, ho, hol, hkp⟩ := hrel
            rename World => ws
            have HOs := Lib.hid ho
            have HKs := Lib.hid hkp
            have HLs := Lib.hid hol
            have HRC := Lib.hid (HR.out.below (HB3.out.trans (hkp.below (Nat.le_of_eq HG.out) HB3.out.size)))
            clear ho hol hkp e0' e1'
            rcases hj with ⟨rfl, rfl⟩ | ⟨rfl, rfl⟩ | ⟨rfl, rfl⟩
            · have hix := fun w => index2_0 (p : Int) (q : Int) w
              go_wp2_with fail
              refine (cset_any A ca G n n p w.heap.size came O' V ws HRC.out HN.out (by omega) HOs.out HLs.out HPQ.out.1).mono ?_
              rintro r w6 ⟨rfl, ho6, ht6⟩
              rw [HC.out.1] at ho6
              have HO6 := Lib.hid ho6
              have HK6 := Lib.hid (HKs.out.turn ht6)
              clear ho6 ht6
              go_wp2_with fail
              go_roundw
              case rel => exact ⟨1, _, by go_num, .inr (.inl ⟨rfl, rfl⟩), HO6.out, by rw [M.bec_len]; exact HLs.out, HK6.out⟩
              case measure => simp [intOf]
            · have hix := fun w => index2_1 (p : Int) (q : Int) w
              go_wp2_with fail
              refine (cset_any A ca G n n q w.heap.size came (M.bec came O p V) V ws HRC.out HN.out (by omega) HOs.out HLs.out HPQ.out.2).mono ?_
              rintro r w6 ⟨rfl, ho6, ht6⟩
              rw [HC.out.2] at ho6
              have HO6 := Lib.hid ho6
              have HK6 := Lib.hid (HKs.out.turn ht6)
              clear ho6 ht6
              go_wp2_with fail
              go_roundw
              case rel => exact ⟨2, _, by go_num, .inr (.inr ⟨rfl, rfl⟩), HO6.out, by rw [M.bec_len]; exact HLs.out, HK6.out⟩
              case measure => simp [intOf]
            · have HO7 := Lib.hid (show ws.ownsRow w.heap.size 39 1 (.slice (some ⟨G, 0, none⟩) n n) n ((M.resTo came l ms 1 0 f (i + 1)).map (Value.int .i64)) from by rw [HNX.out]; exact HOs.out)
              go_wp2_with fail
              go_roundw
              case rel => exact ⟨i + 1, by go_num, by omega, HO7.out, HKs.out⟩
              case measure => simp [intOf]; omega
      · obtain rfl : i = K := by omega
        have i01 : ¬ (i : Int) < (i : Int) := by omega
        have hfin : M.resTo came l ms 1 0 f i = M.res came l ms lv f := by rw [HRES.out, HKK.out]
        rw [hfin] at ho
        have HFO := Lib.hid ho
        have HFK := Lib.hid hkp
        clear ho hkp hfin
        go_wp2_with fail
        go_returns
        refine ⟨HB3.out.trans (HFK.out.below (Nat.le_of_eq HG.out) HB3.out.size), fun _ => ⟨_, rfl, ?_⟩, fun h => absurd HOK.out h⟩
        rw [M.res_len, HM.out]
        exact HFO.out

end Go.Proofs.YtjlfgojblimobaaGreat.S11
end

section
namespace Go.Proofs.YtjlfgojblimobaaGreat.S11
open Go.ChangeShapes Go.WideShapes Go.ChangeAt Go.WideMaps Go.WideElems Go.RowKit
set_option maxRecDepth 100000

section
variable {H : Type} {enc : TypeId × Value → H} {W : World} {base : Nat} {sp : Nat → Bool} {held : Bool}
theorem open_mark {m : Nat} {cs : List Value} {x : DataW H × List MemPlace} (h : DataW.trod enc Tryz.prog W base sp held m 52 cs = some x) : ∃ a b : Int, cs = [.int .i64 a, .int .i64 b] := by
  obtain ⟨xs, n, _, _, hlen, hxl, hf⟩ := DataW.trod_struct Tryz.underlying52 h
  have ci : Tryz.prog.cellsOf 3 = 1 := by kernel_rfl
  have cT : Tryz.prog.cellsOf 52 = 2 := by kernel_rfl
  rw [cT] at hlen
  match cs, hlen, xs, hxl, hf with
  | [k0, k1], _, [x0, x1], _, hf =>
    have f0 : DataW.trod enc Tryz.prog W base sp held n 3 (List.take (Tryz.prog.cellsOf 3) [k0, k1]) = some x0 := hf 0 _ rfl
    have f1 : DataW.trod enc Tryz.prog W base sp held n 3 (List.take (Tryz.prog.cellsOf 3) [k1]) = some x1 := hf 1 _ rfl
    rw [ci] at f0 f1
    obtain ⟨a, e0, _, _⟩ := DataW.trod_int Tryz.underlying3 f0
    obtain ⟨b, e1, _, _⟩ := DataW.trod_int Tryz.underlying3 f1
    simp at e0 e1
    exact ⟨a, b, by rw [e0, e1]⟩
theorem open_marks {v : Value} {d : DataW H} {p : List MemPlace} (hw : ∀ k ∈ d.weights Tryz.prog 23, k ≤ reachBytes) (hv : Value.okWide Tryz.prog W .any base 23 v) (h : DataW.Trod enc Tryz.prog W 0 (fun _ => true) true 23 v d p) :
    ∃ (A : Option Addr) (c : Nat) (l : List (Int × Int)), v = .slice A l.length c ∧ RdT W W.heap.size A l ∧ l.length ≤ c ∧ c ≤ maxLen ∧ l.length * 16 ≤ 140737488351232 ∧ (A = none → c = 0) := by
  obtain ⟨a0, len0, cap0, rfl⟩ := okWide_slice Tryz.underlying23 hv
  obtain ⟨fuel, hf⟩ := h
  rcases Deep.open_slice Tryz.underlying23 hf with ⟨hcs, _⟩ | ⟨a, len1, cap1, m, n, D, Pl, hcs, _, hl, hm, hmm, hx, hi⟩
  · simp [Value.cells] at hcs
    obtain ⟨rfl, rfl, rfl⟩ := hcs
    exact ⟨none, 0, [], rfl, RdT.nil, Nat.le_refl _, Nat.zero_le _, by simp, fun _ => rfl⟩
  · simp [Value.cells] at hcs
    obtain ⟨rfl, rfl, rfl⟩ := hcs
    have cT : Tryz.prog.cellsOf 52 = 2 := by kernel_rfl
    have bT : Tryz.prog.bytesOf 52 = 16 := by kernel_rfl
    rw [cT] at hi
    have hd : d = .slice ((List.range len0).map D) ((List.range (m - len0)).map fun j => D (len0 + j)) := by injection hx
    have h16 : len0 * 16 ≤ 140737488351232 := by
      have h8 := hw ((((List.range len0).map D).length + ((List.range (m - len0)).map fun j => D (len0 + j)).length) * Tryz.prog.bytesOf 52) (by rw [hd]; simp [DataW.weights, Tryz.underlying23])
      rw [bT, List.length_map, List.length_range] at h8
      exact Nat.le_trans (Nat.mul_le_mul_right _ (Nat.le_add_right _ _)) h8
    have key : ∀ i, i < len0 → ∃ e : Int × Int, W.cell? (a.add (i * 2)) = some (.int .i64 e.1) ∧ W.cell? ⟨(a.add (i * 2)).block, (a.add (i * 2)).off + 1, none⟩ = some (.int .i64 e.2) := fun i hlt => by
      obtain ⟨cs', hc, ht'⟩ := hi i (by rw [hmm]; split <;> omega)
      obtain ⟨_, _, hat⟩ := World.cells?_some hc
      obtain ⟨x, y, rfl⟩ := open_mark ht'
      have k0 := hat 0 (by omega)
      have k1 := hat 1 (by omega)
      rw [show (a.add (i * 2)).add 0 = a.add (i * 2) by simp [Addr.add]] at k0
      rw [addr_add_pos _ _ (by omega)] at k1
      exact ⟨(x, y), k0, k1⟩
    obtain ⟨F, hF⟩ : ∃ F : Nat → Int × Int, ∀ i, i < len0 → W.cell? (a.add (i * 2)) = some (.int .i64 (F i).1) ∧ W.cell? ⟨(a.add (i * 2)).block, (a.add (i * 2)).off + 1, none⟩ = some (.int .i64 (F i).2) :=
      ⟨fun i => if hlt : i < len0 then Classical.choose (key i hlt) else (0, 0), fun i hlt => by
        simp only [dif_pos hlt]
        exact Classical.choose_spec (key i hlt)⟩
    refine ⟨some a, cap0, (List.range len0).map F, by simp, fun j e hj => ?_, by simpa using hl, hm, by simpa using h16, fun h => by cases h⟩
    have hlt : j < len0 := by have := (List.getElem?_eq_some_iff.1 hj).1; simpa using this
    rw [List.getElem?_map, List.getElem?_range hlt] at hj
    obtain rfl : F j = e := by simpa using hj
    obtain ⟨k0, k1⟩ := hF j hlt
    exact ⟨a, rfl, by have := World.block_lt_of_cell? W _ k0; rwa [addr_block] at this, k0, k1⟩
end
end Go.Proofs.YtjlfgojblimobaaGreat.S11
end
