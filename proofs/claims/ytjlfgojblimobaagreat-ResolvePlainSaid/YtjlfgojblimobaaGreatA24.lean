/- The contract of the document's Resolve. Conditions: the slices read as lists, at most a thousand long. -/
import Derived.Test.YtjlfgojblimobaaGreatA23
import Derived.Test.YtjlfgojblimobaaGreatA00
section
namespace Go.Proofs.YtjlfgojblimobaaGreat.S11
open Go.RowKit
set_option maxRecDepth 100000

structure Kp (w w' : World) (G : Nat) : Prop where
  os : w'.os = w.os
  tape : w'.tape = w.tape
  output : w'.output = w.output
  size : w.heap.size ≤ w'.heap.size
  block : ∀ b, b < w.heap.size → b ≠ G → w'.heap[b]? = w.heap[b]?
theorem Kp.refl (w : World) (G : Nat) : Kp w w G := ⟨rfl, rfl, rfl, Nat.le_refl _, fun _ _ _ => rfl⟩
theorem Kp.on {w w1 w2 : World} {G : Nat} (h : Kp w w1 G) (k : Below w1.heap.size w1 w2) : Kp w w2 G :=
  ⟨k.os.trans h.os, k.tape.trans h.tape, k.output.trans h.output, Nat.le_trans h.size k.size, fun b hb hG => (k.block b (Nat.lt_of_lt_of_le hb h.size)).trans (h.block b hb hG)⟩
theorem Kp.turn {w w1 w2 : World} {G : Nat} (h : Kp w w1 G) (k : Turned w1 w2 G) : Kp w w2 G :=
  ⟨k.os.trans h.os, k.tape.trans h.tape, k.output.trans h.output, by rw [k.size]; exact h.size, fun b hb hG => (k.block b hG).trans (h.block b hb hG)⟩
theorem Kp.below {w w' : World} {G base : Nat} (h : Kp w w' G) (hG : base ≤ G) (hb : base ≤ w.heap.size) : Below base w w' :=
  ⟨h.os, h.tape, h.output, h.size, fun b hlt => h.block b (by omega) (by omega)⟩
theorem RdT.kp {w w' : World} {G B : Nat} {A : Option Addr} {l : List (Int × Int)} (h : RdT w B A l) (hk : Kp w w' G) (hB : B ≤ w.heap.size) (hne : ∀ ad, A = some ad → ad.block ≠ G) : RdT w' B A l := fun j e hj => by
  obtain ⟨ad, hA, hb, c0, c1⟩ := h j e hj
  have hbl : (ad.add (j * 2)).block = ad.block := addr_block _ _
  have hb1 : w'.heap[(ad.add (j * 2)).block]? = w.heap[(ad.add (j * 2)).block]? := hk.block _ (by rw [hbl]; omega) (by rw [hbl]; exact hne ad hA)
  exact ⟨ad, hA, hb, (World.cell?_of_block hb1).trans c0, (World.cell?_of_block (a := ⟨(ad.add (j * 2)).block, (ad.add (j * 2)).off + 1, none⟩) hb1).trans c1⟩
def ResOut (ok : Prop) (t : List Int) (w : World) (r : Ending) (w' : World) : Prop :=
  Below w.heap.size w w' ∧
  (ok → ∃ v, r = .returned (.tuple #[v, .int .i64 0]) ∧ w'.ownsRow w.heap.size 39 1 v t.length (t.map (Value.int .i64))) ∧
  (¬ ok → r = .returned (.tuple #[.slice none 0 0, .int .i64 1]))
set_option maxHeartbeats 4000000 in
theorem refRes_no (A B C : Option Addr) (ca cb cc n m k : Nat) (came l : List Int) (t : List Int) (lv f : Int) (w : World) (hn : came.length = n) (hm : l.length = m) (hl : n ≤ 1000) (hl2 : m ≤ 1000) (h : ¬ M.resOk came l lv f) :
    Calls Tryz.prog 25 #[.slice A n ca, .slice B m cb, .slice C k cc, .int .i64 lv, .int .i64 f] w (ResOut (M.resOk came l lv f) t w) := by
  have HM := Lib.hid h
  have hf : n = m → 0 ≤ lv → ¬ (f = 0 ∨ f = 1) := fun h1 h2 h3 => h ⟨by omega, h2, h3⟩
  have l1 : (n : Int) ≤ 1000 := by omega
  have l2 : (m : Int) ≤ 1000 := by omega
  clear h hn hm
  by_cases h1 : n = m
  · subst h1
    have bn : ((n : Int) != (n : Int)) = false := by simp
    by_cases h2 : lv < 0
    · clear hf
      go_enter Tryz.func25, Tryz.ntmps25
      go_wp2_with fail
      go_returns
      exact ⟨Below.refl _ _, fun h => absurd h HM.out, fun _ => rfl⟩
    · have hf := hf rfl (by omega)
      have b0 : (f != 0) = true := by simp; omega
      have b1 : (f != 1) = true := by simp; omega
      clear hf
      go_enter Tryz.func25, Tryz.ntmps25
      go_wp2_with fail
      go_returns
      exact ⟨Below.refl _ _, fun h => absurd h HM.out, fun _ => rfl⟩
  · have bn : ((n : Int) != (m : Int)) = true := by simp; omega
    clear hf h1
    go_enter Tryz.func25, Tryz.ntmps25
    go_wp2_with fail
    go_returns
    exact ⟨Below.refl _ _, fun h => absurd h HM.out, fun _ => rfl⟩
set_option maxHeartbeats 16000000 in
theorem refRes_ok (A B C : Option Addr) (ca cb cc n k : Nat) (came l : List Int) (ms : List (Int × Int)) (lv f : Int) (w : World) (hr : RdS .i64 w w.heap.size A came) (hr2 : RdS .i64 w w.heap.size B l) (hr3 : RdT w w.heap.size C ms) (hn : came.length = n) (hm : l.length = n) (hk : ms.length = k) (hl : n ≤ 1000) (hl3 : k ≤ 1000) (hB : B = none → cb = 0) (h : M.resOk came l lv f) :
    Calls Tryz.prog 25 #[.slice A n ca, .slice B n cb, .slice C k cc, .int .i64 lv, .int .i64 f] w (ResOut (M.resOk came l lv f) (M.res came l ms lv f) w) := by
  obtain ⟨i0, hi0, hz0, hz1, hz2⟩ := info_parts Tryz.infoCls2
  have HR := Lib.hid hr
  have HR2 := Lib.hid hr2
  have HR3 := Lib.hid hr3
  have HN := Lib.hid hn
  have HM := Lib.hid hm
  have HK := Lib.hid hk
  have HB := Lib.hid hB
  have HOK := Lib.hid h
  have l1 : (n : Int) ≤ 1000 := by omega
  have l2 : (k : Int) ≤ 1000 := by omega
  have bn : ((n : Int) != (n : Int)) = false := by simp
  have lv0 : ¬ lv < 0 := by have := h.2.1; omega
  have lv1 : 0 ≤ lv := h.2.1
  have hf := h.2.2
  have hf2 : ∃ b0 b1 : Bool, (f != 0) = b0 ∧ (f != 1) = b1 ∧ (b0 = false ∨ b1 = false) := ⟨_, _, rfl, rfl, by rcases hf with e | e <;> simp [e]⟩
  have hfe : (f != 0) = false ∨ ((f != 0) = true ∧ (f != 1) = false) := by rcases hf with e | e <;> simp [e]
  clear hr hr2 hr3 hn hm hk hB h hf hf2
  rcases Int.emod_two_eq lv with h2 | h2
  · have HRES := Lib.hid (show M.res came l ms lv f = M.resTo came l ms 0 1 f (M.prs l ms).length by unfold M.res; rw [h2]; rfl)
    rcases hfe with b0 | ⟨b0, b1⟩
    all_goals
      go_enter Tryz.func25, Tryz.ntmps25
      go_wp2_with (at_builtin; refine wpList_append_rd _ rfl _ _ 22 rfl w.heap.size 39 i0 (.int .i64 0) 8 Tryz.underlying22 hi0 hz0 hz1 hz2 rfl _ 0 [] rfl (World.ownsRow_lit w #[] 0 (Nat.le_refl _) (Nat.zero_le _) rfl) .i64 w.heap.size B cb l (by rw [HM.out]; rfl) (HR2.out.keep (fun p hp => World.cell?_alloc_lt w _ p (by omega))) HB.out (by have := HM.out; unfold maxLen; omega) (by have := HM.out; omega) (by simp) ?_)
      intro v1 w1 ho1 hg1
      have hb1 : Below w.heap.size w w1 := grow_below0 ((Below.refl _ _).alloc (Nat.le_refl _) _) (World.ownsRow_lit w #[] 0 (Nat.le_refl _) (Nat.zero_le _) rfl) hg1 (by simp)
      have ho1' : w1.ownsRow w.heap.size 39 1 v1 l.length (l.map (Value.int .i64)) := by simpa using ho1
      obtain ⟨G, c1, hv1⟩ : ∃ G c1, (0 < n → v1 = .slice (some ⟨G, 0, none⟩) n c1) ∧ w.heap.size ≤ G ∧ G < w1.heap.size + (if 0 < n then 0 else G + 1) ∧ ∃ A1, v1 = .slice A1 n c1 := by
        rcases ho1'.2 with ⟨e, e1⟩ | ⟨g, cap, cur, e, hgb, hg, _⟩
        · rw [HM.out] at e1
          exact ⟨w.heap.size, 0, fun h => by omega, Nat.le_refl _, by rw [if_neg (by omega)]; omega, none, by rw [e, e1]⟩
        · rw [HM.out] at e
          exact ⟨g, cap, fun _ => e, hgb, by have := lt_of_block hg; split <;> omega, _, e⟩
      obtain ⟨hv1a, hGb, hGlt, A1, rfl⟩ := hv1
      rw [HM.out] at ho1'
      have HV := Lib.hid (And.intro hv1a (And.intro hGb hGlt))
      have HO1 := Lib.hid ho1'
      have HB1 := Lib.hid hb1
      have hbs1 := hb1.size
      clear ho1 hg1 ho1' hv1a hGb hGlt
      go_wp2_with fail
      refine (refPairs_any B C cb cc n k l ms w1 ((HR2.out.below hb1).more hb1.size) HM.out hl ((HR3.out.below hb1).more hb1.size) HK.out hl3).mono ?_
      rintro r w2 ⟨v2, rfl, ho2, hb2⟩
      obtain ⟨K, hK⟩ : ∃ K, (M.prs l ms).length = K := ⟨_, rfl⟩
      obtain ⟨A2, c2, rfl, hr2, -, -, -⟩ := ho2.shape
      have hA2 : ∀ ad, A2 = some ad → ad.block ≠ G ∨ ¬ 0 < n := fun ad e => by
        rcases ho2.2 with ⟨e1, _⟩ | ⟨g, cap, cur, e1, hgb, _⟩
        · injection e1 with e1
          rw [e] at e1
          cases e1
        · injection e1 with e1
          rw [e] at e1
          injection e1 with e1
          have h3 := HV.out.2.2
          by_cases hn0 : 0 < n
          · rw [if_pos hn0] at h3
            left
            rw [e1]
            show g ≠ G
            omega
          · exact .inr hn0
      have hKn : K ≤ n := by rw [← hK, ← HM.out]; exact M.prs_len
      rw [hK]
      have HKK := Lib.hid hK
      have HA2 := Lib.hid hA2
      have HRT := Lib.hid hr2
      have HO2 := Lib.hid (own_below HO1.out hb2)
      have HB2 := Lib.hid (hb1.trans (hb2.mono hbs1))
      have hbs2 := HB2.out.size
      have hbs12 := hb2.size
      clear hb1 ho2 hb2 hr2 hK hA2
      go_wp2_with fail
      go_loopw [16] (fun v wr => ∃ i : Nat, v = .int .i64 i ∧ i ≤ K ∧ wr.ownsRow w.heap.size 39 1 (.slice A1 n c1) n ((M.resTo came l ms 0 1 f i).map (Value.int .i64)) ∧ Kp w2 wr G) (fun v _ => K - (intOf v).toNat)
      case atStart => exact ⟨0, rfl, Nat.zero_le _, HO2.out, Kp.refl _ _⟩
      case round =>
        obtain ⟨i, rfl, hi, ho, hkp⟩ := hrel
        rename World => wr
        have HO := Lib.hid ho
        have HKP := Lib.hid hkp
        have i00 : (0 : Int) ≤ i := by omega
        by_cases hlt : i < K
        · have i01 : (i : Int) < K := by omega
          obtain ⟨a, ha⟩ : ∃ a, (M.prs l ms)[i]? = some a := ⟨_, List.getElem?_eq_getElem (by rw [HKK.out]; exact hlt)⟩
          obtain ⟨p, q, rfl, hpq, hqn, -⟩ := M.prs_at ha
          rw [HM.out] at hqn
          have hn0 : 0 < n := by omega
          obtain ⟨hv1, hGb, -⟩ := HV.out
          have hv1 := hv1 hn0
          injection hv1 with hA1 _ _
          subst hA1
          obtain ⟨adp, hadp, -, ce0, ce1⟩ := (HRT.out.kp hkp (Nat.le_refl _) (fun ad e => (HA2.out ad e).resolve_right (fun h => h hn0))) i _ ha
          subst hadp
          dsimp only at ce0 ce1
          obtain ⟨O, hO⟩ : ∃ O, M.resTo came l ms 0 1 f i = O := ⟨_, rfl⟩
          have hOl : O.length = n := by rw [← hO, M.resTo_len, HM.out]
          have hnext := M.resTo_succ (came := came) (side := 0) (other := 1) (f := f) ha
          rw [hO] at hnext ho
          have hr1 : M.res1 came 0 1 f O ((p : Int), (q : Int)) = if M.toOf 0 1 f O p q = 13 then O else M.bec came (M.bec came O p (M.toOf 0 1 f O p q)) q (M.toOf 0 1 f O p q) := rfl
          rw [hr1] at hnext
          have HOL := Lib.hid hOl
          have HOW := Lib.hid ho
          obtain ⟨W1, hW1, hbw1, e0, e1, g0, g1, hgt⟩ := new_two wr p q 96
          have HGT := Lib.hid hgt
          have hbw1s := hbw1.size
          have hrdO : ∀ w' : World, Below wr.heap.size wr w' → RdS .i64 w' w'.heap.size (some ⟨G, 0, none⟩) O := fun w' hb => by
            have h1 := own_below ho hb
            rw [← hOl] at h1
            obtain ⟨A', c', e, h2, -⟩ := reads_own h1
            injection e with e _ _
            subst e
            exact h2
          have HRO := Lib.hid hrdO
          have HW1 := Lib.hid hbw1
          have HC1 := Lib.hid (refBetw_any (some ⟨G, 0, none⟩) c1 n p q O 0 W1 (hrdO W1 hbw1) hOl hl hpq hqn)
          obtain ⟨x1, hx1⟩ : ∃ x, M.btw 0 O (q - (p + 1)) (p + 1) = x := ⟨_, rfl⟩
          obtain ⟨x2, hx2⟩ : ∃ x, M.btw 1 O (q - (p + 1)) (p + 1) = x := ⟨_, rfl⟩
          obtain ⟨ah, hah⟩ : ∃ x, M.ahd f (O.take p).reverse = x := ⟨_, rfl⟩
          rw [hx1] at HC1
          obtain ⟨to, hto⟩ : ∃ to, M.toOf 0 1 f O p q = to := ⟨_, rfl⟩
          rw [hto] at hnext
          unfold M.toOf at hto
          rw [hx1, hx2, hah] at hto
          have HNEXT := Lib.hid hnext
          have HTO := Lib.hid hto
          have HX2 := Lib.hid hx2
          have HAH := Lib.hid hah
          have HGB := Lib.hid hGb
          have HQN := Lib.hid hqn
          have HGN := Lib.hid (show wr.heap.size ≠ G from by have h3 := HV.out.2.2; rw [if_pos hn0] at h3; have := HKP.out.size; omega)
          have p0 : (0 : Int) ≤ p := by omega
          have q0 : (0 : Int) ≤ q := by omega
          have pn : (p : Int) < n := by omega
          have qn : (q : Int) < n := by omega
          have hpn : p < n := by omega
          clear hr1 hnext hto ho hkp hO hOl hrdO hbw1 hx1 hx2 hah ha hv1 hGb hgt
          go_wp2_with fail
          refine HC1.out.mono ?_
          rintro r w3 ⟨rfl, hb3⟩
          have HB3 := Lib.hid (HW1.out.trans (hb3.mono hbw1s))
          have d0 := (hb3.cell (p := ⟨wr.heap.size, 0, none⟩) HGT.out).trans e0
          have d1 := (hb3.cell (p := ⟨wr.heap.size, 1, none⟩) HGT.out).trans e1
          have HC2 := Lib.hid (refBetw_any (some ⟨G, 0, none⟩) c1 n p q O 1 w3 (HRO.out w3 HB3.out) HOL.out hl hpq hqn)
          rw [HX2.out] at HC2
          have HGT3 := Lib.hid (Nat.lt_of_lt_of_le HGT.out hb3.size)
          clear hb3 e0 e1 g0 g1
          go_wp2_with fail
          refine HC2.out.mono ?_
          rintro r w4 ⟨rfl, hb4⟩
          have hs34 := HB3.out.size
          have HB4 := Lib.hid (HB3.out.trans (hb4.mono hs34))
          have HGT4 := Lib.hid (Nat.lt_of_lt_of_le HGT3.out hb4.size)
          have d0 := (hb4.cell (p := ⟨wr.heap.size, 0, none⟩) HGT3.out).trans d0
          have d1 := (hb4.cell (p := ⟨wr.heap.size, 1, none⟩) HGT3.out).trans d1
          have HC3 := Lib.hid (refAhead_any (some ⟨G, 0, none⟩) c1 n p O f w4 (HRO.out w4 HB4.out) HOL.out hl (by omega))
          rw [HAH.out] at HC3
          have HO4 := Lib.hid (own_below HOW.out HB4.out)
          have HRC4 := Lib.hid (HR.out.below (HB2.out.trans ((HKP.out.on HB4.out).below HGB.out hbs2)))
          have HKP4 := Lib.hid (HKP.out.on HB4.out)
          clear hb4 hs34
          cases x1 with
          | true =>
            have HTE := Lib.hid (show to = 0 by rw [← HTO.out]; rfl)
            go_wp2_with fail
            refine (refBec_any A ca G c1 n p w.heap.size came O 0 w4 HRC4.out HN.out hl HO4.out HOL.out hpn).mono ?_
            rintro r w5 ⟨rfl, ho5, ht5⟩
            have d15 := (ht5.cell (p := ⟨wr.heap.size, 1, none⟩) HGN.out).trans d1
            have HRC5 := Lib.hid (HRC4.out.below (ht5.below HGB.out))
            have HO5 := Lib.hid ho5
            have HKP5 := Lib.hid (HKP4.out.turn ht5)
            clear ho5 ht5
            go_wp2_with fail
            refine (refBec_any A ca G c1 n q w.heap.size came (M.bec came O p 0) 0 w5 HRC5.out HN.out hl HO5.out (by rw [M.bec_len]; exact HOL.out) HQN.out).mono ?_
            rintro r w6 ⟨rfl, ho6, ht6⟩
            have HO6 := Lib.hid (show w6.ownsRow w.heap.size 39 1 (.slice (some ⟨G, 0, none⟩) n c1) n ((M.resTo came l ms 0 1 f (i + 1)).map (Value.int .i64)) from by rw [HNEXT.out, HTE.out, if_neg (by decide)]; exact ho6)
            have HKP6 := Lib.hid (HKP5.out.turn ht6)
            clear ho6 ht6
            go_wp2_with fail
            go_roundw
            case rel => exact ⟨i + 1, by go_num, by omega, HO6.out, HKP6.out⟩
            case measure => simp [intOf]; omega
          | false =>
            cases x2 with
            | true =>
              by_cases hao : ah = 1
              · have HTE := Lib.hid (show to = 1 by rw [← HTO.out, hao]; rfl)
                have bao : (ah == 1) = true := by simp [hao]
                clear hao
                go_wp2_with fail
                refine HC3.out.mono ?_
                rintro r w5 ⟨rfl, rfl⟩
                go_wp2_with fail
                refine (refBec_any A ca G c1 n p w.heap.size came O 1 w4 HRC4.out HN.out hl HO4.out HOL.out hpn).mono ?_
                rintro r w5 ⟨rfl, ho5, ht5⟩
                have d15 := (ht5.cell (p := ⟨wr.heap.size, 1, none⟩) HGN.out).trans d1
                have HRC5 := Lib.hid (HRC4.out.below (ht5.below HGB.out))
                have HO5 := Lib.hid ho5
                have HKP5 := Lib.hid (HKP4.out.turn ht5)
                clear ho5 ht5
                go_wp2_with fail
                refine (refBec_any A ca G c1 n q w.heap.size came (M.bec came O p 1) 1 w5 HRC5.out HN.out hl HO5.out (by rw [M.bec_len]; exact HOL.out) HQN.out).mono ?_
                rintro r w6 ⟨rfl, ho6, ht6⟩
                have HO6 := Lib.hid (show w6.ownsRow w.heap.size 39 1 (.slice (some ⟨G, 0, none⟩) n c1) n ((M.resTo came l ms 0 1 f (i + 1)).map (Value.int .i64)) from by rw [HNEXT.out, HTE.out, if_neg (by decide)]; exact ho6)
                have HKP6 := Lib.hid (HKP5.out.turn ht6)
                clear ho6 ht6
                go_wp2_with fail
                go_roundw
                case rel => exact ⟨i + 1, by go_num, by omega, HO6.out, HKP6.out⟩
                case measure => simp [intOf]; omega
              · have HTE := Lib.hid (show to = 0 by rw [← HTO.out, if_neg (by decide), if_pos rfl, if_neg hao])
                have bao : (ah == 1) = false := by simp [hao]
                clear hao
                go_wp2_with fail
                refine HC3.out.mono ?_
                rintro r w5 ⟨rfl, rfl⟩
                go_wp2_with fail
                refine (refBec_any A ca G c1 n p w.heap.size came O 0 w4 HRC4.out HN.out hl HO4.out HOL.out hpn).mono ?_
                rintro r w5 ⟨rfl, ho5, ht5⟩
                have d15 := (ht5.cell (p := ⟨wr.heap.size, 1, none⟩) HGN.out).trans d1
                have HRC5 := Lib.hid (HRC4.out.below (ht5.below HGB.out))
                have HO5 := Lib.hid ho5
                have HKP5 := Lib.hid (HKP4.out.turn ht5)
                clear ho5 ht5
                go_wp2_with fail
                refine (refBec_any A ca G c1 n q w.heap.size came (M.bec came O p 0) 0 w5 HRC5.out HN.out hl HO5.out (by rw [M.bec_len]; exact HOL.out) HQN.out).mono ?_
                rintro r w6 ⟨rfl, ho6, ht6⟩
                have HO6 := Lib.hid (show w6.ownsRow w.heap.size 39 1 (.slice (some ⟨G, 0, none⟩) n c1) n ((M.resTo came l ms 0 1 f (i + 1)).map (Value.int .i64)) from by rw [HNEXT.out, HTE.out, if_neg (by decide)]; exact ho6)
                have HKP6 := Lib.hid (HKP5.out.turn ht6)
                clear ho6 ht6
                go_wp2_with fail
                go_roundw
                case rel => exact ⟨i + 1, by go_num, by omega, HO6.out, HKP6.out⟩
                case measure => simp [intOf]; omega
            | false =>
              have HTE := Lib.hid (show to = 13 by rw [← HTO.out]; rfl)
              have HO6 := Lib.hid (show w4.ownsRow w.heap.size 39 1 (.slice (some ⟨G, 0, none⟩) n c1) n ((M.resTo came l ms 0 1 f (i + 1)).map (Value.int .i64)) from by rw [HNEXT.out, HTE.out, if_pos rfl]; exact HO4.out)
              go_wp2_with fail
              go_roundw
              case rel => exact ⟨i + 1, by go_num, by omega, HO6.out, HKP4.out⟩
              case measure => simp [intOf]; omega
        · obtain rfl : K = i := by omega
          have i01 : ¬ (K : Int) < (K : Int) := by omega
          have HBX := Lib.hid (HB2.out.trans (hkp.below HV.out.2.1 hbs2))
          clear ho hkp
          go_wp2_with fail
          go_returns
          refine ⟨HBX.out, fun _ => ⟨_, rfl, ?_⟩, fun h => absurd HOK.out h⟩
          rw [M.res_len, HM.out, HRES.out, HKK.out]
          exact HO.out
  · have HRES := Lib.hid (show M.res came l ms lv f = M.resTo came l ms 1 0 f (M.prs l ms).length by unfold M.res; rw [h2]; rfl)
    rcases hfe with b0 | ⟨b0, b1⟩
    all_goals
      go_enter Tryz.func25, Tryz.ntmps25
      go_wp2_with (at_builtin; refine wpList_append_rd _ rfl _ _ 22 rfl w.heap.size 39 i0 (.int .i64 0) 8 Tryz.underlying22 hi0 hz0 hz1 hz2 rfl _ 0 [] rfl (World.ownsRow_lit w #[] 0 (Nat.le_refl _) (Nat.zero_le _) rfl) .i64 w.heap.size B cb l (by rw [HM.out]; rfl) (HR2.out.keep (fun p hp => World.cell?_alloc_lt w _ p (by omega))) HB.out (by have := HM.out; unfold maxLen; omega) (by have := HM.out; omega) (by simp) ?_)
      intro v1 w1 ho1 hg1
      have hb1 : Below w.heap.size w w1 := grow_below0 ((Below.refl _ _).alloc (Nat.le_refl _) _) (World.ownsRow_lit w #[] 0 (Nat.le_refl _) (Nat.zero_le _) rfl) hg1 (by simp)
      have ho1' : w1.ownsRow w.heap.size 39 1 v1 l.length (l.map (Value.int .i64)) := by simpa using ho1
      obtain ⟨G, c1, hv1⟩ : ∃ G c1, (0 < n → v1 = .slice (some ⟨G, 0, none⟩) n c1) ∧ w.heap.size ≤ G ∧ G < w1.heap.size + (if 0 < n then 0 else G + 1) ∧ ∃ A1, v1 = .slice A1 n c1 := by
        rcases ho1'.2 with ⟨e, e1⟩ | ⟨g, cap, cur, e, hgb, hg, _⟩
        · rw [HM.out] at e1
          exact ⟨w.heap.size, 0, fun h => by omega, Nat.le_refl _, by rw [if_neg (by omega)]; omega, none, by rw [e, e1]⟩
        · rw [HM.out] at e
          exact ⟨g, cap, fun _ => e, hgb, by have := lt_of_block hg; split <;> omega, _, e⟩
      obtain ⟨hv1a, hGb, hGlt, A1, rfl⟩ := hv1
      rw [HM.out] at ho1'
      have HV := Lib.hid (And.intro hv1a (And.intro hGb hGlt))
      have HO1 := Lib.hid ho1'
      have HB1 := Lib.hid hb1
      have hbs1 := hb1.size
      clear ho1 hg1 ho1' hv1a hGb hGlt
      go_wp2_with fail
      refine (refPairs_any B C cb cc n k l ms w1 ((HR2.out.below hb1).more hb1.size) HM.out hl ((HR3.out.below hb1).more hb1.size) HK.out hl3).mono ?_
      rintro r w2 ⟨v2, rfl, ho2, hb2⟩
      obtain ⟨K, hK⟩ : ∃ K, (M.prs l ms).length = K := ⟨_, rfl⟩
      obtain ⟨A2, c2, rfl, hr2, -, -, -⟩ := ho2.shape
      have hA2 : ∀ ad, A2 = some ad → ad.block ≠ G ∨ ¬ 0 < n := fun ad e => by
        rcases ho2.2 with ⟨e1, _⟩ | ⟨g, cap, cur, e1, hgb, _⟩
        · injection e1 with e1
          rw [e] at e1
          cases e1
        · injection e1 with e1
          rw [e] at e1
          injection e1 with e1
          have h3 := HV.out.2.2
          by_cases hn0 : 0 < n
          · rw [if_pos hn0] at h3
            left
            rw [e1]
            show g ≠ G
            omega
          · exact .inr hn0
      have hKn : K ≤ n := by rw [← hK, ← HM.out]; exact M.prs_len
      rw [hK]
      have HKK := Lib.hid hK
      have HA2 := Lib.hid hA2
      have HRT := Lib.hid hr2
      have HO2 := Lib.hid (own_below HO1.out hb2)
      have HB2 := Lib.hid (hb1.trans (hb2.mono hbs1))
      have hbs2 := HB2.out.size
      have hbs12 := hb2.size
      clear hb1 ho2 hb2 hr2 hK hA2
      go_wp2_with fail
      go_loopw [16] (fun v wr => ∃ i : Nat, v = .int .i64 i ∧ i ≤ K ∧ wr.ownsRow w.heap.size 39 1 (.slice A1 n c1) n ((M.resTo came l ms 1 0 f i).map (Value.int .i64)) ∧ Kp w2 wr G) (fun v _ => K - (intOf v).toNat)
      case atStart => exact ⟨0, rfl, Nat.zero_le _, HO2.out, Kp.refl _ _⟩
      case round =>
        obtain ⟨i, rfl, hi, ho, hkp⟩ := hrel
        rename World => wr
        have HO := Lib.hid ho
        have HKP := Lib.hid hkp
        have i00 : (0 : Int) ≤ i := by omega
        by_cases hlt : i < K
        · have i01 : (i : Int) < K := by omega
          obtain ⟨a, ha⟩ : ∃ a, (M.prs l ms)[i]? = some a := ⟨_, List.getElem?_eq_getElem (by rw [HKK.out]; exact hlt)⟩
          obtain ⟨p, q, rfl, hpq, hqn, -⟩ := M.prs_at ha
          rw [HM.out] at hqn
          have hn0 : 0 < n := by omega
          obtain ⟨hv1, hGb, -⟩ := HV.out
          have hv1 := hv1 hn0
          injection hv1 with hA1 _ _
          subst hA1
          obtain ⟨adp, hadp, -, ce0, ce1⟩ := (HRT.out.kp hkp (Nat.le_refl _) (fun ad e => (HA2.out ad e).resolve_right (fun h => h hn0))) i _ ha
          subst hadp
          dsimp only at ce0 ce1
          obtain ⟨O, hO⟩ : ∃ O, M.resTo came l ms 1 0 f i = O := ⟨_, rfl⟩
          have hOl : O.length = n := by rw [← hO, M.resTo_len, HM.out]
          have hnext := M.resTo_succ (came := came) (side := 1) (other := 0) (f := f) ha
          rw [hO] at hnext ho
          have hr1 : M.res1 came 1 0 f O ((p : Int), (q : Int)) = if M.toOf 1 0 f O p q = 13 then O else M.bec came (M.bec came O p (M.toOf 1 0 f O p q)) q (M.toOf 1 0 f O p q) := rfl
          rw [hr1] at hnext
          have HOL := Lib.hid hOl
          have HOW := Lib.hid ho
          obtain ⟨W1, hW1, hbw1, e0, e1, g0, g1, hgt⟩ := new_two wr p q 96
          have HGT := Lib.hid hgt
          have hbw1s := hbw1.size
          have hrdO : ∀ w' : World, Below wr.heap.size wr w' → RdS .i64 w' w'.heap.size (some ⟨G, 0, none⟩) O := fun w' hb => by
            have h1 := own_below ho hb
            rw [← hOl] at h1
            obtain ⟨A', c', e, h2, -⟩ := reads_own h1
            injection e with e _ _
            subst e
            exact h2
          have HRO := Lib.hid hrdO
          have HW1 := Lib.hid hbw1
          have HC1 := Lib.hid (refBetw_any (some ⟨G, 0, none⟩) c1 n p q O 1 W1 (hrdO W1 hbw1) hOl hl hpq hqn)
          obtain ⟨x1, hx1⟩ : ∃ x, M.btw 1 O (q - (p + 1)) (p + 1) = x := ⟨_, rfl⟩
          obtain ⟨x2, hx2⟩ : ∃ x, M.btw 0 O (q - (p + 1)) (p + 1) = x := ⟨_, rfl⟩
          obtain ⟨ah, hah⟩ : ∃ x, M.ahd f (O.take p).reverse = x := ⟨_, rfl⟩
          rw [hx1] at HC1
          obtain ⟨to, hto⟩ : ∃ to, M.toOf 1 0 f O p q = to := ⟨_, rfl⟩
          rw [hto] at hnext
          unfold M.toOf at hto
          rw [hx1, hx2, hah] at hto
          have HNEXT := Lib.hid hnext
          have HTO := Lib.hid hto
          have HX2 := Lib.hid hx2
          have HAH := Lib.hid hah
          have HGB := Lib.hid hGb
          have HQN := Lib.hid hqn
          have HGN := Lib.hid (show wr.heap.size ≠ G from by have h3 := HV.out.2.2; rw [if_pos hn0] at h3; have := HKP.out.size; omega)
          have p0 : (0 : Int) ≤ p := by omega
          have q0 : (0 : Int) ≤ q := by omega
          have pn : (p : Int) < n := by omega
          have qn : (q : Int) < n := by omega
          have hpn : p < n := by omega
          clear hr1 hnext hto ho hkp hO hOl hrdO hbw1 hx1 hx2 hah ha hv1 hGb hgt
          go_wp2_with fail
          refine HC1.out.mono ?_
          rintro r w3 ⟨rfl, hb3⟩
          have HB3 := Lib.hid (HW1.out.trans (hb3.mono hbw1s))
          have d0 := (hb3.cell (p := ⟨wr.heap.size, 0, none⟩) HGT.out).trans e0
          have d1 := (hb3.cell (p := ⟨wr.heap.size, 1, none⟩) HGT.out).trans e1
          have HC2 := Lib.hid (refBetw_any (some ⟨G, 0, none⟩) c1 n p q O 0 w3 (HRO.out w3 HB3.out) HOL.out hl hpq hqn)
          rw [HX2.out] at HC2
          have HGT3 := Lib.hid (Nat.lt_of_lt_of_le HGT.out hb3.size)
          clear hb3 e0 e1 g0 g1
          go_wp2_with fail
          refine HC2.out.mono ?_
          rintro r w4 ⟨rfl, hb4⟩
          have hs34 := HB3.out.size
          have HB4 := Lib.hid (HB3.out.trans (hb4.mono hs34))
          have HGT4 := Lib.hid (Nat.lt_of_lt_of_le HGT3.out hb4.size)
          have d0 := (hb4.cell (p := ⟨wr.heap.size, 0, none⟩) HGT3.out).trans d0
          have d1 := (hb4.cell (p := ⟨wr.heap.size, 1, none⟩) HGT3.out).trans d1
          have HC3 := Lib.hid (refAhead_any (some ⟨G, 0, none⟩) c1 n p O f w4 (HRO.out w4 HB4.out) HOL.out hl (by omega))
          rw [HAH.out] at HC3
          have HO4 := Lib.hid (own_below HOW.out HB4.out)
          have HRC4 := Lib.hid (HR.out.below (HB2.out.trans ((HKP.out.on HB4.out).below HGB.out hbs2)))
          have HKP4 := Lib.hid (HKP.out.on HB4.out)
          clear hb4 hs34
          cases x1 with
          | true =>
            have HTE := Lib.hid (show to = 1 by rw [← HTO.out]; rfl)
            go_wp2_with fail
            refine (refBec_any A ca G c1 n p w.heap.size came O 1 w4 HRC4.out HN.out hl HO4.out HOL.out hpn).mono ?_
            rintro r w5 ⟨rfl, ho5, ht5⟩
            have d15 := (ht5.cell (p := ⟨wr.heap.size, 1, none⟩) HGN.out).trans d1
            have HRC5 := Lib.hid (HRC4.out.below (ht5.below HGB.out))
            have HO5 := Lib.hid ho5
            have HKP5 := Lib.hid (HKP4.out.turn ht5)
            clear ho5 ht5
            go_wp2_with fail
            refine (refBec_any A ca G c1 n q w.heap.size came (M.bec came O p 1) 1 w5 HRC5.out HN.out hl HO5.out (by rw [M.bec_len]; exact HOL.out) HQN.out).mono ?_
            rintro r w6 ⟨rfl, ho6, ht6⟩
            have HO6 := Lib.hid (show w6.ownsRow w.heap.size 39 1 (.slice (some ⟨G, 0, none⟩) n c1) n ((M.resTo came l ms 1 0 f (i + 1)).map (Value.int .i64)) from by rw [HNEXT.out, HTE.out, if_neg (by decide)]; exact ho6)
            have HKP6 := Lib.hid (HKP5.out.turn ht6)
            clear ho6 ht6
            go_wp2_with fail
            go_roundw
            case rel => exact ⟨i + 1, by go_num, by omega, HO6.out, HKP6.out⟩
            case measure => simp [intOf]; omega
          | false =>
            cases x2 with
            | true =>
              by_cases hao : ah = 0
              · have HTE := Lib.hid (show to = 0 by rw [← HTO.out, hao]; rfl)
                have bao : (ah == 0) = true := by simp [hao]
                clear hao
                go_wp2_with fail
                refine HC3.out.mono ?_
                rintro r w5 ⟨rfl, rfl⟩
                go_wp2_with fail
                refine (refBec_any A ca G c1 n p w.heap.size came O 0 w4 HRC4.out HN.out hl HO4.out HOL.out hpn).mono ?_
                rintro r w5 ⟨rfl, ho5, ht5⟩
                have d15 := (ht5.cell (p := ⟨wr.heap.size, 1, none⟩) HGN.out).trans d1
                have HRC5 := Lib.hid (HRC4.out.below (ht5.below HGB.out))
                have HO5 := Lib.hid ho5
                have HKP5 := Lib.hid (HKP4.out.turn ht5)
                clear ho5 ht5
                go_wp2_with fail
                refine (refBec_any A ca G c1 n q w.heap.size came (M.bec came O p 0) 0 w5 HRC5.out HN.out hl HO5.out (by rw [M.bec_len]; exact HOL.out) HQN.out).mono ?_
                rintro r w6 ⟨rfl, ho6, ht6⟩
                have HO6 := Lib.hid (show w6.ownsRow w.heap.size 39 1 (.slice (some ⟨G, 0, none⟩) n c1) n ((M.resTo came l ms 1 0 f (i + 1)).map (Value.int .i64)) from by rw [HNEXT.out, HTE.out, if_neg (by decide)]; exact ho6)
                have HKP6 := Lib.hid (HKP5.out.turn ht6)
                clear ho6 ht6
                go_wp2_with fail
                go_roundw
                case rel => exact ⟨i + 1, by go_num, by omega, HO6.out, HKP6.out⟩
                case measure => simp [intOf]; omega
              · have HTE := Lib.hid (show to = 1 by rw [← HTO.out, if_neg (by decide), if_pos rfl, if_neg hao])
                have bao : (ah == 0) = false := by simp [hao]
                clear hao
                go_wp2_with fail
                refine HC3.out.mono ?_
                rintro r w5 ⟨rfl, rfl⟩
                go_wp2_with fail
                refine (refBec_any A ca G c1 n p w.heap.size came O 1 w4 HRC4.out HN.out hl HO4.out HOL.out hpn).mono ?_
                rintro r w5 ⟨rfl, ho5, ht5⟩
                have d15 := (ht5.cell (p := ⟨wr.heap.size, 1, none⟩) HGN.out).trans d1
                have HRC5 := Lib.hid (HRC4.out.below (ht5.below HGB.out))
                have HO5 := Lib.hid ho5
                have HKP5 := Lib.hid (HKP4.out.turn ht5)
                clear ho5 ht5
                go_wp2_with fail
                refine (refBec_any A ca G c1 n q w.heap.size came (M.bec came O p 1) 1 w5 HRC5.out HN.out hl HO5.out (by rw [M.bec_len]; exact HOL.out) HQN.out).mono ?_
                rintro r w6 ⟨rfl, ho6, ht6⟩
                have HO6 := Lib.hid (show w6.ownsRow w.heap.size 39 1 (.slice (some ⟨G, 0, none⟩) n c1) n ((M.resTo came l ms 1 0 f (i + 1)).map (Value.int .i64)) from by rw [HNEXT.out, HTE.out, if_neg (by decide)]; exact ho6)
                have HKP6 := Lib.hid (HKP5.out.turn ht6)
                clear ho6 ht6
                go_wp2_with fail
                go_roundw
                case rel => exact ⟨i + 1, by go_num, by omega, HO6.out, HKP6.out⟩
                case measure => simp [intOf]; omega
            | false =>
              have HTE := Lib.hid (show to = 13 by rw [← HTO.out]; rfl)
              have HO6 := Lib.hid (show w4.ownsRow w.heap.size 39 1 (.slice (some ⟨G, 0, none⟩) n c1) n ((M.resTo came l ms 1 0 f (i + 1)).map (Value.int .i64)) from by rw [HNEXT.out, HTE.out, if_pos rfl]; exact HO4.out)
              go_wp2_with fail
              go_roundw
              case rel => exact ⟨i + 1, by go_num, by omega, HO6.out, HKP4.out⟩
              case measure => simp [intOf]; omega
        · obtain rfl : K = i := by omega
          have i01 : ¬ (K : Int) < (K : Int) := by omega
          have HBX := Lib.hid (HB2.out.trans (hkp.below HV.out.2.1 hbs2))
          clear ho hkp
          go_wp2_with fail
          go_returns
          refine ⟨HBX.out, fun _ => ⟨_, rfl, ?_⟩, fun h => absurd HOK.out h⟩
          rw [M.res_len, HM.out, HRES.out, HKK.out]
          exact HO.out
theorem refRes_any (A B C : Option Addr) (ca cb cc n m k : Nat) (came l : List Int) (ms : List (Int × Int)) (lv f : Int) (w : World) (hr : RdS .i64 w w.heap.size A came) (hr2 : RdS .i64 w w.heap.size B l) (hr3 : RdT w w.heap.size C ms) (hn : came.length = n) (hm : l.length = m) (hk : ms.length = k) (hl : n ≤ 1000) (hl2 : m ≤ 1000) (hl3 : k ≤ 1000) (hB : B = none → cb = 0) :
    Calls Tryz.prog 25 #[.slice A n ca, .slice B m cb, .slice C k cc, .int .i64 lv, .int .i64 f] w (ResOut (M.resOk came l lv f) (M.res came l ms lv f) w) := by
  by_cases h : M.resOk came l lv f
  · obtain rfl : n = m := by have := h.1; omega
    exact refRes_ok A B C ca cb cc n k came l ms lv f w hr hr2 hr3 hn hm hk hl hl3 hB h
  · exact refRes_no A B C ca cb cc n m k came l _ lv f w hn hm hl hl2 h
end Go.Proofs.YtjlfgojblimobaaGreat.S11
end
