/- The contract of the closure that lays places, and calls itself: a stretch's places, as they are seen. Conditions: the levels are right, and read as a list; the closure, the levels and the order lie in boxes. -/
import Derived.Test.YtahjkndphkpieaaCLeaf
import Derived.Test.YtahjkndphkpieaaCRev
import Derived.Test.YtahjkndphkpieaaLayM
namespace Go.Proofs.Ytahjkndphkpieaa
open Go.RowKit
set_option maxRecDepth 100000

/-- The boxes of the levels, of the closure and of the order, and the order's block. -/
structure LayAt (A : Option Addr) (n ca B b1 b2 b3 G : Nat) (l : List Int) (w : World) (X : List Nat) : Prop where
  rd : RdS .i64 w B A l
  bl : BlockAt w G 3 (M.ints X)
  c1 : w.cell? ⟨b1, 0, none⟩ = some (.slice A n ca)
  c2 : w.cell? ⟨b2, 0, none⟩ = some (.func (.func 19) #[] #[.pointer (some ⟨b1, 0, none⟩), .pointer (some ⟨b2, 0, none⟩), .pointer (some ⟨b3, 0, none⟩)])
  c3 : w.cell? ⟨b3, 0, none⟩ = some (.slice (some ⟨G, 0, none⟩) n n)
  n1 : b1 ≠ G
  n2 : b2 ≠ G
  n3 : b3 ≠ G
  lo : B ≤ G
section
variable {A : Option Addr} {n ca B b1 b2 b3 G : Nat} {l : List Int} {w w' : World} {X Y : List Nat}
theorem LayAt.lt (h : LayAt A n ca B b1 b2 b3 G l w X) : B ≤ w.heap.size := Nat.le_of_lt (Nat.lt_of_le_of_lt h.lo h.bl.lt)
theorem LayAt.keep (h : LayAt A n ca B b1 b2 b3 G l w X) (hk : KpG w.heap.size G w w') (hb : BlockAt w' G 3 (M.ints Y)) : LayAt A n ca B b1 b2 b3 G l w' Y := by
  have hlt := h.lt
  have hlo := h.lo
  exact ⟨h.rd.keep fun p hp => hk.cell (by omega) (by omega), hb, (hk.cell (World.block_lt_of_cell? w _ h.c1) h.n1).trans h.c1, (hk.cell (World.block_lt_of_cell? w _ h.c2) h.n2).trans h.c2, (hk.cell (World.block_lt_of_cell? w _ h.c3) h.n3).trans h.c3, h.n1, h.n2, h.n3, h.lo⟩
theorem LayAt.same (h : LayAt A n ca B b1 b2 b3 G l w X) (hb : Below w.heap.size w w') : LayAt A n ca B b1 b2 b3 G l w' X :=
  h.keep (.of_below hb (Nat.le_refl _)) (h.bl.below hb h.bl.lt)
end
theorem M.lev_at {l : List Int} {t i j : Nat} {x : Int} (h : ((l.take t).drop i)[j]? = some x) : M.lev l (i + j) = x := by
  rw [List.getElem?_drop, List.getElem?_take] at h
  split at h
  · unfold M.lev
    rw [List.getD_eq_getElem?_getD, h]
    rfl
  · cases h
theorem M.lev_get {l : List Int} {t i j : Nat} (h : i + j < t) (ht : t ≤ l.length) : ((l.take t).drop i)[j]? = some (M.lev l (i + j)) := by
  rw [List.getElem?_drop, List.getElem?_take, if_pos h]
  unfold M.lev
  rw [List.getD_eq_getElem?_getD, List.getElem?_eq_getElem (by omega)]
  rfl
theorem M.ints_app (a b : List Nat) : M.ints (a ++ b) = M.ints a ++ M.ints b := List.map_append
set_option maxHeartbeats 16000000 in
theorem clay_any (A : Option Addr) (n ca B b1 b2 b3 G : Nat) (l : List Int) (hn : l.length = n) (hok : M.ordOk l) (hl : n * 8 ≤ 140737488351232) (hca : n ≤ ca) (N : Nat) :
    ∀ (k f t : Nat) (D R : List Nat) (w : World), 127 - k < N → k ≤ 127 → D.length = f → f ≤ t → t + R.length = n → (∀ x, f ≤ x → x < t → (k : Int) ≤ M.lev l x) → LayAt A n ca B b1 b2 b3 G l w (D ++ List.range' f (t - f) ++ R) →
    Calls Try.prog 19 #[.int .i64 f, .int .i64 t, .int .i64 k, .pointer (some ⟨b1, 0, none⟩), .pointer (some ⟨b2, 0, none⟩), .pointer (some ⟨b3, 0, none⟩)] w fun r w' => r = .returned (.tuple #[]) ∧ LayAt A n ca B b1 b2 b3 G l w' (D ++ M.laid l k f t ++ R) ∧ KpG w.heap.size G w w' := by
  induction N with
  | zero => intro k f t D R w h; omega
  | succ N ih =>
    intro k f t D R w hN hk hD hft hR hlev hat
    have IH := Lib.hid ih
    have HAT := Lib.hid hat
    have HN := Lib.hid hn
    have HD := Lib.hid hD
    have HLEV := Lib.hid hlev
    have HNN := Lib.hid hN
    have HF := Lib.hid (And.intro hft hR)
    have HCA := Lib.hid hca
    have HL := Lib.hid hl
    have k0 : (0 : Int) ≤ k := by omega
    have kk : (k : Int) ≤ 127 := by omega
    have t1 : (t : Int) ≤ 17592186043904 := by omega
    have f1 : (f : Int) ≤ 17592186043904 := by omega
    have tc : (t : Int) ≤ ca := by omega
    clear ih hat hn hD hft hR hlev hN hca hl
    go_enter Try.func19, Try.ntmps19
    go_wp2_with fail
    go_loopw [9, 10] (fun iv ev wr => ∃ (i : Nat) (P : List Nat), iv = .int .i64 i ∧ M.LayTo l k f t i P ∧ LayAt A n ca B b1 b2 b3 G l wr (D ++ P ++ List.range' i (t - i) ++ R) ∧ KpG w.heap.size G w wr) (fun iv _ _ => t + 1 - (intOf iv).toNat)
    case atStart => exact ⟨f, [], rfl, .start HF.out.1, by rw [List.append_nil]; exact HAT.out, .refl _ _ _⟩
    case round =>
      obtain ⟨i, P, rfl, hto, hat, hkp⟩ := hrel
      rename World => wr
      have HTO := Lib.hid hto
      have HA := Lib.hid hat
      have HKP := Lib.hid hkp
      have i0 : (0 : Int) ≤ i := by omega
      have i2 : i ≤ t + 1 := hto.hi
      have i3 : (i : Int) ≤ 17592186043905 := by omega
      by_cases hit : i < t
      · have i1 : (i : Int) < t := by omega
        have i4 : (i : Int) ≤ t := by omega
        have i5 : (i : Int) ≤ ca := by omega
        have htn : t ≤ n := by have := HF.out.2; omega
        obtain ⟨ad, hA, -, -⟩ := hat.rd i _ (List.getElem?_eq_getElem (by rw [HN.out]; omega))
        subst hA
        have hlt : (l.take t).length = t := by rw [List.length_take, HN.out]; omega
        have hcut := RdS.cut (hat.rd.take t) (n := i) (cap := ca) (by rw [hlt]; omega)
        have hrd : RdS .i64 wr wr.heap.size (some (ad.add i)) ((l.take t).drop i) := by
          rw [if_neg (by omega)] at hcut
          exact hcut.more hat.lt
        have hdl : ((l.take t).drop i).length = t - i := by rw [List.length_drop, hlt]
        have HDEEP := Lib.hid (cdeep_any (some (ad.add i)) (ca - i) (t - i) _ k wr hrd hdl (by have := HL.out; omega))
        have HDL := Lib.hid hdl
        have hc1 := hat.c1
        have HTN := Lib.hid htn
        have HI2 := Lib.hid i2
        have HIT := Lib.hid hit
        clear hto hat hkp hlt hcut hrd hdl htn i2 hit
        go_wp2_with fail
        refine HDEEP.out.mono ?_
        rintro r w1 ⟨⟨d, rfl, hd⟩, hb1⟩
        have HD2 := Lib.hid hd
        have hat1 := HA.out.same hb1
        have HA1 := Lib.hid hat1
        have HKP1 := Lib.hid (HKP.out.trans (KpG.of_below (G := G) hb1 (Nat.le_refl _)) HKP.out.size)
        have d0 : (0 : Int) ≤ d := by omega
        have hdi : d ≤ t - i := by rw [← HDL.out]; exact hd.le
        have HDI := Lib.hid hdi
        obtain ⟨e, he⟩ : ∃ e : Nat, i + d = e := ⟨_, rfl⟩
        have he1 : (i : Int) + d = e := by omega
        have HE := Lib.hid he
        have e0 : (0 : Int) ≤ e := by omega
        have e1 : (e : Int) ≤ 17592186043904 := by have := HIT.out; omega
        have hlev2 : ∀ x, i ≤ x → x < e → (k : Int) < M.lev l x := fun x h1 h2 => by
          have hx := M.lev_get (l := l) (t := t) (i := i) (j := x - i) (by have := HIT.out; omega) (by rw [HN.out]; exact HTN.out)
          have := HD2.out.all (x - i) _ (by omega) hx
          rw [show i + (x - i) = x by omega] at this
          exact this
        have hend : e < t → M.lev l e ≤ k := fun h => by
          have hx := M.lev_get (l := l) (t := t) (i := i) (j := d) (by omega) (by rw [HN.out]; exact HTN.out)
          have := HD2.out.ends _ hx
          rw [he] at this
          exact this
        have HLEV2 := Lib.hid hlev2
        have HEND := Lib.hid hend
        clear hd hb1 hdi hlev2 hend hc1
        by_cases hd0 : d = 0
        · have hei : e = i := by omega
          have z1 : ¬ (e : Int) > i := by omega
          have hnext := HTO.out.one HIT.out (by have := HEND.out (by have := HIT.out; omega); rw [hei] at this; exact this)
          have HNEXT := Lib.hid hnext
          have hcont : D ++ P ++ List.range' i (t - i) ++ R = D ++ (P ++ [i]) ++ List.range' (i + 1) (t - (i + 1)) ++ R := by
            rw [M.range_cons HIT.out]
            simp
          have hat2 := hat1
          rw [hcont] at hat2
          have HA2 := Lib.hid hat2
          clear hat1 hat2 hcont hnext hd0 he hei
          go_wp2_with fail
          go_roundw
          case rel => exact ⟨i + 1, P ++ [i], by go_num, HNEXT.out, HA2.out, HKP1.out⟩
          case measure => have := HIT.out; simp [intOf]; omega
        · have z1 : (e : Int) > i := by omega
          have hkl : k < 127 := by
            have h1 := HLEV2.out i (Nat.le_refl _) (by omega)
            have h2 := (M.lev_ok hok i).2
            omega
          obtain ⟨q, hq⟩ : ∃ q : Nat, k + 1 = q := ⟨_, rfl⟩
          have hq1 : (k : Int) + 1 = q := by omega
          have hc2 := hat1.c2
          have hpl : D.length + P.length = i := by rw [HD.out]; exact HTO.out.at_ HIT.out
          have het : e ≤ t := by have := HDI.out; have := HIT.out; have := HE.out; omega
          have hcont : D ++ P ++ List.range' i (t - i) ++ R = D ++ P ++ List.range' i (e - i) ++ (List.range' e (t - e) ++ R) := by
            rw [M.range_cut (by omega) het]
            simp
          rw [hcont] at hat1
          have HIH := Lib.hid (IH.out q i e (D ++ P) (List.range' e (t - e) ++ R) w1 (by have := HNN.out; omega) (by omega) (by rw [List.length_append]; exact hpl) (by omega) (by rw [List.length_append, List.length_range']; have := HF.out.2; omega) (fun x h1 h2 => by have := HLEV2.out x h1 h2; omega) hat1)
          obtain ⟨P', hP, hPe⟩ := HTO.out.more (by omega : i < e) het hkl HLEV2.out HEND.out
          rw [hq] at hPe
          have HP := Lib.hid (And.intro hP hPe)
          have e2 : (e : Int) + 1 ≤ 17592186043905 := by omega
          have HZ := Lib.hid (And.intro het z1)
          clear hat1 hcont hpl het hd0 he hq hkl hP hPe
          go_wp2_with fail
          refine HIH.out.mono ?_
          rintro r w2 ⟨rfl, hat2, hkp2⟩
          have HKP2 := Lib.hid (HKP1.out.trans hkp2 HKP1.out.size)
          have hcont : D ++ P ++ M.laid l q i e ++ (List.range' e (t - e) ++ R) = D ++ P' ++ List.range' (e + 1) (t - (e + 1)) ++ R := by
            have := HP.out.2
            rw [List.append_assoc D P', ← this]
            simp
          rw [hcont] at hat2
          have HA2 := Lib.hid hat2
          clear hat2 hkp2 hcont
          go_wp2_with fail
          go_roundw
          case rel => exact ⟨e + 1, P', by go_num, HP.out.1, HA2.out, HKP2.out⟩
          case measure => have := HIT.out; have := HZ.out; simp [intOf]; omega
      · have i1 : ¬ (i : Int) < t := by omega
        have hdone := hto.done (by omega)
        rw [show t - i = 0 by omega, List.range'_zero, List.append_nil, ← hdone] at hat
        by_cases hk0 : k = 0
        · have k1 : ¬ (k : Int) > 0 := by omega
          have hlaid : M.laid l k f t = M.above l k f t := by unfold M.laid; rw [if_pos hk0]
          rw [← hlaid] at hat
          have HA2 := Lib.hid hat
          clear hat hto hkp hdone hlaid hk0
          go_wp2_with fail
          go_end0
          exact ⟨rfl, by rw [← List.append_assoc]; exact HA2.out, HKP.out⟩
        · have k1 : (k : Int) > 0 := by omega
          have hlaid : M.laid l k f t = (M.above l k f t).reverse := by unfold M.laid; rw [if_neg hk0]
          have hc3 := hat.c3
          have hbl := hat.bl
          have htn : t ≤ n := by have := HF.out.2; omega
          have f2 : (f : Int) ≤ t := by have := HF.out.1; omega
          have t2 : (t : Int) ≤ n := by omega
          have tn : (t : Int) ≤ n := by omega
          have hA0 : (M.above l k f t).length = t - f := M.above_len
          have HAB := Lib.hid hat
          have hlen : f + (t - f) ≤ (M.ints (D ++ M.above l k f t ++ R)).length := by
            rw [M.ints_len, List.length_append, List.length_append, hA0, HD.out]
            omega
          have hrev := crev_any ⟨G, f, none⟩ G f (t - f) (n - f) _ wr hbl rfl hlen (by have := HL.out; omega)
          have hseg : M.seg (M.ints (D ++ M.above l k f t ++ R)) f (f + (t - f)) = M.ints (D ++ M.laid l k f t ++ R) := by
            have := M.seg_ints _ D (M.above l k f t) R rfl
            rw [HD.out, hA0] at this
            rw [this, hlaid]
          have hrev0 : n = f → Calls Try.prog 21 #[.slice (some ⟨G, 0, none⟩) (t - f) 0] wr fun r w' => r = .returned (.tuple #[]) ∧ BlockAt w' G 3 (M.ints (D ++ M.laid l k f t ++ R)) ∧ Turned wr w' G := fun e => by
            have hz : t - f = 0 := by omega
            have h0 := crev_any ⟨G, 0, none⟩ G 0 0 0 _ wr hbl rfl (Nat.zero_le _) (by omega)
            have h1 : M.seg (M.ints (D ++ M.above l k f t ++ R)) 0 (0 + 0) = M.ints (D ++ M.laid l k f t ++ R) := by
              rw [← hseg, hz]
              unfold M.seg
              simp
            rw [h1] at h0
            rw [hz]
            exact h0
          rw [hseg] at hrev
          have HREV := Lib.hid hrev
          have HREV0 := Lib.hid hrev0
          clear hat hto hkp hdone hlaid hk0 hbl hA0 hseg hrev hrev0 htn hlen
          go_wp2_with fail
          · refine (HREV0.out (by assumption)).mono ?_
            rintro r w2 ⟨rfl, hb2, ht2⟩
            have hk2 := KpG.of_turned (n := wr.heap.size) ht2
            have HA2 := Lib.hid (HAB.out.keep hk2 hb2)
            have HK2 := Lib.hid (HKP.out.trans hk2 HKP.out.size)
            clear hb2 ht2 hk2
            go_wp2_with fail
            go_end0
            exact ⟨rfl, by first | exact HA2.out | (rw [← List.append_assoc]; exact HA2.out), HK2.out⟩
          · refine HREV.out.mono ?_
            rintro r w2 ⟨rfl, hb2, ht2⟩
            have hk2 := KpG.of_turned (n := wr.heap.size) ht2
            have HA2 := Lib.hid (HAB.out.keep hk2 hb2)
            have HK2 := Lib.hid (HKP.out.trans hk2 HKP.out.size)
            clear hb2 ht2 hk2
            go_wp2_with fail
            go_end0
            exact ⟨rfl, by first | exact HA2.out | (rw [← List.append_assoc]; exact HA2.out), HK2.out⟩
end Go.Proofs.Ytahjkndphkpieaa
