/- The contract of package bracket's Pairs. Conditions: the slices read as lists of at most 2^43, within their capacities. -/
/- A slice of classes copied into a block of one's own, of whatever length; and what a pair becomes, told in two ways. No function of the program is walked here. -/
import Derived.Test.YtjlfgojblimobaaGreatA27
import Derived.Laws.CopyOwn
section
namespace Go.Proofs.YtjlfgojblimobaaGreat.S11
open Go.RowKit Go.Shelf
attribute [local go_sem] Oper.semAt_some
set_option maxRecDepth 100000

set_option maxHeartbeats 16000000 in
theorem cpairs_big (A B : Option Addr) (ca cb n m : Nat) (l : List Int) (ms : List (Int × Int)) (w : World) (hr : RdS .i64 w w.heap.size A l) (hn : l.length = n) (hl : n ≤ 17592186044416) (hr2 : RdT w w.heap.size B ms) (hm : ms.length = m) (hl2 : m ≤ 8796093022208) :
    Calls Tryz.prog 76 #[.slice A n ca, .slice B m cb] w (OutT 96 (M.prs l ms) w) := by
  obtain ⟨i0, hi0, hz0, hz1, hz2⟩ := info_parts Tryz.infoInt2
  obtain ⟨j1, hj1, hy0, hy1, hy2⟩ := info_parts Tryz.infoArr2
  refine (callsIn_wide (n := 9)).1 ?_
  refine callsIn_of_wp_marks Tryz.func76 rfl trivial ?_ rfl
  simp only [Tryz.ntmps76, List.size_toArray, List.length_cons, List.length_nil, Nat.reduceAdd, Nat.reduceSub, Array.replicate_succ, Array.replicate_zero, List.push_toArray, List.append_toArray, List.nil_append, List.cons_append]
  have HR := Lib.hid hr
  have HR2 := Lib.hid hr2
  have HN := Lib.hid hn
  have HM := Lib.hid hm
  obtain ⟨R, hR⟩ : ∃ R, M.cgo (M.kd l ms) (M.mid ms) n 0 [] [] = R := ⟨_, rfl⟩
  have hRp : R.Perm (M.prs l ms) := by
    have := M.cprs_perm (l := l) (ms := ms)
    rw [hn, hR] at this
    exact this
  have HRP := Lib.hid hRp
  have HRR := Lib.hid hR
  obtain ⟨t, ht⟩ : ∃ t, min n m = t := ⟨_, rfl⟩
  have htn : t ≤ n := by omega
  have htm : t ≤ m := by omega
  have HT := Lib.hid (show t = n ∨ t = m by omega)
  have hmin : min (n : Int) (m : Int) = (t : Int) := by omega
  have ht1 : (t : Int) ≤ 8796093022208 := by omega
  have hn1 : (n : Int) ≤ 17592186044416 := by omega
  have hm1 : (m : Int) ≤ 8796093022208 := by omega
  have hn0 : (0 : Int) ≤ n := by omega
  have hm0 : (0 : Int) ≤ m := by omega
  clear hr hr2 hn hm hR hRp ht
  gi_wp2
  refine wpIn_scope_wide ?_
  gi_wp2
  refine wpIn_label ?_
  gi_wp2
  rename_i K hK
  have HK := Lib.hid hK
  clear hK
  have bM := ((Boxed.new w 29 (.slice B m cb)).alloc (.cells #[.slice none 0 0] 94)).alloc (.cells #[.slice none 0 0] 25)
  have bP := (Boxed.new (w.alloc (.cells #[.slice B m cb] 29)) 94 (.slice none 0 0)).alloc (.cells #[.slice none 0 0] 25)
  have bW := Boxed.new ((w.alloc (.cells #[.slice B m cb] 29)).alloc (.cells #[.slice none 0 0] 94)) 25 (.slice none 0 0)
  rw [World.size_alloc] at bP bW
  rw [World.size_alloc] at bW
  obtain ⟨w3, hw3⟩ : ∃ X, ((w.alloc (.cells #[.slice B m cb] 29)).alloc (.cells #[.slice none 0 0] 94)).alloc (.cells #[.slice none 0 0] 25) = X := ⟨_, rfl⟩
  have hs3 : w3.heap.size = w.heap.size + 3 := by rw [← hw3]; simp
  have hb3 : Below w.heap.size w w3 := by rw [← hw3]; exact ((Below.refl _ w).alloc (Nat.le_refl _) _).alloc (by simp) _ |>.alloc (by simp; omega) _
  rw [hw3] at bM bP bW ⊢
  have hpb : PB w B cb m w3 [] [] (.slice none 0 0) (.slice none 0 0) := ⟨hb3, bM, bP, bW, OwnT.nil _ _ _, World.ownsRow_nil _ _ _ _, by omega⟩
  have HPB := Lib.hid hpb
  clear hw3 hs3 hb3 bM bP bW hpb
  have HFIN : Hid (∀ (wr : World) (v2 : Value) (v1 : Value) (st : List Nat) (ds : List Deferred) (i : Int) (u7 u16 u17 u18 u19 u20 u21 u22 u23 u24 u25 u26 u27 u28 u29 u30 u31 u32 u33 u34 u35 u36 u37 u38 u39 u62 : Value), PB w B cb m wr R st v1 v2 → Dfr wr w.heap.size ds → K { tmps := #[.slice A n ca, .slice B m cb, undef, .pointer (some ⟨w.heap.size, 0, none⟩), .slice none 0 0, .pointer (some ⟨w.heap.size + 1, 0, none⟩), .pointer (some ⟨w.heap.size + 2, 0, none⟩), u7, undef, undef, .slice A n ca, .int .i64 n, .slice B m cb, .int .i64 m, .int .i64 t, .int .i64 i, u16, u17, u18, u19, u20, u21, u22, u23, u24, u25, u26, u27, u28, u29, u30, u31, u32, u33, u34, u35, u36, u37, u38, u39, undef, undef, undef, undef, undef, undef, undef, undef, undef, undef, undef, undef, undef, undef, undef, undef, undef, undef, undef, undef, undef, undef, u62, undef, undef, undef], defers := ds } wr) := by
    refine Lib.hid ?_
    intro wr v2 v1 st ds i u7 u16 u17 u18 u19 u20 u21 u22 u23 u24 u25 u26 u27 u28 u29 u30 u31 u32 u33 u34 u35 u36 u37 u38 u39 u62 hp hd
    refine HK.out _ _ ?_
    have cP := hp.boxP.cell
    have hRl : R.length ≤ 17592186044416 := by
      have h1 := HRP.out.length_eq
      have h2 := M.prs_len (l := l) (ms := ms)
      rw [HN.out] at h2
      omega
    have HP := Lib.hid hp
    have HD := Lib.hid hd
    have HCS := Lib.hid (csort_any (w.heap.size + 3) v1 R wr hp.rp hRl)
    clear hp hd hRl
    gi_wp2_with fail
    refine ⟨trivial, ?_⟩
    refine (callsIn_wide.2 HCS.out).mono ?_
    rintro e w' ⟨rfl, acc', h1, h2, h3, k1, k2, k3, k4, k5⟩
    have bP : Boxed w' (w.heap.size + 1) 94 v1 := (k5 _ HP.out.boxP.lt (HP.out.row1 (by omega))).trans HP.out.boxP
    have cP' := bP.cell
    have hbel : Below w.heap.size w w' := HP.out.below.trans ⟨k1, k2, k3, k4, fun b hb => k5 b (by have := HP.out.below.size; omega) (HP.out.row1 (by omega))⟩
    have hd' : Dfr w' w.heap.size ds := HD.out.keep fun k o hk ho => by
      refine (k5 k (Array.getElem?_eq_some_iff.1 hk).1 fun e => ?_).trans hk
      obtain ⟨-, cs', m', h⟩ := own_type HP.out.rp e
      rw [h] at hk
      injection hk with hk
      rw [← hk] at ho
      cases ho
    have hacc : acc' = M.prs l ms := M.perm_rise (h1.trans HRP.out) M.prs_rise h2
    rw [hacc] at h3
    have H3 := Lib.hid h3
    have HBL := Lib.hid hbel
    have HD' := Lib.hid hd'
    clear h1 h2 h3 k1 k2 k3 k4 k5 hbel hd' hacc bP cP
    gi_wp2_with fail
    refine dfr_leaves HD'.out fun W' hs => ?_
    refine ⟨_, results_tmp rfl _ _ _, v1, rfl, ?_, HBL.out.trans hs.below⟩
    exact own_still (own_base H3.out (by omega)) hs
  refine wpIn_loop (fun a' wr => ∃ (i : Nat) (st : List Nat) (acc : List (Int × Int)) (v1 v2 : Value) (ds : List Deferred) (v15 u7 u16 u17 u18 u19 u20 u21 u22 u23 u24 u25 u26 u27 u28 u29 u30 u31 u32 u33 u34 u35 u36 u37 u38 u39 u62 : Value), a' = { tmps := #[.slice A n ca, .slice B m cb, undef, .pointer (some ⟨w.heap.size, 0, none⟩), .slice none 0 0, .pointer (some ⟨w.heap.size + 1, 0, none⟩), .pointer (some ⟨w.heap.size + 2, 0, none⟩), u7, undef, undef, .slice A n ca, .int .i64 n, .slice B m cb, .int .i64 m, .int .i64 t, v15, u16, u17, u18, u19, u20, u21, u22, u23, u24, u25, u26, u27, u28, u29, u30, u31, u32, u33, u34, u35, u36, u37, u38, u39, undef, undef, undef, undef, undef, undef, undef, undef, undef, undef, undef, undef, undef, undef, undef, undef, undef, undef, undef, undef, undef, undef, u62, undef, undef, undef], defers := ds } ∧ v15 = .int .i64 i ∧ i ≤ t ∧ acc.length ≤ i ∧ st.length ≤ 63 ∧ (∀ z ∈ st, z < i) ∧ PB w B cb m wr acc st v1 v2 ∧ Dfr wr w.heap.size ds ∧ M.cgo (M.kd l ms) (M.mid ms) (n - i) i st acc = R) (fun a' _ => t - (intOf (a'.tmps.getD 15 undef)).toNat) ?start ?round
  case start => exact ⟨0, [], [], _, _, [], _, _, _, _, _, _, _, _, _, _, _, _, _, _, _, _, _, _, _, _, _, _, _, _, _, _, _, rfl, rfl, Nat.zero_le _, Nat.le_refl _, Nat.zero_le _, fun z h => (by cases h), HPB.out, trivial, HRR.out⟩
  case round =>
    rintro a' wr ⟨i, st, acc, v1, v2, ds, v15, u7, u16, u17, u18, u19, u20, u21, u22, u23, u24, u25, u26, u27, u28, u29, u30, u31, u32, u33, u34, u35, u36, u37, u38, u39, u62, rfl, rfl, hi, hacc, h63, hst, hp, hd, hgo⟩
    have HP := Lib.hid hp
    have HD := Lib.hid hd
    have HST := Lib.hid hst
    have HGO := Lib.hid hgo
    have i0' : (0 : Int) ≤ i := by omega
    clear hp hd hst hgo
    by_cases hlt : i < t
    · have i1 : (i : Int) < t := by omega
      have i2 : (i : Int) < n := by omega
      have i3 : (i : Int) < m := by omega
      obtain ⟨W1, hW1⟩ : ∃ X, wr.alloc (.cells #[.int .i64 i] 3) = X := ⟨_, rfl⟩
      have hb1 : Below wr.heap.size wr W1 := by rw [← hW1]; exact (Below.refl _ wr).alloc (Nat.le_refl _) _
      have hp1 := HP.out.later hb1
      have hd1 := HD.out.below hb1
      have cI : W1.cell? ⟨wr.heap.size, 0, none⟩ = some (.int .i64 i) := by rw [← hW1]; simp [go_sem]
      have cM := hp1.boxM.cell
      obtain ⟨ad, c, rfl, hcx, hc, -⟩ := rd_at HR.out hp1.below (by rw [HN.out]; omega : i < l.length)
      obtain ⟨bd, a, b, rfl, hm0', hm1', hab, -⟩ := two_at HR2.out hp1.below (by rw [HM.out]; omega : i < ms.length)
      obtain ⟨z, hz⟩ : ∃ z, (if c = 13 then a else 0) = z := ⟨_, rfl⟩
      have HKC := Lib.hid (fun W => ckind_any c a b W)
      rw [hz] at HKC
      have HC := Lib.hid hc
      have HAB := Lib.hid hab
      have HZ := Lib.hid hz
      have HP1 := Lib.hid hp1
      have HD1 := Lib.hid hd1
      have HB1 := Lib.hid hb1
      clear hc hab hz hp1 hd1 hb1
      gi_wp2_with fail
      refine wpIn_wide.2 ?_
      go_still_tail 8, (by kernel_rfl)
      change wpList _ _ _ _ _ W1.drew
      go_wp2_with fail
      refine (HKC.out _).mono ?_
      rintro e w5 ⟨rfl, hb5⟩
      have hb15 : Below W1.heap.size W1 w5 := ⟨hb5.os, hb5.tape, hb5.output, hb5.size, hb5.block⟩
      have hs1 : W1.heap.size = wr.heap.size + 1 := by rw [← hW1]; simp
      have cI5 := (hb15.cell (p := ⟨wr.heap.size, 0, none⟩) (by show wr.heap.size < W1.heap.size; omega)).trans cI
      have hp5 := HP1.out.later hb15
      have HD5 := Lib.hid (HD1.out.below hb15)
      have HB15 := Lib.hid hb15
      have HS1 := Lib.hid hs1
      have cM5 := hp5.boxM.cell
      have cW5 := hp5.boxW.cell
      obtain ⟨A2, c2, rfl, hrd2, hc2, hA2⟩ := hp5.reads
      obtain ⟨L, hL⟩ : ∃ L, st.length = L := ⟨_, rfl⟩
      obtain ⟨mm, hmm⟩ : ∃ mm, n - i = mm + 1 := ⟨n - i - 1, by omega⟩
      have hmm2 : mm = n - (i + 1) := by omega
      have hgo := HGO.out
      rw [hmm] at hgo
      have hkd : M.kd l ms i = if z = 1 ∨ z = 2 then z else 0 := by
        unfold M.kd
        rw [HC.out, HAB.out, ← HZ.out]
        by_cases h : c = 13
        · subst h
          rfl
        · rw [if_neg (fun e => h (by injection e)), if_neg h]
          rfl
      have hgo2 : (if M.kd l ms i = 1 then (if st.length = 63 then acc else M.cgo (M.kd l ms) (M.mid ms) mm (i + 1) (i :: st) acc)
        else if M.kd l ms i = 2 then (match st.dropWhile (fun p => decide (M.mid ms p ≠ M.mid ms i)) with | [] => M.cgo (M.kd l ms) (M.mid ms) mm (i + 1) st acc | p :: r => M.cgo (M.kd l ms) (M.mid ms) mm (i + 1) r (acc ++ [((p : Int), (i : Int))]))
        else M.cgo (M.kd l ms) (M.mid ms) mm (i + 1) st acc) = R := hgo
      rw [hkd, hL, hmm2] at hgo2
      rw [hL] at cW5 hc2 hA2 h63
      have hp5' := hp5
      rw [hL] at hp5'
      have HP5 := Lib.hid hp5'
      have hsz5 := hp5.size
      have hLi : (L : Int) ≤ 63 := by omega
      have hL0 : (0 : Int) ≤ L := by omega
      have hmeas : t - (i + 1) < t - i := by omega
      have HRD2 := Lib.hid hrd2
      have HA2 := Lib.hid hA2
      have HL := Lib.hid hL
      clear hp5 hp5' hb5 hb15 hs1 cI cM hmm hmm2 hgo hkd hrd2 hA2 hm0' hm1' hcx hL
      rcases (show z = 1 ∨ z = 2 ∨ (z ≠ 1 ∧ z ≠ 2) by omega) with rfl | rfl | ⟨hz1', hz2'⟩
      · rw [if_pos (show (if (1 : Int) = 1 ∨ (1 : Int) = 2 then (1 : Int) else 0) = 1 by decide)] at hgo2
        by_cases hL63 : L = 63
        · rw [if_pos hL63] at hgo2
          have HPR := Lib.hid (show PB w (some bd) cb m w5 R st v1 (.slice A2 L c2) by rw [← hgo2]; exact HP5.out)
          have b63 : ((L : Int) == 63) = true := by simp; omega
          clear hgo2 hL63
          go_wp2_with fail
          gi_wp2_with fail
          exact HFIN.out _ _ _ _ _ _ _ _ _ _ _ _ _ _ _ _ _ _ _ _ _ _ _ _ _ _ _ _ _ _ _ _ HPR.out HD5.out
        · rw [if_neg hL63] at hgo2
          have HG2 := Lib.hid hgo2
          have b63 : ((L : Int) == 63) = false := by simp; omega
          have hL62 : L ≤ 62 := by omega
          have hrw := HP5.out.rw
          rw [HL.out] at hrw
          have HRW := Lib.hid hrw
          clear hgo2 hL63 hrw
          go_wp2_with fail
          gi_wp2_with (gi_at_builtin; refine wpListIn_append_own _ rfl _ _ 25 rfl (w.heap.size + 3) 3 i0 (.int .i64 0) 1 8 Tryz.underlying25 hi0 hz0 hz1 hz2 rfl (by decide) _ _ _ rfl (World.ownsRow.alloc HRW.out _) ⟨w5.heap.size, 0, none⟩ 1 1 [.int .i64 i] rfl rfl (cell_one_new _ _ _) (by simp [Value.oneCell']) (by unfold maxLen; omega) (by omega) (by simp; omega) ?_; intro v' w6 hown6 hgrow6 _; obtain ⟨g', cap', rfl⟩ := ownsRow_succ hown6; have hB6 := grown_block hgrow6 HP5.out.boxW (HP5.out.row2 (by omega)); have hc6 := Boxed.cell hB6; have hf6 := Boxed.frozen hB6; have HOWN6 := Lib.hid hown6; have HGR6 := Lib.hid hgrow6; clear hown6 hgrow6 hB6)
          have hp6 := PB.push (o := i) HP5.out (by rw [HL.out]; exact HOWN6.out) HGR6.out
          have hd6 : Dfr (w6.setCell ⟨w.heap.size + 2, 0, none⟩ (.slice (some ⟨g', 0, none⟩) (L + 1) cap')) w.heap.size ds := HD5.out.keep (nc_append HRW.out HGR6.out HP5.out.boxW)
          rw [HL.out] at hp6
          refine ⟨⟨i + 1, i :: st, acc, _, _, ds, _, _, _, _, _, _, _, _, _, _, _, _, _, _, _, _, _, _, _, _, _, _, _, _, _, _, _, rfl, by go_num, by omega, by omega, by rw [List.length_cons, HL.out]; omega, fun z hz => ?_, hp6, hd6, HG2.out⟩, ?_⟩
          · rcases List.mem_cons.1 hz with rfl | hz
            · omega
            · have := HST.out z hz
              omega
          · simp [intOf]
            omega
      · rw [if_neg (show ¬ (if (2 : Int) = 1 ∨ (2 : Int) = 2 then (2 : Int) else 0) = 1 by decide), if_pos (show (if (2 : Int) = 1 ∨ (2 : Int) = 2 then (2 : Int) else 0) = 2 by decide)] at hgo2
        have HG2 := Lib.hid hgo2
        clear hgo2
        go_wp2_with fail
        gi_wp2_with fail
        refine ⟨trivial, ?_⟩
        refine (callsIn_wide.2 (ibackward_any A2 c2 L w5)).mono ?_
        rintro e w6 ⟨rfl, hw6⟩
        have bS : Boxed w6 w5.heap.size 25 (.slice A2 L c2) := by rw [hw6]; exact Boxed.new _ _ _
        have hb6 : Below w5.heap.size w5 w6 := by rw [hw6]; exact (Below.refl _ _).alloc (Nat.le_refl _) _
        have hs6 : w6.heap.size = w5.heap.size + 1 := by rw [hw6]; simp
        have hp6 := HP5.out.later hb6
        have hd6 := HD5.out.below hb6
        have HP6 := Lib.hid hp6
        have HD6 := Lib.hid hd6
        have HS6 := Lib.hid hs6
        have HB6 := Lib.hid hb6
        have HBS := Lib.hid bS
        clear hw6 bS hb6 hs6 hp6 hd6
        gi_wp2_with fail
        have hlen6 : (M.ints st).length = L := by rw [M.ints_len, HL.out]
        refine range_mine (by omega) (gf := 137) (lb := #[.pointer (some ⟨w5.heap.size, 0, none⟩)]) rfl (enters_of Tryz.func137 (by kernel_rfl) rfl) mineN_not
          (iback_gives 8 w5.heap.size w6.heap.size A2 c2 L (M.ints st) w6 (by omega) HBS.out.cell (by have := HS6.out; omega) ((HRD2.out.below HB6.out).more HB6.out.size) hlen6 (by omega) (Nat.le_refl _)) Below.trans (keeps_below (Nat.le_refl _)) (fun _ => rfl)
          (fun (pre : List (Nat × Int)) (W : World) => (∀ e ∈ pre, ∀ z : Nat, e.2 = (z : Int) → M.mid ms z ≠ M.mid ms i) ∧ Below w6.heap.size w6 W)
          (fun (c : Code) (_ : List (Nat × Int)) (W : World) => c = .exit 1 ∧ ∃ (aa r : List Nat) (p : Nat) (v1' v2' : Value), st = aa ++ p :: r ∧ (∀ z ∈ aa, M.mid ms z ≠ M.mid ms i) ∧ M.mid ms p = M.mid ms i ∧ PB w (some bd) cb m W (acc ++ [((p : Int), (i : Int))]) r v1' v2' ∧ Nc w6 W)
          (fun _ _ _ h hs => ⟨h.1, h.2.trans hs.below⟩) (fun _ _ _ _ ⟨hc, aa, r, p, v1', v2', g1, g2, g3, g4, g5⟩ hs => ⟨hc, aa, r, p, v1', v2', g1, g2, g3, g4.still hs (by have := HS6.out; omega), g5.still hs (Nat.le_refl _)⟩)
          ⟨fun e h => (by cases h), Below.refl _ _⟩
          (fun x => { tmps := #[.slice (some ad) n ca, .slice (some bd) m cb, undef, .pointer (some ⟨w.heap.size, 0, none⟩), .slice none 0 0, .pointer (some ⟨w.heap.size + 1, 0, none⟩), .pointer (some ⟨w.heap.size + 2, 0, none⟩), .pointer (some ⟨wr.heap.size, 0, none⟩), .int .i64 x.1, .int .i64 x.2, .slice (some ad) n ca, .int .i64 n, .slice (some bd) m cb, .int .i64 m, .int .i64 t, .int .i64 i, .bool true, .int .i64 i, .slice (some ad) n ca, .int .i64 i, .pointer (some (ad.add i)), .int .i64 c, .slice (some bd) m cb, .int .i64 i, .pointer (some (bd.add (i * 2))), .agg #[.int .i64 a, .int .i64 b], .int .i64 2, .bool false, .bool false, u29, u30, u31, u32, u33, u34, u35, .bool true, .bool true, .slice A2 L c2, .func (.func 137) #[] #[.pointer (some ⟨w5.heap.size, 0, none⟩)], .int .i64 x.1, .int .i64 x.2, undef, undef, undef, undef, undef, undef, undef, undef, undef, undef, undef, undef, undef, undef, undef, undef, undef, undef, undef, undef, u62, undef, undef, undef], defers := [] }) ?assign ?body ?done ?stop
        case assign =>
          intro l x W K hK
          gi_wp2
          exact hK
        case body =>
          rintro Lp pre ⟨xk, xv⟩ W ⟨hall, hB⟩ hlt2 ⟨k0, hk0, hok⟩
          obtain ⟨aa, p, r, hstp, hrl, hx2, haa⟩ := M.bks_find (by rw [HL.out]; exact hok)
          dsimp only at hrl hx2
          subst hx2
          have HRL := Lib.hid hrl
          clear hrl
          obtain ⟨g2, rfl⟩ := HA2.out (by rw [← HL.out, hstp]; simp; omega)
          have hxk : xk + 1 ≤ L := by rw [← HL.out, hstp, List.length_append, List.length_cons, HRL.out]; omega
          have hpi : p < i := HST.out p (by rw [hstp]; simp)
          have hpW := HP6.out.later hB
          obtain ⟨bd1, a1, b1, hbd, c0, c1, hab1, -⟩ := two_at HR2.out hpW.below (by rw [HM.out]; omega : p < ms.length)
          injection hbd with hbd
          subst hbd
          obtain ⟨bd2, a2, b2, hbd, d0, d1, hab2, -⟩ := two_at HR2.out hpW.below (by rw [HM.out]; omega : i < ms.length)
          injection hbd with hbd
          subst hbd
          rw [HAB.out] at hab2
          injection hab2 with hab2
          injection hab2 with e1 e2
          subst e1 e2
          have hmi : M.mid ms i = b := by unfold M.mid; rw [List.getD_eq_getElem?_getD, HAB.out]; rfl
          have hmp : M.mid ms p = b1 := by unfold M.mid; rw [List.getD_eq_getElem?_getD, hab1]; rfl
          have cI6 := (hB.cell (p := ⟨wr.heap.size, 0, none⟩) (by show wr.heap.size < w6.heap.size; have := HS6.out; have := HB15.out.size; have := HS1.out; omega)).trans ((HB6.out.cell (p := ⟨wr.heap.size, 0, none⟩) (by show wr.heap.size < w5.heap.size; have := HB15.out.size; have := HS1.out; omega)).trans cI5)
          have cM6 := hpW.boxM.cell
          have y0 := fun d os => cell_regrown cM6 d os
          have y1 := fun d os => cell_regrown cI6 d os
          have y2 := fun d os => cell_regrown c1 d os
          have y3 := fun d os => cell_regrown d1 d os
          have p0 : (0 : Int) ≤ p := by omega
          have p1 : (p : Int) < m := by omega
          have HPW := Lib.hid hpW
          have HALL := Lib.hid hall
          have HB := Lib.hid hB
          have HSTP := Lib.hid hstp
          have HAA := Lib.hid haa
          have HMI := Lib.hid hmi
          have HMP := Lib.hid hmp
          clear hpW hall hB hok hstp haa hab1 hmi hmp hlt2 cM6 cI6 c0 c1 d0 d1
          by_cases hbb : b1 = b
          · have bb : (b1 != b) = false := by simp [hbb]
            have HBB := Lib.hid hbb
            clear hbb
            gi_wp2_with fail
            refine region_quiet (by kernel_rfl) (by kernel_rfl) (by kernel_rfl) ?_
            repeat (go_big_quiet_step (fail))
            refine wpQuiet_nil ?_
            intro _ hw'
            obtain ⟨⟨dq, osq⟩, hw4⟩ := hw'
            subst hw4
            have hbX := below_regrown W dq osq
            have cIX := y1 dq osq
            obtain ⟨X, hX⟩ : ∃ X, Sort.grow (redrawn W dq) osq = X := ⟨_, rfl⟩
            rw [hX] at hbX cIX
            dsimp only
            rw [hX]
            have hpX := HPW.out.later hbX
            have hncX : Nc w6 X := (Nc.of_below HB.out).trans (Nc.of_below hbX)
            have HPX := Lib.hid hpX
            have HNX := Lib.hid hncX
            have HBX := Lib.hid hbX
            clear hX hpX hncX hbX y0 y1 y2 y3
            rename_i Kf hKf
            refine hKf _ _ ?_
            clear hKf
            have cP7 := HPX.out.boxP.cell
            have hrp := HPX.out.rp
            obtain ⟨La, hLa⟩ : ∃ L, acc.length = L := ⟨_, rfl⟩
            unfold OwnT at hrp
            rw [hLa] at hrp hacc
            have HRP1 := Lib.hid hrp
            have HLA := Lib.hid hLa
            have hszX := HPX.out.size
            have hxk0 : (0 : Int) ≤ xk := by omega
            have hxk1 : (xk : Int) ≤ L := by omega
            have hxk2 : (xk : Int) ≤ c2 := by omega
            clear hrp hLa
            gi_wp2_with (gi_at_builtin; refine wpListIn_append_own _ rfl _ _ 94 rfl (w.heap.size + 3) 96 j1 (.agg #[.int .i64 0, .int .i64 0]) 2 16 Tryz.underlying94 hj1 hy0 hy1 hy2 rfl (by decide) _ _ _ rfl (World.ownsRow.alloc HRP1.out _) ⟨X.heap.size, 0, none⟩ 1 1 [.int .i64 p, .int .i64 i] rfl rfl (two_new _ _ _ _) two_one (by unfold maxLen; omega) (by omega) (by simp; omega) ?_; intro v' w7 hown7 hgrow7 _; obtain ⟨g', cap', rfl⟩ := ownsRow_succ hown7; have hB7 := grown_block hgrow7 HPX.out.boxP (HPX.out.row1 (by omega)); have hW7 := grown_block hgrow7 HPX.out.boxW (HPX.out.row1 (by omega)); have hc7 := Boxed.cell hB7; have hf7 := Boxed.frozen hB7; have hcW7 := Boxed.cell hW7; have hfW7 := Boxed.frozen hW7; have HOWN7 := Lib.hid hown7; have HGR7 := Lib.hid hgrow7; clear hown7 hgrow7 hB7 hW7)
            have hpp := PB.pair (a := (p : Int)) (b := (i : Int)) HPX.out (show OwnT w7 (w.heap.size + 3) 96 (.slice (some ⟨g', 0, none⟩) (acc.length + 1) cap') (acc ++ [((p : Int), (i : Int))]) from by rw [HLA.out]; exact OwnT.snoc (by rw [HLA.out]; exact HOWN7.out)) HGR7.out
            rw [HLA.out] at hpp
            have hst' : st = (aa ++ [p]) ++ r := by rw [HSTP.out]; simp
            have hcut := PB.cut (a := aa ++ [p]) (r := r) (g := g2) (c := c2) (by rw [← hst', HL.out]; exact hpp)
            rw [HRL.out] at hcut
            have hn1 := nc_append (u := .slice (some ⟨g', 0, none⟩) (La + 1) cap') HRP1.out HGR7.out HPX.out.boxP
            have hn2 := nc_set (u := .slice (some ⟨g2, 0, none⟩) xk c2) hpp.boxW
            have hsz1 := HGR7.out.size
            have hsz2 := HBX.out.size
            refine ⟨(((Nc.of_below HBX.out).trans (hn1.trans hn2)).keeps (by simp at hsz1; simp [World.setCell]; omega)).from _, rfl, aa, r, p, _, _, HSTP.out, fun z hz => ?_, ?_, hcut, HNX.out.trans (hn1.trans hn2)⟩
            · obtain ⟨e, he1, he2⟩ := HAA.out z hz
              exact HALL.out e he1 z he2
            · rw [HMP.out, HMI.out, HBB.out]
          · have bb : (b1 != b) = true := by simp [hbb]
            have HBB := Lib.hid hbb
            clear hbb
            gi_wp2_with fail
            refine region_quiet (by kernel_rfl) (by kernel_rfl) (by kernel_rfl) ?_
            repeat (go_big_quiet_step (fail))
            refine wpQuiet_nil ?_
            intro _ hw'
            obtain ⟨⟨dq, osq⟩, hw4⟩ := hw'
            subst hw4
            have hbX := below_regrown W dq osq
            have cIX := y1 dq osq
            obtain ⟨X, hX⟩ : ∃ X, Sort.grow (redrawn W dq) osq = X := ⟨_, rfl⟩
            rw [hX] at hbX cIX
            dsimp only
            rw [hX]
            have hpX := HPW.out.later hbX
            have hncX : Nc w6 X := (Nc.of_below HB.out).trans (Nc.of_below hbX)
            have HPX := Lib.hid hpX
            have HNX := Lib.hid hncX
            have HBX := Lib.hid hbX
            clear hX hpX hncX hbX y0 y1 y2 y3
            rename_i Kf hKf
            refine hKf _ _ ?_
            clear hKf
            gi_wp2_with fail
            refine ⟨((Nc.of_below HBX.out).keeps HBX.out.size).from _, HBX.out.mono HB.out.size, fun e he z hz => ?_, HB.out.trans (HBX.out.mono HB.out.size)⟩
            rcases List.mem_append.1 he with he | he
            · exact HALL.out e he z hz
            · obtain rfl := List.mem_singleton.1 he
              obtain rfl : p = z := Int.ofNat_inj.1 hz
              rw [HMP.out, HMI.out]
              exact HBB.out
        case done =>
          rintro D ys W hD hys ⟨hall, hB⟩ hK2
          have HG3 : Hid (M.cgo (M.kd l ms) (M.mid ms) (n - (i + 1)) (i + 1) st acc = R) := by
            have h1 := HG2.out
            rw [M.drop_none fun z hz => ?_] at h1
            · exact h1
            · obtain ⟨e, he1, he2⟩ := M.bks_all hz
              rw [HL.out, ← hys] at he1
              exact hall e he1 z he2
          have hd7 := Dfr.more HD6.out (HD6.out.below hB) (by have := HP6.out.below.size; omega) hD hK2
          have hp7 := HP6.out.later hB
          have HD7 := Lib.hid hd7
          have HP7 := Lib.hid hp7
          clear hall hys hd7 hp7 hB hK2 hD
          gi_wp2_with fail
          refine ⟨⟨i + 1, st, acc, _, _, _, _, _, _, _, _, _, _, _, _, _, _, _, _, _, _, _, _, _, _, _, _, _, _, _, _, _, _, rfl, by go_num, by omega, by omega, by rw [HL.out]; omega, fun z hz => ?_, HP7.out, HD7.out, HG3.out⟩, ?_⟩
          · have := HST.out z hz
            omega
          · simp [intOf]
            omega
        case stop =>
          rintro D c' pre W hD - ⟨rfl, aa, r, p, v1', v2', g1, g2, g3, g4, g5⟩ hK2
          have HG3 : Hid (M.cgo (M.kd l ms) (M.mid ms) (n - (i + 1)) (i + 1) r (acc ++ [((p : Int), (i : Int))]) = R) := by
            have h1 := HG2.out
            rw [g1, M.drop_some g2 g3] at h1
            exact h1
          have hd7 := Dfr.more HD6.out (HD6.out.keep g5) (by have := HP6.out.below.size; omega) hD hK2
          have HD7 := Lib.hid hd7
          have HP7 := Lib.hid g4
          have HR7 := Lib.hid (show r.length ≤ 63 ∧ ∀ z ∈ r, z < i from ⟨by have h1 := HL.out; rw [g1, List.length_append, List.length_cons] at h1; omega, fun z hz => HST.out z (by rw [g1]; simp [hz])⟩)
          clear hd7 g1 g2 g3 g4 g5 hK2 hD
          gi_wp2_with fail
          refine ⟨⟨i + 1, r, acc ++ [((p : Int), (i : Int))], _, _, _, _, _, _, _, _, _, _, _, _, _, _, _, _, _, _, _, _, _, _, _, _, _, _, _, _, _, _, rfl, by go_num, by omega, by rw [List.length_append]; simp; omega, HR7.out.1, fun z hz => ?_, HP7.out, HD7.out, HG3.out⟩, ?_⟩
          · have := HR7.out.2 z hz
            omega
          · simp [intOf]
            omega
      · have e0 : (if z = 1 ∨ z = 2 then z else 0) = 0 := if_neg (by omega)
        rw [e0, if_neg (by decide), if_neg (by decide)] at hgo2
        have HG2 := Lib.hid hgo2
        have b1 : (z == 1) = false := by simp; exact hz1'
        have b2 : (z == 2) = false := by simp; exact hz2'
        clear hgo2 e0 hz1' hz2'
        go_wp2_with fail
        gi_wp2_with fail
        refine ⟨⟨i + 1, st, acc, _, _, ds, _, _, _, _, _, _, _, _, _, _, _, _, _, _, _, _, _, _, _, _, _, _, _, _, _, _, _, rfl, by go_num, by omega, by omega, by rw [HL.out]; omega, fun z hz => ?_, HP5.out, HD5.out, HG2.out⟩, ?_⟩
        · have := HST.out z hz
          omega
        · simp [intOf]
          omega
    · obtain rfl : i = t := by omega
      have i1 : ¬ (i : Int) < (i : Int) := by omega
      have hgo := HGO.out
      have hacc2 : acc = R := by
        rw [← hgo]
        rcases HT.out with e | e
        · rw [e, Nat.sub_self]
          rfl
        · refine (M.cgo_none fun j hj => M.kd_none ?_).symm
          rw [HM.out]
          omega
      have HPR := Lib.hid (show PB w B cb m wr R st v1 v2 by rw [← hacc2]; exact HP.out)
      clear hgo hacc2
      gi_wp2_with fail
      exact HFIN.out _ _ _ _ _ _ _ _ _ _ _ _ _ _ _ _ _ _ _ _ _ _ _ _ _ _ _ _ _ _ _ _ HPR.out HD.out
end Go.Proofs.YtjlfgojblimobaaGreat.S11
end

section
namespace Go.Proofs.YtjlfgojblimobaaGreat.S11
open Go.RowKit
set_option maxRecDepth 100000

def BlockC (w : World) (G : Nat) (l : List Int) : Prop := w.heap[G]? = some (.cells (l.map (Value.int .i64)).toArray 39 (0, 0))
theorem below_row {w W1 : World} {G n : Nat} {cs : Array Value} (h : Below n w W1) (hG : n ≤ G) : Below n w (W1.setRow G cs) := ⟨h.os, h.tape, h.output, by simpa [World.setRow] using h.size, fun k hk => by
  rw [← h.block k hk]
  unfold World.setRow
  simp only
  rw [Array.getElem?_modify, if_neg (by omega)]⟩
theorem copy_any (A : Option Addr) (ca n G : Nat) (l : List Int) (w W1 : World) (Z : Array Value) (hr : RdS .i64 W1 w.heap.size A l) (hn : l.length = n) (hG : w.heap.size ≤ G) (hg : W1.heap[G]? = some (.cells Z 39 (0, 0))) (hZ : Z.size = n) (hZ0 : n = 0 → Z = #[]) (hb : Below w.heap.size w W1) :
    ∃ v W2, (Builtin.copy_ #[22, 22] 3 #[.slice (some ⟨G, 0, none⟩) n n, .slice A n ca]).run Tryz.prog W1 = .ok v W2 ∧ BlockC W2 G l ∧ Below w.heap.size w W2 := by
  by_cases h0 : n = 0
  · subst h0
    obtain rfl : l = [] := List.eq_nil_of_length_eq_zero hn
    refine ⟨_, W1, run_copy_none (P := Tryz.prog) W1 22 22 3 39 (some ⟨G, 0, none⟩) A 0 0 0 ca Tryz.underlying22 (by kernel_rfl) rfl, ?_, hb⟩
    unfold BlockC
    rw [hg, hZ0 rfl]
    rfl
  · obtain ⟨ad, rfl, _⟩ := hr 0 l[0] (List.getElem?_eq_getElem (by omega))
    have hcl : (l.map (Value.int IntKind.i64)).length = n := by simpa using hn
    refine ⟨_, _, run_copy_row (P := Tryz.prog) W1 22 22 3 39 G 0 n n ad n ca Z 39 (l.map (Value.int .i64)) Tryz.underlying22 (by kernel_rfl) hg (by rw [hcl]; exact (Nat.min_self n).symm) (fun j v hj => ?_) (by omega) (fun v hv => ?_), ?_, below_row hb hG⟩
    · rw [List.getElem?_map] at hj
      cases hx : l[j]? with
      | none => rw [hx] at hj; cases hj
      | some y =>
        rw [hx] at hj
        cases hj
        obtain ⟨ad', hA', _, hc'⟩ := hr j y hx
        injection hA' with e
        rw [e]
        exact hc'
    · simp only [List.mem_map] at hv
      obtain ⟨y, _, rfl⟩ := hv
      rfl
    · have := setRow_heap W1 G Z (Z.toList.take 0 ++ l.map (Value.int .i64) ++ Z.toList.drop (0 + (l.map (Value.int IntKind.i64)).length)).toArray 39 _ hg
      unfold BlockC
      rw [this]
      have hz : Z.toList.length = n := by simpa using hZ
      rw [hcl, List.take_zero, List.nil_append, List.drop_of_length_le (by omega), List.append_nil]
theorem BlockC.own {w : World} {G n base : Nat} {l : List Int} (h : BlockC w G l) (hn : l.length = n) (hm : n ≤ maxLen) (hG : base ≤ G) : w.ownsRow base 39 1 (.slice (some ⟨G, 0, none⟩) n n) n (l.map (Value.int .i64)) :=
  ⟨by simp [hn], .inr ⟨G, n, _, rfl, hG, h, Nat.le_refl _, hm, by simpa using hn, by rw [Nat.mul_one]; exact List.take_of_length_le (by simp [hn])⟩⟩
section
variable {side other f : Int} {out : List Int} {p q : Nat}
theorem M.bec_none (hf : f = 0 ∨ f = 1) (hso : (side = 0 ∧ other = 1) ∨ (side = 1 ∧ other = 0)) (h : M.becB side out p q = false) : M.toOf side other f out p q = 13 := by
  unfold M.becB at h
  rw [Bool.or_eq_false_iff] at h
  have h3 := M.anyS_is hso h.1
  rw [M.toOf_is hf hso, h.1, ← h3, h.2]
  rfl
theorem M.bec_some (hf : f = 0 ∨ f = 1) (hso : (side = 0 ∧ other = 1) ∨ (side = 1 ∧ other = 0)) (h : M.becB side out p q = true) : M.toOf side other f out p q = M.becV side f out p q ∧ (M.becV side f out p q = 0 ∨ M.becV side f out p q = 1) := by
  unfold M.becB at h
  rw [M.toOf_is hf hso]
  unfold M.becV
  cases h1 : M.btw side out (q - (p + 1)) (p + 1) with
  | true => exact ⟨rfl, by rw [if_pos rfl]; omega⟩
  | false =>
    rw [h1, Bool.false_or] at h
    have h3 := M.anyS_is hso h1
    rw [h] at h3
    rw [h, ← h3]
    exact ⟨rfl, M.ahd_or hf _⟩
end
end Go.Proofs.YtjlfgojblimobaaGreat.S11
end
