/- The walk of RunsIsolates: it answers true. Conditions: the slice reads as a list of classes, within its capacity. -/
import Derived.Test.YticiofpbijahbaaGI1
import Derived.Test.YticiofpbijahbaaGY
section
namespace Go.Proofs.Yticiofpbijahbaa
open Go.RowKit
set_option maxRecDepth 100000

set_option maxHeartbeats 4000000 in
theorem isoLong_any (A : Option Addr) (ca n : Nat) (c : Int) (w : World) (hn : 50 < n) (hm : n ≤ maxLen) :
    Calls Try.prog 6 #[.slice A n ca, .int .i64 c] w fun r w' => r = .returned (.bool true) ∧ Below w.heap.size w w' := by
  unfold maxLen at hm
  have h1 : (50 : Int) < n := by omega
  go_enter Try.func6, Try.ntmps6
  go_wp2_with fail
  refine (live_any _).mono ?_
  rintro r w2 ⟨rfl, hb⟩
  have HB := Lib.hid hb
  clear hb
  go_wp2_with fail
  go_ret
  exact ⟨rfl, HB.out⟩
set_option maxHeartbeats 8000000 in
theorem isoShort_any (A : Option Addr) (ca n : Nat) (l : List Int) (c : Int) (w : World) (hr : RdS .i64 w w.heap.size A l) (hn : l.length = n) (hl : n ≤ 50) :
    Calls Try.prog 6 #[.slice A n ca, .int .i64 c] w fun r w' => r = .returned (.bool true) ∧ Below w.heap.size w w' := by
  obtain ⟨b, hb⟩ : ∃ b, bits .and .i64 c 1 = b := ⟨_, rfl⟩
  have hb01 : b = 0 ∨ b = 1 := by have := and_one c; rw [hb] at this; omega
  have HP := Lib.hid (cprep_any A ca n l b w hr hn (by omega))
  have HR := Lib.hid hr
  have HN := Lib.hid hn
  have HB01 := Lib.hid hb01
  have hl1 : (n : Int) ≤ 50 := by omega
  have hb125 : b ≤ 125 := by omega
  clear hr hn hb01
  go_enter Try.func6, Try.ntmps6
  go_wp2_with fail
  refine HP.out.mono ?_
  rintro r w1 ⟨hb1, hok, -⟩
  obtain ⟨A3, c3, A2, c2, rfl, hq, -⟩ := hok HB01.out
  obtain ⟨ss, hss⟩ : ∃ ss, M.seqs l (M.levs l b) b = ss := ⟨_, rfl⟩
  rw [hss] at hq ⊢
  obtain ⟨K, hK⟩ : ∃ K, ss.length = K := ⟨_, rfl⟩
  have hK1 : K ≤ n := by
    rw [← hK, ← hss]
    unfold M.seqs
    have h1 := M.sqs_len l b (M.runs (M.levs l b) b) (M.runs (M.levs l b) b).length
    have h2 := M.runs_len (M.levs l b) b
    rw [M.levs_len, HN.out] at h2
    omega
  rw [hK, HN.out]
  have HSS := Lib.hid hss
  have HK := Lib.hid hK
  have HQ1 := Lib.hid hq
  have HB1 := Lib.hid hb1
  have HMA := Lib.hid (cmatch_any A ca n l w1 ((HR.out.below hb1).more hb1.size) HN.out (by omega))
  clear hb1 hok hq hss hK
  go_wp2_with fail
  refine HMA.out.mono ?_
  rintro r w3 ⟨v, rfl, hoE, hb3⟩
  obtain ⟨AE, cE, rfl, hrE, -, -, -⟩ := reads_own hoE
  rw [M.matchI_len, HN.out]
  have HRE := Lib.hid hrE
  have HQ3 := Lib.hid ((HQ1.out.below hb3).more hb3.size)
  have HB3 := Lib.hid (HB1.out.trans (hb3.mono HB1.out.size))
  clear hoE hrE hb3
  obtain ⟨i0, hi, hz0, hz1, hz2⟩ := info_parts Try.infoIntR
  have hmk := run_make (P := Try.prog) w3 23 3 i0 (.int .i64 0) Try.underlying23 hi hz0 .i64 .i64 n n (by omega) (Int.le_refl _) (by rw [hz2]; omega) (by omega)
  rw [Int.toNat_natCast, hz1] at hmk
  obtain ⟨W1, hW1⟩ : ∃ W1, w3.alloc (.cells (madeCells (Value.int .i64 0).cells (n * 1)) 3) = W1 := ⟨_, rfl⟩
  have h1 : W1.ownsRow w3.heap.size 3 1 (.slice (some ⟨w3.heap.size, 0, none⟩) n n) n ((List.replicate n (0 : Int)).map (Value.int .i64)) := by
    rw [← hW1, ← rep_cells]
    exact World.ownsRow_lit w3 _ n (Nat.le_refl _) (by unfold maxLen; omega) (by simp [madeCells])
  have hbW : Below w3.heap.size w3 W1 := by rw [← hW1]; exact (Below.refl _ _).alloc (Nat.le_refl _) _
  rw [hW1] at hmk
  have H1 := Lib.hid h1
  have HBW := Lib.hid hbW
  clear h1 hW1 hbW hi hz0 hz1 hz2
  have hsm : ∀ (i : Nat) (s : M.Sq), ss[i]? = some s → M.SqOk l (M.levs l b) s := fun i s h => (M.seqs_inv l hb125).ok i s (show (M.seqs l (M.levs l b) b)[i]? = some s by rw [HSS.out]; exact h)
  have hm150 : ∀ (i : Nat) (s : M.Sq), ss[i]? = some s → s.pl.length ≤ n := fun i s h => by
    have h1 := M.sq_len (l := l) (lv := M.levs l b) (b := b) (Nat.le_refl _) (show (M.sqs l b (M.runs (M.levs l b) b) (M.runs (M.levs l b) b).length)[i]? = some s from (show (M.seqs l (M.levs l b) b)[i]? = some s by rw [HSS.out]; exact h))
    rwa [M.levs_len, HN.out] at h1
  have hct : ∀ x : Int, (ss.flatMap (·.pl)).count x ≤ 1 := fun x => by
    rw [← HSS.out]
    by_cases hx : x ∈ (M.seqs l (M.levs l b) b).flatMap (·.pl)
    · rw [List.mem_flatMap] at hx
      obtain ⟨s, hs, hxs⟩ := hx
      obtain ⟨k, hk⟩ := List.getElem?_of_mem hs
      obtain ⟨p, rfl, hp⟩ := ((M.seqs_inv l hb125).ok k s hk).at_ x hxs
      obtain ⟨c', hc'⟩ : ∃ c', l[p]? = some c' := ⟨_, List.getElem?_eq_getElem (by have := (List.getElem?_eq_some_iff.1 hp).1; rw [M.levs_len] at this; exact this)⟩
      rw [M.seqs_count l HB01.out hc']
      split <;> omega
    · rw [List.count_eq_zero.2 hx]; omega
  have hnn : ∀ s ∈ ss, ∀ x ∈ s.pl, 0 ≤ x := fun s hs x hx => by
    obtain ⟨k, hk⟩ := List.getElem?_of_mem hs
    obtain ⟨p, rfl, -⟩ := (hsm k s hk).at_ x hx
    omega
  have HF := Lib.hid (And.intro hsm (And.intro hm150 (And.intro hct hnn)))
  clear hsm hm150 hct hnn
  go_wp2_with fail
  go_loopw [10] (fun v wr => ∃ i : Nat, v = .int .i64 i ∧ i ≤ K ∧ (∃ N : List Int, N.length = n ∧ M.Nxt ss i 0 N ∧ wr.ownsRow w3.heap.size 3 1 (.slice (some ⟨w3.heap.size, 0, none⟩) n n) n (N.map (Value.int .i64))) ∧ Below w3.heap.size w3 wr) (fun v _ => K - (intOf v).toNat)
  case atStart => exact ⟨0, rfl, Nat.zero_le _, ⟨_, List.length_replicate, M.Nxt.first ss _, H1.out⟩, HBW.out⟩
  case round =>
    obtain ⟨i, rfl, hi, ⟨N, hNl, hNx, hown⟩, hbw⟩ := hrel
    have HO := Lib.hid hown
    have HBR := Lib.hid hbw
    have HNX := Lib.hid hNx
    have HNL := Lib.hid hNl
    clear hown hbw hNx hNl hmk
    have i0' : (0 : Int) ≤ i := by omega
    by_cases hlt : i < K
    · have i1 : (i : Int) < (K : Int) := by omega
      obtain ⟨s, hs⟩ : ∃ s, ss[i]? = some s := ⟨_, List.getElem?_eq_getElem (by rw [HK.out]; exact hlt)⟩
      obtain ⟨hsm, hm150, hct, hnn⟩ := HF.out
      have sok := hsm i s hs
      have hmn := hm150 i s hs
      obtain ⟨g, Ap, cp, rfl, hg, z0, z1, -, -, hrp, -, -, -⟩ := HQ3.out i s hs
      obtain ⟨m, hm⟩ : ∃ m, s.pl.length = m := ⟨_, rfl⟩
      rw [hm] at z0 hmn
      have y0 : wr.cell? ⟨g, i * 4, none⟩ = some (.slice Ap m cp) := (HBR.out.cell (p := ⟨g, i * 4, none⟩) hg).trans z0
      have HS := Lib.hid hs
      have HM := Lib.hid hm
      have HSOK := Lib.hid sok
      have HRP := Lib.hid hrp
      have hm0 : 0 < m := by rw [← hm]; exact List.length_pos_iff.2 sok.ne
      clear hsm hm150 hct hnn hs sok z0 z1 hrp hm
      go_wp2_with fail
      go_loopw [12] (fun v wr2 => ∃ k : Nat, v = .int .i64 k ∧ k < m ∧ (∃ N : List Int, N.length = n ∧ M.Nxt ss i k N ∧ wr2.ownsRow w3.heap.size 3 1 (.slice (some ⟨w3.heap.size, 0, none⟩) n n) n (N.map (Value.int .i64))) ∧ Below w3.heap.size w3 wr2) (fun v _ => m - (intOf v).toNat)
      case atStart => exact ⟨0, rfl, hm0, ⟨N, HNL.out, HNX.out, HO.out⟩, HBR.out⟩
      case round =>
        obtain ⟨k, rfl, hk, ⟨N2, hNl, hNx, hown⟩, hbw⟩ := hrel
        have k0 : (0 : Int) ≤ k := by omega
        have k3 : (k : Int) ≤ 150 := by omega
        by_cases hkm : k + 1 < m
        · have kp1 : ((k + 1 : Nat) : Int) < (m : Int) := by omega
          have kp2 : (k : Int) + 1 < (m : Int) := by omega
          have kp3 : (k : Int) < (m : Int) := by omega
          obtain ⟨x, hx⟩ : ∃ x, s.pl[k]? = some x := ⟨_, List.getElem?_eq_getElem (by rw [HM.out]; omega)⟩
          obtain ⟨q, hq⟩ : ∃ q, s.pl[k + 1]? = some q := ⟨_, List.getElem?_eq_getElem (by rw [HM.out]; omega)⟩
          obtain ⟨p, rfl, hp⟩ := HSOK.out.at_ x (List.mem_of_getElem? hx)
          have hpn : p < n := by have := (List.getElem?_eq_some_iff.1 hp).1; rw [M.levs_len, HN.out] at this; exact this
          obtain ⟨adp, rfl, hab, y1⟩ := HRP.out k _ hx
          obtain ⟨adp', hap', -, y2⟩ := HRP.out (k + 1) _ hq
          obtain rfl := Option.some.inj hap'
          have hown := own_below hown (Below.refl _ _).drew
          have hbw := hbw.drew
          have y3 : wr.drew.cell? (adp.add k) = some (.int .i64 p) := (hbw.cell (by rw [addr_block]; exact hab)).trans y1
          have y4 : wr.drew.cell? (adp.add (k + 1)) = some (.int .i64 q) := (hbw.cell (by rw [addr_block]; exact hab)).trans y2
          obtain ⟨v0, gc⟩ : ∃ v0, wr.drew.cell? ⟨w3.heap.size, p, none⟩ = some (.int .i64 v0) := ⟨N2[p]'(by omega), (World.ownsRow.cellAt (size := 1) hown p (by omega)).trans (by rw [List.getElem?_map, List.getElem?_eq_getElem (by omega)]; rfl)⟩
          have gf : wr.drew.frozen? ⟨w3.heap.size, p, none⟩ = false := World.ownsRow.frozenAt hown p
          have hst := (World.ownsRow.stored hown p (.int .i64 q)).1
          rw [← List.map_set] at hst
          have hbX : Below w3.heap.size w3 (wr.drew.setCell ⟨w3.heap.size, p, none⟩ (.int .i64 q)) := hbw.setCell (p := ⟨w3.heap.size, p, none⟩) (Nat.le_refl _) _
          have hNs : M.Nxt ss i (k + 1) (N2.set p q) := M.Nxt.step HF.out.2.2.1 HF.out.2.2.2 hNx HS.out hx hq (by omega)
          have HST := Lib.hid (And.intro hst (And.intro hbX hNs))
          have HL2 := Lib.hid hNl
          obtain ⟨k1, hk1n⟩ : ∃ k1, k + 1 = k1 := ⟨_, rfl⟩
          rw [hk1n] at y4
          have hk1 : (k : Int) + 1 = (k1 : Nat) := by omega
          have hw1 : IntKind.i64.wrap ((k : Int) + 1) = (k1 : Nat) := by rw [IntKind.wrap_i64]; omega
          have hw2 : IntKind.i64.wrap (k1 : Int) = (k1 : Nat) := by rw [IntKind.wrap_i64]; omega
          have kp4 : (k1 : Int) < (m : Int) := by omega
          have kp5 : k1 < m := by omega
          have kp6 : (0 : Int) ≤ (k1 : Int) := by omega
          clear kp1 kp2
          have p0 : (0 : Int) ≤ p := by omega
          have p1 : (p : Int) < n := by omega
          have pd0 : decide ((p : Int) < 0) = false := by rw [decide_eq_false_iff_not]; omega
          have pd1 : decide ((n : Int) ≤ p) = false := by rw [decide_eq_false_iff_not]; omega
          have pd2 : decide (n ≤ p) = false := by rw [decide_eq_false_iff_not]; omega
          clear hst hbX hNs hbw hNx hown hx hq hp y1 y2 hab hNl
          go_wp2_with fail
          go_still_tail 10, (by kernel_rfl)
          change wpList _ _ _ _ _ wr.drew
          go_wp2_with fail
          go_roundw
          case rel => exact ⟨k + 1, by go_num; try omega, by omega, ⟨_, by rw [List.length_set]; exact HL2.out, HST.out.2.2, HST.out.1⟩, HST.out.2.1⟩
          case measure => simp [intOf]; omega
        · have km : ¬ ((k : Int) + 1 < (m : Int)) := by omega
          have HST := Lib.hid (M.Nxt.turn hNx HS.out (by rw [HM.out]; omega))
          have HO2 := Lib.hid hown
          have HB2 := Lib.hid hbw
          have HL2 := Lib.hid hNl
          clear hNx hown hbw hNl
          go_wp2_with fail
          go_roundw
          case rel => exact ⟨i + 1, by go_num, by omega, ⟨_, HL2.out, HST.out, HO2.out⟩, HB2.out⟩
          case measure => simp [intOf]; omega
    · obtain rfl : i = K := by omega
      have HCT := Lib.hid (show ∀ (j : Nat) (x : Int), (M.matchI l)[j]? = some x → 0 ≤ x → N[j]? = some x from fun j x hx h0 => by
        have hj : j < n := by have := (List.getElem?_eq_some_iff.1 hx).1; rw [M.matchI_len, HN.out] at this; exact this
        have hxe : M.endI l j = x := by
          unfold M.matchI M.matchTo at hx
          rw [List.getElem?_map, List.getElem?_range (by rw [HN.out]; exact hj)] at hx
          exact Option.some.inj hx
        obtain ⟨e, rfl⟩ : ∃ e : Nat, x = e := ⟨x.toNat, by omega⟩
        obtain ⟨i', s, k, h1, h2, h3⟩ := M.seqs_linked HB01.out (by rw [HN.out]; exact hl) hxe
        rw [HSS.out] at h1
        have h4 := HNX.out i' k s j e (.inl (by rw [← HK.out]; exact (List.getElem?_eq_some_iff.1 h1).1)) h1 h2 h3
        rw [Int.toNat_natCast] at h4
        exact h4)
      go_wp2_with fail
      go_loopw [13] (fun v wr2 => ∃ j : Nat, v = .int .i64 j ∧ j ≤ n ∧ wr2.ownsRow w3.heap.size 3 1 (.slice (some ⟨w3.heap.size, 0, none⟩) n n) n (N.map (Value.int .i64)) ∧ Below w3.heap.size w3 wr2) (fun v _ => n - (intOf v).toNat)
      case atStart => exact ⟨0, rfl, Nat.zero_le _, HO.out, HBR.out⟩
      case round =>
        obtain ⟨j, rfl, hj, hown, hbw⟩ := hrel
        have j0 : (0 : Int) ≤ j := by omega
        have HOW := Lib.hid hown
        have HBW5 := Lib.hid hbw
        clear hown hbw
        by_cases hjl : j < n
        · have j1 : (j : Int) < (n : Int) := by omega
          obtain ⟨x, hx⟩ : ∃ x, (M.matchI l)[j]? = some x := ⟨_, List.getElem?_eq_getElem (by rw [M.matchI_len, HN.out]; exact hjl)⟩
          obtain ⟨ade, rfl, -, y1⟩ := (HRE.out.below HBW5.out) j x hx
          have y1' := fun d os => cell_regrown y1 d os
          by_cases hx0 : 0 ≤ x
          · have y2 : wr.cell? ⟨w3.heap.size, j, none⟩ = some (.int .i64 x) := (World.ownsRow.cellAt (size := 1) HOW.out j (by omega)).trans (by rw [List.getElem?_map, HCT.out j x hx hx0]; rfl)
            have y2' := fun d os => cell_regrown y2 d os
            clear hx y1 y2
            go_wp2_with fail
            refine wp_region_quiet_below (by kernel_rfl) (by kernel_rfl) ?_
            repeat (go_big_quiet_step (fail))
            refine wpQuiet_nil ?_
            intro _ hw'
            obtain ⟨⟨dq, osq⟩, hw4⟩ := hw'
            subst hw4
            have hbg := below_regrown wr dq osq
            obtain ⟨X, hX⟩ : ∃ X, Sort.grow (redrawn wr dq) osq = X := ⟨_, rfl⟩
            rw [hX] at hbg
            dsimp only
            rw [hX]
            have HO5 := Lib.hid (own_below HOW.out hbg)
            have HB5 := Lib.hid (HBW5.out.trans (hbg.mono HBW5.out.size))
            clear hX hbg y1' y2'
            go_wp2_with fail
            go_roundw
            case rel => exact ⟨j + 1, by go_num, by omega, HO5.out, HB5.out⟩
            case measure => simp [intOf]; omega
          · have hxf : decide (0 ≤ x) = false := by rw [decide_eq_false_iff_not]; exact hx0
            have hxl : x < 0 := by omega
            have hxg : decide (x < 0) = true := by rw [decide_eq_true_iff]; exact hxl
            clear hx y1
            go_wp2_with fail
            refine wp_region_quiet_below (by kernel_rfl) (by kernel_rfl) ?_
            repeat (go_big_quiet_step (fail))
            refine wpQuiet_nil ?_
            intro _ hw'
            obtain ⟨⟨dq, osq⟩, hw4⟩ := hw'
            subst hw4
            have hbg := below_regrown wr dq osq
            obtain ⟨X, hX⟩ : ∃ X, Sort.grow (redrawn wr dq) osq = X := ⟨_, rfl⟩
            rw [hX] at hbg
            dsimp only
            rw [hX]
            have HO5 := Lib.hid (own_below HOW.out hbg)
            have HB5 := Lib.hid (HBW5.out.trans (hbg.mono HBW5.out.size))
            clear hX hbg y1'
            go_wp2_with fail
            go_roundw
            case rel => exact ⟨j + 1, by go_num, by omega, HO5.out, HB5.out⟩
            case measure => simp [intOf]; omega
        · obtain rfl : j = n := by omega
          go_wp2_with fail
          refine (live_any _).mono ?_
          rintro r w5 ⟨rfl, hb5⟩
          have HB4 := Lib.hid (HB3.out.trans (HBW5.out.mono HB3.out.size))
          have HB5 := Lib.hid (HB4.out.trans (hb5.mono HB4.out.size))
          clear hb5
          go_wp2_with fail
          go_ret
          exact ⟨rfl, HB5.out⟩
theorem isoLaw_any (A : Option Addr) (ca n : Nat) (l : List Int) (c : Int) (w : World) (hr : RdS .i64 w w.heap.size A l) (hn : l.length = n) (hm : n ≤ maxLen) :
    Calls Try.prog 6 #[.slice A n ca, .int .i64 c] w fun r w' => r = .returned (.bool true) ∧ Below w.heap.size w w' := by
  rcases Nat.lt_or_ge 50 n with h | h
  · exact isoLong_any A ca n c w h hm
  · exact isoShort_any A ca n l c w hr hn h
end Go.Proofs.Yticiofpbijahbaa
end
