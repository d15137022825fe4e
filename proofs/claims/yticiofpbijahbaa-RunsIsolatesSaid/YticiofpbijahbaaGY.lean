/- The walk of RunsOnce: it answers true. Conditions: the slice reads as a list of classes, within its capacity. -/
import Derived.Test.YticiofpbijahbaaGX
section
namespace Go.Proofs.Yticiofpbijahbaa
open Go.RowKit
set_option maxRecDepth 100000

theorem and_one (n : Int) : 0 ≤ bits .and .i64 n 1 ∧ bits .and .i64 n 1 ≤ 1 := by
  have h : (BitVec.ofInt 64 n &&& BitVec.ofInt 64 1).toNat ≤ 1 := by
    rw [BitVec.toNat_and]
    exact Nat.and_le_right
  have e : bits .and .i64 n 1 = IntKind.i64.wrap ((BitVec.ofInt 64 n &&& BitVec.ofInt 64 1).toNat : Int) := rfl
  obtain ⟨k, hk⟩ : ∃ k, (BitVec.ofInt 64 n &&& BitVec.ofInt 64 1).toNat = k := ⟨_, rfl⟩
  rw [hk] at h e
  rw [e, IntKind.wrap_i64]
  omega
set_option maxHeartbeats 4000000 in
theorem onceLong_any (A : Option Addr) (ca n : Nat) (c : Int) (w : World) (hn : 150 < n) (hm : n ≤ maxLen) :
    Calls Try.prog 5 #[.slice A n ca, .int .i64 c] w fun r w' => r = .returned (.bool true) ∧ Below w.heap.size w w' := by
  unfold maxLen at hm
  have h1 : (150 : Int) < n := by omega
  go_enter Try.func5, Try.ntmps5
  go_wp2_with fail
  refine (live_any _).mono ?_
  rintro r w2 ⟨rfl, hb⟩
  have HB := Lib.hid hb
  clear hb
  go_wp2_with fail
  go_ret
  exact ⟨rfl, HB.out⟩
set_option maxHeartbeats 8000000 in
theorem onceShort_any (A : Option Addr) (ca n : Nat) (l : List Int) (c : Int) (w : World) (hr : RdS .i64 w w.heap.size A l) (hn : l.length = n) (hl : n ≤ 150) :
    Calls Try.prog 5 #[.slice A n ca, .int .i64 c] w fun r w' => r = .returned (.bool true) ∧ Below w.heap.size w w' := by
  obtain ⟨b, hb⟩ : ∃ b, bits .and .i64 c 1 = b := ⟨_, rfl⟩
  have hb01 : b = 0 ∨ b = 1 := by have := and_one c; rw [hb] at this; omega
  have HP := Lib.hid (cprep_any A ca n l b w hr hn (by omega))
  have HR := Lib.hid hr
  have HN := Lib.hid hn
  have HB01 := Lib.hid hb01
  have hl1 : (n : Int) ≤ 150 := by omega
  clear hr hn hb01
  go_enter Try.func5, Try.ntmps5
  go_wp2_with fail
  refine HP.out.mono ?_
  rintro r w1 ⟨hb1, hok, -⟩
  obtain ⟨A3, c3, A2, c2, rfl, hq, -⟩ := hok HB01.out
  obtain ⟨ss, hss⟩ : ∃ ss, M.seqs l (M.levs l b) b = ss := ⟨_, rfl⟩
  rw [hss] at hq ⊢
  obtain ⟨K, hK⟩ : ∃ K, ss.length = K := ⟨_, rfl⟩
  have hK1 : K ≤ n := by
    rw [← hK, ← hss]
    unfold M.seqs
    have h1 := M.sqs_len l b (M.runs (M.levs l b) b) (M.runs (M.levs l b) b).length
    have h2 := M.runs_len (M.levs l b) b
    rw [M.levs_len, HN.out] at h2
    omega
  rw [hK, HN.out]
  have HSS := Lib.hid hss
  have HK := Lib.hid hK
  have HQ1 := Lib.hid hq
  have HB1 := Lib.hid hb1
  have HL := Lib.hid (clevels_any A ca n l b w1 ((HR.out.below hb1).more hb1.size) HN.out (by omega))
  rw [M.levels_01 HB01.out] at HL
  clear hb1 hok hq hss hK
  go_wp2_with fail
  refine HL.out.mono ?_
  rintro r w2 hout
  obtain ⟨A1, c1, A4, c4, rfl, hr1, -, -, -, hb2⟩ := lev_rows hout
  rw [M.run_len, HN.out]
  have HR1 := Lib.hid (show RdS .i64 w2 w2.heap.size A1 (M.levs l b) from hr1)
  have HQ2 := Lib.hid ((HQ1.out.below hb2).more hb2.size)
  have HB2 := Lib.hid (HB1.out.trans (hb2.mono HB1.out.size))
  have HMA := Lib.hid (cmatch_any A ca n l w2 ((HR.out.below HB2.out).more HB2.out.size) HN.out (by omega))
  clear hout hr1 hb2
  go_wp2_with fail
  refine HMA.out.mono ?_
  rintro r w3 ⟨v, rfl, hoE, hb3⟩
  obtain ⟨AE, cE, rfl, hrE, -, -, -⟩ := reads_own hoE
  rw [M.matchI_len, HN.out]
  have HRE := Lib.hid hrE
  have HR13 := Lib.hid ((HR1.out.below hb3).more hb3.size)
  have HQ3 := Lib.hid ((HQ2.out.below hb3).more hb3.size)
  have HB3 := Lib.hid (HB2.out.trans (hb3.mono HB2.out.size))
  clear hoE hrE hb3
  obtain ⟨i0, hi, hz0, hz1, hz2⟩ := info_parts Try.infoIntR
  have hmk := run_make (P := Try.prog) w3 23 3 i0 (.int .i64 0) Try.underlying23 hi hz0 .i64 .i64 n n (by omega) (Int.le_refl _) (by rw [hz2]; omega) (by omega)
  rw [Int.toNat_natCast, hz1] at hmk
  obtain ⟨W1, hW1⟩ : ∃ W1, w3.alloc (.cells (madeCells (Value.int .i64 0).cells (n * 1)) 3) = W1 := ⟨_, rfl⟩
  have h1 : W1.ownsRow w3.heap.size 3 1 (.slice (some ⟨w3.heap.size, 0, none⟩) n n) n ((M.cntL n []).map (Value.int .i64)) := by
    rw [← hW1, M.cntL_nil, ← rep_cells]
    exact World.ownsRow_lit w3 _ n (Nat.le_refl _) (by unfold maxLen; omega) (by simp [madeCells])
  have hbW : Below w3.heap.size w3 W1 := by rw [← hW1]; exact (Below.refl _ _).alloc (Nat.le_refl _) _
  rw [hW1] at hmk
  have H1 := Lib.hid h1
  have HBW := Lib.hid hbW
  clear h1 hW1 hbW hi hz0 hz1 hz2
  go_wp2_with fail
  go_loopw [14] (fun v wr => ∃ i : Nat, v = .int .i64 i ∧ i ≤ K ∧ wr.ownsRow w3.heap.size 3 1 (.slice (some ⟨w3.heap.size, 0, none⟩) n n) n ((M.cntL n ((ss.take i).flatMap (·.pl))).map (Value.int .i64)) ∧ Below w3.heap.size w3 wr) (fun v _ => K - (intOf v).toNat)
  case atStart => exact ⟨0, rfl, Nat.zero_le _, H1.out, HBW.out⟩
  case round =>
    obtain ⟨i, rfl, hi, hown, hbw⟩ := hrel
    have HO := Lib.hid hown
    have HBR := Lib.hid hbw
    clear hown hbw
    have i0' : (0 : Int) ≤ i := by omega
    by_cases hlt : i < K
    · have i1 : (i : Int) < (K : Int) := by omega
      have hb125 : b ≤ 125 := by have := HB01.out; omega
      have hsm : ∀ (i : Nat) (s : M.Sq), ss[i]? = some s → (M.seqs l (M.levs l b) b)[i]? = some s := fun i s h => by rw [HSS.out]; exact h
      have hm150 : ∀ (i : Nat) (s : M.Sq), ss[i]? = some s → s.pl.length ≤ n := fun i s h => by
        have h1 := M.sq_len (l := l) (lv := M.levs l b) (b := b) (Nat.le_refl _) (show (M.sqs l b (M.runs (M.levs l b) b) (M.runs (M.levs l b) b).length)[i]? = some s from hsm i s h)
        rwa [M.levs_len, HN.out] at h1
      have hfirst : ∀ (i : Nat) (s : M.Sq), ss[i]? = some s → ∃ f0 : Nat, s.pl[0]? = some (f0 : Int) ∧ f0 < n := fun i s h => by
        have sok := (M.seqs_inv l hb125).ok i s (hsm i s h)
        obtain ⟨x, hx⟩ : ∃ x, s.pl[0]? = some x := ⟨_, List.getElem?_eq_getElem (List.length_pos_iff.2 sok.ne)⟩
        obtain ⟨p, rfl, hp⟩ := sok.at_ x (List.mem_of_getElem? hx)
        have := (List.getElem?_eq_some_iff.1 hp).1
        rw [M.levs_len, HN.out] at this
        exact ⟨p, hx, this⟩
      have hct : ∀ x : Int, (ss.flatMap (·.pl)).count x ≤ 1 := fun x => by
        rw [← HSS.out]
        by_cases hx : x ∈ (M.seqs l (M.levs l b) b).flatMap (·.pl)
        · rw [List.mem_flatMap] at hx
          obtain ⟨s, hs, hxs⟩ := hx
          obtain ⟨k, hk⟩ := List.getElem?_of_mem hs
          obtain ⟨p, rfl, hp⟩ := ((M.seqs_inv l hb125).ok k s hk).at_ x hxs
          obtain ⟨c', hc'⟩ : ∃ c', l[p]? = some c' := ⟨_, List.getElem?_eq_getElem (by have := (List.getElem?_eq_some_iff.1 hp).1; rw [M.levs_len] at this; exact this)⟩
          rw [M.seqs_count l HB01.out hc']
          split <;> omega
        · rw [List.count_eq_zero.2 hx]; omega
      obtain ⟨s, hs⟩ : ∃ s, ss[i]? = some s := ⟨_, List.getElem?_eq_getElem (by rw [HK.out]; exact hlt)⟩
      have sok := (M.seqs_inv l hb125).ok i s (hsm i s hs)
      obtain ⟨f0, hf0, hf0n⟩ := hfirst i s hs
      have hm0 := List.length_pos_iff.2 sok.ne
      have hmn := hm150 i s hs
      obtain ⟨g, Ap, cp, rfl, -, z0, z1, -, -, hrp, -, -, -⟩ := HQ3.out i s hs
      obtain ⟨adp, rfl, -, yf⟩ := hrp 0 _ hf0
      rw [show adp.add 0 = adp from rfl] at yf
      obtain ⟨ad, hA, -, -⟩ := HR.out 0 _ (List.getElem?_eq_getElem (show 0 < l.length by have := HN.out; omega))
      obtain ⟨adl, hA1, -, -⟩ := HR13.out 0 _ (List.getElem?_eq_getElem (show 0 < (M.levs l b).length by rw [M.levs_len]; have := HN.out; omega))
      obtain ⟨ade, hAE, -, -⟩ := HRE.out 0 _ (List.getElem?_eq_getElem (show 0 < (M.matchI l).length by rw [M.matchI_len]; have := HN.out; omega))
      subst hA hA1 hAE
      have HPREV := Lib.hid (show i = 0 ∨ ∃ i' adq mq cq q0, (i : Int) - 1 = (i' : Nat) ∧ (i' : Int) < K ∧ w3.cell? ⟨g, i' * 4, none⟩ = some (.slice (some adq) mq cq) ∧ w3.cell? adq = some (.int .i64 (q0 : Nat)) ∧ 0 < mq ∧ q0 < f0 from by
        rcases Nat.eq_zero_or_pos i with h | h
        · exact .inl h
        · refine .inr ?_
          obtain ⟨i', rfl⟩ : ∃ i', i = i' + 1 := ⟨i - 1, by omega⟩
          obtain ⟨s', hs'⟩ : ∃ s', ss[i']? = some s' := ⟨_, List.getElem?_eq_getElem (by rw [HK.out]; omega)⟩
          obtain ⟨g', Aq, cq, hg', -, y0, -, -, -, hrq, -, -, -⟩ := HQ3.out i' s' hs'
          obtain rfl : g = g' := by injection hg' with e; injection e
          obtain ⟨q0, hq0, -⟩ := hfirst i' s' hs'
          obtain ⟨adq, rfl, -, yq⟩ := hrq 0 _ hq0
          have hlt2 := M.seqs_rise l hb125 (hsm _ _ hs') (hsm _ _ hs) hq0 hf0
          exact ⟨i', adq, s'.pl.length, cq, q0, by omega, by omega, y0, yq, List.length_pos_iff.2 ((M.seqs_inv l hb125).ok i' s' (hsm _ _ hs')).ne, by omega⟩)
      have HF := Lib.hid (And.intro z0 (And.intro z1 (And.intro hrp (And.intro yf (And.intro hs (And.intro sok hct))))))
      have HMM := Lib.hid (And.intro hm0 hmn)
      clear hsm hm150 hfirst hct hs sok hf0 hf0n hm0 hmn z0 z1 hrp yf hmk hb125
      refine wp_seq_hid ?_
      go_wp2_with fail
      refine Lib.hid ?_
      refine wp_seq ?_
      obtain ⟨z0, z1, hrp, yf, hs, sok, hct⟩ := HF.out
      rcases HPREV.out with hz | ⟨i', adq, mq, cq, q0, e1, e2, e3, e4, e5, e6⟩
      · refine once1_zero rfl hl HMM.out.1 (by have := HMM.out.2; omega) hlt rfl HBR.out z0 z1 hrp rfl yf (by omega) HR13.out (by rw [M.levs_len, HN.out]) HRE.out HN.out hs sok hct HO.out ?_
        intro u4 u15 u16 u17 u18 u73 u74 u75 u76 u77 u78 u79 u80 u81 u82 u83 u84 u85 u86 u87 u88 u89 u90 u91 u92 u93 u94 u95 u96 u97 u98 u99 u100 u101 u102 u103 u104 u105 u106 u107 u108 u109 u110 u111 u112 u113 u114 u115 u116 u117 u118 u119 u120 u121 u122 u123 u124 u125 u126 u127 u128 u129 u130 u131 u132 u133 u134 u135 u136 u137 u138 u139 u140 u141 u142 u143 u144 u145 u146 u147 u148 u149 u150 u151 u152 u153 u154 u155 u156 u157 u158 u159 u160 u161 u162 u163 u164 u165 u166 u167 u168 u169 u170 u171 u172 u173 u174 u175 u176 u177 u178 u179 u180 u181 u182 u183 u184 u185 u186 u187 u188 u189 u190 u191 u192 u193 u194 u195 u196 u197 u198 W' hW1 hW2
        have HW1 := Lib.hid hW1
        have HW2 := Lib.hid hW2
        clear hW1 hW2 z0 z1 hrp yf hs sok hct hz
        refine (show Code.wp _ _ _ _ _ from ?_)
        go_wp2_with fail
        go_roundw
        case rel => exact ⟨i + 1, by go_num, by omega, HW1.out, HW2.out⟩
        case measure => simp [intOf]; omega
      · refine once1_succ rfl hl HMM.out.1 (by have := HMM.out.2; omega) hlt (by omega) rfl HBR.out z0 z1 hrp rfl yf e1 (by omega) e2 e3 e4 e5 e6 HR13.out (by rw [M.levs_len, HN.out]) HRE.out HN.out hs sok hct HO.out ?_
        intro u4 u15 u16 u17 u18 u73 u74 u75 u76 u77 u78 u79 u80 u81 u82 u83 u84 u85 u86 u87 u88 u89 u90 u91 u92 u93 u94 u95 u96 u97 u98 u99 u100 u101 u102 u103 u104 u105 u106 u107 u108 u109 u110 u111 u112 u113 u114 u115 u116 u117 u118 u119 u120 u121 u122 u123 u124 u125 u126 u127 u128 u129 u130 u131 u132 u133 u134 u135 u136 u137 u138 u139 u140 u141 u142 u143 u144 u145 u146 u147 u148 u149 u150 u151 u152 u153 u154 u155 u156 u157 u158 u159 u160 u161 u162 u163 u164 u165 u166 u167 u168 u169 u170 u171 u172 u173 u174 u175 u176 u177 u178 u179 u180 u181 u182 u183 u184 u185 u186 u187 u188 u189 u190 u191 u192 u193 u194 u195 u196 u197 u198 W' hW1 hW2
        have HW1 := Lib.hid hW1
        have HW2 := Lib.hid hW2
        clear hW1 hW2 z0 z1 hrp yf hs sok hct e1 e2 e3 e4 e5 e6
        refine (show Code.wp _ _ _ _ _ from ?_)
        go_wp2_with fail
        go_roundw
        case rel => exact ⟨i + 1, by go_num, by omega, HW1.out, HW2.out⟩
        case measure => simp [intOf]; omega
    · obtain rfl : i = K := by omega
      have ho2 : wr.ownsRow w3.heap.size 3 1 (.slice (some ⟨w3.heap.size, 0, none⟩) n n) n ((M.cntL n (ss.flatMap (·.pl))).map (Value.int .i64)) := by
        have h1 := HO.out
        rwa [List.take_of_length_le (by rw [HK.out]; exact Nat.le_refl _)] at h1
      have HBW4 := Lib.hid (HB3.out.trans (HBR.out.mono HB3.out.size))
      have HRW := Lib.hid (HR.out.below HBW4.out)
      have HCT := Lib.hid (show ∀ (j : Nat) (x : Int), l[j]? = some x → wr.cell? ⟨w3.heap.size, j, none⟩ = some (.int .i64 (if M.removed x = true then 0 else 1)) from fun j x hx => by
        have hj : j < n := by rw [← HN.out]; exact (List.getElem?_eq_some_iff.1 hx).1
        refine (World.ownsRow.cellAt (size := 1) ho2 j (by omega)).trans ?_
        have h2 := M.seqs_count l HB01.out hx
        rw [HSS.out] at h2
        rw [List.getElem?_map, M.cntL_at _ hj, h2]
        show some (Value.int .i64 _) = _
        split <;> rfl)
      clear ho2
      go_wp2_with fail
      go_loopw [19] (fun v wr2 => ∃ j : Nat, v = .int .i64 j ∧ j ≤ n ∧ wr2 = wr) (fun v _ => n - (intOf v).toNat)
      case atStart => exact ⟨0, rfl, Nat.zero_le _, rfl⟩
      case round =>
        obtain ⟨j, rfl, hj, hwr⟩ := hrel
        subst hwr
        have j0 : (0 : Int) ≤ j := by omega
        by_cases hjl : j < n
        · have j1 : (j : Int) < (n : Int) := by omega
          obtain ⟨x, hx⟩ : ∃ x, l[j]? = some x := ⟨_, List.getElem?_eq_getElem (by rw [HN.out]; exact hjl)⟩
          obtain ⟨ad, rfl, -, y1⟩ := HRW.out j x hx
          have y2 := HCT.out j x hx
          clear hx
          go_wp2_with fail
          refine (removed_any x _).mono ?_
          rintro r w5 ⟨rfl, rfl⟩
          cases hrm : M.removed x
          · rw [hrm] at y2
            go_wp2_with fail
            go_roundw
            case rel => exact ⟨j + 1, by go_num, by omega, trivial⟩
            case measure => simp [intOf]; omega
          · rw [hrm] at y2
            go_wp2_with fail
            go_roundw
            case rel => exact ⟨j + 1, by go_num, by omega, trivial⟩
            case measure => simp [intOf]; omega
        · obtain rfl : j = n := by omega
          go_wp2_with fail
          refine (live_any _).mono ?_
          rintro r w5 ⟨rfl, hb5⟩
          have HB5 := Lib.hid (HBW4.out.trans (hb5.mono HBW4.out.size))
          clear hb5
          go_wp2_with fail
          go_ret
          exact ⟨rfl, HB5.out⟩

theorem onceLaw_any (A : Option Addr) (ca n : Nat) (l : List Int) (c : Int) (w : World) (hr : RdS .i64 w w.heap.size A l) (hn : l.length = n) (hm : n ≤ maxLen) :
    Calls Try.prog 5 #[.slice A n ca, .int .i64 c] w fun r w' => r = .returned (.bool true) ∧ Below w.heap.size w w' := by
  rcases Nat.lt_or_ge 150 n with h | h
  · exact onceLong_any A ca n c w h hm
  · exact onceShort_any A ca n l c w hr hn h
end Go.Proofs.Yticiofpbijahbaa
end
