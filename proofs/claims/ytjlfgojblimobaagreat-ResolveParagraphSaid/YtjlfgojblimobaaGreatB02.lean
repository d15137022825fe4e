/- The contract of the document's Split. Conditions: both slices read as lists, at most a thousand long. -/
/- The contract of the document's Prepare. Conditions: the slice reads as a list of classes, within its capacity, at most a thousand long. -/
import Derived.Test.YtjlfgojblimobaaGreatB01
import Derived.Test.YtjlfgojblimobaaGreatA18
import Derived.Test.YtjlfgojblimobaaGreatA08
section
namespace Go.Proofs.YtjlfgojblimobaaGreat
open Go.RowKit
set_option maxRecDepth 100000

theorem own_later {w w' : World} {base s n : Nat} {t : TypeId} {v : Value} {xs : List Value} (h : w.ownsRow base t s v n xs) (hb : Below w.heap.size w w') : w'.ownsRow base t s v n xs := by
  refine ⟨h.1, ?_⟩
  rcases h.2 with h0 | ⟨g, cap, cur, hv, hbg, hg, rest⟩
  · exact .inl h0
  · exact .inr ⟨g, cap, cur, hv, hbg, by rw [hb.block g (lt_of_block hg)]; exact hg, rest⟩
theorem run_row {base G K c3 : Nat} {w : World} {lv : List Int} {b : Int} {vs : List Sv} (h : RwR base w ((M.runs lv b).map (·.pl)) vs (.slice (some ⟨G, 0, none⟩) K c3)) (hK : (M.runs lv b).length = K) {k : Nat} (hk : k < K) :
    ∃ (g c p : Nat), (M.rn (M.runs lv b) k).pl.length = p + 1 ∧ w.cell? ⟨G, k, none⟩ = some (.slice (some ⟨g, 0, none⟩) (p + 1) c) ∧ (∀ (j : Nat) (u : Value), ((M.rn (M.runs lv b) k).pl.map (Value.int .i64))[j]? = some u → w.cell? ((⟨g, 0, none⟩ : Addr).add j) = some u) := by
  have hr := M.rn_mem (rs := M.runs lv b) (i := k) (by omega)
  obtain ⟨f, q, hf, hq, -, hql, hp0, hpq, hpos, -, -⟩ := M.run_ends hr
  have hl : ((M.runs lv b).map (·.pl))[k]? = some (M.rn (M.runs lv b) k).pl := by
    rw [List.getElem?_map, List.getElem?_eq_getElem (by omega), M.rn_at (List.getElem?_eq_getElem (by omega))]
    rfl
  obtain ⟨⟨v1, v2⟩, hv⟩ : ∃ v, vs[k]? = some v := ⟨_, List.getElem?_eq_getElem (by rw [h.rws.len, List.length_map]; omega)⟩
  obtain ⟨G', c', hva, -, -, y1, -⟩ := h.cells hl hv
  injection hva with hva1 _ _
  injection hva1 with hva1
  injection hva1 with hva1
  subst hva1
  have ho := h.rws.own k (v1, v2) _ hv hl
  obtain ⟨g, cap, he, -, -⟩ := ho.form hpos
  injection he with e1 e2 e3
  dsimp only at y1 ho
  subst e1
  refine ⟨g, v2, (M.rn (M.runs lv b) k).pl.length - 1, by omega, by rw [y1]; congr 2; omega, fun j u hj => World.ownsRow.cells ho rfl j u hj⟩
set_option maxHeartbeats 4000000 in
theorem refSplit_bad (A B : Option Addr) (ca cb n m : Nat) (l lv : List Int) (b : Int) (w : World) (hr : RdS .i64 w w.heap.size A l) (hn : l.length = n) (hl : n ≤ 1000) (hr2 : RdS .i64 w w.heap.size B lv) (hm : lv.length = m) (hl2 : m ≤ 1000) (hf : ¬ M.Fits l lv b) :
    Calls Tryz.prog 46 #[.slice A n ca, .slice B m cb, .int .i64 b] w (SplitOut l lv b w) := by
  have HRI := Lib.hid (right_any A B ca cb n m l lv b w hr hn hl hr2 hm hl2)
  have HF := Lib.hid hf
  clear hr hn hr2 hm hf
  go_enter Tryz.func46, Tryz.ntmps46
  go_wp2_with fail
  refine HRI.out.mono ?_
  rintro r w1 ⟨bb, rfl, hbb, rfl⟩
  obtain rfl : bb = false := by cases bb with
    | false => rfl
    | true => exact absurd (hbb.1 rfl) HF.out
  clear hbb
  go_wp2_with fail
  go_returns
  exact ⟨Below.refl _ _, fun h => absurd h HF.out, fun _ => rfl⟩
def lenOf : Value → Nat
  | .slice _ n _ => n
  | _ => 0
def oneOf : Value → Nat
  | .bool true => 1
  | _ => 0
theorem Tryz.infoRefSeq : (Tryz.prog.info? 57).map (fun i => (i.zero, i.size, i.bytes)) = some (some (.agg #[.slice none 0 0, .int .i64 0, .int .i64 0, .int .i64 0]), 4, 48) := by kernel_rfl
set_option maxHeartbeats 16000000 in
theorem refSplit_ok (A B : Option Addr) (ca cb n m : Nat) (l lv : List Int) (b : Int) (w : World) (hr : RdS .i64 w w.heap.size A l) (hn : l.length = n) (hl : n ≤ 1000) (hr2 : RdS .i64 w w.heap.size B lv) (hm : lv.length = m) (hl2 : m ≤ 1000) (hf : M.Fits l lv b) :
    Calls Tryz.prog 46 #[.slice A n ca, .slice B m cb, .int .i64 b] w (SplitOut l lv b w) := by
  have hge : ∀ x ∈ lv, -1 ≤ x := fun x hx => (hf.lev hx).1
  have HRI := Lib.hid (right_any A B ca cb n m l lv b w hr hn hl hr2 hm hl2)
  have HLR := Lib.hid (refRuns_any B cb m lv b w hr2 hm hl2 hge)
  have HR := Lib.hid hr
  have HR2 := Lib.hid hr2
  have HN := Lib.hid hn
  have HM := Lib.hid hm
  have HF := Lib.hid hf
  have HG := Lib.hid hge
  have hb01 := hf.base
  clear hr hn hr2 hm hf hge
  go_enter Tryz.func46, Tryz.ntmps46
  go_wp2_with fail
  refine HRI.out.mono ?_
  rintro r w1 ⟨bb, rfl, hbb, rfl⟩
  obtain rfl : bb = true := hbb.2 HF.out
  clear hbb
  go_wp2_with fail
  refine HLR.out.mono ?_
  rintro r w1 ⟨hb1, vs, va, rfl, hrw⟩
  obtain ⟨AA, cA, rfl, -⟩ := own_form hrw.row
  rw [List.length_map] at hrw ⊢
  obtain ⟨K, hK⟩ : ∃ K, (M.runs lv b).length = K := ⟨_, rfl⟩
  rw [hK] at hrw ⊢
  have hKm : K ≤ 1000 := by
    rw [← hK]
    have h1 := M.runs_len lv b
    have h2 := HM.out
    omega
  have HK := Lib.hid hK
  have HRW := Lib.hid hrw
  have HB1 := Lib.hid hb1
  have HMA := Lib.hid (refMatch_any A ca n l w1 ((HR.out.below hb1).more hb1.size) HN.out hl)
  clear hb1 hrw hK
  go_wp2_with fail
  refine HMA.out.mono ?_
  rintro r w2 ⟨v, rfl, hoE, hb2⟩
  obtain ⟨AE, cE, rfl, hrE, -, -, -⟩ := reads_own hoE
  rw [M.matchI_len, HN.out]
  have HRE := Lib.hid hrE
  have HRW2 := Lib.hid (HRW.out.later hb2)
  have HB2 := Lib.hid (HB1.out.trans (hb2.mono HB1.out.size))
  have hKi : (K : Int) ≤ 1000 := by omega
  have hni : (n : Int) ≤ 1000 := by omega
  have hmi : (m : Int) ≤ 1000 := by omega
  clear hoE hrE hb2
  go_wp2_with fail
  go_loopw [9, 12] (fun v9 v12 wr => ∃ (i : Nat) (vs2 : List Sv) (Ao : Option Addr) (S co : Nat), i ≤ K ∧ v12 = .int .i64 i ∧ v9 = .slice Ao S co ∧ (M.whole l lv b i).length = S ∧ S ≤ i ∧ wr.ownsRow w2.heap.size 57 4 v9 S (sqCells vs2 (M.whole l lv b i)) ∧ Rws wr w2.heap.size vs2 ((M.whole l lv b i).map (·.pl)) ∧ Below w2.heap.size w2 wr) (fun _ v12 _ => K - (intOf v12).toNat)
  case atStart => exact ⟨0, [], none, 0, 0, Nat.zero_le _, rfl, rfl, rfl, Nat.le_refl _, World.ownsRow_nil _ _ _ _, Rws.nil _ _, Below.refl _ _⟩
  case round =>
    obtain ⟨i, vs2, Ao, S, co, hi, rfl, rfl, hS, hSi, hrow, hrws, hb⟩ := hrel
    have i0 : (0 : Int) ≤ i := by omega
    have HROW := Lib.hid hrow
    have HRWS := Lib.hid hrws
    have HB := Lib.hid hb
    have HS := Lib.hid hS
    have hsz := hb.size
    clear hrow hrws hb hS
    by_cases hlt : i < K
    · have i1 : (i : Int) < K := by omega
      have hrwr := HRW2.out.later HB.out
      obtain ⟨G, cG, hva, -, -, -, -⟩ : ∃ G c, (Value.slice AA K cA) = .slice (some ⟨G, 0, none⟩) K c ∧ True ∧ True ∧ True ∧ True := by
        obtain ⟨l0, hl0⟩ : ∃ x, ((M.runs lv b).map (·.pl))[i]? = some x := ⟨_, List.getElem?_eq_getElem (by rw [List.length_map, HK.out]; exact hlt)⟩
        obtain ⟨v0, hv0⟩ : ∃ x, vs[i]? = some x := ⟨_, List.getElem?_eq_getElem (by rw [hrwr.rws.len, List.length_map, HK.out]; exact hlt)⟩
        obtain ⟨G, c, hva, -⟩ := hrwr.cells hl0 hv0
        rw [List.length_map, HK.out] at hva
        exact ⟨G, c, hva, trivial, trivial, trivial, trivial⟩
      injection hva with hva1 hva2 hva3
      clear hva2
      subst hva1 hva3
      have HJ := Lib.hid (joined_any _ G K cA wr l lv b vs AE cE n i hrwr HK.out ((HRE.out.below HB.out).more hsz) HN.out (by rw [HN.out, HM.out]; have := HF.out.len; rw [HN.out, HM.out] at this; exact this) hl hlt)
      clear hrwr
      cases hpv : (M.pv (M.goes l (M.runs lv b)) (M.from_ (M.runs lv b)) i).isSome with
      | true =>
        rw [hpv] at HJ
        have HW := Lib.hid (M.whole_no hpv)
        clear hpv
        go_wp2_with fail
        refine HJ.out.mono ?_
        rintro r w3 ⟨rfl, hb3⟩
        have HROW3 := Lib.hid (own_later HROW.out hb3)
        have HRWS3 := Lib.hid (HRWS.out.below hb3)
        have HB3 := Lib.hid (HB.out.trans (hb3.mono hsz))
        clear hb3
        go_wp2_with fail
        go_roundw
        case rel => exact ⟨i + 1, vs2, Ao, S, co, by omega, by go_num, rfl, by rw [HW.out]; exact HS.out, by omega, by rw [HW.out]; exact HROW3.out, by rw [HW.out]; exact HRWS3.out, HB3.out⟩
        case measure => simp [intOf]; omega
      | false =>
        rw [hpv] at HJ
        go_wp2_with fail
        refine HJ.out.mono ?_
        rintro r w3 ⟨rfl, hb3⟩
        have HROW3 := Lib.hid (own_later HROW.out hb3)
        have HRWS3 := Lib.hid (HRWS.out.below hb3)
        have HB3 := Lib.hid (HB.out.trans (hb3.mono hsz))
        have hpn : M.pv (M.goes l (M.runs lv b)) (M.from_ (M.runs lv b)) i = none := by
          cases h : M.pv (M.goes l (M.runs lv b)) (M.from_ (M.runs lv b)) i with
          | none => rfl
          | some p => rw [h] at hpv; cases hpv
        have HP := Lib.hid hpn
        have HRW3 := Lib.hid (HRW2.out.later HB3.out)
        have HRD := Lib.hid (fun (W' : World) (hb : Below w2.heap.size w2 W') (k : Nat) (hk : k < K) => run_row (HRW2.out.later hb) HK.out hk)
        obtain ⟨g, cg, p, hpl, y1, hnews⟩ := HRD.out w3 HB3.out i hlt
        have HN3 := Lib.hid hnews
        have HPL := Lib.hid hpl
        have hpm : p + 1 ≤ 1000 := by
          have h1 := M.upTo_len (l := l) (lv := lv) (b := b) (c := i) (by rw [HK.out]; exact hlt)
          rw [M.upTo_one hpn, hpl, HM.out] at h1
          omega
        obtain ⟨np, hnp⟩ : ∃ np, p + 1 = np := ⟨_, rfl⟩
        rw [hnp] at y1 hpl hpm
        have hs3 := HB3.out.size
        obtain ⟨j0, hj, hy0, hy1, hy2⟩ := info_parts Tryz.infoInt
        have y1a : (w3.alloc (.cells #[] 3)).cell? ⟨G, i, none⟩ = some (.slice (some ⟨g, 0, none⟩) np cg) := (((Below.refl _ _).alloc (Nat.le_refl _) _).cell (World.block_lt_of_cell? _ _ y1)).trans y1
        clear hb3 hnews hpv hpn hpl
        go_wp2_with (at_builtin; refine wpList_append_lies _ rfl _ _ 25 rfl w3.heap.size 3 j0 (.int .i64 0) 1 8 Tryz.underlying25 hj hy0 hy1 hy2 rfl (by decide) _ _ _ rfl (World.ownsRow_lit w3 #[] 0 (Nat.le_refl _) (by unfold maxLen; omega) rfl) ⟨g, 0, none⟩ np cg ((M.rn (M.runs lv b) i).pl.map (Value.int .i64)) rfl (by rw [List.length_map, HPL.out]; omega) (fun j u hu => (((Below.refl _ _).alloc (Nat.le_refl _) _).cell (World.block_lt_of_cell? _ _ (HN3.out j u hu))).trans (HN3.out j u hu)) (by intro u hu; rw [List.mem_map] at hu; obtain ⟨_, _, rfl⟩ := hu; rfl) (by omega) (by unfold maxLen; omega) (by omega) (by simp) (w3.heap.size + 1) (by simp) ?_)
        intro g1 cap1 w4 hown4 hgrow4 hat4 _
        have hb4 : Below w3.heap.size w3 w4 := ((Below.refl _ _).alloc (Nat.le_refl _) _).grown hgrow4 (by simp) (fun q hq => by have e : w3.heap.size = q := (by simpa [Value.ownBlock] using hq); omega)
        have HO4 := Lib.hid hown4
        have HB4 := Lib.hid hb4
        obtain ⟨T, hT⟩ : ∃ T, M.goes l (M.runs lv b) = T := ⟨_, rfl⟩
        obtain ⟨F, hF⟩ : ∃ F, M.from_ (M.runs lv b) = F := ⟨_, rfl⟩
        have HT := Lib.hid hT
        have HFF := Lib.hid hF
        have hd0 : M.hd T F i = i := M.hd_none (by rw [← hT, ← hF]; exact HP.out)
        have HD0 := Lib.hid hd0
        have HU0 := Lib.hid (M.upTo_one HP.out)
        have HPN := Lib.hid (show (M.rn (M.runs lv b) i).pl.length = np by rw [HPL.out, hnp])
        clear hown4 hgrow4 hat4 hb4 hT hF hd0 hj hy0 hy1 hy2
        go_wp2_with fail
        go_loopw [14, 15] (fun v14 v15 wr2 => ∃ (c : Nat) (more : Bool) (q cap np : Nat), c < K ∧ M.hd T F c = i ∧ v15 = .bool more ∧ v14 = .slice (some ⟨q, 0, none⟩) np cap ∧ (M.upTo l lv b c).length = np ∧ wr2.ownsRow w3.heap.size 3 1 v14 np ((M.upTo l lv b c).map (Value.int .i64)) ∧ (more = false → ∀ k, k < K → T c ≠ F k) ∧ Below w3.heap.size w3 wr2) (fun v14 v15 _ => 2 * (1001 - lenOf v14) + oneOf v15)
        case atStart => exact ⟨i, true, g1, cap1, np, hlt, HD0.out, rfl, rfl, by rw [HU0.out]; exact HPN.out, by rw [HU0.out]; exact HO4.out, fun h => (by cases h), HB4.out⟩
        case round =>
          obtain ⟨c, more, q, cap, np2, hc, hhd, rfl, rfl, hul, hown, hmore, hbw⟩ := hrel
          have HOW := Lib.hid hown
          have HBW := Lib.hid hbw
          have HUL := Lib.hid hul
          have HHD := Lib.hid hhd
          have HMO := Lib.hid hmore
          have hum : np2 ≤ 1000 := by
            have h1 := M.upTo_len (l := l) (lv := lv) (b := b) (c := c) (by rw [HK.out]; exact hc)
            rw [hul, HM.out] at h1
            omega
          clear hown hbw hul hhd hmore
          cases more with
          | true =>
            obtain ⟨fc, qc, hfc, hqc, -, hqcl, -, hpqc, hposc, -, -⟩ := M.run_ends (M.rn_mem (rs := M.runs lv b) (i := c) (by rw [HK.out]; exact hc))
            obtain ⟨⟨X, hX⟩, -⟩ := M.upTo_ends (l := l) (lv := lv) (b := b) c
            obtain ⟨p2, hp2⟩ : ∃ p2, p2 + 1 = np2 := ⟨np2 - 1, by have := HUL.out; rw [hX, List.length_append] at this; omega⟩
            have hlast : (M.upTo l lv b c)[p2]? = some (qc : Int) := by
              have h1 := HUL.out
              rw [hX, List.length_append] at h1
              rw [hX, List.getElem?_append_right (by omega), show p2 - X.length = (M.rn (M.runs lv b) c).pl.length - 1 by omega]
              exact hpqc
            have z1 : wr.cell? ⟨q, p2, none⟩ = some (.int .i64 qc) := (World.ownsRow.cellAt (size := 1) HOW.out p2 (by omega)).trans (by rw [List.getElem?_map, hlast]; rfl)
            have hmt : (M.matchI l)[qc]? = some (T c) := by
              have h1 := HF.out.len
              rw [← HT.out]
              unfold M.goes
              rw [hqc, Int.toNat_natCast]
              unfold M.matchI M.matchTo
              simp [h1, hqcl]
            obtain ⟨ae, hae, -, z2⟩ := (HRE.out.below (HB3.out.trans (HBW.out.mono hs3))) qc _ hmt
            subst hae
            obtain ⟨tc, htc⟩ : ∃ tc, T c = tc := ⟨_, rfl⟩
            rw [htc] at z2
            have HTC := Lib.hid htc
            have hp3 : (np2 : Int) - 1 = p2 := by omega
            have hw1 : IntKind.i64.wrap ((np2 : Int) - 1) = (p2 : Nat) := by rw [IntKind.wrap_i64]; omega
            have hw2 : IntKind.i64.wrap (p2 : Int) = (p2 : Nat) := by rw [IntKind.wrap_i64]; omega
            have hp4 : (0 : Int) ≤ p2 := by omega
            have hp5 : (p2 : Int) < np2 := by omega
            have hqc0 : (0 : Int) ≤ qc := by omega
            have hqc1 : (qc : Int) < n := by have h1 := HF.out.len; rw [HN.out] at h1; omega
            clear hX hlast hmt htc hfc hqc hpqc hposc
            go_wp2_with fail
            go_loopw [14, 15, 16, 17] (fun v14 v15 v16 v17 wr2 => ∃ (c' : Nat) (mo : Bool) (to : Int) (k q cap np' : Nat), k ≤ K ∧ v17 = .int .i64 k ∧ v16 = .int .i64 to ∧ v15 = .bool mo ∧ v14 = .slice (some ⟨q, 0, none⟩) np' cap ∧ c' < K ∧ M.hd T F c' = i ∧ (M.upTo l lv b c').length = np' ∧ wr2.ownsRow w3.heap.size 3 1 v14 np' ((M.upTo l lv b c').map (Value.int .i64)) ∧ (mo = false ∧ c' = c ∧ np' = np2 ∧ to = tc ∧ (∀ j, j < k → T c ≠ F j) ∨ mo = true ∧ to = -1 ∧ np2 < np') ∧ Below w3.heap.size w3 wr2) (fun _ _ _ v17 _ => K - (intOf v17).toNat)
            case atStart => exact ⟨c, false, tc, 0, q, cap, np2, Nat.zero_le _, rfl, rfl, rfl, rfl, hc, HHD.out, HUL.out, HOW.out, .inl ⟨rfl, rfl, rfl, rfl, fun j hj => by omega⟩, HBW.out⟩
            case round =>
              obtain ⟨c', mo, to, k, q', cap', np', hk, rfl, rfl, rfl, rfl, hc', hhd', hul', hown', hst, hbw'⟩ := hrel
              have HOW' := Lib.hid hown'
              have HBW' := Lib.hid hbw'
              have HUL' := Lib.hid hul'
              have HHD' := Lib.hid hhd'
              have hum' : np' ≤ 1000 := by
                have h1 := M.upTo_len (l := l) (lv := lv) (b := b) (c := c') (by rw [HK.out]; exact hc')
                rw [hul', HM.out] at h1
                omega
              have k0 : (0 : Int) ≤ k := by omega
              clear hown' hbw' hul' hhd'
              rcases hst with ⟨rfl, rfl, rfl, rfl, hno⟩ | ⟨rfl, rfl, hlong⟩
              · have HNO := Lib.hid hno
                clear hno
                by_cases hkK : k < K
                · have k1 : (k : Int) < K := by omega
                  by_cases ht0 : to < 0
                  · have ht1 : ¬ 0 ≤ to := by omega
                    have HALL := Lib.hid (show ∀ k, k < K → T c' ≠ F k from fun j hj e => by
                      have h1 := (M.runs_chains l lv b).f0 j (by rw [HK.out]; exact hj)
                      rw [HFF.out, ← e, HTC.out] at h1
                      omega)
                    go_wp2_with fail
                    go_roundw
                    case rel => exact ⟨c', false, q', cap', np', hc', HHD'.out, rfl, rfl, HUL'.out, HOW'.out, fun _ => HALL.out, HBW'.out⟩
                    case measure => simp [lenOf, oneOf]
                  · have ht1 : 0 ≤ to := by omega
                    obtain ⟨g2, cg2, p4, hpl4, w1, hnews4⟩ := HRD.out wr (HB3.out.trans (HBW'.out.mono hs3)) k hkK
                    obtain ⟨fk, qk, hfk, hqk, -, -, hp0k, -, -, -, -⟩ := M.run_ends (M.rn_mem (rs := M.runs lv b) (i := k) (by rw [HK.out]; exact hkK))
                    have w2' : wr.cell? ⟨g2, 0, none⟩ = some (.int .i64 fk) := hnews4 0 _ (by rw [List.getElem?_map, hp0k]; rfl)
                    have hFk : F k = fk := by rw [← HFF.out]; exact hfk
                    have HFK := Lib.hid hFk
                    have HN4 := Lib.hid hnews4
                    have HP4 := Lib.hid hpl4
                    clear hfk hqk hp0k hFk hnews4 hpl4
                    by_cases hfe : (fk : Int) = to
                    · have hTF : T c' = F k := by rw [HTC.out, HFK.out, hfe]
                      obtain ⟨-, hhk, huk⟩ := M.upTo_step (l := l) (lv := lv) (b := b) (c := c') (k := k) (by rw [HK.out]; exact hkK) (by rw [HK.out]; exact hc') (by rw [HT.out, HFF.out]; exact hTF)
                      have hukl := M.upTo_len (l := l) (lv := lv) (b := b) (c := k) (by rw [HK.out]; exact hkK)
                      rw [huk, List.length_append, HUL'.out, HP4.out, HM.out] at hukl
                      rw [HT.out, HFF.out, HHD'.out] at hhk
                      obtain ⟨n4, hn4⟩ : ∃ n4, p4 + 1 = n4 := ⟨_, rfl⟩
                      rw [hn4] at w1 hukl
                      have HHK := Lib.hid hhk
                      have HUK := Lib.hid huk
                      subst hfe
                      obtain ⟨j0, hj, hy0, hy1, hy2⟩ := info_parts Tryz.infoInt
                      have hsw := HBW'.out.size
                      clear hhk huk hTF
                      go_wp2_with (at_builtin; refine wpList_append_lies _ rfl _ _ 25 rfl w3.heap.size 3 j0 (.int .i64 0) 1 8 Tryz.underlying25 hj hy0 hy1 hy2 rfl (by decide) _ _ _ rfl HOW'.out ⟨g2, 0, none⟩ n4 cg2 ((M.rn (M.runs lv b) k).pl.map (Value.int .i64)) rfl (by rw [List.length_map, HP4.out]; omega) HN4.out (by intro u hu; rw [List.mem_map] at hu; obtain ⟨_, _, rfl⟩ := hu; rfl) (by omega) (by unfold maxLen; omega) (by omega) hsw _ rfl ?_)
                      intro g5 cap5 w5 hown5 hgrow5 hat5 _
                      have HO5 := Lib.hid (show w5.ownsRow w3.heap.size 3 1 (.slice (some ⟨g5, 0, none⟩) (np' + n4) cap5) (np' + n4) ((M.upTo l lv b k).map (Value.int .i64)) by rw [HUK.out, List.map_append]; exact hown5)
                      have HB5 := Lib.hid (HBW'.out.grown hgrow5 hsw (fun q hq => (World.ownsRow.lt HOW'.out q hq).1))
                      have HL5 := Lib.hid (show (M.upTo l lv b k).length = np' + n4 by rw [HUK.out, List.length_append, HUL'.out, HP4.out, hn4])
                      clear hown5 hgrow5 hat5 hj hy0 hy1 hy2
                      go_wp2_with fail
                      go_roundw
                      case rel => exact ⟨k, true, -1, k + 1, g5, cap5, np' + n4, by omega, by go_num, rfl, rfl, rfl, hkK, HHK.out, HL5.out, HO5.out, .inr ⟨rfl, rfl, by omega⟩, HB5.out⟩
                      case measure => simp [intOf]; omega
                    · have hfe' : ((fk : Int) == to) = false := by simp [hfe]
                      have HNK := Lib.hid (show ∀ j, j < k + 1 → T c' ≠ F j from fun j hj => by
                        rcases Nat.lt_or_ge j k with h1 | h1
                        · exact HNO.out j h1
                        · obtain rfl : j = k := by omega
                          rw [HTC.out, HFK.out]; exact fun e => hfe e.symm)
                      go_wp2_with fail
                      go_roundw
                      case rel => exact ⟨c', false, to, k + 1, q', cap', np', by omega, by go_num, rfl, rfl, rfl, hc', HHD'.out, HUL'.out, HOW'.out, .inl ⟨rfl, rfl, rfl, rfl, HNK.out⟩, HBW'.out⟩
                      case measure => simp [intOf]; omega
                · obtain rfl : k = K := by omega
                  have hnk : ¬ (k : Int) < (k : Int) := by omega
                  go_wp2_with fail
                  go_roundw
                  case rel => exact ⟨c', false, q', cap', np', hc', HHD'.out, rfl, rfl, HUL'.out, HOW'.out, fun _ => HNO.out, HBW'.out⟩
                  case measure => simp [lenOf, oneOf]
              · go_wp2_with fail
                all_goals
                  go_roundw
                  case rel => exact ⟨c', true, q', cap', np', hc', HHD'.out, rfl, rfl, HUL'.out, HOW'.out, fun h => (by cases h), HBW'.out⟩
                  case measure => simp [lenOf, oneOf]; omega
          | false =>
            have hstop := M.upTo_stop (l := l) (lv := lv) (b := b) (c := c) (by rw [HK.out]; exact hc) (by rw [HT.out, HFF.out, HK.out]; exact HMO.out rfl)
            rw [HT.out, HFF.out, HHD.out] at hstop
            have hri := M.rn_mem (rs := M.runs lv b) (i := i) (by rw [HK.out]; exact hlt)
            have hrc := M.rn_mem (rs := M.runs lv b) (i := c) (by rw [HK.out]; exact hc)
            obtain ⟨fi, qi, hfi, -, hfil, -, hp0i, -, hposi, hlvf, -⟩ := M.run_ends hri
            obtain ⟨fc, qc, -, hqc, -, hqcl, -, hpqc, hposc, -, -⟩ := M.run_ends hrc
            obtain ⟨⟨X, hX⟩, Y, hY⟩ := M.upTo_ends (l := l) (lv := lv) (b := b) c
            rw [HT.out, HFF.out, HHD.out] at hY
            obtain ⟨p2, hp2⟩ : ∃ p2, p2 + 1 = np2 := ⟨np2 - 1, by have := HUL.out; rw [hX, List.length_append] at this; omega⟩
            have hlast : (M.upTo l lv b c)[p2]? = some (qc : Int) := by
              have h1 := HUL.out
              rw [hX, List.length_append] at h1
              rw [hX, List.getElem?_append_right (by omega), show p2 - X.length = (M.rn (M.runs lv b) c).pl.length - 1 by omega]
              exact hpqc
            have hfirst : (M.upTo l lv b c)[0]? = some (fi : Int) := by
              rw [hY, List.getElem?_append_left hposi]
              exact hp0i
            have z1 : wr.cell? ⟨q, p2, none⟩ = some (.int .i64 qc) := (World.ownsRow.cellAt (size := 1) HOW.out p2 (by omega)).trans (by rw [List.getElem?_map, hlast]; rfl)
            have z0 : wr.cell? ⟨q, 0, none⟩ = some (.int .i64 fi) := (World.ownsRow.cellAt (size := 1) HOW.out 0 (by omega)).trans (by rw [List.getElem?_map, hfirst]; rfl)
            have hbwr : Below w.heap.size w wr := HB2.out.trans ((HB3.out.trans (HBW.out.mono hs3)).mono HB2.out.size)
            obtain ⟨lvi, hlvi⟩ : ∃ x, (M.rn (M.runs lv b) i).lv = x := ⟨_, rfl⟩
            obtain ⟨ahi, hahi⟩ : ∃ x, (M.rn (M.runs lv b) i).ah = x := ⟨_, rfl⟩
            obtain ⟨bec, hbec⟩ : ∃ x, (M.rn (M.runs lv b) c).be = x := ⟨_, rfl⟩
            have hah := (M.runs_ok _ hri).ah
            have hbe := (M.runs_ok _ hrc).be
            rw [hahi, hfi, Int.toNat_natCast] at hah
            rw [hbec, hqc, Int.toNat_natCast] at hbe
            obtain ⟨cl, hcl⟩ : ∃ x, l[qc]? = some x := ⟨_, List.getElem?_eq_getElem (by rw [HF.out.len]; exact hqcl)⟩
            have hbh : M.bh l b (M.rn (M.runs lv b) c) = if M.begins cl = true then b else bec := by
              unfold M.bh
              rw [hqc, Int.toNat_natCast, List.getD_eq_getElem?_getD, hcl, hbec]
              rfl
            rw [hlvi, hahi, hbh] at hstop
            rw [hlvi] at hlvf
            obtain ⟨adl, hadl, -, z2⟩ := (HR2.out.below hbwr) fi _ hlvf
            obtain ⟨adc, hadc, -, z3⟩ := (HR.out.below hbwr) qc _ hcl
            subst hadl hadc
            have hlv1 := HF.out.lev (List.mem_of_getElem? hlvf)
            have hno := (M.runs_ok _ hri).no
            rw [hlvi] at hno
            have ha1 := HF.out.near (b := b) (L := (lv.take fi).reverse) (fun x hx => List.mem_of_mem_take (List.mem_reverse.1 hx))
            have hb1 := HF.out.near (b := b) (L := lv.drop (qc + 1)) (fun x hx => List.mem_of_mem_drop hx)
            rw [← hah] at ha1
            rw [← hbe] at hb1
            have HNU := Lib.hid (near_up (some adl) cb m (qc + 1) lv b wr ((HR2.out.below hbwr).more hbwr.size) HM.out hl2 HG.out (by rw [← HM.out]; omega))
            have HND := Lib.hid (near_down (some adl) cb m fi lv b ((fi : Int) - 1) wr ((HR2.out.below hbwr).more hbwr.size) HM.out hl2 HG.out (by rw [← HM.out]; omega) (by omega))
            rw [← hbe] at HNU
            rw [← hah] at HND
            have HSTOP := Lib.hid hstop
            obtain ⟨q1, hq1⟩ : ∃ q1, qc + 1 = q1 := ⟨_, rfl⟩
            rw [hq1] at HNU
            obtain ⟨pf, hpf⟩ : ∃ pf, (fi : Int) - 1 = pf := ⟨_, rfl⟩
            rw [hpf] at HND
            have hq2 : (qc : Int) + 1 = (q1 : Nat) := by omega
            have hqcm : qc < m := by rw [← HM.out]; exact hqcl
            have hfim : fi < m := by rw [← HM.out]; exact hfil
            have hw1 : IntKind.i64.wrap ((qc : Int) + 1) = (q1 : Nat) := by rw [IntKind.wrap_i64]; omega
            have hw2 : IntKind.i64.wrap (q1 : Int) = (q1 : Nat) := by rw [IntKind.wrap_i64]; omega
            have hw3 : IntKind.i64.wrap ((fi : Int) - 1) = pf := by rw [IntKind.wrap_i64]; omega
            have hw4 : IntKind.i64.wrap pf = pf := by rw [IntKind.wrap_i64]; omega
            have hp3 : (np2 : Int) - 1 = p2 := by omega
            have hw5 : IntKind.i64.wrap ((np2 : Int) - 1) = (p2 : Nat) := by rw [IntKind.wrap_i64]; omega
            have hw6 : IntKind.i64.wrap (p2 : Int) = (p2 : Nat) := by rw [IntKind.wrap_i64]; omega
            have hp4 : (0 : Int) ≤ p2 := by omega
            have hp5 : (p2 : Int) < np2 := by omega
            have hnp0 : (0 : Int) < np2 := by omega
            have hf0 : (0 : Int) ≤ fi := by omega
            have hf1 : (fi : Int) < m := by omega
            have hc0 : (0 : Int) ≤ qc := by omega
            have hc1 : (qc : Int) < n := by have h1 := HF.out.len; rw [HN.out] at h1; omega
            have hl0 : 0 ≤ lvi := by omega
            have HROWr := Lib.hid (own_later HROW3.out HBW.out)
            have HRWSr := Lib.hid (HRWS3.out.below HBW.out)
            obtain ⟨i1', hx0, hx1, hx2, hx3⟩ := info_parts Tryz.infoRefSeq
            have hswr := HBW.out.size
            have hS2 := HS.out
            have HBG := Lib.hid (begins_any cl wr)
            clear hX hY hlast hfirst hfi hqc hp0i hpqc hposi hposc hlvf hah hbe hbh hcl hstop hbwr hlvi hahi hbec hS2 hri hrc hfil hqcl
            cases hbg : M.begins cl with
            | true =>
              rw [hbg] at HBG HSTOP
              have HST := Lib.hid (show M.sq l b (M.runs lv b) (M.runs lv b).length i = ⟨M.upTo l lv b c, lvi, M.sd lvi ahi, M.sd lvi b⟩ from by rw [HSTOP.out]; simp)
              clear hbg
              go_wp2_with fail
              refine HNU.out.mono ?_
              rintro r w6 ⟨rfl, rfl⟩
              go_wp2_with fail
              refine HBG.out.mono ?_
              rintro r w6 ⟨rfl, rfl⟩
              go_wp2_with fail
              refine HND.out.mono ?_
              rintro r w6 ⟨rfl, rfl⟩
              go_wp2_with fail
              refine (refside_any lvi ahi _ hl0 (by omega) (by omega) (by omega)).mono ?_
              rintro r w6 ⟨rfl, rfl⟩
              go_wp2_with fail
              refine (refside_any lvi b _ hl0 (by omega) (by omega) (by omega)).mono ?_
              rintro r w6 ⟨rfl, rfl⟩
              go_wp2_with (at_builtin; refine wpList_append_lies _ rfl _ _ 54 rfl w2.heap.size 57 i1' _ 4 48 Tryz.underlying54 hx0 hx1 hx2 hx3 rfl (by decide) _ _ _ rfl (World.ownsRow.alloc HROWr.out _) ⟨wr.heap.size, 0, none⟩ 1 1 [.slice (some ⟨q, 0, none⟩) np2 cap, .int .i64 lvi, .int .i64 (M.sd lvi ahi), .int .i64 (M.sd lvi b)] rfl rfl (World.news_of_block (World.alloc_heap_new _ _)) (by intro u hu; simp at hu; rcases hu with rfl | rfl | rfl | rfl <;> rfl) (by decide) (by unfold maxLen; omega) (by omega) (by simp; omega) (wr.heap.size + 1) (by simp) ?_)
              intro g7 cap7 w7 hown7 hgrow7 hat7 _
              have hP := HRWSr.out.put (v := (some ⟨q, 0, none⟩, cap)) (l := M.upTo l lv b c) (by rw [HUL.out]; exact own_base HOW.out HB3.out.size) (H := w3.heap.size) (fun g hg => by
                have e : q = g := by simpa using hg
                rw [← e]; exact (World.ownsRow.lt HOW.out q rfl).1) (fun k v' g hv hg => by
                obtain ⟨l', hl'⟩ : ∃ l', ((M.whole l lv b i).map (·.pl))[k]? = some l' := ⟨_, List.getElem?_eq_getElem (by rw [← HRWS3.out.len]; exact (List.getElem?_eq_some_iff.1 hv).1)⟩
                exact (World.ownsRow.lt (HRWS3.out.own k v' l' hv hl') g (by rw [own_blk]; exact hg)).2)
              have hP7 := (hP.below ((Below.refl _ _).alloc (Nat.le_refl _) _)).growOther (World.ownsRow.alloc HROWr.out _) (by decide) hgrow7
              have hsn := sqCells_snoc (vs := vs2) (ss := M.whole l lv b i) (some ⟨q, 0, none⟩, cap) ⟨M.upTo l lv b c, lvi, M.sd lvi ahi, M.sd lvi b⟩ (by have h := HRWS3.out.len; rwa [List.length_map] at h)
              dsimp only at hsn
              rw [HUL.out] at hsn
              rw [hsn] at hown7
              have hwm := M.whole_more HP.out
              rw [HST.out] at hwm
              have hb7 : Below w2.heap.size w2 w7 := ((HB3.out.trans (HBW.out.mono hs3)).alloc (Nat.le_trans hs3 hswr) _).grown hgrow7 (by simp; omega) (fun x hx => (World.ownsRow.lt HROWr.out x hx).1)
              rw [show (M.whole l lv b i).map (·.pl) ++ [M.upTo l lv b c] = (M.whole l lv b (i + 1)).map (·.pl) by rw [hwm, List.map_append]; rfl] at hP7
              rw [← hwm] at hown7
              have HP7 := Lib.hid hP7
              have HO7 := Lib.hid hown7
              have HB7 := Lib.hid hb7
              have HL7 := Lib.hid (show (M.whole l lv b (i + 1)).length = S + 1 by rw [hwm, List.length_append, HS.out]; rfl)
              clear hP hP7 hsn hown7 hwm hb7 hgrow7 hat7
              go_wp2_with fail
              go_roundw
              case rel => exact ⟨i + 1, _, _, S + 1, _, by omega, by go_num, rfl, HL7.out, by omega, HO7.out, HP7.out, HB7.out⟩
              case measure => simp [intOf]; omega
            | false =>
              rw [hbg] at HBG HSTOP
              have HST := Lib.hid (show M.sq l b (M.runs lv b) (M.runs lv b).length i = ⟨M.upTo l lv b c, lvi, M.sd lvi ahi, M.sd lvi bec⟩ from by rw [HSTOP.out]; simp)
              clear hbg
              go_wp2_with fail
              refine HNU.out.mono ?_
              rintro r w6 ⟨rfl, rfl⟩
              go_wp2_with fail
              refine HBG.out.mono ?_
              rintro r w6 ⟨rfl, rfl⟩
              go_wp2_with fail
              refine HND.out.mono ?_
              rintro r w6 ⟨rfl, rfl⟩
              go_wp2_with fail
              refine (refside_any lvi ahi _ hl0 (by omega) (by omega) (by omega)).mono ?_
              rintro r w6 ⟨rfl, rfl⟩
              go_wp2_with fail
              refine (refside_any lvi bec _ hl0 (by omega) (by omega) (by omega)).mono ?_
              rintro r w6 ⟨rfl, rfl⟩
              go_wp2_with (at_builtin; refine wpList_append_lies _ rfl _ _ 54 rfl w2.heap.size 57 i1' _ 4 48 Tryz.underlying54 hx0 hx1 hx2 hx3 rfl (by decide) _ _ _ rfl (World.ownsRow.alloc HROWr.out _) ⟨wr.heap.size, 0, none⟩ 1 1 [.slice (some ⟨q, 0, none⟩) np2 cap, .int .i64 lvi, .int .i64 (M.sd lvi ahi), .int .i64 (M.sd lvi bec)] rfl rfl (World.news_of_block (World.alloc_heap_new _ _)) (by intro u hu; simp at hu; rcases hu with rfl | rfl | rfl | rfl <;> rfl) (by decide) (by unfold maxLen; omega) (by omega) (by simp; omega) (wr.heap.size + 1) (by simp) ?_)
              intro g7 cap7 w7 hown7 hgrow7 hat7 _
              have hP := HRWSr.out.put (v := (some ⟨q, 0, none⟩, cap)) (l := M.upTo l lv b c) (by rw [HUL.out]; exact own_base HOW.out HB3.out.size) (H := w3.heap.size) (fun g hg => by
                have e : q = g := by simpa using hg
                rw [← e]; exact (World.ownsRow.lt HOW.out q rfl).1) (fun k v' g hv hg => by
                obtain ⟨l', hl'⟩ : ∃ l', ((M.whole l lv b i).map (·.pl))[k]? = some l' := ⟨_, List.getElem?_eq_getElem (by rw [← HRWS3.out.len]; exact (List.getElem?_eq_some_iff.1 hv).1)⟩
                exact (World.ownsRow.lt (HRWS3.out.own k v' l' hv hl') g (by rw [own_blk]; exact hg)).2)
              have hP7 := (hP.below ((Below.refl _ _).alloc (Nat.le_refl _) _)).growOther (World.ownsRow.alloc HROWr.out _) (by decide) hgrow7
              have hsn := sqCells_snoc (vs := vs2) (ss := M.whole l lv b i) (some ⟨q, 0, none⟩, cap) ⟨M.upTo l lv b c, lvi, M.sd lvi ahi, M.sd lvi bec⟩ (by have h := HRWS3.out.len; rwa [List.length_map] at h)
              dsimp only at hsn
              rw [HUL.out] at hsn
              rw [hsn] at hown7
              have hwm := M.whole_more HP.out
              rw [HST.out] at hwm
              have hb7 : Below w2.heap.size w2 w7 := ((HB3.out.trans (HBW.out.mono hs3)).alloc (Nat.le_trans hs3 hswr) _).grown hgrow7 (by simp; omega) (fun x hx => (World.ownsRow.lt HROWr.out x hx).1)
              rw [show (M.whole l lv b i).map (·.pl) ++ [M.upTo l lv b c] = (M.whole l lv b (i + 1)).map (·.pl) by rw [hwm, List.map_append]; rfl] at hP7
              rw [← hwm] at hown7
              have HP7 := Lib.hid hP7
              have HO7 := Lib.hid hown7
              have HB7 := Lib.hid hb7
              have HL7 := Lib.hid (show (M.whole l lv b (i + 1)).length = S + 1 by rw [hwm, List.length_append, HS.out]; rfl)
              clear hP hP7 hsn hown7 hwm hb7 hgrow7 hat7
              go_wp2_with fail
              go_roundw
              case rel => exact ⟨i + 1, _, _, S + 1, _, by omega, by go_num, rfl, HL7.out, by omega, HO7.out, HP7.out, HB7.out⟩
              case measure => simp [intOf]; omega
    · obtain rfl : i = K := by omega
      have hnk : ¬ (i : Int) < (i : Int) := by omega
      have hall : M.whole l lv b i = M.seqs l lv b := by rw [← HK.out]; rfl
      obtain ⟨A9, c9, he, hq9, hS9, hm9, hn9⟩ := rdQ_own (ss := M.whole l lv b i) (by rw [HS.out]; exact HROW.out) HRWS.out
      rw [HS.out] at he
      injection he with e1 e2 e3
      clear e2
      subst e1 e3
      rw [hall] at hq9 hS9
      have hSS : (M.seqs l lv b).length = S := by rw [← hall]; exact HS.out
      have HQ9 := Lib.hid (And.intro hq9 (And.intro hS9 (And.intro hm9 hn9)))
      have HSS := Lib.hid hSS
      have HBB := Lib.hid (HB2.out.trans (HB.out.mono HB2.out.size))
      clear hall hq9 hS9 hm9 hn9 hSS
      go_wp2_with fail
      go_returns
      refine ⟨HBB.out, fun _ => ?_, fun h => absurd HF.out h⟩
      have h9 := HQ9.out
      rw [HSS.out] at h9 ⊢
      exact ⟨_, _, rfl, h9⟩
theorem refSplit_any (A B : Option Addr) (ca cb n m : Nat) (l lv : List Int) (b : Int) (w : World) (hr : RdS .i64 w w.heap.size A l) (hn : l.length = n) (hl : n ≤ 1000) (hr2 : RdS .i64 w w.heap.size B lv) (hm : lv.length = m) (hl2 : m ≤ 1000) :
    Calls Tryz.prog 46 #[.slice A n ca, .slice B m cb, .int .i64 b] w (SplitOut l lv b w) := by
  by_cases hf : M.Fits l lv b
  · exact refSplit_ok A B ca cb n m l lv b w hr hn hl hr2 hm hl2 hf
  · exact refSplit_bad A B ca cb n m l lv b w hr hn hl hr2 hm hl2 hf
end Go.Proofs.YtjlfgojblimobaaGreat
end

section
namespace Go.Proofs.YtjlfgojblimobaaGreat
open Go.RowKit
set_option maxRecDepth 100000

set_option maxHeartbeats 4000000 in
theorem refPrep_any (A : Option Addr) (ca n : Nat) (l : List Int) (b : Int) (w : World) (hr : RdS .i64 w w.heap.size A l) (hn : l.length = n) (hl : n ≤ 1000) (hca : n ≤ ca) :
    Calls Tryz.prog 23 #[.slice A n ca, .int .i64 b] w (PrepOut l b w) := by
  have HL := Lib.hid (lev_any A ca n l b w hr hn hl hca)
  have HR := Lib.hid hr
  have HN := Lib.hid hn
  clear hr hn hca
  by_cases hb : b = 0 ∨ b = 1
  · rw [M.levels_01 hb] at HL
    have HB := Lib.hid hb
    have hb0 : ¬ b < 0 := by omega
    clear hb
    go_enter Tryz.func23, Tryz.ntmps23
    go_wp2_with fail
    refine HL.out.mono ?_
    rintro r w1 hout
    obtain ⟨A1, c1, A2, c2, rfl, hr1, hr2, hc1, -, hb1⟩ := lev_rows hout
    rw [M.run_len, HN.out] at hc1
    rw [M.run_len, HN.out]
    have hbs := hb1.size
    have HS := Lib.hid (refSplit_any A A1 ca c1 n n l (M.levs l b) b w1 ((HR.out.below hb1).more hbs) HN.out hl hr1 (by rw [M.levs_len, HN.out]) hl)
    have HR2 := Lib.hid hr2
    have HB1 := Lib.hid hb1
    clear hr1 hr2 hb1 hout
    go_wp2_with fail
    refine HS.out.mono ?_
    rintro r w2 ⟨hb2, hok, -⟩
    obtain ⟨A3, c3, rfl, hq, hc3, hm3, hn3⟩ := hok (M.levs_fits HB.out)
    obtain ⟨K, hK⟩ : ∃ k, (M.seqs l (M.levs l b) b).length = k := ⟨_, rfl⟩
    rw [hK]
    have HK := Lib.hid hK
    have HQ := Lib.hid hq
    have HR3 := Lib.hid ((HR2.out.below hb2).more hb2.size)
    have HB2 := Lib.hid (HB1.out.trans (hb2.mono hbs))
    clear hb2 hok hq hc3 hm3 hn3 hK
    go_wp2_with fail
    go_returns
    exact ⟨HB2.out, fun _ => ⟨A3, c3, A2, c2, by rw [HK.out, HN.out]; rfl, HQ.out, HR3.out⟩, fun h => absurd HB.out h⟩
  · by_cases h1 : b < 0
    · have HB := Lib.hid hb
      clear hb
      go_enter Tryz.func23, Tryz.ntmps23
      go_wp2_with fail
      go_returns
      exact ⟨Below.refl _ _, fun h => absurd h HB.out, fun _ => rfl⟩
    · have hlv : M.levels l b = none := by unfold M.levels; rw [if_pos (by omega)]
      rw [hlv] at HL
      have HB := Lib.hid hb
      clear hb hlv
      go_enter Tryz.func23, Tryz.ntmps23
      go_wp2_with fail
      refine HL.out.mono ?_
      rintro r w1 ⟨rfl, hb1⟩
      have HB1 := Lib.hid hb1
      clear hb1
      go_wp2_with fail
      go_returns
      exact ⟨HB1.out, fun h => absurd h HB.out, fun _ => rfl⟩
end Go.Proofs.YtjlfgojblimobaaGreat
end
