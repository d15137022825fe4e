/- The document's own reading of a text, over the translation. Conditions: the slice reads as a text of at most 100000 bytes. -/
import Derived.Test.YtjbpjnnflcmmhaaGreatDoorRefRead
import Derived.Test.YtjbpjnnflcmmhaaGreatDoorAlive
namespace Go.Proofs.YtjbpjnnflcmmhaaGreatDoor
open Go.RowKit

theorem M.parse_skip {s : List UInt8} {r : List (List UInt8)} {acc : List M.E} (h : (M.lineOf s).2 = 0) : M.parseGo (s :: r) acc = M.parseGo r acc := by
  unfold M.lineOf at h
  by_cases hc : M.counted s = []
  · rw [M.parseGo, if_pos hc]
  · rw [if_neg hc] at h
    cases he : M.entry (M.counted s) with
    | none => rw [he] at h; cases h
    | some e => rw [he] at h; cases h
theorem M.parse_wrong {s : List UInt8} {r : List (List UInt8)} {acc : List M.E} (h : (M.lineOf s).2 = 2) : M.parseGo (s :: r) acc = none := by
  unfold M.lineOf at h
  unfold M.parseGo
  by_cases hc : M.counted s = []
  · rw [if_pos hc] at h; cases h
  · rw [if_neg hc] at h ⊢
    cases he : M.entry (M.counted s) with
    | none => simp
    | some e => rw [he] at h; cases h
theorem M.parse_full {s : List UInt8} {r : List (List UInt8)} {acc : List M.E} (h : (M.lineOf s).2 = 1) (ha : acc.length = 600) : M.parseGo (s :: r) acc = none := by
  unfold M.lineOf at h
  unfold M.parseGo
  by_cases hc : M.counted s = []
  · rw [if_pos hc] at h; cases h
  · rw [if_neg hc, if_pos ha]
theorem M.parse_more {s : List UInt8} {r : List (List UInt8)} {acc : List M.E} (h : (M.lineOf s).2 = 1) (ha : acc.length < 600) : M.parseGo (s :: r) acc = M.parseGo r (acc ++ [(M.lineOf s).1]) := by
  unfold M.lineOf at h ⊢
  rw [M.parseGo]
  by_cases hc : M.counted s = []
  · rw [if_pos hc] at h; cases h
  · rw [if_neg hc] at h
    rw [if_neg hc, if_neg (by omega), if_neg hc]
    cases he : M.entry (M.counted s) with
    | none => rw [he] at h; cases h
    | some e => rfl
theorem M.line_how (s : List UInt8) : (M.lineOf s).2 = 0 ∨ (M.lineOf s).2 = 1 ∨ (M.lineOf s).2 = 2 := by
  unfold M.lineOf
  by_cases hc : M.counted s = []
  · rw [if_pos hc]; exact .inl rfl
  · rw [if_neg hc]
    cases M.entry (M.counted s) with
    | none => exact .inr (.inr rfl)
    | some e => exact .inr (.inl rfl)

set_option maxRecDepth 100000 in
set_option maxHeartbeats 8000000 in
theorem refParse_any (A : Option Addr) (cap : Nat) (txt : List UInt8) (w : World) (hr : RdB w w.heap.size A txt) (hs : txt.length ≤ 100000) :
    Calls Tryz.prog 6 #[.slice A txt.length cap] w (ParseEnd w txt) := by
  obtain ⟨i0, hi, hz0, hz1, hz2⟩ := info_parts Tryz.infoEntry
  have hcv := hr.run_str (n := txt.length) (cap := cap) rfl
  have hTs : (M.bytes txt).size ≤ 100000 := by rw [bytes_size]; exact hs
  obtain ⟨T, hT⟩ : ∃ T, M.bytes txt = T := ⟨_, rfl⟩
  have hTl : T.data.toList = txt := by rw [← hT, M.bytes_list]
  rw [hT] at hcv hTs
  obtain ⟨ps, hps⟩ : ∃ ps, M.parts 10 txt = ps := ⟨_, rfl⟩
  have hpl : ∀ p ∈ ps, p.length ≤ 100000 := fun p hp => by
    rw [← hps] at hp
    exact Nat.le_trans (M.part_le 10 txt p hp) hs
  have hpn : ps.length ≤ 100001 := by have := M.parts_length_le 10 txt; rw [hps] at this; omega
  have HPL := Lib.hid hpl
  have HPS := Lib.hid hps
  have HTL := Lib.hid hTl
  clear hT hr hTl hpl
  go_enter Tryz.func6, Tryz.ntmps6
  go_wp2_with fail
  refine (refParts_any T 10 w hTs).mono ?_
  rw [HTL.out, HPS.out]
  rintro r w1 ⟨g, cp, rfl, hg, hcell, hpc, hpm, hb1⟩
  have HCELL := Lib.hid hcell
  have HB1 := Lib.hid hb1
  clear hcell hb1 hpc hpm hcv hps
  go_wp2
  go_loopw [4, 6] (fun v i wr => ∃ (k : Nat) (acc : List M.E), k ≤ ps.length ∧ i = .int .i64 k ∧ OwnE wr w1.heap.size v acc ∧ acc.length ≤ k ∧ acc.length ≤ 600 ∧ M.parse txt = M.parseGo (ps.drop k) acc ∧ Below w1.heap.size w1 wr) (fun _ i _ => ps.length - (intOf i).toNat)
  case atStart => exact ⟨0, [], Nat.zero_le _, rfl, ⟨rfl, .inl ⟨rfl, rfl⟩⟩, Nat.zero_le _, Nat.zero_le _, by rw [List.drop_zero]; unfold M.parse; rw [HPS.out], Below.refl _ _⟩
  case round =>
    obtain ⟨k, acc, hk, rfl, hown, hak, ha6, hp, hb⟩ := hrel
    have HO := Lib.hid hown
    have HP := Lib.hid hp
    have HBL := Lib.hid hb
    have HB := Lib.hid (HB1.out.trans (hb.mono HB1.out.size))
    have hws : w1.heap.size ≤ wr.heap.size := hb.size
    obtain ⟨A0, c0, hv0, _, _, _, _⟩ := reads_own hown
    subst hv0
    by_cases hlt : k < ps.length
    · obtain ⟨p, hpk⟩ : ∃ p, ps[k]? = some p := ⟨_, List.getElem?_eq_getElem hlt⟩
      have hpsz := HPL.out p (List.mem_of_getElem? hpk)
      have hdrop : ps.drop k = p :: ps.drop (k + 1) := by
        obtain ⟨_, rfl⟩ := List.getElem?_eq_some_iff.1 hpk
        exact List.drop_eq_getElem_cons hlt
      obtain ⟨P, hP⟩ : ∃ P, M.bytes p = P := ⟨_, rfl⟩
      have hPl : P.data.toList = p := by rw [← hP, M.bytes_list]
      have hPs : P.size ≤ 100000 := by rw [← hP, bytes_size]; exact hpsz
      have ck := (hb.cell (p := ⟨g, k, none⟩) hg).trans (HCELL.out k p hpk)
      rw [hP] at ck
      have HDR := Lib.hid hdrop
      obtain ⟨e, he⟩ : ∃ e, (M.lineOf p).1 = e := ⟨_, rfl⟩
      obtain ⟨how, hhow⟩ : ∃ h, (M.lineOf p).2 = h := ⟨_, rfl⟩
      have HL := Lib.hid (refLineOf_any P wr hPs)
      rw [hPl, he, hhow] at HL
      have HWAY := M.line_how p
      rw [hhow] at HWAY
      have HHOW := Lib.hid hhow
      have HEE := Lib.hid he
      have hk1 : (0 : Int) ≤ (k : Int) := by omega
      have hk2 : (k : Int) < (ps.length : Int) := by omega
      unfold M.E.val at HL
      clear hown hp hb hpk hdrop hP hPl he hhow hpsz
      rcases HWAY with rfl | rfl | rfl
      · have HN := Lib.hid (show M.parse txt = M.parseGo (ps.drop (k + 1)) acc by rw [HP.out, HDR.out, M.parse_skip HHOW.out])
        go_wp2_with fail
        refine HL.out.mono ?_
        rintro r w5 ⟨rfl, hb5⟩
        have HB5 := Lib.hid (HBL.out.trans (hb5.mono hws))
        have HO5 := Lib.hid (HO.out.below hb5)
        have hws5 : w1.heap.size ≤ w5.heap.size := Nat.le_trans hws hb5.size
        clear hb5
        go_wp2
        go_roundw
        case rel => exact ⟨k + 1, acc, by omega, by go_num, HO5.out.below ((Below.refl _ _).alloc (Nat.le_refl _) _), by omega, ha6, HN.out, HB5.out.alloc hws5 _⟩
        case measure => simp [intOf]; omega
      · by_cases hfull : acc.length = 600
        · have HN := Lib.hid (show M.parse txt = none by rw [HP.out, HDR.out, M.parse_full HHOW.out hfull])
          have hd6 : decide (600 ≤ acc.length) = true := by rw [decide_eq_true_iff]; omega
          have hd7 : decide ((600 : Int) ≤ (acc.length : Int)) = true := by rw [decide_eq_true_iff]; omega
          clear hfull
          go_wp2_with fail
          refine HL.out.mono ?_
          rintro r w5 ⟨rfl, hb5⟩
          have HB5 := Lib.hid (HB.out.trans (hb5.mono HB.out.size))
          have hwb : w.heap.size ≤ w5.heap.size := HB5.out.size
          clear hb5
          go_wp2
          go_ret2
          exact ⟨by rw [HN.out]; rfl, HB5.out.alloc hwb _⟩
        · have hlt6 : acc.length < 600 := by omega
          have HN := Lib.hid (show M.parse txt = M.parseGo (ps.drop (k + 1)) (acc ++ [e]) by rw [HP.out, HDR.out, M.parse_more HHOW.out hlt6, HEE.out])
          have hd6 : decide (600 ≤ acc.length) = false := by rw [decide_eq_false_iff_not]; omega
          have hd7 : decide ((600 : Int) ≤ (acc.length : Int)) = false := by rw [decide_eq_false_iff_not]; omega
          clear hfull
          go_wp2_with fail
          refine HL.out.mono ?_
          rintro r w5 ⟨rfl, hb5⟩
          obtain ⟨W6, hW6⟩ : ∃ W, w5.alloc (.cells #[.int .i64 e.a, .int .i64 e.b, .string e.v, .string e.x] 35) = W := ⟨_, rfl⟩
          have hb6 : Below w5.heap.size w5 W6 := by rw [← hW6]; exact (Below.refl _ _).alloc (Nat.le_refl _) _
          have h46 := Four.new w5 (.int .i64 e.a) (.int .i64 e.b) (.string e.v) (.string e.x) 35
          rw [hW6] at h46
          have HB6 := Lib.hid ((HBL.out.trans (hb5.mono hws)).trans (hb6.mono (Nat.le_trans hws hb5.size)))
          have HO6 := Lib.hid ((HO.out.below hb5).below hb6)
          have hws6 : w1.heap.size ≤ W6.heap.size := HB6.out.size
          obtain ⟨q0, q1, q2, q3, _, _, _, _⟩ := h46
          clear hb5 hb6
          go_wp2_with (at_builtin; refine wpList_append_own _ rfl _ _ 24 rfl w1.heap.size 35 i0 _ 4 48 Tryz.underlying24 hi hz0 hz1 hz2 rfl (by decide) _ _ _ rfl (World.ownsRow.alloc HO6.out _) ⟨W6.heap.size, 0, none⟩ 1 1 e.cells rfl rfl (news_cells W6 e _) (news_one e) (by unfold maxLen; omega) (by omega) (by simp; omega) ?_)
          intro v3 w7 hown7 hgrow7 _
          have HO7 := Lib.hid (show OwnE w7 w1.heap.size v3 (acc ++ [e]) by
            unfold OwnE
            rw [cellsE_snoc, List.length_append]
            exact hown7)
          have HB7 := Lib.hid ((HB6.out.alloc hws6 _).grown hgrow7 (by simp; omega) (fun j hj => (World.ownsRow.lt HO6.out j hj).1))
          clear hown7 hgrow7 q0 q1 q2 q3
          go_wp2
          go_roundw
          case rel => exact ⟨k + 1, acc ++ [e], by omega, by go_num, HO7.out, by simp; omega, by simp; omega, HN.out, HB7.out⟩
          case measure => simp [intOf]; omega
      · have HN := Lib.hid (show M.parse txt = none by rw [HP.out, HDR.out, M.parse_wrong HHOW.out])
        go_wp2_with fail
        refine HL.out.mono ?_
        rintro r w5 ⟨rfl, hb5⟩
        have HB5 := Lib.hid (HB.out.trans (hb5.mono HB.out.size))
        have hwb : w.heap.size ≤ w5.heap.size := HB5.out.size
        clear hb5
        go_wp2
        go_ret2
        exact ⟨by rw [HN.out]; rfl, HB5.out.alloc hwb _⟩
    · have HN := Lib.hid (show M.parse txt = some acc by rw [HP.out, List.drop_eq_nil_of_le (by omega)]; rfl)
      clear hown hp hb
      go_wp2
      go_ret2
      exact ⟨by rw [HN.out]; exact ⟨_, rfl, own_base HO.out HB1.out.size⟩, HB.out⟩
end Go.Proofs.YtjbpjnnflcmmhaaGreatDoor
