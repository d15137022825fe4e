/- The contract of the document's levelRuns. Conditions: the slice reads as a list of levels from -1, at most a thousand long. -/
import Derived.Test.YticiofpbijahbaaGJ2
import Derived.Test.YticiofpbijahbaaGJ1
import Derived.Deep.AppendLies
section
namespace Go.Proofs.Yticiofpbijahbaa
open Go.RowKit
set_option maxRecDepth 100000

theorem Try.infoRow : (Try.prog.info? 23).map (fun i => (i.zero, i.size, i.bytes)) = some (some (.slice none 0 0), 1, 24) := by kernel_rfl
theorem one_slice (A : Option Addr) (n c : Nat) : ∀ u ∈ [Value.slice A n c], u.oneCell' = true := by
  intro u hu; simp at hu; subst hu; rfl
/-- The row that stands last, and that it gets one place more. -/
theorem last_row {base : Nat} {W : World} {ls : List (List Int)} {vs : List Sv} {va : Value} (h : RwR base W ls vs va) {L : Nat} (hL : ls.length = L + 1) : ∃ l v, ls[L]? = some l ∧ vs[L]? = some v ∧ ls.getLastD [] = l := by
  obtain ⟨l, hl⟩ : ∃ l, ls[L]? = some l := ⟨_, List.getElem?_eq_getElem (by omega)⟩
  obtain ⟨v, hv⟩ : ∃ v, vs[L]? = some v := ⟨_, List.getElem?_eq_getElem (by rw [h.rws.len]; omega)⟩
  refine ⟨l, v, hl, hv, ?_⟩
  rw [List.getLastD_eq_getLast?, List.getLast?_eq_getElem?, show ls.length - 1 = L by omega, hl]
  rfl
set_option maxHeartbeats 8000000 in
theorem refRuns_any (B : Option Addr) (cb m : Nat) (lv : List Int) (b : Int) (w : World) (hr2 : RdS .i64 w w.heap.size B lv) (hm : lv.length = m) (hl2 : m ≤ 1000) (hge : ∀ x ∈ lv, -1 ≤ x) :
    Calls Try.prog 24 #[.slice B m cb] w fun r w' => Below w.heap.size w w' ∧ ∃ vs va, r = .returned va ∧ RwR w.heap.size w' ((M.runs lv b).map (·.pl)) vs va := by
  have HR2 := Lib.hid hr2
  have HM := Lib.hid hm
  have HG := Lib.hid hge
  have hl21 : (m : Int) ≤ 1000 := by omega
  have HR0 := Lib.hid (M.lrF_runs lv b hge)
  obtain ⟨R, hR⟩ : ∃ R, (M.runs lv b).map (·.pl) = R := ⟨_, rfl⟩
  rw [hR] at HR0 ⊢
  obtain ⟨i0, hi, hz0, hz1, hz2⟩ := info_parts Try.infoRow
  obtain ⟨j0, hj, hy0, hy1, hy2⟩ := info_parts Try.infoInt
  clear hr2 hm hge hR
  go_enter Try.func24, Try.ntmps24
  go_wp2_with fail
  go_loopw [3, 4, 5] (fun v3 v4 v5 wr => ∃ (k K : Nat) (rows : List (List Int)) (vs : List Sv) (last : Int) (A3 : Option Addr) (c3 : Nat), k ≤ m ∧ v5 = .int .i64 k ∧ v4 = .int .i64 last ∧ v3 = .slice A3 K c3 ∧ rows.length = K ∧ RwR w.heap.size wr rows vs v3 ∧ M.lrF k rows last (lv.drop k) = R ∧ (rows = [] → last = -2) ∧ -2 ≤ last ∧ K ≤ k ∧ (∀ l ∈ rows, l.length ≤ k) ∧ Below w.heap.size w wr) (fun _ _ v5 _ => m - (intOf v5).toNat)
  case atStart => exact ⟨0, 0, [], [], -2, none, 0, Nat.zero_le _, rfl, rfl, rfl, rfl, ⟨World.ownsRow_nil _ _ _ _, Rws.nil _ _⟩, HR0.out, fun _ => rfl, by omega, Nat.zero_le _, (fun l hl => by cases hl), Below.refl _ _⟩
  case round =>
    obtain ⟨k, K, rows, vs, last, A3, c3, hk, rfl, rfl, rfl, hKl, hrw, hlr, hl0, hlast, hKk, hrl0, hb⟩ := hrel
    have HRW := Lib.hid hrw
    have HLR := Lib.hid hlr
    have HL0 := Lib.hid hl0
    have HKL := Lib.hid hKl
    have HRL0 := Lib.hid hrl0
    have HB := Lib.hid hb
    have hsz := hb.size
    have k0 : (0 : Int) ≤ k := by omega
    clear hrw hlr hl0 hKl hb hrl0
    by_cases hlt : k < m
    · have k1 : (k : Int) < m := by omega
      obtain ⟨x, hx⟩ : ∃ x, lv[k]? = some x := ⟨_, List.getElem?_eq_getElem (by rw [HM.out]; exact hlt)⟩
      obtain ⟨ad2, rfl, hadlt, hcx0⟩ := HR2.out k x hx
      have hcw := Lib.hid (show ∀ W', Below w.heap.size w W' → W'.cell? (ad2.add k) = some (.int .i64 x) from fun W' hW => (hW.cell (by rw [addr_block]; exact hadlt)).trans hcx0)
      have hcx := hcw.out wr HB.out
      clear hadlt hcx0
      have hxg := HG.out x (List.mem_of_getElem? hx)
      have hd := M.drop_next hx
      have h1 := HLR.out
      rw [hd] at h1
      unfold M.lrF at h1
      have HL := Lib.hid h1
      clear hx hd h1
      by_cases hxm : x = -1
      · subst hxm
        rw [if_pos rfl] at HL
        go_wp2_with fail
        go_roundw
        case rel => exact ⟨k + 1, K, rows, vs, last, A3, c3, by omega, by go_num, rfl, rfl, HKL.out, HRW.out, HL.out, HL0.out, hlast, by omega, fun l hl => Nat.le_succ_of_le (HRL0.out l hl), HB.out⟩
        case measure => simp [intOf]; omega
      · rw [if_neg hxm] at HL
        have hx0 : 0 ≤ x := by omega
        have hxn : ¬ x < 0 := by omega
        by_cases hxl : x = last
        · rw [if_pos hxl] at HL
          subst hxl
          obtain ⟨L, hLK⟩ : ∃ L, L + 1 = K := ⟨K - 1, by
            have : rows ≠ [] := fun e => by have := HL0.out e; omega
            have := List.length_pos_iff.2 this
            have := HKL.out
            omega⟩
          obtain ⟨l, ⟨v1, v2⟩, hl, hv, hgl⟩ := last_row HRW.out (show rows.length = L + 1 by rw [HKL.out, hLK])
          rw [hgl, show rows.length - 1 = L by rw [HKL.out]; omega] at HL
          obtain ⟨G, cG, hva, -, -, y1, -⟩ := HRW.out.cells hl hv
          injection hva with hva1 hva2 hva3
          clear hva2
          subst hva1 hva3
          have hnl0 := HRL0.out l (List.mem_of_getElem? hl)
          have hown0 := HRW.out.rws.own L (v1, v2) l hv hl
          obtain ⟨nl, hnl⟩ : ∃ nl, l.length = nl := ⟨_, rfl⟩
          rw [hnl] at y1 hnl0 hown0
          have hK2 : (K : Int) - 1 = L := by omega
          have hw1 : IntKind.i64.wrap ((K : Int) - 1) = (L : Nat) := by rw [IntKind.wrap_i64]; omega
          have hw2 : IntKind.i64.wrap (L : Int) = (L : Nat) := by rw [IntKind.wrap_i64]; omega
          have hK3 : (L : Int) < K := by omega
          have hK4 : (0 : Int) ≤ L := by omega
          have hK5 : (K : Int) ≤ 1001 := by omega
          have HLV := Lib.hid (And.intro hl hv)
          have HOW := Lib.hid hown0
          have HNL := Lib.hid hnl
          clear hl hv hown0 hgl hnl
          go_wp2_with (at_builtin; refine wpList_append_lies _ rfl _ _ 23 rfl w.heap.size 3 j0 (.int .i64 0) 1 8 Try.underlying23 hj hy0 hy1 hy2 rfl (by decide) _ _ _ rfl (World.ownsRow.alloc HOW.out _) ⟨wr.heap.size, 0, none⟩ 1 1 [.int .i64 k] rfl rfl (one_new _ _ _) one_cell (by decide) (by unfold maxLen; omega) (by omega) (by simp; omega) (wr.heap.size + 1) (by simp) ?_)
          intro g cap w5 hown5 hgrow5 hat5 _
          have hal := HRW.out.later ((Below.refl _ _).alloc (Nat.le_refl _) (.cells #[.int .i64 k] 3))
          obtain ⟨hP5, z1, zf, hGb⟩ := hal.placed (new := [(k : Int)]) HLV.out.1 HLV.out.2 (by rw [HKL.out]) (by rw [HNL.out]; exact hgrow5) (by rw [HNL.out]; exact hown5) (by rw [HNL.out]; exact hat5.imp_right (fun e => by simpa using e))
          rw [HNL.out] at hP5 z1
          have hb5 : Below w.heap.size w (w5.setCell ⟨G, L, none⟩ (.slice (some ⟨g, 0, none⟩) (nl + 1) cap)) := ((HB.out.alloc hsz _).grown hgrow5 (by simp; omega) (fun q hq => (World.ownsRow.lt HOW.out q hq).1)).setCell (p := ⟨G, L, none⟩) hGb _
          have hcx6 := hcw.out _ hb5
          have HP5 := Lib.hid (show RwR w.heap.size (w5.setCell ⟨G, L, none⟩ (.slice (some ⟨g, 0, none⟩) (nl + 1) cap)) _ _ _ from hP5)
          have HB5 := Lib.hid hb5
          clear hal hP5 hb5 hown5 hgrow5 hat5
          go_wp2_with fail
          go_roundw
          case rel => exact ⟨k + 1, K, rows.set L (l ++ [(k : Int)]), _, x, _, _, by omega, by go_num, rfl, rfl, by rw [List.length_set]; exact HKL.out, HP5.out, HL.out, fun e => absurd (congrArg List.length e) (by rw [List.length_set, HKL.out]; simp; omega), by omega, by omega, fun l' hl' => by
            rcases List.mem_or_eq_of_mem_set hl' with h | h
            · exact Nat.le_succ_of_le (HRL0.out l' h)
            · rw [h, List.length_append, HNL.out]; simp; omega, HB5.out⟩
          case measure => simp [intOf]; omega
        · rw [if_neg hxl] at HL
          have HLL := Lib.hid (HRW.out.rws.len)
          go_wp2_with (at_builtin; refine wpList_append_lies _ rfl _ _ 59 rfl w.heap.size 23 i0 (.slice none 0 0) 1 24 Try.underlying59 hi hz0 hz1 hz2 rfl (by decide) _ _ _ rfl (World.ownsRow.alloc (HKL.out ▸ HRW.out.row) _) ⟨wr.heap.size, 0, none⟩ 1 1 [.slice none 0 0] rfl rfl (one_new _ _ _) (one_slice _ _ _) (by decide) (by unfold maxLen; omega) (by omega) (by simp; omega) (wr.heap.size + 1) (by simp) ?_)
          intro G cG w4 hown hgrow hat _
          have hP := RwR.pushed HRW.out hgrow (by rw [HKL.out]; exact hown)
          have hb4 : Below w.heap.size w w4 := (HB.out.alloc hsz _).grown hgrow (by simp; omega) (fun q hq => (World.ownsRow.lt HRW.out.row q hq).1)
          have hl : (rows ++ [[]])[K]? = some [] := by rw [List.getElem?_append_right (by rw [HKL.out]; exact Nat.le_refl _), HKL.out, Nat.sub_self]; rfl
          have hv : (vs ++ [((none, 0) : Sv)])[K]? = some (none, 0) := by rw [List.getElem?_append_right (by rw [HLL.out, HKL.out]; exact Nat.le_refl _), HLL.out, HKL.out, Nat.sub_self]; rfl
          obtain ⟨G', cG', hva, -, -, y1, -⟩ := hP.cells hl hv
          injection hva with hva1 hva2 hva3
          clear hva2
          injection hva1 with hva1
          injection hva1 with hva1
          subst hva1 hva3
          obtain ⟨K1, hK1⟩ : ∃ K1, K + 1 = K1 := ⟨_, rfl⟩
          have hrl : (rows ++ [([] : List Int)]).length = K1 := by rw [List.length_append, HKL.out]; exact hK1
          rw [hK1] at hP ⊢
          have hK2 : (K1 : Int) - 1 = K := by omega
          have hw1 : IntKind.i64.wrap ((K1 : Int) - 1) = (K : Nat) := by rw [IntKind.wrap_i64]; omega
          have hw2 : IntKind.i64.wrap (K : Int) = (K : Nat) := by rw [IntKind.wrap_i64]; omega
          have hK3 : (K : Int) < K1 := by omega
          have hK4 : (0 : Int) ≤ K := by omega
          have hK5 : (K1 : Int) ≤ 1001 := by omega
          have hsz4 := hb4.size
          have HP := Lib.hid hP
          have HB4 := Lib.hid hb4
          have HLV := Lib.hid (And.intro hl hv)
          have HRL := Lib.hid hrl
          clear hP hb4 hl hv hrl hown hgrow hat
          go_wp2_with (at_builtin; refine wpList_append_lies _ rfl _ _ 23 rfl w.heap.size 3 j0 (.int .i64 0) 1 8 Try.underlying23 hj hy0 hy1 hy2 rfl (by decide) _ _ _ rfl (World.ownsRow_nil _ _ _ _) ⟨w4.heap.size, 0, none⟩ 1 1 [.int .i64 k] rfl rfl (one_new _ _ _) one_cell (by decide) (by unfold maxLen; omega) (by omega) (by simp; omega) (w4.heap.size + 1) (by simp) ?_)
          intro g cap w5 hown5 hgrow5 hat5 _
          have hal := HP.out.later ((Below.refl _ _).alloc (Nat.le_refl _) (.cells #[.int .i64 k] 3))
          obtain ⟨hP5, z1, zf, hGb⟩ := hal.placed (new := [(k : Int)]) HLV.out.1 HLV.out.2 (by rw [HRL.out]) hgrow5 (by simpa using hown5) (hat5.imp_right (fun e => by simpa using e))
          have hb5 : Below w.heap.size w (w5.setCell ⟨G, K, none⟩ (.slice (some ⟨g, 0, none⟩) 1 cap)) := ((HB4.out.alloc hsz4 _).grown hgrow5 (by simp; omega) (fun q hq => by cases hq)).setCell (p := ⟨G, K, none⟩) hGb _
          have hset : (rows ++ [([] : List Int)]).set K ([] ++ [(k : Int)]) = rows ++ [[(k : Int)]] := by
            rw [List.set_append_right _ _ (by rw [HKL.out]; exact Nat.le_refl _), HKL.out, Nat.sub_self]
            rfl
          rw [hset] at hP5
          have hcx6 := hcw.out _ hb5
          have HP5 := Lib.hid hP5
          have HB5 := Lib.hid hb5
          clear hal hP5 hb5 hset hown5 hgrow5 hat5
          go_wp2_with fail
          go_roundw
          case rel => exact ⟨k + 1, K1, rows ++ [[(k : Int)]], _, x, _, _, by omega, by go_num, rfl, rfl, by rw [List.length_append, HKL.out]; exact hK1, HP5.out, HL.out, fun e => absurd e (by simp), by omega, by omega, fun l hl => by
            rcases List.mem_append.1 hl with hl | hl
            · exact Nat.le_succ_of_le (HRL0.out l hl)
            · obtain rfl := List.mem_singleton.1 hl; simp, HB5.out⟩
          case measure => simp [intOf]; omega
    · obtain rfl : k = m := by omega
      have h1 := HLR.out
      rw [List.drop_eq_nil_of_le (by rw [HM.out]; exact Nat.le_refl _)] at h1
      have h2 : rows = R := by unfold M.lrF at h1; exact h1
      subst h2
      have hnk : ¬ (k : Int) < (k : Int) := by omega
      clear h1
      go_wp2_with fail
      go_ret
      exact ⟨HB.out, vs, _, rfl, HRW.out⟩
end Go.Proofs.Yticiofpbijahbaa
end
