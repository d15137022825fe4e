/- The contracts of span's rightScale, rightRuby, rightStyle and the document's one. Conditions: the fields are those of a span; the Ruby has at most two hundred bytes; the variable lengths holds the four rows of the program's text. -/
import Derived.Test.YteknpodofmmklaaDoorSmall
import Derived.Test.YteknpodofmmklaaDoorCells
import Derived.Test.YteknpodofmmklaaDoorDecode
import Derived.Test.YteknpodofmmklaaDoorRefDecode
import Derived.Lib.ConvBytes
namespace Go.Proofs.YteknpodofmmklaaDoor
open Go.RowKit

theorem cells_at (x : Int) (w : World) (h0 : 0 ≤ x) (h1 : x ≤ 18446744073709551615) :
    Calls Tryd.prog 43 #[.int .u64 x] w fun r w' => r = .returned (M.cellsV (M.cellsI x)) ∧ w' = w := by
  obtain ⟨n, rfl⟩ := Int.eq_ofNat_of_zero_le h0
  exact cells_any n w (by omega)
theorem conv_bytes (s : ByteArray) (w : World) (hs : s.size ≤ maxLen) : ∃ (w' : World) (c : Nat), (convert 9 54 (.string s)).run Tryd.prog w = .ok (.slice (some ⟨w.heap.size, 0, none⟩) s.size c) w' ∧ Below w.heap.size w w' ∧ RdS .u8 w' w'.heap.size (some ⟨w.heap.size, 0, none⟩) (M.nums s) ∧ s.size ≤ c ∧ c ≤ maxLen := by
  refine ⟨_, _, run_bytes_of_string w 9 54 5 s Tryd.underlying9 Tryd.underlying54 Tryd.underlying5, (Below.refl _ _).drew.alloc (Nat.le_refl _) _, fun j x hx => ?_, grownCap_ge _ _ _ _, grownCap_le_maxLen _ _ _ _ hs⟩
  refine ⟨_, rfl, by simp, ?_⟩
  unfold M.nums at hx
  rw [List.getElem?_map] at hx
  cases hc : s.data.toList[j]? with
  | none => rw [hc] at hx; cases hx
  | some c =>
    rw [hc] at hx
    obtain rfl : (c.toNat : Int) = x := by simpa using hx
    have hj : j < s.data.size := by have := (List.getElem?_eq_some_iff.1 hc).1; simpa using this
    rw [addr0_add]
    refine (cell_of_row _ w.drew.heap.size _ _ _ _ (heap_alloc_new w.drew _)).trans ?_
    unfold bytesRow
    rw [Array.getElem?_append_left (by simpa using hj), Array.getElem?_map]
    rw [Array.getElem?_toList] at hc
    rw [hc]
    rfl

theorem M.dec_short (f : Nat) : ∀ (bs l : List Int), bs.length ≤ f → M.dec bs = some l → bs.length ≤ 4 * l.length := by
  induction f with
  | zero => intro bs l h _; omega
  | succ f ih =>
    intro bs l h hd
    by_cases h0 : bs = []
    · subst h0; simp
    · cases hf : M.firstM bs with
      | none => rw [M.dec_none h0 hf] at hd; cases hd
      | some p =>
        obtain ⟨c, n⟩ := p
        obtain ⟨h1, h2, h3, _⟩ := M.first_len hf
        rw [M.dec_some hf] at hd
        cases hd2 : M.dec (bs.drop n) with
        | none => rw [hd2] at hd; cases hd
        | some m =>
          rw [hd2] at hd
          obtain rfl : c :: m = l := by simpa using hd
          have := ih (bs.drop n) m (by rw [List.length_drop]; omega) hd2
          rw [List.length_drop] at this
          simp only [List.length_cons]
          omega

set_option maxHeartbeats 1000000 in
theorem rightScale_any (x : Int) (w : World) (h0 : 0 ≤ x) (h1 : x ≤ 18446744073709551615) :
    Calls Tryd.prog 38 #[.int .u64 x] w fun r w' => r = .returned (.bool (M.scaleOk x)) ∧ w' = w := by
  have HC := Lib.hid (cells_at x w h0 h1)
  cases hc : M.cellsI x with
  | none =>
    rw [hc] at HC
    by_cases hx : x = 0
    · subst hx
      have HS := Lib.hid (show M.scaleOk 0 = true from rfl)
      clear hc
      go_enter Tryd.func38, Tryd.ntmps38
      go_wp2_with fail
      refine HC.out.mono ?_
      rintro r w2 ⟨rfl, rfl⟩
      dsimp only [M.cellsV]
      go_wp2_with fail
      go_ret
      exact ⟨ret_bool (by rw [HS.out]), rfl⟩
    · have HS := Lib.hid (show M.scaleOk x = false by unfold M.scaleOk; rw [hc, decide_eq_false hx]; rfl)
      have hx2 : (x == 0) = false := by rw [beq_eq_false_iff_ne]; exact hx
      clear hc
      go_enter Tryd.func38, Tryd.ntmps38
      go_wp2_with fail
      refine HC.out.mono ?_
      rintro r w2 ⟨rfl, rfl⟩
      dsimp only [M.cellsV]
      go_wp2_with fail
      go_ret
      exact ⟨ret_bool (by rw [HS.out]), rfl⟩
  | some k =>
    rw [hc] at HC
    by_cases hx : x = 0
    · subst hx
      have HS := Lib.hid (show M.scaleOk 0 = true from rfl)
      clear hc
      go_enter Tryd.func38, Tryd.ntmps38
      go_wp2_with fail
      refine HC.out.mono ?_
      rintro r w2 ⟨rfl, rfl⟩
      dsimp only [M.cellsV]
      go_wp2_with fail
      go_ret
      exact ⟨ret_bool (by rw [HS.out]), rfl⟩
    · have HS := Lib.hid (show M.scaleOk x = decide (1 ≤ k) by unfold M.scaleOk; rw [hc, decide_eq_false hx]; rfl)
      have hx2 : (x == 0) = false := by rw [beq_eq_false_iff_ne]; exact hx
      clear hc
      go_enter Tryd.func38, Tryd.ntmps38
      go_wp2_with fail
      refine HC.out.mono ?_
      rintro r w2 ⟨rfl, rfl⟩
      dsimp only [M.cellsV]
      go_wp2_with fail
      all_goals
        go_ret
        exact ⟨ret_bool (by rw [HS.out]), rfl⟩

set_option maxHeartbeats 1000000 in
theorem rightRuby_any (s : ByteArray) (w : World) (hl : LensOk w) (hs : s.size ≤ 200) :
    Calls Tryd.prog 39 #[.string s] w fun r w' => r = .returned (.bool (M.rubyOk s)) ∧ Below w.heap.size w w' := by
  by_cases h80 : 80 < s.size
  · have HR := Lib.hid (show M.rubyOk s = false by
      unfold M.rubyOk
      cases hd : M.dec (M.nums s) with
      | none => rfl
      | some l =>
        have := M.dec_short _ _ _ (Nat.le_refl _) hd
        rw [M.nums_len] at this
        simp
        omega)
    have h81 : (80 : Int) < (s.size : Int) := by omega
    go_enter Tryd.func39, Tryd.ntmps39
    go_wp2_with fail
    go_ret
    exact ⟨ret_bool (by rw [HR.out]), Below.refl _ _⟩
  · have h81 : (s.size : Int) ≤ 80 := by omega
    obtain ⟨w1, c, hconv, hb1, hrd, hc1, hc2⟩ := conv_bytes s w (by unfold maxLen; omega)
    have HD := Lib.hid (decode_any (some ⟨w.heap.size, 0, none⟩) c (M.nums s) w1 (hl.below hb1 hl.lt) (M.nums_bytes s) hrd (by rw [M.nums_len]; exact hc1) hc2 (by rw [M.nums_len]; omega))
    rw [M.nums_len] at HD
    have HB1 := Lib.hid hb1
    clear hb1 hrd
    go_enter Tryd.func39, Tryd.ntmps39
    go_wp2_with fail
    refine HD.out.mono ?_
    rintro r w2 ⟨⟨hd, rfl⟩ | ⟨m, v, hd, rfl, hown⟩, hb2⟩
    · have HB2 := Lib.hid (HB1.out.trans (hb2.mono HB1.out.size))
      have HR := Lib.hid (show M.rubyOk s = false by unfold M.rubyOk; rw [hd])
      clear hb2 hd hconv
      go_wp2_with fail
      go_ret
      exact ⟨ret_bool (by rw [HR.out]), HB2.out⟩
    · have HB2 := Lib.hid (HB1.out.trans (hb2.mono HB1.out.size))
      have HR := Lib.hid (show M.rubyOk s = decide (m.length ≤ 20) by unfold M.rubyOk; rw [hd])
      obtain ⟨A2, c2, rfl, _⟩ := reads_own hown
      clear hb2 hd hconv hown
      go_wp2_with fail
      all_goals
        go_ret
        exact ⟨ret_bool (by rw [HR.out, decide_eq_decide]; omega), HB2.out⟩

set_option maxHeartbeats 2000000 in
theorem rightStyle_any (s : M.S) (w : World) (hl : LensOk w) (hx0 : 0 ≤ s.x) (hx1 : s.x ≤ 18446744073709551615) (hs : s.r.size ≤ 200) (f0 : 0 ≤ s.f) (f1 : s.f < s.t) (f2 : s.t ≤ 9223372036854775807) :
    Calls Tryd.prog 24 #[s.val] w fun r w' => r = .returned (.bool s.ok) ∧ Below w.heap.size w w' := by
  obtain ⟨f, t, p, c, r, x⟩ := s
  dsimp only at hx0 hx1 hs f0 f1 f2
  have HA := Lib.hid (show M.S.ok ⟨f, t, p, c, r, x⟩ = ((decide (0 ≤ p) && (decide (p ≤ 2) && (!(c && decide (r.toList ≠ [])) && (M.scaleOk x && M.rubyOk r)))) && !(c && decide (4 < t - f))) from rfl)
  obtain ⟨W, hW, hbW, hZ, -⟩ := new_span w ⟨f, t, p, c, r, x⟩
  dsimp only at hW
  obtain ⟨c0, c1, c2, c3, c4, c5, _, _, _, _, _, _⟩ := hZ
  dsimp only at c0 c1 c2 c3 c4 c5
  have HS := Lib.hid (rightScale_any x W hx0 hx1)
  have HR := Lib.hid (rightRuby_any r W (hl.below hbW hl.lt) hs)
  have HB := Lib.hid hbW
  obtain ⟨sc, hsc⟩ : ∃ sc, M.scaleOk x = sc := ⟨_, rfl⟩
  obtain ⟨rb, hrb⟩ : ∃ rb, M.rubyOk r = rb := ⟨_, rfl⟩
  rw [hsc] at HA HS
  rw [hrb] at HA HR
  clear hsc hrb hbW hl
  unfold M.S.val
  by_cases hp0 : p < 0
  · have HN := Lib.hid (show M.S.ok ⟨f, t, p, c, r, x⟩ = false by rw [HA.out, decide_eq_false (by omega : ¬ 0 ≤ p)]; rfl)
    go_enter Tryd.func24, Tryd.ntmps24
    go_wp2_with fail
    go_ret
    exact ⟨ret_bool (by rw [HN.out]), HB.out⟩
  · by_cases hp2 : 2 < p
    · have HN := Lib.hid (show M.S.ok ⟨f, t, p, c, r, x⟩ = false by rw [HA.out, decide_eq_false (by omega : ¬ p ≤ 2)]; simp)
      go_enter Tryd.func24, Tryd.ntmps24
      go_wp2_with fail
      go_ret
      exact ⟨ret_bool (by rw [HN.out]), HB.out⟩
    · have HP := Lib.hid (show M.S.ok ⟨f, t, p, c, r, x⟩ = ((!(c && decide (r.toList ≠ [])) && (sc && rb)) && !(c && decide (4 < t - f))) by rw [HA.out, decide_eq_true (by omega : 0 ≤ p), decide_eq_true (by omega : p ≤ 2)]; rfl)
      cases c
      · have HN := Lib.hid (show M.S.ok ⟨f, t, p, false, r, x⟩ = (sc && rb) by rw [HP.out]; simp)
        go_enter Tryd.func24, Tryd.ntmps24
        go_wp2_with fail
        refine HS.out.mono ?_
        rintro r1 w1 ⟨rfl, rfl⟩
        cases sc
        · go_wp2_with fail
          go_ret
          exact ⟨ret_bool (by rw [HN.out]; rfl), HB.out⟩
        · go_wp2_with fail
          refine HR.out.mono ?_
          rintro r1 w1 ⟨rfl, hb1⟩
          have HB1 := Lib.hid (HB.out.trans (hb1.mono HB.out.size))
          clear hb1
          go_wp2_with fail
          go_ret
          exact ⟨ret_bool (by rw [HN.out]; rfl), HB1.out⟩
      · by_cases h4 : 4 < t - f
        · have HN := Lib.hid (show M.S.ok ⟨f, t, p, true, r, x⟩ = false by rw [HP.out, decide_eq_true h4]; simp)
          go_enter Tryd.func24, Tryd.ntmps24
          go_wp2_with fail
          go_ret
          exact ⟨ret_bool (by rw [HN.out]), HB.out⟩
        · by_cases hr : r.toList = []
          · have hr2 : r.toList.isEmpty = true := by rw [hr]; rfl
            have HN := Lib.hid (show M.S.ok ⟨f, t, p, true, r, x⟩ = (sc && rb) by rw [HP.out, decide_eq_false h4, decide_eq_false (fun h => h hr)]; simp)
            go_enter Tryd.func24, Tryd.ntmps24
            go_wp2_with fail
            refine HS.out.mono ?_
            rintro r1 w1 ⟨rfl, rfl⟩
            cases sc
            · go_wp2_with fail
              go_ret
              exact ⟨ret_bool (by rw [HN.out]; rfl), HB.out⟩
            · go_wp2_with fail
              refine HR.out.mono ?_
              rintro r1 w1 ⟨rfl, hb1⟩
              have HB1 := Lib.hid (HB.out.trans (hb1.mono HB.out.size))
              clear hb1
              go_wp2_with fail
              go_ret
              exact ⟨ret_bool (by rw [HN.out]; rfl), HB1.out⟩
          · have hr2 : r.toList.isEmpty = false := by rw [List.isEmpty_eq_false_iff]; exact hr
            have HN := Lib.hid (show M.S.ok ⟨f, t, p, true, r, x⟩ = false by rw [HP.out, decide_eq_true (show r.toList ≠ [] from hr)]; simp)
            go_enter Tryd.func24, Tryd.ntmps24
            go_wp2_with fail
            go_ret
            exact ⟨ret_bool (by rw [HN.out]), HB.out⟩
end Go.Proofs.YteknpodofmmklaaDoor
