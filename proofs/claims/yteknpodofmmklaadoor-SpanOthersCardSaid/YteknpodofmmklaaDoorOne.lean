/- The contract of the document's one: whether a span may be, wherever it lies. Conditions: the fields are those of a span; the Ruby has at most two hundred bytes. -/
import Derived.Test.YteknpodofmmklaaDoorRightS
namespace Go.Proofs.YteknpodofmmklaaDoor
open Go.RowKit

def M.oneB (s : M.S) : Bool := decide (0 ≤ s.f) && (decide (s.f < s.t) && s.ok)
set_option maxHeartbeats 4000000 in
theorem one_any (s : M.S) (w : World) (hx0 : 0 ≤ s.x) (hx1 : s.x ≤ 18446744073709551615) (hs : s.r.size ≤ 200) (f2 : s.t ≤ 9223372036854775807) :
    Calls Tryd.prog 23 #[s.val] w fun r w' => r = .returned (.bool (M.oneB s)) ∧ Below w.heap.size w w' := by
  obtain ⟨f, t, p, c, r, x⟩ := s
  dsimp only at hx0 hx1 hs f2
  have HA := Lib.hid (show M.oneB ⟨f, t, p, c, r, x⟩ = (decide (0 ≤ f) && (decide (f < t) && ((decide (0 ≤ p) && (decide (p ≤ 2) && (!(c && decide (r.toList ≠ [])) && (M.scaleOk x && M.rubyOk r)))) && !(c && decide (4 < t - f))))) from rfl)
  obtain ⟨W, hW, hbW, hZ, -⟩ := new_span w ⟨f, t, p, c, r, x⟩
  dsimp only at hW
  obtain ⟨c0, c1, c2, c3, c4, c5, _, _, _, _, _, _⟩ := hZ
  dsimp only at c0 c1 c2 c3 c4 c5
  have HC := Lib.hid (refCells_any x W hx0 hx1)
  obtain ⟨WC, cc, hconv, hbC, hrd, hc1, hc2⟩ := conv_bytes r W (by unfold maxLen; omega)
  have HD := Lib.hid (refDecode_any (some ⟨W.heap.size, 0, none⟩) cc (M.nums r) WC (M.nums_bytes r) hrd (by rw [M.nums_len]; exact hc1) hc2 (by rw [M.nums_len]; omega))
  rw [M.nums_len] at HD
  have HB := Lib.hid hbW
  have HBC := Lib.hid (hbW.trans (hbC.mono hbW.size))
  clear hbW hbC hrd hc1
  unfold M.S.val
  by_cases hp0 : p < 0
  · have HN := Lib.hid (show M.oneB ⟨f, t, p, c, r, x⟩ = false by rw [HA.out, decide_eq_false (by omega : ¬ 0 ≤ p)]; simp)
    go_enter Tryd.func23, Tryd.ntmps23
    go_wp2_with fail
    go_ret
    exact ⟨ret_bool (by rw [HN.out]), HB.out⟩
  · by_cases hp2 : 2 < p
    · have HN := Lib.hid (show M.oneB ⟨f, t, p, c, r, x⟩ = false by rw [HA.out, decide_eq_false (by omega : ¬ p ≤ 2)]; simp)
      go_enter Tryd.func23, Tryd.ntmps23
      go_wp2_with fail
      go_ret
      exact ⟨ret_bool (by rw [HN.out]), HB.out⟩
    · by_cases f0 : f < 0
      · have HN := Lib.hid (show M.oneB ⟨f, t, p, c, r, x⟩ = false by rw [HA.out, decide_eq_false (by omega : ¬ 0 ≤ f)]; simp)
        go_enter Tryd.func23, Tryd.ntmps23
        go_wp2_with fail
        go_ret
        exact ⟨ret_bool (by rw [HN.out]), HB.out⟩
      · by_cases f1 : t ≤ f
        · have HN := Lib.hid (show M.oneB ⟨f, t, p, c, r, x⟩ = false by rw [HA.out, decide_eq_false (by omega : ¬ f < t)]; simp)
          go_enter Tryd.func23, Tryd.ntmps23
          go_wp2_with fail
          go_ret
          exact ⟨ret_bool (by rw [HN.out]), HB.out⟩
        · have HP := Lib.hid (show M.oneB ⟨f, t, p, c, r, x⟩ = ((!(c && decide (r.toList ≠ [])) && (M.scaleOk x && M.rubyOk r)) && !(c && decide (4 < t - f))) by rw [HA.out, decide_eq_true (by omega : 0 ≤ p), decide_eq_true (by omega : p ≤ 2), decide_eq_true (by omega : 0 ≤ f), decide_eq_true (by omega : f < t)]; rfl)
          by_cases hx : x = 0
          · subst hx
            have HQ := Lib.hid (show M.oneB ⟨f, t, p, c, r, 0⟩ = ((!(c && decide (r.toList ≠ [])) && M.rubyOk r) && !(c && decide (4 < t - f))) by rw [HP.out]; rfl)
            cases c
            · have HN := Lib.hid (show M.oneB ⟨f, t, p, false, r, 0⟩ = M.rubyOk r by rw [HQ.out]; simp)
              go_enter Tryd.func23, Tryd.ntmps23
              go_wp2_with fail
              refine HD.out.mono ?_
              rintro r1 w2 ⟨⟨hd, rfl⟩ | ⟨m, v, hd, rfl, hown⟩, hb2⟩
              · have HB2 := Lib.hid (HBC.out.trans (hb2.mono HBC.out.size))
                have HR := Lib.hid (show M.rubyOk r = false by unfold M.rubyOk; rw [hd])
                clear hb2 hd hconv
                go_wp2_with fail
                go_ret
                exact ⟨ret_bool (by rw [HN.out, HR.out]), HB2.out⟩
              · have HB2 := Lib.hid (HBC.out.trans (hb2.mono HBC.out.size))
                have HR := Lib.hid (show M.rubyOk r = decide (m.length ≤ 20) by unfold M.rubyOk; rw [hd])
                obtain ⟨A2, c2, rfl, _⟩ := reads_own hown
                clear hb2 hd hconv hown
                go_wp2_with fail
                all_goals
                  go_ret
                  exact ⟨ret_bool (by rw [HN.out, HR.out, decide_eq_decide]; omega), HB2.out⟩
            · by_cases h4 : 4 < t - f
              · have HN := Lib.hid (show M.oneB ⟨f, t, p, true, r, 0⟩ = false by rw [HQ.out, decide_eq_true h4]; simp)
                go_enter Tryd.func23, Tryd.ntmps23
                go_wp2_with fail
                go_ret
                exact ⟨ret_bool (by rw [HN.out]), HB.out⟩
              · by_cases hr : r.toList = []
                · have hr2 : r.toList.isEmpty = true := by rw [hr]; rfl
                  have HN := Lib.hid (show M.oneB ⟨f, t, p, true, r, 0⟩ = M.rubyOk r by rw [HQ.out, decide_eq_false h4, decide_eq_false (fun h => h hr)]; simp)
                  go_enter Tryd.func23, Tryd.ntmps23
                  go_wp2_with fail
                  refine HD.out.mono ?_
                  rintro r1 w2 ⟨⟨hd, rfl⟩ | ⟨m, v, hd, rfl, hown⟩, hb2⟩
                  · have HB2 := Lib.hid (HBC.out.trans (hb2.mono HBC.out.size))
                    have HR := Lib.hid (show M.rubyOk r = false by unfold M.rubyOk; rw [hd])
                    clear hb2 hd hconv
                    go_wp2_with fail
                    go_ret
                    exact ⟨ret_bool (by rw [HN.out, HR.out]), HB2.out⟩
                  · have HB2 := Lib.hid (HBC.out.trans (hb2.mono HBC.out.size))
                    have HR := Lib.hid (show M.rubyOk r = decide (m.length ≤ 20) by unfold M.rubyOk; rw [hd])
                    obtain ⟨A2, c2, rfl, _⟩ := reads_own hown
                    clear hb2 hd hconv hown
                    go_wp2_with fail
                    all_goals
                      go_ret
                      exact ⟨ret_bool (by rw [HN.out, HR.out, decide_eq_decide]; omega), HB2.out⟩
                · have hr2 : r.toList.isEmpty = false := by rw [List.isEmpty_eq_false_iff]; exact hr
                  have HN := Lib.hid (show M.oneB ⟨f, t, p, true, r, 0⟩ = false by rw [HQ.out, decide_eq_true (show r.toList ≠ [] from hr)]; simp)
                  go_enter Tryd.func23, Tryd.ntmps23
                  go_wp2_with fail
                  go_ret
                  exact ⟨ret_bool (by rw [HN.out]), HB.out⟩
          · have hx2 : (x == 0) = false := by rw [beq_eq_false_iff_ne]; exact hx
            cases hc : M.cellsI x with
            | none =>
              rw [hc] at HC
              have HN := Lib.hid (show M.oneB ⟨f, t, p, c, r, x⟩ = false by rw [HP.out, show M.scaleOk x = false by unfold M.scaleOk; rw [hc, decide_eq_false hx]; rfl]; simp)
              clear hc
              go_enter Tryd.func23, Tryd.ntmps23
              go_wp2_with fail
              refine HC.out.mono ?_
              rintro r1 w1 ⟨rfl, rfl⟩
              dsimp only [M.cellsV]
              go_wp2_with fail
              go_ret
              exact ⟨ret_bool (by rw [HN.out]), HB.out⟩
            | some k =>
              rw [hc] at HC
              by_cases hk : k < 1
              · have HN := Lib.hid (show M.oneB ⟨f, t, p, c, r, x⟩ = false by rw [HP.out, show M.scaleOk x = false by unfold M.scaleOk; rw [hc, decide_eq_false hx]; show decide (1 ≤ k) = false; rw [decide_eq_false]; omega]; simp)
                clear hc
                go_enter Tryd.func23, Tryd.ntmps23
                go_wp2_with fail
                refine HC.out.mono ?_
                rintro r1 w1 ⟨rfl, rfl⟩
                dsimp only [M.cellsV]
                go_wp2_with fail
                go_ret
                exact ⟨ret_bool (by rw [HN.out]), HB.out⟩
              · have HQ := Lib.hid (show M.oneB ⟨f, t, p, c, r, x⟩ = ((!(c && decide (r.toList ≠ [])) && M.rubyOk r) && !(c && decide (4 < t - f))) by rw [HP.out, show M.scaleOk x = true by unfold M.scaleOk; rw [hc, decide_eq_false hx]; show decide (1 ≤ k) = true; rw [decide_eq_true]; omega]; rfl)
                clear hc
                cases c
                · have HN := Lib.hid (show M.oneB ⟨f, t, p, false, r, x⟩ = M.rubyOk r by rw [HQ.out]; simp)
                  go_enter Tryd.func23, Tryd.ntmps23
                  go_wp2_with fail
                  refine HC.out.mono ?_
                  rintro r1 w1 ⟨rfl, rfl⟩
                  dsimp only [M.cellsV]
                  go_wp2_with fail
                  refine HD.out.mono ?_
                  rintro r1 w2 ⟨⟨hd, rfl⟩ | ⟨m, v, hd, rfl, hown⟩, hb2⟩
                  · have HB2 := Lib.hid (HBC.out.trans (hb2.mono HBC.out.size))
                    have HR := Lib.hid (show M.rubyOk r = false by unfold M.rubyOk; rw [hd])
                    clear hb2 hd hconv
                    go_wp2_with fail
                    go_ret
                    exact ⟨ret_bool (by rw [HN.out, HR.out]), HB2.out⟩
                  · have HB2 := Lib.hid (HBC.out.trans (hb2.mono HBC.out.size))
                    have HR := Lib.hid (show M.rubyOk r = decide (m.length ≤ 20) by unfold M.rubyOk; rw [hd])
                    obtain ⟨A2, c2, rfl, _⟩ := reads_own hown
                    clear hb2 hd hconv hown
                    go_wp2_with fail
                    all_goals
                      go_ret
                      exact ⟨ret_bool (by rw [HN.out, HR.out, decide_eq_decide]; omega), HB2.out⟩
                · by_cases h4 : 4 < t - f
                  · have HN := Lib.hid (show M.oneB ⟨f, t, p, true, r, x⟩ = false by rw [HQ.out, decide_eq_true h4]; simp)
                    go_enter Tryd.func23, Tryd.ntmps23
                    go_wp2_with fail
                    refine HC.out.mono ?_
                    rintro r1 w1 ⟨rfl, rfl⟩
                    dsimp only [M.cellsV]
                    go_wp2_with fail
                    go_ret
                    exact ⟨ret_bool (by rw [HN.out]), HB.out⟩
                  · by_cases hr : r.toList = []
                    · have hr2 : r.toList.isEmpty = true := by rw [hr]; rfl
                      have HN := Lib.hid (show M.oneB ⟨f, t, p, true, r, x⟩ = M.rubyOk r by rw [HQ.out, decide_eq_false h4, decide_eq_false (fun h => h hr)]; simp)
                      go_enter Tryd.func23, Tryd.ntmps23
                      go_wp2_with fail
                      refine HC.out.mono ?_
                      rintro r1 w1 ⟨rfl, rfl⟩
                      dsimp only [M.cellsV]
                      go_wp2_with fail
                      refine HD.out.mono ?_
                      rintro r1 w2 ⟨⟨hd, rfl⟩ | ⟨m, v, hd, rfl, hown⟩, hb2⟩
                      · have HB2 := Lib.hid (HBC.out.trans (hb2.mono HBC.out.size))
                        have HR := Lib.hid (show M.rubyOk r = false by unfold M.rubyOk; rw [hd])
                        clear hb2 hd hconv
                        go_wp2_with fail
                        go_ret
                        exact ⟨ret_bool (by rw [HN.out, HR.out]), HB2.out⟩
                      · have HB2 := Lib.hid (HBC.out.trans (hb2.mono HBC.out.size))
                        have HR := Lib.hid (show M.rubyOk r = decide (m.length ≤ 20) by unfold M.rubyOk; rw [hd])
                        obtain ⟨A2, c2, rfl, _⟩ := reads_own hown
                        clear hb2 hd hconv hown
                        go_wp2_with fail
                        all_goals
                          go_ret
                          exact ⟨ret_bool (by rw [HN.out, HR.out, decide_eq_decide]; omega), HB2.out⟩
                    · have hr2 : r.toList.isEmpty = false := by rw [List.isEmpty_eq_false_iff]; exact hr
                      have HN := Lib.hid (show M.oneB ⟨f, t, p, true, r, x⟩ = false by rw [HQ.out, decide_eq_true (show r.toList ≠ [] from hr)]; simp)
                      go_enter Tryd.func23, Tryd.ntmps23
                      go_wp2_with fail
                      refine HC.out.mono ?_
                      rintro r1 w1 ⟨rfl, rfl⟩
                      dsimp only [M.cellsV]
                      go_wp2_with fail
                      go_ret
                      exact ⟨ret_bool (by rw [HN.out]), HB.out⟩
end Go.Proofs.YteknpodofmmklaaDoor
