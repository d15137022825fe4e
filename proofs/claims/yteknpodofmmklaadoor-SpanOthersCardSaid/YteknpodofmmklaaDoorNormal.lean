/- The contract of span's Normal. Condition: the slice reads as a list of at most sixty spans. -/
import Derived.Test.YteknpodofmmklaaDoorJoins
import Derived.WalkSpells
namespace Go.Proofs.YteknpodofmmklaaDoor
open Go.RowKit

theorem M.norm_len (l : List M.S) : (M.norm l).length ≤ l.length := by
  have h : ∀ (l out : List M.S), (l.foldl M.step out).length ≤ out.length + l.length := by
    intro l
    induction l with
    | nil => intro out; simp
    | cons s r ih =>
      intro out
      have h1 := ih (M.step out s)
      have h2 : (M.step out s).length ≤ out.length + 1 := by
        unfold M.step
        split
        · omega
        · split
          · rename_i z hz
            split
            · have : out ≠ [] := by intro h; rw [h] at hz; simp at hz
              have := List.length_pos_iff.2 this
              rw [List.length_append, List.length_dropLast]
              simp
            · simp
          · simp
      simp only [List.foldl_cons, List.length_cons]
      omega
  have := h l []
  simp only [List.length_nil, Nat.zero_add] at this
  exact this
theorem owns_succ {w : World} {base : Nat} {v : Value} {l : List M.S} {z : M.S} (h : OwnP w base v (l ++ [z])) : ∃ g cap, v = .slice (some ⟨g, 0, none⟩) (l.length + 1) cap := by
  rcases h.2 with ⟨_, h0⟩ | ⟨g, cap, cur, h1, _⟩
  · simp at h0
  · exact ⟨g, cap, by rw [h1]; simp⟩
set_option maxRecDepth 100000 in
set_option maxHeartbeats 4000000 in
theorem normal_any (A : Option Addr) (ca : Nat) (l : List M.S) (w : World) (hr : RdP w w.heap.size A l) (hm : l.length ≤ 60) :
    Calls Tryd.prog 14 #[.slice A l.length ca] w (OutP (M.norm l) w) := by
  obtain ⟨i0, hi, hz0, hz1, hz2⟩ := info_parts Tryd.infoSpan
  have HR := Lib.hid hr
  clear hr
  go_enter Tryd.func14, Tryd.ntmps14
  go_wp2
  go_loopw [3, 9] (fun v i wr => ∃ (k : Nat) (told : List M.S), k ≤ l.length ∧ i = .int .i64 k ∧ told = M.norm (l.take k) ∧ told.length ≤ k ∧ OwnP wr w.heap.size v told ∧ Below w.heap.size w wr) (fun _ i _ => l.length - (intOf i).toNat)
  case atStart => exact ⟨0, [], Nat.zero_le _, rfl, rfl, Nat.le_refl _, OwnP.nil _ _, Below.refl _ _⟩
  case round =>
    obtain ⟨k, told, hk, rfl, htold, htl, hown, hb⟩ := hrel
    have HT := Lib.hid htold
    have HO := Lib.hid hown
    have HB := Lib.hid hb
    have hbs := hb.size
    clear htold hown hb
    by_cases hlt : k < l.length
    · obtain ⟨s, hs⟩ : ∃ s, l[k]? = some s := ⟨_, List.getElem?_eq_getElem hlt⟩
      obtain ⟨ad, rfl, hab, c0, c1, c2, c3, c4, c5⟩ := HR.out.below HB.out k s hs
      have hk1 : (0 : Int) ≤ (k : Int) := by omega
      have hk2 : (k : Int) < (l.length : Int) := by omega
      have HS := Lib.hid ((M.norm_take hs).trans (by rw [← HT.out]))
      obtain ⟨W, hW, hbW, hSW, -⟩ := new_span wr s
      have hHO := HO.out.below hbW
      have HBW := Lib.hid (HB.out.trans (hbW.mono hbs))
      have hsW : w.heap.size ≤ W.heap.size := HBW.out.size
      have hlW : wr.heap.size < W.heap.size := by rw [← hW]; simp
      have hg := guard_span
      have hq := fun w => eql_span w 0 0 s.p s.c s.r s.x 0 0 0 false ⟨#[]⟩ 0
      have HQ := Lib.hid (show M.eq6 0 0 s.p s.c s.r s.x 0 0 0 false ⟨#[]⟩ 0 = s.bare.same M.zeroS from rfl)
      obtain ⟨e0, e1, e2, e3, e4, e5, _, _, _, _, _, _⟩ := hSW
      have HSIX := Lib.hid (show Six W wr.heap.size s by rw [← hW]; exact Six.new wr s)
      have HOW := Lib.hid hHO
      clear hs hHO hbW
      cases hpl : s.bare.same M.zeroS
      · rw [HQ.out, hpl] at hq
        have HPL := Lib.hid hpl
        clear hpl
        go_wp2_with fail
        refine (style_any s _).mono ?_
        rintro r w1 ⟨rfl, hb1⟩
        have HB1 := Lib.hid hb1
        clear hb1 e0 e1 e2 e3 e4 e5
        go_wp2_with fail
        refine (plain_any _).mono ?_
        rintro r w2 ⟨rfl, hb2⟩
        have hW2 := HB1.out.trans (hb2.mono HB1.out.size)
        have HS2 := Lib.hid (HSIX.out.below hW2 hlW)
        have HO2 := Lib.hid (HOW.out.below hW2)
        have HB2 := Lib.hid (HBW.out.trans (hW2.mono hsW))
        have hs2 := HB2.out.size
        have hl2 : wr.heap.size < w2.heap.size := Nat.lt_of_lt_of_le hlW hW2.size
        obtain ⟨e0, e1, e2, e3, e4, e5, _, _, _, _, _, _⟩ := HS2.out
        clear hb2 hW2 HB1
        unfold M.S.val M.S.bare M.zeroS
        dsimp only
        rcases List.eq_nil_or_concat told with h0 | ⟨init, z, h0⟩
        · subst h0
          have HN2 := Lib.hid (show [] ++ [s] = M.norm (l.take (k + 1)) by rw [HS.out, M.step_first HPL.out])
          obtain ⟨A2, c2', rfl, _⟩ := HO2.out.shape
          go_wp2_with fail
          go_big_quiet (fail)
          obtain ⟨V, hV⟩ : ∃ V, w2.drewN nq = V := ⟨_, rfl⟩
          have hbV : Below w2.heap.size w2 V := by rw [← hV]; exact drewN_below (Below.refl _ _) nq
          have HBV := Lib.hid (HB2.out.trans (hbV.mono hs2))
          have HOV := Lib.hid (HO2.out.below hbV)
          have hsV := HBV.out.size
          obtain ⟨v0, v1, v2, v3, v4, v5, _, _, _, _, _, _⟩ := HS2.out.below hbV hl2
          rw [hV]
          clear hbV hV e0 e1 e2 e3 e4 e5
          go_wp2_with (at_builtin; refine wpList_append_own _ rfl _ _ 22 rfl w.heap.size 27 i0 _ 6 56 Tryd.underlying22 hi hz0 hz1 hz2 rfl (by decide) _ _ _ rfl (World.ownsRow.alloc HOV.out _) ⟨V.heap.size, 0, none⟩ 1 1 s.cells rfl rfl (news_cells _ s _) (news_one s) (by unfold maxLen; simp; try omega) (by first | omega | (simp; omega)) (by simp; omega) ?_)
          intro v3 w3 hown3 hgrow3 _
          have HO3 := Lib.hid (OwnP.snoc (l := []) hown3)
          have HB3 := Lib.hid ((HBV.out.alloc hsV _).grown hgrow3 (by simp; omega) (fun q hq => (World.ownsRow.lt HOV.out q hq).1))
          clear hown3 hgrow3
          go_wp2
          go_roundw
          case rel => exact ⟨k + 1, _, by omega, by go_num, HN2.out, by simp, HO3.out, HB3.out⟩
          case measure => simp [intOf]; omega
        · rw [List.concat_eq_append] at h0
          subst h0
          obtain ⟨g, cap, rfl⟩ := owns_succ HO2.out
          obtain ⟨m, hm0⟩ : ∃ m, init.length = m := ⟨_, rfl⟩
          have hmk : m + 1 ≤ k := by rw [List.length_append, hm0] at htl; simpa using htl
          obtain ⟨q, qf, qb, qg⟩ := OwnP.last HO2.out
          rw [hm0] at q qf
          have q0 := q 0 _ (by omega) rfl
          have q1 := q 1 _ (by omega) rfl
          have q2 := q 2 _ (by omega) rfl
          have q3 := q 3 _ (by omega) rfl
          have q4 := q 4 _ (by omega) rfl
          have q5 := q 5 _ (by omega) rfl
          rw [Nat.add_zero] at q0
          have HM0 := Lib.hid hm0
          have HO2' := Lib.hid (show w2.ownsRow w.heap.size 27 6 (.slice (some ⟨g, 0, none⟩) (m + 1) cap) (m + 1) (cellsP (init ++ [z])) by have := HO2.out; unfold OwnP at this; rw [List.length_append, hm0] at this; exact this)
          rw [hm0]
          clear q hm0 htl
          have hi1 : (0 : Int) ≤ (m : Int) := by omega
          have hi2 : (m : Int) < (m : Int) + 1 := by omega
          have hi3 : m < m + 1 := by omega
          have C := Lib.hid (fun d os => Calls.regrown_of (joins_any z s (Sort.grow (redrawn w2 d) os)))
          unfold M.S.val at C
          have g0 := fun d os => cell_regrown q0 d os
          have g1 := fun d os => cell_regrown q1 d os
          have g2 := fun d os => cell_regrown q2 d os
          have g3 := fun d os => cell_regrown q3 d os
          have g4 := fun d os => cell_regrown q4 d os
          have g5 := fun d os => cell_regrown q5 d os
          have k0 := fun d os => cell_regrown e0 d os
          have k1' := fun d os => cell_regrown e1 d os
          have k2' := fun d os => cell_regrown e2 d os
          have k3 := fun d os => cell_regrown e3 d os
          have k4 := fun d os => cell_regrown e4 d os
          have k5 := fun d os => cell_regrown e5 d os
          clear e0 e1 e2 e3 e4 e5 q0 q1 q2 q3 q4 q5
          cases hj : M.joins z s
          · rw [hj] at C
            have HN2 := Lib.hid (show init ++ [z] ++ [s] = M.norm (l.take (k + 1)) by rw [HS.out, M.step_more HPL.out hj])
            clear hj
            go_wp2_with fail
            refine wp_region_quiet_below (by kernel_rfl) (by kernel_rfl) ?_
            repeat (go_big_quiet_step (with_reducible exact C.out _ _))
            refine wpQuiet_nil ?_
            intro _ hw'
            obtain ⟨⟨dq, osq⟩, hw4⟩ := hw'
            subst hw4
            obtain ⟨V, hV⟩ : ∃ V, Sort.grow (redrawn w2 dq) osq = V := ⟨_, rfl⟩
            have hbV : Below w2.heap.size w2 V := by rw [← hV]; exact below_regrown w2 dq osq
            have HBV := Lib.hid (HB2.out.trans (hbV.mono hs2))
            have HOV := Lib.hid (HO2.out.below hbV)
            have hsV := HBV.out.size
            obtain ⟨v0, v1, v2, v3, v4, v5, _, _, _, _, _, _⟩ := HS2.out.below hbV hl2
            rw [hV]
            clear hbV hV
            clear g0 g1 g2 g3 g4 g5 k0 k1' k2' k3 k4 k5
            have HOV' := Lib.hid (show V.ownsRow w.heap.size 27 6 (.slice (some ⟨g, 0, none⟩) (m + 1) cap) (m + 1) (cellsP (init ++ [z])) by have := HOV.out; unfold OwnP at this; rw [List.length_append, HM0.out] at this; exact this)
            go_wp2_with (at_builtin; refine wpList_append_own _ rfl _ _ 22 rfl w.heap.size 27 i0 _ 6 56 Tryd.underlying22 hi hz0 hz1 hz2 rfl (by decide) _ _ _ rfl (World.ownsRow.alloc HOV'.out _) ⟨V.heap.size, 0, none⟩ 1 1 s.cells rfl rfl (news_cells _ s _) (news_one s) (by unfold maxLen; simp; try omega) (by first | omega | (simp; omega)) (by simp; omega) ?_)
            intro v3 w3 hown3 hgrow3 _
            have HO3 := Lib.hid (OwnP.snoc (l := init ++ [z]) (by rw [List.length_append, HM0.out]; exact hown3))
            have HB3 := Lib.hid ((HBV.out.alloc hsV _).grown hgrow3 (by simp; omega) (fun q hq => (World.ownsRow.lt HOV'.out q hq).1))
            clear hown3 hgrow3
            go_wp2
            go_roundw
            case rel => exact ⟨k + 1, _, by omega, by go_num, HN2.out, (by rw [List.length_append, List.length_append, HM0.out]; simp; omega), HO3.out, HB3.out⟩
            case measure => simp [intOf]; omega
          · rw [hj] at C
            have HN2 := Lib.hid (show init ++ [{ z with t := s.t }] = M.norm (l.take (k + 1)) by rw [HS.out, M.step_join HPL.out hj])
            clear hj
            go_wp2_with fail
            refine wp_region_quiet_below (by kernel_rfl) (by kernel_rfl) ?_
            repeat (go_big_quiet_step (with_reducible exact C.out _ _))
            refine wpQuiet_nil ?_
            intro _ hw'
            obtain ⟨⟨dq, osq⟩, hw4⟩ := hw'
            subst hw4
            obtain ⟨V, hV⟩ : ∃ V, Sort.grow (redrawn w2 dq) osq = V := ⟨_, rfl⟩
            have hbV : Below w2.heap.size w2 V := by rw [← hV]; exact below_regrown w2 dq osq
            have HBV := Lib.hid (HB2.out.trans (hbV.mono hs2))
            have HOV := Lib.hid (HO2.out.below hbV)
            have hsV := HBV.out.size
            obtain ⟨v0, v1, v2, v3, v4, v5, _, _, _, _, _, _⟩ := HS2.out.below hbV hl2
            rw [hV]
            clear hbV hV
            clear g0 g1 g2 g3 g4 g5 k0 k1' k2' k3 k4 k5
            have hl := OwnP.last HOV.out
            rw [HM0.out] at hl
            obtain ⟨q, qf2, qb2, qg2⟩ := hl
            have p1 := q 1 _ (by omega) rfl
            have HSET := Lib.hid (show OwnP (V.setCell ⟨g, m * 6 + 1, none⟩ (.int .i64 s.t)) w.heap.size (.slice (some ⟨g, 0, none⟩) (m + 1) cap) (init ++ [{ z with t := s.t }]) by
              have := OwnP.setTo (w := V) (base := w.heap.size) (g := g) (cap := cap) (l := init) (z := z) s.t (by rw [HM0.out]; have := HOV.out; rw [HM0.out] at this; exact this)
              rw [HM0.out] at this
              exact this)
            have HBS := Lib.hid (HBV.out.setCell (p := ⟨g, m * 6 + 1, none⟩) qb2 (.int .i64 s.t))
            clear q
            go_wp2
            go_roundw
            case rel => exact ⟨k + 1, _, by omega, by go_num, HN2.out, by rw [List.length_append, HM0.out]; simp; omega, HSET.out, HBS.out⟩
            case measure => simp [intOf]; omega
      · rw [HQ.out, hpl] at hq
        have HN := Lib.hid (show told = M.norm (l.take (k + 1)) by rw [HS.out, M.step_plain hpl])
        clear hpl
        go_wp2_with fail
        refine (style_any s _).mono ?_
        rintro r w1 ⟨rfl, hb1⟩
        have HB1 := Lib.hid hb1
        clear hb1 e0 e1 e2 e3 e4 e5
        go_wp2_with fail
        refine (plain_any _).mono ?_
        rintro r w2 ⟨rfl, hb2⟩
        have hW2 := HB1.out.trans (hb2.mono HB1.out.size)
        have HO2 := Lib.hid (HOW.out.below hW2)
        have HB2 := Lib.hid (HBW.out.trans (hW2.mono hsW))
        clear hb2 hW2 HB1
        unfold M.S.val M.S.bare M.zeroS
        dsimp only
        go_wp2_with fail
        go_roundw
        case rel => exact ⟨k + 1, told, by omega, by go_num, HN.out, by omega, HO2.out, HB2.out⟩
        case measure => simp [intOf]; omega
    · obtain rfl : k = l.length := by omega
      have HE := Lib.hid (show told = M.norm l by rw [HT.out, List.take_length])
      go_wp2
      go_ret
      exact ⟨_, rfl, by rw [← HE.out]; exact HO.out, HB.out⟩
end Go.Proofs.YteknpodofmmklaaDoor
