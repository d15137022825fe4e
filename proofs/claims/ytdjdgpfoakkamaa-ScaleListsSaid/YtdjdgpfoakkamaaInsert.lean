/- The library's insertion sort of a stretch, by the code's Order, over the translation. Conditions: the words are of eight bytes. -/
import Derived.Test.YtdjdgpfoakkamaaRow
import Derived.Lib.QuietBelow
import Derived.Deep.QuietTactic
import Derived.BigQuiet
namespace Go.Proofs.Ytdjdgpfoakkamaa
open Go.RowKit

set_option maxHeartbeats 4000000 in
theorem insertion_any (g a b len ca : Nat) (p u s : List Int) (w : World) (hr : Row w g (p ++ (u ++ s))) (hp : p.length = a) (hu : a + u.length = b) (hl : b + s.length = len) (hc : len ≤ 1000) (hw : M.Wd u) (hu0 : u ≠ []) :
    Calls Try.prog 40 #[.slice (some ⟨g, 0, none⟩) len ca, .int .i64 a, .int .i64 b, ordV] w fun r w' => r = .returned (.tuple #[]) ∧ ∃ t, Row w' g (p ++ (t ++ s)) ∧ M.Sor t ∧ M.St u t ∧ Below g w w' := by
  have hst : ∃ t1 u2, a + t1.length = a + 1 ∧ a + 1 + u2.length = b ∧ Row w g (p ++ (t1 ++ (u2 ++ s))) ∧ M.Sor t1 ∧ M.St u (t1 ++ u2) := by
    cases u with
    | nil => exact absurd rfl hu0
    | cons c r => exact ⟨[c], r, rfl, by simp at hu; omega, hr, M.Sor.one c, M.St.refl _⟩
  have HST := Lib.hid hst
  have HW := Lib.hid hw
  have hab : a < b := by
    have : 0 < u.length := List.length_pos_iff.2 hu0
    omega
  have hbl : b ≤ len := by omega
  clear hst hr hw hu0 hu
  have a0 : (0 : Int) ≤ a := by omega
  have b1 : (b : Int) ≤ 1000 := by omega
  have a1 : (a : Int) < b := by omega
  go_enter Try.func40, Try.ntmps40
  go_wp2
  go_loopw [8] (fun x wr => ∃ (i : Nat) (t1 u2 : List Int), x = .int .i64 i ∧ a + t1.length = i ∧ i + u2.length = b ∧ a < i ∧ Row wr g (p ++ (t1 ++ (u2 ++ s))) ∧ M.Sor t1 ∧ M.St u (t1 ++ u2) ∧ Below g w wr) (fun x _ => (b : Nat) - (intOf x).toNat)
  case atStart =>
    obtain ⟨t1, u2, h1, h2, h3, h4, h5⟩ := HST.out
    exact ⟨a + 1, t1, u2, by go_num, h1, h2, by omega, h3, h4, h5, Below.refl _ _⟩
  case round =>
    obtain ⟨i, t1, u2, rfl, h1, h2, h0, h3, h4, h5, h6⟩ := hrel
    have H3 := Lib.hid h3
    have H4 := Lib.hid h4
    have H5 := Lib.hid h5
    have H6 := Lib.hid h6
    clear h3 h4 h5 h6
    have i0 : (a : Int) < i := by omega
    by_cases hib : i < b
    · obtain ⟨x, u3, rfl⟩ : ∃ x u3, u2 = x :: u3 := by
        cases u2 with
        | nil => simp at h2; omega
        | cons x r => exact ⟨x, r, rfl⟩
      have hx := HW.out x ((H5.out.mem (x := x)).2 (by simp))
      have HU3 := Lib.hid (show i + 1 + u3.length = b by simp at h2; omega)
      have HL1 := Lib.hid h1
      have ib : (i : Int) < b := by omega
      clear h2 h1
      go_wp2
      go_loopw [9] (fun y w2 => ∃ (j : Nat) (ta tb : List Int), y = .int .i64 j ∧ a + ta.length = j ∧ ta.length + tb.length = t1.length ∧ j ≤ i ∧ Row w2 g (p ++ (ta ++ x :: (tb ++ (u3 ++ s)))) ∧ M.Sor (ta ++ tb) ∧ (∀ z ∈ tb, M.rk x < M.rk z) ∧ M.St u (ta ++ x :: (tb ++ u3)) ∧ Below g w w2) (fun y _ => (intOf y).toNat)
      case atStart => exact ⟨i, t1, [], rfl, HL1.out, by simp, Nat.le_refl _, by simpa using H3.out, by simpa using H4.out, by simp, by simpa using H5.out, H6.out⟩
      case round =>
        obtain ⟨j, ta, tb, rfl, g1, g2, gj, g3, g4, g5, g6, g7⟩ := hrel
        have G7 := Lib.hid g7
        have ij : (j : Int) ≤ i := by omega
        by_cases hja : a < j
        · obtain ⟨tc, y, rfl⟩ : ∃ tc y, ta = tc ++ [y] := by
            rcases List.eq_nil_or_concat ta with h | ⟨tc, y, h⟩
            · subst h; simp at g1; omega
            · exact ⟨tc, y, by simpa using h⟩
          have hy := HW.out y ((g6.mem (x := y)).2 (by simp))
          have hj1 : j - 1 = (p ++ tc).length := by simp at g1; simp; omega
          have hj2 : j = (p ++ tc).length + 1 + ([] : List Int).length := by simp; simp at hj1; omega
          have g3' : Row wr g ((p ++ tc) ++ y :: ([] ++ x :: (tb ++ (u3 ++ s)))) := by simpa using g3
          obtain ⟨hcy, hcx, fy, fx⟩ := g3'.at2 hj1 hj2
          have C0 := fun d os => order_below x y (Sort.grow (redrawn wr d) os) hx.1 hx.2 hy.1 hy.2
          have ja : (a : Int) < j := by omega
          by_cases hxy : M.rk x < M.rk y
          · have e : M.signI (M.rk x) (M.rk y) = -1 := by unfold M.signI; rw [if_pos hxy]
            rw [e] at C0
            have C1 := Lib.hid (fun d os => Calls.regrown_of (C0 d os))
            have cx := fun d os => cell_regrown hcx d os
            have cy := fun d os => cell_regrown hcy d os
            have G3 := Lib.hid g3'
            have HJ1 := Lib.hid hj1
            have HJ2 := Lib.hid hj2
            have G1 := Lib.hid g1
            have G2 := Lib.hid g2
            have HS := Lib.hid (show M.Sor (tc ++ (y :: tb)) ∧ (∀ z ∈ y :: tb, M.rk x < M.rk z) ∧ M.St u (tc ++ x :: ((y :: tb) ++ u3)) from ⟨by simpa using g4, fun z hz => by
              rcases List.mem_cons.1 hz with k | k
              · rw [k]; exact hxy
              · exact g5 z k, by
              refine g6.trans ?_
              have h1 : M.St ([y] ++ [x]) ([x] ++ [y]) := M.St.turn (fun a ha b hb => by simp at ha hb; subst ha; subst hb; omega)
              have h2 := (M.St.refl tc).app (h1.app (M.St.refl (tb ++ u3)))
              simpa using h2⟩)
            clear hcx hcy g3 g3' C0 e hxy g4 g5 g6 g7 g1 g2 hj1 hj2 fx fy hx hy hp hl
            go_wp2_with fail
            refine wp_region_quiet_below (by kernel_rfl) (by kernel_rfl) ?_
            repeat (go_big_quiet_step (with_reducible exact C1.out _ _))
            refine wpQuiet_nil ?_
            intro _ hw'
            obtain ⟨⟨dq, osq⟩, hw4⟩ := hw'
            subst hw4
            have hbq := below_regrown wr dq osq
            have hr5 := G3.out.below hbq G3.out.b
            have hb5 : Below g w (Sort.grow (redrawn wr dq) osq) := G7.out.trans (hbq.mono (Nat.le_of_lt G3.out.b))
            obtain ⟨hcy, hcx, fy, fx⟩ := hr5.at2 HJ1.out HJ2.out
            have hn5 := hr5.exch' HJ1.out HJ2.out
            obtain ⟨W2, hW2⟩ : ∃ W, Sort.grow (redrawn wr dq) osq = W := ⟨_, rfl⟩
            rw [hW2] at hcy hcx fy fx hn5 hb5
            dsimp only
            rw [hW2]
            have HN5 := Lib.hid hn5
            have HB5 := Lib.hid hb5
            have jn : j ≠ j - 1 := by omega
            have jn2 : j - 1 ≠ j := by omega
            clear hW2 hn5 hb5 hr5 hbq cx cy
            go_wp2
            go_region
            all_goals
              go_wp2
              go_roundw
              case rel =>
                obtain ⟨q1, q2, q3⟩ := HS.out
                have z1 := G1.out
                have z2 := G2.out
                simp only [List.length_append, List.length_cons, List.length_nil] at z1 z2
                exact ⟨j - 1, tc, y :: tb, by go_num, by omega, by simp only [List.length_cons]; omega, by omega, by first | simpa using HN5.out | simpa using HN5.out.drew, q1, q2, q3, by first | exact (HB5.out.setCell (p := ⟨g, _, none⟩) (Nat.le_refl _) _).setCell (p := ⟨g, _, none⟩) (Nat.le_refl _) _ | exact ((HB5.out.setCell (p := ⟨g, _, none⟩) (Nat.le_refl _) _).setCell (p := ⟨g, _, none⟩) (Nat.le_refl _) _).drew⟩
              case measure => simp [intOf]; omega
          · obtain ⟨e, he⟩ : ∃ e, M.signI (M.rk x) (M.rk y) = e := ⟨_, rfl⟩
            have e0 : ¬ e < 0 := by rw [← he]; unfold M.signI; rw [if_neg hxy]; split <;> omega
            rw [he] at C0
            have C1 := Lib.hid (fun d os => Calls.regrown_of (C0 d os))
            have cx := fun d os => cell_regrown hcx d os
            have cy := fun d os => cell_regrown hcy d os
            have G3 := Lib.hid g3
            have G2 := Lib.hid g2
            have HS := Lib.hid (show M.Sor ((tc ++ [y]) ++ x :: tb) from M.Sor.app.2 ⟨(M.Sor.app.1 g4).1, M.Sor.cons.2 ⟨fun z hz => Int.le_of_lt (g5 z hz), (M.Sor.app.1 g4).2.1⟩, fun z hz v hv => by
              have k1 : M.rk z ≤ M.rk y := by
                rcases List.mem_append.1 hz with k | k
                · exact (M.Sor.app.1 (M.Sor.app.1 g4).1).2.2 z k y (by simp)
                · simp at k; subst k; exact Int.le_refl _
              rcases List.mem_cons.1 hv with k | k
              · rw [k]; omega
              · have := g5 v k; omega⟩)
            have G6 := Lib.hid g6
            clear hcx hcy g3 g3' C0 he hxy g4 g5 g6 g7 g1 g2 hj1 hj2 fx fy hx hy hp hl
            go_wp2_with fail
            refine wp_region_quiet_below (by kernel_rfl) (by kernel_rfl) ?_
            repeat (go_big_quiet_step (with_reducible exact C1.out _ _))
            refine wpQuiet_nil ?_
            intro _ hw'
            obtain ⟨⟨dq, osq⟩, hw4⟩ := hw'
            subst hw4
            have hbq := below_regrown wr dq osq
            have hr5 := G3.out.below hbq G3.out.b
            have hb5 : Below g w (Sort.grow (redrawn wr dq) osq) := G7.out.trans (hbq.mono (Nat.le_of_lt G3.out.b))
            obtain ⟨W2, hW2⟩ : ∃ W, Sort.grow (redrawn wr dq) osq = W := ⟨_, rfl⟩
            rw [hW2] at hr5 hb5
            dsimp only
            rw [hW2]
            have HN5 := Lib.hid hr5
            have HB5 := Lib.hid hb5
            clear hW2 hb5 hr5 hbq cx cy
            go_wp2
            go_roundw
            case rel =>
              have z1 := HL1.out
              have z2 := G2.out
              have z3 := HU3.out
              simp only [List.length_append, List.length_cons, List.length_nil] at z1 z2
              exact ⟨i + 1, (tc ++ [y]) ++ x :: tb, u3, by go_num, by simp; omega, by omega, by omega, by simpa using HN5.out, HS.out, by simpa using G6.out, HB5.out⟩
            case measure => simp [intOf]; omega
        · have ja : ¬ (a : Int) < j := by omega
          obtain rfl : ta = [] := by cases ta with
            | nil => rfl
            | cons y r => simp at g1; omega
          have G3 := Lib.hid g3
          have G2 := Lib.hid g2
          have G6 := Lib.hid g6
          have HS := Lib.hid (show M.Sor (x :: tb) from M.Sor.cons.2 ⟨fun z hz => Int.le_of_lt (g5 z hz), by simpa using g4⟩)
          clear g1 g2 g3 g4 g5 g6 g7 hx hp hl
          go_wp2_with fail
          refine wp_region_quiet_below (by kernel_rfl) (by kernel_rfl) ?_
          repeat (go_big_quiet_step (fail))
          refine wpQuiet_nil ?_
          intro _ hw'
          obtain ⟨⟨dq, osq⟩, hw4⟩ := hw'
          subst hw4
          have hbq := below_regrown wr dq osq
          have hr5 := G3.out.below hbq G3.out.b
          have hb5 : Below g w (Sort.grow (redrawn wr dq) osq) := G7.out.trans (hbq.mono (Nat.le_of_lt G3.out.b))
          obtain ⟨W2, hW2⟩ : ∃ W, Sort.grow (redrawn wr dq) osq = W := ⟨_, rfl⟩
          rw [hW2] at hr5 hb5
          dsimp only
          rw [hW2]
          have HN5 := Lib.hid hr5
          have HB5 := Lib.hid hb5
          clear hW2 hb5 hr5 hbq
          go_wp2
          go_roundw
          case rel =>
            have z1 := HL1.out
            have z2 := G2.out
            have z3 := HU3.out
            simp only [List.length_nil] at z2
            exact ⟨i + 1, x :: tb, u3, by go_num, by simp; omega, by omega, by omega, by simpa using HN5.out, HS.out, by simpa using G6.out, HB5.out⟩
          case measure => simp [intOf]; omega
    · have H2 := Lib.hid (show u2 = [] by cases u2 with
        | nil => rfl
        | cons x r => simp at h2; omega)
      have ib : ¬ (i : Int) < b := by omega
      clear h1 h2
      go_wp2
      go_end0
      have := H2.out
      subst this
      exact ⟨rfl, t1, by simpa using H3.out, H4.out, by simpa using H5.out, H6.out⟩

theorem insertionNone_any (g a len ca : Nat) (w : World) (hc : a ≤ 1000) (hal : len ≤ a) :
    Calls Try.prog 40 #[.slice (some ⟨g, 0, none⟩) len ca, .int .i64 a, .int .i64 len, ordV] w fun r w' => r = .returned (.tuple #[]) ∧ w' = w := by
  have a0 : (0 : Int) ≤ a := by omega
  have a1 : (a : Int) ≤ 1000 := by omega
  have a2 : ¬ (a : Int) + 1 < len := by omega
  go_enter Try.func40, Try.ntmps40
  go_wp2
  go_loopw [8] (fun x wr => x = .int .i64 ((a : Int) + 1) ∧ wr = w) (fun _ _ => 0)
  case atStart => exact ⟨rfl, rfl⟩
  case round =>
    obtain ⟨rfl, rfl⟩ := hrel
    go_wp2
    go_end0
    exact ⟨rfl, rfl⟩
end Go.Proofs.Ytdjdgpfoakkamaa
