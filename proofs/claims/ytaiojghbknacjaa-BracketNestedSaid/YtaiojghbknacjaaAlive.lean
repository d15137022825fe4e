/- The live question of stage 11, over the translation; and what Resolve's answer looks like, whichever it is. No condition. -/
import Derived.Test.YtaiojghbknacjaaCBrk
import Derived.Test.YtaiojghbknacjaaSame
namespace Go.Proofs.Ytaiojghbknacjaa
open Go.RowKit
set_option maxRecDepth 100000

/-- A row of one's own that is not empty. -/
theorem own_some {w : World} {base s n : Nat} {t : TypeId} {v : Value} {xs : List Value} (h : w.ownsRow base t s v n xs) (hn : 0 < n) : ∃ g cap, v = .slice (some ⟨g, 0, none⟩) n cap ∧ g < w.heap.size ∧ ∀ j, j < n * s → w.cell? ⟨g, j, none⟩ = xs[j]? := by
  rcases h.2 with ⟨_, h0⟩ | ⟨g, cap, cur, hv, _, hg, _⟩
  · omega
  · subst hv
    exact ⟨g, cap, rfl, lt_of_block hg, fun j hj => World.ownsRow.cellAt h j hj⟩
/-- What is handed back, and the error's number. -/
def M.orNil (ok : Prop) [Decidable ok] (t : List Int) : List Int := if ok then t else []
def M.orArg (ok : Prop) [Decidable ok] : Int := if ok then 0 else 1
theorem res_out {ok : Prop} [Decidable ok] {t : List Int} {w : World} {r : Ending} {w' : World} (h : ResOut ok t w r w') :
    ∃ A c, r = .returned (.tuple #[.slice A (M.orNil ok t).length c, .int .i64 (M.orArg ok)]) ∧ RdS .i64 w' w'.heap.size A (M.orNil ok t) ∧ Below w.heap.size w w' ∧ (M.orNil ok t).length ≤ c := by
  obtain ⟨hb, hy, hn⟩ := h
  unfold M.orNil M.orArg
  by_cases hk : ok
  · obtain ⟨v, hr, ho⟩ := hy hk
    obtain ⟨A, c, rfl, h1, h2, -, -⟩ := reads_own ho
    rw [if_pos hk, if_pos hk]
    exact ⟨A, c, hr, h1, hb, h2⟩
  · rw [if_neg hk, if_neg hk]
    exact ⟨none, 0, hn hk, RdS.nil, hb, Nat.zero_le _⟩
theorem M.orNil_len {ok : Prop} [Decidable ok] {t : List Int} : (M.orNil ok t).length ≤ t.length := by
  unfold M.orNil
  split
  · exact Nat.le_refl _
  · exact Nat.zero_le _
theorem live_p : M.prs [1, 13, 0, 13, 0] [(0, 0), (1, 7), (0, 0), (2, 7)] = [(1, 3)] := by decide +kernel
theorem live_x : M.res [1, 13, 0, 13, 0] [1, 13, 0, 13, 0] [(0, 0), (1, 7), (0, 0), (2, 7)] 1 1 = [1, 1, 0, 1, 0] := by decide +kernel
theorem live_y : M.res [1, 13, 0, 13, 0] [1, 13, 0, 13, 0] [(0, 0), (1, 7), (0, 0), (2, 7)] 0 1 = [1, 0, 0, 0, 0] := by decide +kernel
theorem rd_two (w : World) (t : TypeId) : RdT (w.alloc (.cells #[.int .i64 0, .int .i64 0, .int .i64 1, .int .i64 7, .int .i64 0, .int .i64 0, .int .i64 2, .int .i64 7] t)) (w.alloc (.cells #[.int .i64 0, .int .i64 0, .int .i64 1, .int .i64 7, .int .i64 0, .int .i64 0, .int .i64 2, .int .i64 7] t)).heap.size (some ⟨w.heap.size, 0, none⟩) [(0, 0), (1, 7), (0, 0), (2, 7)] := by
  intro j e hj
  refine ⟨_, rfl, by simp, ?_⟩
  rw [addr0_add2]
  match j, hj with
  | 0, hj => simp at hj; subst hj; simp [go_sem]
  | 1, hj => simp at hj; subst hj; simp [go_sem]
  | 2, hj => simp at hj; subst hj; simp [go_sem]
  | 3, hj => simp at hj; subst hj; simp [go_sem]
set_option maxHeartbeats 8000000 in
theorem alive_any (w : World) : Calls Try.prog 8 #[] w fun r w' => r = .returned (.bool true) ∧ Below w.heap.size w w' := by
  obtain ⟨W1, hW1⟩ : ∃ W1, w.alloc (.cells #[.int .i64 1, .int .i64 13, .int .i64 0, .int .i64 13, .int .i64 0] 32) = W1 := ⟨_, rfl⟩
  have hb1 : Below w.heap.size w W1 := by rw [← hW1]; exact (Below.refl _ _).alloc (Nat.le_refl _) _
  have hrd1 : RdS .i64 W1 W1.heap.size (some ⟨w.heap.size, 0, none⟩) [1, 13, 0, 13, 0] := by rw [← hW1]; exact rd_new w [1, 13, 0, 13, 0] 32
  obtain ⟨W2, hW2⟩ : ∃ W2, W1.alloc (.cells #[.int .i64 0, .int .i64 0, .int .i64 1, .int .i64 7, .int .i64 0, .int .i64 0, .int .i64 2, .int .i64 7] 45) = W2 := ⟨_, rfl⟩
  have hb2 : Below W1.heap.size W1 W2 := by rw [← hW2]; exact (Below.refl _ _).alloc (Nat.le_refl _) _
  have hrd2 : RdT W2 W2.heap.size (some ⟨W1.heap.size, 0, none⟩) [(0, 0), (1, 7), (0, 0), (2, 7)] := by rw [← hW2]; exact rd_two W1 _
  have hws : W1.heap.size = w.heap.size + 1 := by rw [← hW1]; simp
  rw [hws] at hrd2
  have HL := Lib.hid ((hrd1.below hb2).more hb2.size)
  have HM := Lib.hid hrd2
  have HB2 := Lib.hid (hb1.trans (hb2.mono hb1.size))
  have HW1 := Lib.hid hW1
  have HW2 := Lib.hid hW2
  clear hW1 hb1 hrd1 hW2 hb2 hrd2 hws
  go_enter Try.func8, Try.ntmps8
  go_wp2_with fail
  rw [HW1.out, HW2.out]
  refine (cpairs_any (some ⟨w.heap.size, 0, none⟩) (some ⟨w.heap.size + 1, 0, none⟩) 5 4 5 4 [1, 13, 0, 13, 0] [(0, 0), (1, 7), (0, 0), (2, 7)] W2 HL.out rfl (by omega) HM.out rfl (by omega) (by omega) (by omega)).mono ?_
  rintro r w3 ⟨v, rfl, ho3, hb3⟩
  rw [live_p] at ho3
  obtain ⟨g, cp, rfl, hg, hcg⟩ := own_some ho3 (by decide)
  have z0 : w3.cell? ⟨g, 0, none⟩ = some (.int .i64 1) := hcg 0 (by decide)
  have z1 : w3.cell? ⟨g, 1, none⟩ = some (.int .i64 3) := hcg 1 (by decide)
  have HB3 := Lib.hid (HB2.out.trans (hb3.mono HB2.out.size))
  have HL3 := Lib.hid ((HL.out.below hb3).more hb3.size)
  have HM3 := Lib.hid (HM.out.after hb3)
  have HG := Lib.hid hg
  have HZ := Lib.hid (And.intro z0 z1)
  clear ho3 hb3 hcg hg z0 z1
  go_wp2_with fail
  refine (cres_any (some ⟨w.heap.size, 0, none⟩) (some ⟨w.heap.size, 0, none⟩) (some ⟨w.heap.size + 1, 0, none⟩) 5 5 4 5 5 4 [1, 13, 0, 13, 0] [1, 13, 0, 13, 0] [(0, 0), (1, 7), (0, 0), (2, 7)] 1 1 w3 HL3.out HL3.out HM3.out rfl rfl rfl (by omega) (by omega) (by omega) (by omega) (by omega) (by omega) (by simp) (by simp)).mono ?_
  rintro r w4 ⟨hb4, hok, -⟩
  obtain ⟨v, rfl, ho4⟩ := hok (by decide)
  rw [live_x] at ho4
  obtain ⟨g4, cp4, rfl, hg4, hcg4⟩ := own_some ho4 (by decide)
  have y1 : w4.cell? ⟨g4, 1, none⟩ = some (.int .i64 1) := hcg4 1 (by decide)
  have HB4 := Lib.hid (HB3.out.trans (hb4.mono HB3.out.size))
  have HL4 := Lib.hid ((HL3.out.below hb4).more hb4.size)
  have HM4 := Lib.hid (HM3.out.after hb4)
  have HG4 := Lib.hid (And.intro hg4 (Nat.lt_of_lt_of_le HG.out hb4.size))
  have HZ4 := Lib.hid (And.intro ((hb4.cell (p := ⟨g, 0, none⟩) HG.out).trans HZ.out.1) (And.intro ((hb4.cell (p := ⟨g, 1, none⟩) HG.out).trans HZ.out.2) y1))
  clear hb4 hok ho4 hcg4 hg4 y1
  simp only [List.length_cons, List.length_nil]
  go_wp2_with fail
  refine (cres_any (some ⟨w.heap.size, 0, none⟩) (some ⟨w.heap.size, 0, none⟩) (some ⟨w.heap.size + 1, 0, none⟩) 5 5 4 5 5 4 [1, 13, 0, 13, 0] [1, 13, 0, 13, 0] [(0, 0), (1, 7), (0, 0), (2, 7)] 0 1 w4 HL4.out HL4.out HM4.out rfl rfl rfl (by omega) (by omega) (by omega) (by omega) (by omega) (by omega) (by simp) (by simp)).mono ?_
  rintro r w5 ⟨hb5, hok, -⟩
  obtain ⟨v, rfl, ho5⟩ := hok (by decide)
  rw [live_y] at ho5
  obtain ⟨g5, cp5, rfl, hg5, hcg5⟩ := own_some ho5 (by decide)
  have x3 : w5.cell? ⟨g5, 3, none⟩ = some (.int .i64 0) := hcg5 3 (by decide)
  obtain ⟨hz0, hz1, hy1⟩ := HZ4.out
  have HB5 := Lib.hid (HB4.out.trans (hb5.mono HB4.out.size))
  have HL5 := Lib.hid ((HL4.out.below hb5).more hb5.size)
  have HM5 := Lib.hid (HM4.out.after hb5)
  have HG5 := Lib.hid (And.intro hg5 (And.intro (Nat.lt_of_lt_of_le HG4.out.1 hb5.size) (Nat.lt_of_lt_of_le HG4.out.2 hb5.size)))
  have HZ5 := Lib.hid (And.intro ((hb5.cell (p := ⟨g, 0, none⟩) HG4.out.2).trans hz0) (And.intro ((hb5.cell (p := ⟨g, 1, none⟩) HG4.out.2).trans hz1) (And.intro ((hb5.cell (p := ⟨g4, 1, none⟩) HG4.out.1).trans hy1) x3)))
  clear hb5 hok ho5 hcg5 hg5 x3 hz0 hz1 hy1
  simp only [List.length_cons, List.length_nil]
  go_wp2_with fail
  refine (cres_any none (some ⟨w.heap.size, 0, none⟩) (some ⟨w.heap.size + 1, 0, none⟩) 0 5 4 0 5 4 [] [1, 13, 0, 13, 0] [(0, 0), (1, 7), (0, 0), (2, 7)] 0 1 w5 RdS.nil HL5.out HM5.out rfl rfl rfl (by omega) (by omega) (by omega) (by omega) (by omega) (by omega) (fun _ => rfl) (by simp)).mono ?_
  rintro r w6 ⟨hb6, -, hno⟩
  obtain rfl := hno (by decide)
  obtain ⟨hz0, hz1, hy1, hx3⟩ := HZ5.out
  have c0 := (hb6.cell (p := ⟨g, 0, none⟩) HG5.out.2.2).trans hz0
  have c1 := (hb6.cell (p := ⟨g, 1, none⟩) HG5.out.2.2).trans hz1
  have c2 := (hb6.cell (p := ⟨g4, 1, none⟩) HG5.out.2.1).trans hy1
  have c3 := (hb6.cell (p := ⟨g5, 3, none⟩) HG5.out.1).trans hx3
  have HB6 := Lib.hid (HB5.out.trans (hb6.mono HB5.out.size))
  clear hb6 hno hz0 hz1 hy1 hx3
  go_wp2_with fail
  go_ret
  exact ⟨rfl, HB6.out⟩
end Go.Proofs.Ytaiojghbknacjaa
