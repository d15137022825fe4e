/- The contracts of the walk's endEmbedding, of begun and of beginAnew: what PDF and B do. Condition: the walk is right, its counts small. -/
import Derived.Test.YtdipaiflfhdpoaaCEnd
namespace Go.Proofs.Ytdipaiflfhdpoaa
open Go.RowKit

set_option maxHeartbeats 8000000 in
theorem cpdf_any (base mb g cap k : Nat) (b : Int) (m : M.Mc) (c f : Int) (w : World) (h : WalkAt w base mb g cap b m) (hf : m.Fit b k) (hk : k ≤ 5000) :
    Calls Try.prog 39 #[.pointer (some ⟨mb, 0, none⟩), .agg #[.int .i64 c, .int .i64 f]] w (StepOut base mb g b m.pop (-1) c w) := by
  obtain ⟨n, hn, hnk⟩ := hf.size
  have he1 := hf.e1
  have hRM := fun W => Lib.hid (cremove_any mb c f W)
  obtain ⟨W, hW⟩ : ∃ W, w.alloc (.cells #[.int .i64 c, .int .i64 f] 56) = W := ⟨_, rfl⟩
  have hbl : Below w.heap.size w W := by rw [← hW]; exact (Below.refl _ _).alloc (Nat.le_refl _) _
  have hWs : W.heap.size = w.heap.size + 1 := by rw [← hW]; simp
  have z0 : W.cell? ⟨w.heap.size, 0, none⟩ = some (.int .i64 c) := by rw [← hW]; simp [go_sem]
  have z1 : W.cell? ⟨w.heap.size, 1, none⟩ = some (.int .i64 f) := by rw [← hW]; simp [go_sem]
  have h1 := h.below hbl
  obtain ⟨t, ht⟩ : ∃ t, m.top = t := ⟨_, rfl⟩
  have HT := Lib.hid (ctop_any base mb g cap n b m W h1 hn (by omega))
  have HPP := fun W h => Lib.hid (cpop_any base mb g cap n b m W h hn (by omega))
  have HM := Lib.hid (show m.pop = if 0 < m.o then m else if 0 < m.e then { m with e := m.e - 1 } else if 1 < m.s.length ∧ t.iso = false then { m with s := m.s.tail } else m by rw [← ht]; rfl)
  rw [ht] at HT
  obtain ⟨lv, ov, iso⟩ := t
  obtain ⟨ow, how⟩ : ∃ x, M.ovc ov = x := ⟨_, rfl⟩
  rw [show (⟨lv, ov, iso⟩ : M.Ent).lv = lv from rfl, show (⟨lv, ov, iso⟩ : M.Ent).ov = ov from rfl, show (⟨lv, ov, iso⟩ : M.Ent).iso = iso from rfl, how] at HT
  rw [show (⟨lv, ov, iso⟩ : M.Ent).iso = iso from rfl] at HM
  have hfl : ∀ w : World, (Instr.field 70 (.agg #[.int .i64 lv, .int .i64 ow, .bool iso]) 2).run Try.prog w = .ok (.bool iso) w := fun w => by kernel_rfl
  obtain ⟨O, hO⟩ : ∃ O, m.o = O := ⟨_, rfl⟩
  obtain ⟨E, hE⟩ : ∃ E, m.e = E := ⟨_, rfl⟩
  rw [hO, hE, hn] at HM
  rw [hE] at he1
  have k1 := h1.c3
  have k2 := h1.c4
  have k5 := h1.f 4 (by omega)
  rw [hO] at k1
  rw [hE] at k2
  have H1 := Lib.hid h1
  have HB := Lib.hid hbl
  have HO := Lib.hid hO
  have HE := Lib.hid hE
  have HN := Lib.hid hn
  have hbox : w.heap.size < W.heap.size := by omega
  have hmw : mb < w.heap.size := h.lt
  have hgw : g < w.heap.size := h.glo.2
  clear h h1 hO hE hf hbl hWs hn ht how
  go_enter Try.func39, Try.ntmps39
  by_cases hO : 0 < O
  · rw [if_pos hO] at HM
    go_wp2_with fail
    refine (hRM _).out.mono ?_
    rintro r w3 ⟨rfl, hb3⟩
    have HB3 := Lib.hid hb3
    clear hb3
    go_wp2_with fail
    go_ret2
    exact ⟨rfl, by rw [HM.out]; exact ⟨g, cap, H1.out.below HB3.out, (Spun.of_below HB.out mb g).trans (Spun.of_below HB3.out mb g)⟩⟩
  · rw [if_neg hO] at HM
    by_cases hE : 0 < E
    · rw [if_pos hE] at HM
      have hw1 : IntKind.i64.wrap (E - 1) = E - 1 := by rw [IntKind.wrap_i64]; omega
      have HW2 := Lib.hid (H1.out.setE (E - 1))
      have hne : w.heap.size ≠ mb := by omega
      go_wp2_with fail
      refine (hRM _).out.mono ?_
      rintro r w3 ⟨rfl, hb3⟩
      have HB3 := Lib.hid hb3
      clear hb3
      go_wp2_with fail
      go_ret2
      exact ⟨rfl, by rw [HM.out]; exact ⟨g, cap, by have q := HW2.out.below HB3.out; rw [HO.out] at q; exact q, ((Spun.of_below HB.out mb g).setCell 4 _).trans (Spun.of_below HB3.out mb g)⟩⟩
    · rw [if_neg hE] at HM
      go_wp2_with fail
      refine HT.out.mono ?_
      rintro r w1 ⟨rfl, hb⟩
      have HH1 := Lib.hid (H1.out.below hb)
      have HS1 := Lib.hid ((Spun.of_below HB.out mb g).trans (Spun.of_below hb mb g))
      have x0 : w1.cell? ⟨w.heap.size, 0, none⟩ = some (.int .i64 c) := (hb.cell (p := ⟨w.heap.size, 0, none⟩) hbox).trans z0
      have x1 : w1.cell? ⟨w.heap.size, 1, none⟩ = some (.int .i64 f) := (hb.cell (p := ⟨w.heap.size, 1, none⟩) hbox).trans z1
      have j1 := HH1.out.c1
      rw [HN.out] at j1
      have hbox1 : w.heap.size < w1.heap.size := by have := hb.size; omega
      clear hb z0 z1 k1 k2 k5
      cases iso with
      | true =>
        rw [if_neg (by simp)] at HM
        go_wp2_with fail
        refine (hRM _).out.mono ?_
        rintro r w3 ⟨rfl, hb3⟩
        have HB3 := Lib.hid hb3
        clear hb3
        go_wp2_with fail
        go_ret2
        exact ⟨rfl, by rw [HM.out]; exact ⟨g, cap, HH1.out.below HB3.out, HS1.out.trans (Spun.of_below HB3.out mb g)⟩⟩
      | false =>
        by_cases hn1 : n = 0
        · subst hn1
          rw [if_neg (by omega)] at HM
          go_wp2_with fail
          refine (hRM _).out.mono ?_
          rintro r w3 ⟨rfl, hb3⟩
          have HB3 := Lib.hid hb3
          clear hb3
          go_wp2_with fail
          go_ret2
          exact ⟨rfl, by rw [HM.out]; exact ⟨g, cap, HH1.out.below HB3.out, HS1.out.trans (Spun.of_below HB3.out mb g)⟩⟩
        · rw [if_pos ⟨by omega, rfl⟩] at HM
          have hn2 : (1 : Int) < (n : Int) + 1 := by omega
          go_wp2_with fail
          refine (HPP _ HH1.out).out.mono ?_
          rintro q w2 ⟨rfl, hw2, hs2⟩
          have y0 : w2.cell? ⟨w.heap.size, 0, none⟩ = some (.int .i64 c) := (hs2.cell _ _ hbox1 (by omega) (by omega)).trans x0
          have y1 : w2.cell? ⟨w.heap.size, 1, none⟩ = some (.int .i64 f) := (hs2.cell _ _ hbox1 (by omega) (by omega)).trans x1
          have HW2 := Lib.hid hw2
          have HS2 := Lib.hid (HS1.out.trans hs2)
          clear hw2 hs2 x0 x1 j1
          go_wp2_with fail
          refine (hRM _).out.mono ?_
          rintro r w3 ⟨rfl, hb3⟩
          have HB3 := Lib.hid hb3
          clear hb3
          go_wp2_with fail
          go_ret2
          exact ⟨rfl, by rw [HM.out]; exact ⟨g, cap, by have q := HW2.out.below HB3.out; rw [HO.out, HE.out] at q; exact q, HS2.out.trans (Spun.of_below HB3.out mb g)⟩⟩

/-- A new walk, in blocks of its own. -/
def WalkNew (b : Int) (w : World) (r : Ending) (w' : World) : Prop :=
  ∃ mb g cap, r = .returned (.pointer (some ⟨mb, 0, none⟩)) ∧ WalkAt w' w.heap.size mb g cap b (M.fresh b) ∧ Below w.heap.size w w'
theorem begun_at (b : Int) (w : World) (t : TypeId) : WalkAt ((w.alloc (.cells #[.int .i64 b, .int .i64 (-1), .bool false] 70)).alloc (.cells #[.int .i64 b, .slice (some ⟨w.heap.size, 0, none⟩) 1 1, .int .i64 0, .int .i64 0, .int .i64 0] t)) w.heap.size (w.heap.size + 1) w.heap.size 1 b (M.fresh b) := by
  obtain ⟨W, hW⟩ : ∃ W, w.alloc (.cells #[.int .i64 b, .int .i64 (-1), .bool false] 70) = W := ⟨_, rfl⟩
  have hs : W.heap.size = w.heap.size + 1 := by rw [← hW]; simp
  have hg : W.heap[w.heap.size]? = some (.cells #[.int .i64 b, .int .i64 (-1), .bool false] 70 (0, 0)) := by rw [← hW]; exact World.alloc_heap_new w _
  rw [hW, ← hs]
  have hn : (W.alloc (.cells #[.int .i64 b, .slice (some ⟨w.heap.size, 0, none⟩) 1 1, .int .i64 0, .int .i64 0, .int .i64 0] t)).heap[W.heap.size]? = some (.cells #[.int .i64 b, .slice (some ⟨w.heap.size, 0, none⟩) 1 1, .int .i64 0, .int .i64 0, .int .i64 0] t (0, 0)) := World.alloc_heap_new W _
  have hg2 := (Below.heap_alloc W (.cells #[.int .i64 b, .slice (some ⟨w.heap.size, 0, none⟩) 1 1, .int .i64 0, .int .i64 0, .int .i64 0] t) w.heap.size (by omega)).trans hg
  refine ⟨?_, ?_, ?_, ?_, ?_, fun k hk => ?_, ⟨rfl, .inr ⟨w.heap.size, 1, #[.int .i64 b, .int .i64 (-1), .bool false], rfl, Nat.le_refl _, hg2, Nat.le_refl _, by unfold maxLen; omega, rfl, rfl⟩⟩, by omega, by simp, by omega⟩
  case refine_6 => unfold World.frozen?; rw [hn]; simp
  all_goals (unfold World.cell?; rw [hn]; rfl)
set_option maxHeartbeats 4000000 in
theorem begun_any (b : Int) (w : World) : Calls Try.prog 25 #[.int .i64 b] w (WalkNew b w) := by
  go_enter Try.func25, Try.ntmps25
  go_wp2_with fail
  go_ret
  exact ⟨_, _, _, rfl, begun_at b w _, ((Below.refl _ _).alloc (Nat.le_refl _) _).alloc (by simp) _⟩
end Go.Proofs.Ytdipaiflfhdpoaa
