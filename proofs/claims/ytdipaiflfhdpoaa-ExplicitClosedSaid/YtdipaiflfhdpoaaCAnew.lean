/- The contract of the walk's beginAnew: what B does. Condition: the walk is right. -/
import Derived.Test.YtdipaiflfhdpoaaCPdf
namespace Go.Proofs.Ytdipaiflfhdpoaa
open Go.RowKit

/-- A walk is set to a new one. -/
theorem WalkAt.anew {w w2 : World} {base mb g cap B2 mb2 g2 cap2 : Nat} {b : Int} {m : M.Mc} (h : WalkAt w base mb g cap b m) (h2 : WalkAt w2 B2 mb2 g2 cap2 b (M.fresh b)) (hb : Below w.heap.size w w2) (hB : w.heap.size ≤ B2) :
    WalkAt (((((w2.setCell ⟨mb, 0, none⟩ (.int .i64 b)).setCell ⟨mb, 1, none⟩ (.slice (some ⟨g2, 0, none⟩) 1 cap2)).setCell ⟨mb, 2, none⟩ (.int .i64 0)).setCell ⟨mb, 3, none⟩ (.int .i64 0)).setCell ⟨mb, 4, none⟩ (.int .i64 0)) base mb g2 cap2 b (M.fresh b) ∧
    Spun w (((((w2.setCell ⟨mb, 0, none⟩ (.int .i64 b)).setCell ⟨mb, 1, none⟩ (.slice (some ⟨g2, 0, none⟩) 1 cap2)).setCell ⟨mb, 2, none⟩ (.int .i64 0)).setCell ⟨mb, 3, none⟩ (.int .i64 0)).setCell ⟨mb, 4, none⟩ (.int .i64 0)) mb g g2 := by
  have hlt := h.lt
  have hlo := h.lo
  have hg2 := h2.glo.1
  have hg3 := h2.glo.2
  have hne : mb ≠ g2 := by omega
  have h1 := h.below hb
  have hrow : OwnC w2 base g2 1 cap2 (M.fresh b).s.reverse := own_base h2.row (by omega)
  refine ⟨?_, ?_⟩
  · have q0 := World.cell?_setCell_same w2 _ (.int .i64 b) h1.c0
    have s0 := rowC_set (mb := mb) (k := 0) hrow hne (.int .i64 b)
    have s1 := rowC_set (mb := mb) (k := 1) s0 hne (.slice (some ⟨g2, 0, none⟩) 1 cap2)
    have s2 := rowC_set (mb := mb) (k := 2) s1 hne (.int .i64 0)
    have s3 := rowC_set (mb := mb) (k := 3) s2 hne (.int .i64 0)
    have s4 := rowC_set (mb := mb) (k := 4) s3 hne (.int .i64 0)
    obtain ⟨c0, c1, c2, c3, c4, f, row, lo, lt, ne⟩ := h1
    have o0 : (⟨mb, 0, none⟩ : Addr) ≠ ⟨mb, 1, none⟩ := off_ne (by omega)
    refine ⟨?_, ?_, ?_, ?_, ?_, fun k hk => ?_, s4, lo, by simpa [World.setCell] using lt, hne⟩
    · rw [World.cell?_setCell_other _ _ _ _ (off_ne (by omega)), World.cell?_setCell_other _ _ _ _ (off_ne (by omega)), World.cell?_setCell_other _ _ _ _ (off_ne (by omega)), World.cell?_setCell_other _ _ _ _ (off_ne (by omega))]
      exact q0
    · rw [World.cell?_setCell_other _ _ _ _ (off_ne (by omega)), World.cell?_setCell_other _ _ _ _ (off_ne (by omega)), World.cell?_setCell_other _ _ _ _ (off_ne (by omega))]
      exact World.cell?_setCell_same _ _ _ (by rw [World.cell?_setCell_other _ _ _ _ (off_ne (by omega))]; exact c1)
    · rw [World.cell?_setCell_other _ _ _ _ (off_ne (by omega)), World.cell?_setCell_other _ _ _ _ (off_ne (by omega))]
      exact World.cell?_setCell_same _ _ _ (by rw [World.cell?_setCell_other _ _ _ _ (off_ne (by omega)), World.cell?_setCell_other _ _ _ _ (off_ne (by omega))]; exact c2)
    · rw [World.cell?_setCell_other _ _ _ _ (off_ne (by omega))]
      exact World.cell?_setCell_same _ _ _ (by rw [World.cell?_setCell_other _ _ _ _ (off_ne (by omega)), World.cell?_setCell_other _ _ _ _ (off_ne (by omega)), World.cell?_setCell_other _ _ _ _ (off_ne (by omega))]; exact c3)
    · exact World.cell?_setCell_same _ _ _ (by rw [World.cell?_setCell_other _ _ _ _ (off_ne (by omega)), World.cell?_setCell_other _ _ _ _ (off_ne (by omega)), World.cell?_setCell_other _ _ _ _ (off_ne (by omega)), World.cell?_setCell_other _ _ _ _ (off_ne (by omega))]; exact c4)
    · rw [World.frozen?_setCell, World.frozen?_setCell, World.frozen?_setCell, World.frozen?_setCell, World.frozen?_setCell]
      exact f k hk
  · have q : Spun w w2 mb g g2 := ⟨hb.os, hb.tape, hb.output, hb.size, fun b hb1 _ _ => hb.block b hb1, .inr (by omega)⟩
    exact ((((q.setCell 0 _).setCell 1 _).setCell 2 _).setCell 3 _).setCell 4 _
set_option maxHeartbeats 8000000 in
theorem canew_any (base mb g cap : Nat) (b : Int) (m : M.Mc) (c f : Int) (w : World) (h : WalkAt w base mb g cap b m) :
    Calls Try.prog 40 #[.pointer (some ⟨mb, 0, none⟩), .agg #[.int .i64 c, .int .i64 f]] w (StepOut base mb g b (M.fresh b) b c w) := by
  obtain ⟨W, hW⟩ : ∃ W, w.alloc (.cells #[.int .i64 c, .int .i64 f] 56) = W := ⟨_, rfl⟩
  have hbl : Below w.heap.size w W := by rw [← hW]; exact (Below.refl _ _).alloc (Nat.le_refl _) _
  have hWs : W.heap.size = w.heap.size + 1 := by rw [← hW]; simp
  have z0 : W.cell? ⟨w.heap.size, 0, none⟩ = some (.int .i64 c) := by rw [← hW]; simp [go_sem]
  have z1 : W.cell? ⟨w.heap.size, 1, none⟩ = some (.int .i64 f) := by rw [← hW]; simp [go_sem]
  have h1 := h.below hbl
  have k0 := h1.c0
  have HBN := Lib.hid (begun_any b W)
  have HST := fun g2 cap2 W h => Lib.hid (cstay_any base mb g2 cap2 0 b (M.fresh b) c f W h rfl (by omega) (.inl rfl))
  have HB := Lib.hid hbl
  have HH := Lib.hid h1
  have hmw : mb < w.heap.size := h.lt
  have hbox : w.heap.size < W.heap.size := by omega
  clear h h1 hbl hWs
  go_enter Try.func40, Try.ntmps40
  go_wp2_with fail
  refine HBN.out.mono ?_
  rintro r w2 ⟨mb2, g2, cap2, rfl, hn, hb2⟩
  have x0 : w2.cell? ⟨w.heap.size, 0, none⟩ = some (.int .i64 c) := (hb2.cell (p := ⟨w.heap.size, 0, none⟩) hbox).trans z0
  have x1 : w2.cell? ⟨w.heap.size, 1, none⟩ = some (.int .i64 f) := (hb2.cell (p := ⟨w.heap.size, 1, none⟩) hbox).trans z1
  have HA := Lib.hid (HH.out.anew hn hb2 (Nat.le_refl _))
  have d0 := hn.c0
  have d1 : w2.cell? ⟨mb2, 1, none⟩ = some (.slice (some ⟨g2, 0, none⟩) 1 cap2) := hn.c1
  have d2 : w2.cell? ⟨mb2, 2, none⟩ = some (.int .i64 0) := hn.c2
  have d3 : w2.cell? ⟨mb2, 3, none⟩ = some (.int .i64 0) := hn.c3
  have d4 : w2.cell? ⟨mb2, 4, none⟩ = some (.int .i64 0) := hn.c4
  have hh2 := HH.out.below hb2
  have e0 := hh2.c0
  have e1 := hh2.c1
  have e2 := hh2.c2
  have e3 := hh2.c3
  have e4 := hh2.c4
  have f0 := hh2.f 0 (by omega)
  have f1 := hh2.f 1 (by omega)
  have f2 := hh2.f 2 (by omega)
  have f3 := hh2.f 3 (by omega)
  have f4 := hh2.f 4 (by omega)
  have hne : w.heap.size ≠ mb := by omega
  clear z0 z1 hn hb2 hh2 k0
  go_wp2_with fail
  refine (HST g2 cap2 _ HA.out.1).out.mono ?_
  rintro r w3 ⟨rfl, hb3⟩
  have HB3 := Lib.hid hb3
  clear hb3
  go_wp2_with fail
  go_ret2
  exact ⟨rfl, g2, cap2, HA.out.1.below HB3.out, ((Spun.of_below HB.out mb g).trans HA.out.2).trans (Spun.of_below HB3.out mb g2)⟩
end Go.Proofs.Ytdipaiflfhdpoaa
