/- The contract of the closure of span's Delete. Conditions: the variables that it holds read as whole numbers that are not too great; so do the ends of the span. -/
import Derived.Test.YteknpodofmmklaaDoorClos
import Derived.StillTailTactics
namespace Go.Proofs.YteknpodofmmklaaDoor
open Go.RowKit

/-- What Delete's closure has of its maker. -/
structure CaughtD (w : World) (bf ba bb : Nat) (a b : Int) : Prop where
  cf : w.cell? ⟨bf, 0, none⟩ = some (.func (.func 34) #[] #[.pointer (some ⟨ba, 0, none⟩), .pointer (some ⟨bb, 0, none⟩)])
  ca : w.cell? ⟨ba, 0, none⟩ = some (.int .i64 a)
  cb : w.cell? ⟨bb, 0, none⟩ = some (.int .i64 b)
  lf : bf < w.heap.size
  la : ba < w.heap.size
  lb : bb < w.heap.size
theorem CaughtD.after {w w' : World} {bf ba bb : Nat} {a b : Int} (h : CaughtD w bf ba bb a b) (hb : Below w.heap.size w w') : CaughtD w' bf ba bb a b :=
  ⟨(hb.cell (p := ⟨bf, 0, none⟩) h.lf).trans h.cf, (hb.cell (p := ⟨ba, 0, none⟩) h.la).trans h.ca, (hb.cell (p := ⟨bb, 0, none⟩) h.lb).trans h.cb, Nat.lt_of_lt_of_le h.lf hb.size, Nat.lt_of_lt_of_le h.la hb.size, Nat.lt_of_lt_of_le h.lb hb.size⟩

set_option maxRecDepth 100000 in
set_option maxHeartbeats 4000000 in
theorem del_any (s : M.S) (a b : Int) (bf ba bb : Nat) (w : World) (hc : CaughtD w bf ba bb a b)
    (a0 : 0 ≤ a) (a1 : a ≤ b) (b1 : b ≤ 4000000) (s0 : 0 ≤ s.f) (s1 : s.f < s.t) (s2 : s.t ≤ 4000000) :
    Calls Tryd.prog 35 #[s.val, .pointer (some ⟨bf, 0, none⟩)] w (MoveOut (M.delS a b s) w) := by
  obtain ⟨f, t, p, c, r, x⟩ := s
  dsimp only at s0 s1 s2
  obtain ⟨cf, ca, cb, lf, la, lb⟩ := hc
  have HB := Lib.hid (fun (e : Int) (w : World) h1 h2 h3 h4 => back_any e a b ba bb w h1 h2 a0 a1 b1 h3 h4)
  have s3 : 0 ≤ t := by omega
  have s4 : f ≤ 4000000 := by omega
  obtain ⟨W1, hW1⟩ : ∃ W1, (w.alloc (M.S.obj ⟨f, t, p, c, r, x⟩)).alloc M.zeroS.obj = W1 := ⟨_, rfl⟩
  have hb1 : Below w.heap.size w W1 := by rw [← hW1]; exact ((Below.refl _ _).alloc (Nat.le_refl _) _).alloc (by simp) _
  have hS := (Six.new w ⟨f, t, p, c, r, x⟩)
  have hT := (Six.new (w.alloc (M.S.obj ⟨f, t, p, c, r, x⟩)) M.zeroS)
  have hS1 : Six W1 w.heap.size ⟨f, t, p, c, r, x⟩ := by rw [← hW1]; exact hS.below ((Below.refl _ _).alloc (Nat.le_refl _) _) (by simp)
  have hT1 : Six W1 (w.heap.size + 1) M.zeroS := by rw [← hW1]; simpa using hT
  have df := (hb1.cell (p := ⟨bf, 0, none⟩) lf).trans cf
  have da := (hb1.cell (p := ⟨ba, 0, none⟩) la).trans ca
  have db := (hb1.cell (p := ⟨bb, 0, none⟩) lb).trans cb
  obtain ⟨e0, e1, e2, e3, e4, e5, g0, g1, g2, g3, g4, g5⟩ := hS1
  obtain ⟨z0, z1, z2, z3, z4, z5, y0, y1, y2, y3, y4, y5⟩ := hT1
  have HB1 := Lib.hid hb1
  unfold M.S.obj M.zeroS at hW1
  clear hb1 hS hT cf ca cb
  unfold M.S.val
  go_enter Tryd.func35, Tryd.ntmps35
  go_wp2_with fail
  go_still_tail 9, (by kernel_rfl)
  still_call (HB.out _ _ (by first | assumption | (simp [go_sem]; assumption)) (by first | assumption | (simp [go_sem]; assumption)) (by assumption) (by assumption))
  repeat still_step
  still_call (HB.out _ _ (by first | assumption | (simp [go_sem]; assumption)) (by first | assumption | (simp [go_sem]; assumption)) (by assumption) (by assumption))
  repeat still_step
  refine wpStill_nil ?_
  change wpList _ _ _ _ _ W1.drew
  obtain ⟨W2, hW2⟩ : ∃ W2, W1.drew = W2 := ⟨_, rfl⟩
  rw [hW2]
  have hb2 : Below w.heap.size w W2 := by rw [← hW2]; exact HB1.out.drew
  have hS2 : Six W2 w.heap.size ⟨f, t, p, c, r, x⟩ := by rw [← hW2]; exact ⟨e0, e1, e2, e3, e4, e5, g0, g1, g2, g3, g4, g5⟩
  have hT2 : Six W2 (w.heap.size + 1) M.zeroS := by rw [← hW2]; exact ⟨z0, z1, z2, z3, z4, z5, y0, y1, y2, y3, y4, y5⟩
  clear hW2 hW1 e0 e1 e2 e3 e4 e5 g0 g1 g2 g3 g4 g5 z0 z1 z2 z3 z4 z5 y0 y1 y2 y3 y4 y5 df da db HB1
  obtain ⟨e0, e1, e2, e3, e4, e5, g0, g1, g2, g3, g4, g5⟩ := hS2
  obtain ⟨z0, z1, z2, z3, z4, z5, y0, y1, y2, y3, y4, y5⟩ := hT2
  have HB2 := Lib.hid hb2
  clear hb2
  dsimp only at e0 e1 e2 e3 e4 e5
  go_wp2
  obtain ⟨W3, hW3⟩ : ∃ W3, (W2.setCell ⟨w.heap.size, 0, none⟩ (.int .i64 (M.back a b f))).setCell ⟨w.heap.size, 1, none⟩ (.int .i64 (M.back a b t)) = W3 := ⟨_, rfl⟩
  have hb3 : Below w.heap.size w W3 := by rw [← hW3]; exact (HB2.out.setCell (p := ⟨w.heap.size, 0, none⟩) (Nat.le_refl _) _).setCell (p := ⟨w.heap.size, 1, none⟩) (Nat.le_refl _) _
  have hS3 : Six W3 w.heap.size ⟨M.back a b f, M.back a b t, p, c, r, x⟩ := by rw [← hW3]; constructor <;> simp [go_sem, e0, e1, e2, e3, e4, e5, g0, g1, g2, g3, g4, g5]
  have hT3 : Six W3 (w.heap.size + 1) M.zeroS := by rw [← hW3]; constructor <;> simp [go_sem, z0, z1, z2, z3, z4, z5, y0, y1, y2, y3, y4, y5]
  rw [hW3]
  clear hW3 e0 e1 e2 e3 e4 e5 g0 g1 g2 g3 g4 g5 z0 z1 z2 z3 z4 z5 y0 y1 y2 y3 y4 y5 HB2
  have HA := Lib.hid (show M.delS a b ⟨f, t, p, c, r, x⟩ = if M.back a b f < M.back a b t then some ⟨M.back a b f, M.back a b t, p, c, r, x⟩ else none from rfl)
  obtain ⟨f', hf'⟩ : ∃ f', M.back a b f = f' := ⟨_, rfl⟩
  obtain ⟨t', ht'⟩ : ∃ t', M.back a b t = t' := ⟨_, rfl⟩
  rw [hf'] at HA hS3 ⊢
  rw [ht'] at HA hS3 ⊢
  obtain ⟨e0, e1, e2, e3, e4, e5, g0, g1, g2, g3, g4, g5⟩ := hS3
  obtain ⟨z0, z1, z2, z3, z4, z5, y0, y1, y2, y3, y4, y5⟩ := hT3
  dsimp only at e0 e1 e2 e3 e4 e5
  have HB3 := Lib.hid hb3
  have HF := Lib.hid hf'
  have HT := Lib.hid ht'
  clear hb3 hf' ht' HB
  go_region
  go_wp2
  refine bodyPost_ret (v := .tuple #[M.S.val ⟨f', t', p, c, r, x⟩, .bool (decide (f' < t'))]) (by simp [results, Tryd.results35, go_sem, M.S.val, z0, z1, z2, z3, z4, z5]) rfl ⟨⟨f', t', p, c, r, x⟩, ?_, ?_, ?_⟩
  · rw [HA.out]
    split
    · rw [decide_eq_true (by assumption)]; rfl
    · rw [decide_eq_false (by assumption)]; rfl
  · intro s hs
    rw [HA.out] at hs
    split at hs
    · exact Option.some.inj hs
    · cases hs
  · refine Below.drew ?_
    have hle : w.heap.size ≤ w.heap.size + 1 := Nat.le_succ _
    exact (((((HB3.out.setCell (p := ⟨w.heap.size + 1, 0, none⟩) hle _).setCell (p := ⟨w.heap.size + 1, 1, none⟩) hle _).setCell (p := ⟨w.heap.size + 1, 2, none⟩) hle _).setCell (p := ⟨w.heap.size + 1, 3, none⟩) hle _).setCell (p := ⟨w.heap.size + 1, 4, none⟩) hle _).setCell (p := ⟨w.heap.size + 1, 5, none⟩) hle _
end Go.Proofs.YteknpodofmmklaaDoor
