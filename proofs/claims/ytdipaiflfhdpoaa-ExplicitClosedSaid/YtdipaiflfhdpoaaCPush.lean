/- The contract of the walk's push: an entry is laid on, if there is room. Condition: the walk is right, its stack small. -/
import Derived.Test.YtdipaiflfhdpoaaCTop
import Derived.Deep.DrawnRows
import Derived.Deep.RegionLaw
import Derived.Deep.RegionHeld3
namespace Go.Proofs.Ytdipaiflfhdpoaa
open Go.RowKit
attribute [local go_sem ↓] Go.wp_at_zero Go.wp_at_succ

/-- Whether there is room for a level. -/
def M.Mc.roomE (m : M.Mc) (lv : Int) : Bool := !(decide (125 < lv) || (decide (0 < m.o) || decide (0 < m.e)))
def M.Mc.pushM (m : M.Mc) (e : M.Ent) : M.Mc := if m.roomE e.lv = true then { m with s := e :: m.s } else m
def PushOut (base mb g : Nat) (b : Int) (m : M.Mc) (e : M.Ent) (w : World) (r : Ending) (w' : World) : Prop := r = .returned (.bool (m.roomE e.lv)) ∧ WalkOut base mb g b (m.pushM e) w w'
set_option maxHeartbeats 4000000 in
theorem cpush_any (base mb g cap n : Nat) (b : Int) (m : M.Mc) (lv ov : Int) (iso : Bool) (e : M.Ent) (he : e.cellsC = [.int .i64 lv, .int .i64 ov, .bool iso]) (helv : e.lv = lv) (w : World) (h : WalkAt w base mb g cap b m) (hn : m.s.length = n + 1) (hl : n ≤ 10000) :
    Calls Try.prog 46 #[.pointer (some ⟨mb, 0, none⟩), .agg #[.int .i64 lv, .int .i64 ov, .bool iso]] w (PushOut base mb g b m e w) := by
  obtain ⟨i0, hi, hz0, hz1, hz2⟩ := info_parts Try.infoEntC
  obtain ⟨W, hW⟩ : ∃ W, w.alloc (.cells #[.int .i64 lv, .int .i64 ov, .bool iso] 70) = W := ⟨_, rfl⟩
  have hb : Below w.heap.size w W := by rw [← hW]; exact (Below.refl _ _).alloc (Nat.le_refl _) _
  have hWs : W.heap.size = w.heap.size + 1 := by rw [← hW]; simp
  have h1 := h.below hb
  obtain ⟨O, hO⟩ : ∃ O, m.o = O := ⟨_, rfl⟩
  obtain ⟨E, hE⟩ : ∃ E, m.e = E := ⟨_, rfl⟩
  have k0 := h1.c1
  have k3 := h1.c3
  have k4 := h1.c4
  have y1 := h1.f 1 (by omega)
  rw [hn] at k0
  rw [hO] at k3
  rw [hE] at k4
  have z0 : W.cell? ⟨w.heap.size, 0, none⟩ = some (.int .i64 lv) := by rw [← hW]; simp [go_sem]
  have z1 : W.cell? ⟨w.heap.size, 1, none⟩ = some (.int .i64 ov) := by rw [← hW]; simp [go_sem]
  have z2 : W.cell? ⟨w.heap.size, 2, none⟩ = some (.bool iso) := by rw [← hW]; simp [go_sem]
  have HR := Lib.hid (show m.roomE e.lv = !(decide (125 < lv) || (decide (0 < O) || decide (0 < E))) by rw [helv, ← hO, ← hE]; rfl)
  have HP := Lib.hid (show m.pushM e = if m.roomE e.lv = true then { m with s := e :: m.s } else m from rfl)
  have H1 := Lib.hid h1
  have HB := Lib.hid hb
  have HN := Lib.hid hn
  have HE := Lib.hid he
  have HWS := Lib.hid hWs
  have hbm : base ≤ w.heap.size := by have := h.lo; have := h.lt; omega
  have hmw : mb < w.heap.size := h.lt
  clear h h1 hn hO hE hb he helv hWs
  go_enter Try.func46, Try.ntmps46
  by_cases c1 : 125 < lv
  · have hr : m.roomE e.lv = false := by rw [HR.out]; simp [c1]
    rw [hr, if_neg (by simp)] at HP
    go_wp2_with fail
    go_ret
    exact ⟨by rw [hr]; rfl, by rw [HP.out]; exact ⟨g, cap, H1.out, Spun.of_below HB.out mb g⟩⟩
  · by_cases c2 : 0 < O
    · have hr : m.roomE e.lv = false := by rw [HR.out]; simp [c2]
      rw [hr, if_neg (by simp)] at HP
      go_wp2_with fail
      go_ret
      exact ⟨by rw [hr]; rfl, by rw [HP.out]; exact ⟨g, cap, H1.out, Spun.of_below HB.out mb g⟩⟩
    · by_cases c3 : 0 < E
      · have hr : m.roomE e.lv = false := by rw [HR.out]; simp [c3]
        rw [hr, if_neg (by simp)] at HP
        go_wp2_with fail
        go_ret
        exact ⟨by rw [hr]; rfl, by rw [HP.out]; exact ⟨g, cap, H1.out, Spun.of_below HB.out mb g⟩⟩
      · have hr : m.roomE e.lv = true := by rw [HR.out]; simp [c1, c2, c3]
        rw [hr, if_pos rfl] at HP
        have Hr := Lib.hid hr
        clear hr
        have H2 := Lib.hid H1.out.drew
        have hWb : base ≤ W.heap.size := by have := HWS.out; omega
        have hmW : mb < W.heap.size := by have := HWS.out; omega
        have hwW : w.heap.size < W.heap.size := by have := HWS.out; omega
        go_wp2_with fail
        go_region_law ((refine step_append_lies _ (by rfl) _ _ _ (by rfl) base 70 i0 _ 3 24 Try.underlying71 hi hz0 hz1 hz2 rfl (by decide) _ _ _ (by rfl) ((World.ownsRow.alloc (HN.out ▸ H1.out.row) _).drew) ⟨W.heap.size, 0, none⟩ 1 1 (M.Ent.cellsC e) (by rfl) (by rfl) (entC_cells _ lv ov iso e HE.out _) (entC_one e) (by omega) (by unfold maxLen; omega) (by omega) (by simp; omega) (W.heap.size + 1) (by simp) ?_; intro gg cap2 w3 hown hgrow hat hlt; have hp := pushedC_block (o := .cells #[.int .i64 lv, .int .i64 ov, .bool iso] 70) H2.out hgrow; have x0 := (World.cell?_of_block (a := ⟨mb, 1, none⟩) hp).trans k0; have x1 := (World.frozen?_of_block (a := ⟨mb, 1, none⟩) hp).trans y1))
        all_goals
          have HQ := Lib.hid (WalkAt.pushed (s' := e :: m.s) (o := .cells #[.int .i64 lv, .int .i64 ov, .bool iso] 70) H2.out hgrow (by rw [List.length_cons, HN.out]) (by rw [List.reverse_cons]; unfold OwnC; rw [cellsC_snoc]; exact hown) hat)
          clear hown hgrow hat hlt hp x0 x1 k0 k3 k4 y1 z0 z1 z2
          go_wp2_with fail
          go_ret
          refine ⟨by rw [Hr.out]; rfl, ?_⟩
          rw [HP.out]
          exact ⟨_, _, HQ.out.1, (Spun.of_below HB.out mb g).drew.trans HQ.out.2⟩
end Go.Proofs.Ytdipaiflfhdpoaa
