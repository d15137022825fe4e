/- The contracts of the walk's stay and remove. Condition: the walk is right, its overrides known. -/
import Derived.Test.YtdipaiflfhdpoaaCAsked
namespace Go.Proofs.Ytdipaiflfhdpoaa
open Go.RowKit

theorem ret_two {k k' : IntKind} {a b c d : Int} (h : a = b) (h2 : c = d) : Ending.returned (.tuple #[.int k a, .int k' c]) = .returned (.tuple #[.int k b, .int k' d]) := by rw [h, h2]
/-- A known override of the top's, and the class that it makes. -/
theorem ovc_cases {m : M.Mc} (h : m.top.ov = 13 ∨ m.top.ov = 0 ∨ m.top.ov = 1) (c : Int) : (M.ovc m.top.ov = -1 ∧ (if m.top.ov ≠ 13 then m.top.ov else c) = c) ∨ (M.ovc m.top.ov ≠ -1 ∧ (if m.top.ov ≠ 13 then m.top.ov else c) = M.ovc m.top.ov) := by
  unfold M.ovc
  rcases h with h | h | h <;> rw [h] <;> simp
set_option maxHeartbeats 4000000 in
theorem cstay_any (base mb g cap n : Nat) (b : Int) (m : M.Mc) (c f : Int) (w : World) (h : WalkAt w base mb g cap b m) (hn : m.s.length = n + 1) (hl : n ≤ 10000) (ho : m.top.ov = 13 ∨ m.top.ov = 0 ∨ m.top.ov = 1) :
    Calls Try.prog 28 #[.pointer (some ⟨mb, 0, none⟩), .agg #[.int .i64 c, .int .i64 f]] w fun r w' => r = .returned (.tuple #[.int .i64 m.top.lv, .int .i64 (if m.top.ov ≠ 13 then m.top.ov else c)]) ∧ Below w.heap.size w w' := by
  obtain ⟨W, hW⟩ : ∃ W, w.alloc (.cells #[.int .i64 c, .int .i64 f] 56) = W := ⟨_, rfl⟩
  have hb : Below w.heap.size w W := by rw [← hW]; exact (Below.refl _ _).alloc (Nat.le_refl _) _
  have hWs : W.heap.size = w.heap.size + 1 := by rw [← hW]; simp
  have z0 : W.cell? ⟨w.heap.size, 0, none⟩ = some (.int .i64 c) := by rw [← hW]; simp [go_sem]
  have HT := Lib.hid (ctop_any base mb g cap n b m W (h.below hb) hn hl)
  have hcase := ovc_cases ho c
  obtain ⟨cls, hcls⟩ : ∃ x, (if m.top.ov ≠ 13 then m.top.ov else c) = x := ⟨_, rfl⟩
  obtain ⟨lv, hlv⟩ : ∃ x, m.top.lv = x := ⟨_, rfl⟩
  obtain ⟨ov, hov⟩ : ∃ x, M.ovc m.top.ov = x := ⟨_, rfl⟩
  obtain ⟨iso, hiso⟩ : ∃ x, m.top.iso = x := ⟨_, rfl⟩
  rw [hlv, hov, hiso] at HT
  rw [hcls, hov] at hcase
  rw [hlv, hcls]
  have HB := Lib.hid hb
  have HWS := Lib.hid hWs
  clear h hn hlv hov hiso hcls hb ho hWs
  go_enter Try.func28, Try.ntmps28
  go_wp2_with fail
  refine HT.out.mono ?_
  rintro r w1 ⟨rfl, hb⟩
  have x0 : w1.cell? ⟨w.heap.size, 0, none⟩ = some (.int .i64 c) := (hb.cell (p := ⟨w.heap.size, 0, none⟩) (by rw [HWS.out]; simp)).trans z0
  have hlt : w.heap.size < w1.heap.size := by have := hb.size; have := HWS.out; omega
  have HB1 := Lib.hid (HB.out.trans (hb.mono HB.out.size))
  clear hb z0
  rcases hcase with ⟨rfl, rfl⟩ | ⟨hne, rfl⟩
  · go_wp2_with fail
    go_quiet (fail)
    go_wp2_with fail
    go_ret2
    exact ⟨rfl, drewN_below (HB1.out.alloc HB1.out.size _) _⟩
  · go_wp2_with fail
    go_quiet (fail)
    go_wp2_with fail
    go_ret2
    exact ⟨rfl, drewN_below (HB1.out.alloc HB1.out.size _) _⟩
set_option maxHeartbeats 4000000 in
theorem cremove_any (mb : Nat) (c f : Int) (w : World) :
    Calls Try.prog 41 #[.pointer (some ⟨mb, 0, none⟩), .agg #[.int .i64 c, .int .i64 f]] w fun r w' => r = .returned (.tuple #[.int .i64 (-1), .int .i64 c]) ∧ Below w.heap.size w w' := by
  obtain ⟨W, hW⟩ : ∃ W, w.alloc (.cells #[.int .i64 c, .int .i64 f] 56) = W := ⟨_, rfl⟩
  have hb : Below w.heap.size w W := by rw [← hW]; exact (Below.refl _ _).alloc (Nat.le_refl _) _
  have z0 : W.cell? ⟨w.heap.size, 0, none⟩ = some (.int .i64 c) := by rw [← hW]; simp [go_sem]
  have HB := Lib.hid hb
  clear hb
  go_enter Try.func41, Try.ntmps41
  go_wp2_with fail
  go_quiet (fail)
  go_wp2_with fail
  go_ret2
  exact ⟨rfl, drewN_below HB.out _⟩
end Go.Proofs.Ytdipaiflfhdpoaa
