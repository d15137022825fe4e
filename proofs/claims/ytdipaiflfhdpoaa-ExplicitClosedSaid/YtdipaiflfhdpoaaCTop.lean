/- The contracts of the walk's top, next and pop, and of a scalar's sided. Condition: the walk is right, its top's level from 0 to 125. -/
import Derived.Test.YtdipaiflfhdpoaaWalkAt
namespace Go.Proofs.Ytdipaiflfhdpoaa
open Go.RowKit

set_option maxHeartbeats 2000000 in
theorem ctop_any (base mb g cap n : Nat) (b : Int) (m : M.Mc) (w : World) (h : WalkAt w base mb g cap b m) (hn : m.s.length = n + 1) (hl : n ≤ 10000) :
    Calls Try.prog 42 #[.pointer (some ⟨mb, 0, none⟩)] w fun r w' => r = .returned (.agg #[.int .i64 m.top.lv, .int .i64 (M.ovc m.top.ov), .bool m.top.iso]) ∧ Below w.heap.size w w' := by
  obtain ⟨t0, t1, t2⟩ := h.top hn
  have c0 := h.c1
  rw [hn] at c0
  have hlt := h.lt
  have hgl := h.glo.2
  obtain ⟨W, hW⟩ : ∃ W, w.alloc (.cells #[.int .i64 0, .int .i64 0, .bool false] 70) = W := ⟨_, rfl⟩
  have hb : Below w.heap.size w W := by rw [← hW]; exact (Below.refl _ _).alloc (Nat.le_refl _) _
  have k0 := (hb.cell (p := ⟨mb, 1, none⟩) hlt).trans c0
  have k1 := (hb.cell (p := ⟨g, n * 3, none⟩) hgl).trans t0
  have k2 := (hb.cell (p := ⟨g, n * 3 + 1, none⟩) hgl).trans t1
  have k3 := (hb.cell (p := ⟨g, n * 3 + 2, none⟩) hgl).trans t2
  have z0 : W.cell? ⟨w.heap.size, 0, none⟩ = some (.int .i64 0) := by rw [← hW]; simp [go_sem]
  have z1 : W.cell? ⟨w.heap.size, 1, none⟩ = some (.int .i64 0) := by rw [← hW]; simp [go_sem]
  have z2 : W.cell? ⟨w.heap.size, 2, none⟩ = some (.bool false) := by rw [← hW]; simp [go_sem]
  have y0 : W.frozen? ⟨w.heap.size, 0, none⟩ = false := by rw [← hW]; simp [go_sem]
  have y1 : W.frozen? ⟨w.heap.size, 1, none⟩ = false := by rw [← hW]; simp [go_sem]
  have y2 : W.frozen? ⟨w.heap.size, 2, none⟩ = false := by rw [← hW]; simp [go_sem]
  have HB := Lib.hid hb
  have hn0 : (0 : Int) ≤ (n : Int) := by omega
  have hn1 : (n : Int) ≤ 10000 := by omega
  have hn2 : (n : Int) < (n : Int) + 1 := by omega
  have hn3 : n < n + 1 := by omega
  have hw1 : IntKind.i64.wrap ((n : Int) + 1 - 1) = (n : Int) := by rw [IntKind.wrap_i64]; omega
  have hw2 : IntKind.i64.wrap (n : Int) = (n : Int) := by rw [IntKind.wrap_i64]; omega
  obtain ⟨v1, hv1⟩ : ∃ v, M.ovc m.top.ov = v := ⟨_, rfl⟩
  rw [hv1] at k2 ⊢
  clear h hn c0 t0 t1 t2 hb hlt hgl hv1
  go_enter Try.func42, Try.ntmps42
  go_wp2_with fail
  go_still_tail 12, (by kernel_rfl)
  change wpList _ _ _ _ _ W.drew
  have HB1 := Lib.hid HB.out.drew
  go_wp2_with fail
  refine bodyPost_ret (v := .agg #[.int .i64 m.top.lv, .int .i64 v1, .bool m.top.iso]) (by simp [results, Try.results42, go_sem, z0, z1, z2]) rfl ⟨rfl, ?_⟩
  exact (((HB.out.setCell (p := ⟨w.heap.size, 0, none⟩) (Nat.le_refl _) _).setCell (p := ⟨w.heap.size, 1, none⟩) (Nat.le_refl _) _).setCell (p := ⟨w.heap.size, 2, none⟩) (Nat.le_refl _) _).drew

theorem next_two {a odd : Int} (_h0 : 0 ≤ a) (h1 : odd = 0 ∨ odd = 1) : (a + 1) + ((a + 1) + odd) % 2 = if (a + 1) % 2 ≠ odd then a + 1 + 1 else a + 1 := by
  split <;> omega
set_option maxHeartbeats 2000000 in
theorem cnext_any (base mb g cap n : Nat) (b : Int) (m : M.Mc) (odd : Int) (w : World) (h : WalkAt w base mb g cap b m) (hn : m.s.length = n + 1) (hl : n ≤ 10000) (h0 : 0 ≤ m.top.lv) (h1 : m.top.lv ≤ 125) (ho : odd = 0 ∨ odd = 1) :
    Calls Try.prog 50 #[.pointer (some ⟨mb, 0, none⟩), .int .i64 odd] w fun r w' => r = .returned (.int .i64 (m.next odd)) ∧ Below w.heap.size w w' := by
  have HT := Lib.hid (ctop_any base mb g cap n b m w h hn hl)
  obtain ⟨lv, hlv⟩ : ∃ x, m.top.lv = x := ⟨_, rfl⟩
  obtain ⟨ov, hov⟩ : ∃ x, M.ovc m.top.ov = x := ⟨_, rfl⟩
  obtain ⟨iso, hiso⟩ : ∃ x, m.top.iso = x := ⟨_, rfl⟩
  have HN := Lib.hid (show m.next odd = (lv + 1) + ((lv + 1) + odd) % 2 by rw [next_two (by omega) ho, ← hlv]; rfl)
  rw [hlv, hov, hiso] at HT
  rw [hlv] at h0 h1
  have ho1 : 0 ≤ odd ∧ odd ≤ 1 := by omega
  obtain ⟨ho1, ho2⟩ := ho1
  have hw1 : IntKind.i64.wrap (lv + 1) = lv + 1 := by rw [IntKind.wrap_i64]; omega
  have hw2 : IntKind.i64.wrap (lv + 1 + odd) = lv + 1 + odd := by rw [IntKind.wrap_i64]; omega
  have hw3 : IntKind.i64.wrap ((lv + 1 + odd).tmod 2) = (lv + 1 + odd) % 2 := by rw [Int.tmod_eq_emod_of_nonneg (by omega), IntKind.wrap_i64]; omega
  have hw4 : IntKind.i64.wrap (lv + 1 + (lv + 1 + odd) % 2) = lv + 1 + (lv + 1 + odd) % 2 := by rw [IntKind.wrap_i64]; omega
  have hf : ∀ w : World, (Instr.field 70 (.agg #[.int .i64 lv, .int .i64 ov, .bool iso]) 0).run Try.prog w = .ok (.int .i64 lv) w := fun w => by kernel_rfl
  clear h hn hlv hov hiso ho
  go_enter Try.func50, Try.ntmps50
  go_wp2_with fail
  refine HT.out.mono ?_
  rintro r w1 ⟨rfl, hb⟩
  have HB := Lib.hid hb
  clear hb
  go_wp2_with fail
  go_ret
  exact ⟨by rw [HN.out]; rfl, HB.out⟩

set_option maxHeartbeats 2000000 in
theorem cpop_any (base mb g cap n : Nat) (b : Int) (m : M.Mc) (w : World) (h : WalkAt w base mb g cap b m) (hn : m.s.length = n + 1) (hl : n ≤ 10000) :
    Calls Try.prog 49 #[.pointer (some ⟨mb, 0, none⟩)] w fun r w' => r = .returned (.tuple #[]) ∧ WalkAt w' base mb g cap b { m with s := m.s.tail } ∧ Spun w w' mb g g := by
  have k0 := h.c1
  have k4 := h.f 1 (by omega)
  have hroom := h.room
  rw [hn] at k0 hroom
  obtain ⟨hc1, hc2⟩ := hroom
  have hw1 : IntKind.i64.wrap ((n : Int) + 1 - 1) = (n : Int) := by rw [IntKind.wrap_i64]; omega
  have hw2 : IntKind.i64.wrap (n : Int) = (n : Int) := by rw [IntKind.wrap_i64]; omega
  have hc3 : (n : Int) ≤ (cap : Int) := by omega
  have hc4 : n ≤ cap := by omega
  have hn0 : (0 : Int) ≤ (n : Int) := by omega
  have HP := Lib.hid (h.drew.popped hn)
  have k0' : w.drew.cell? ⟨mb, 1, none⟩ = some (.slice (some ⟨g, 0, none⟩) (n + 1) cap) := k0
  clear h hn
  go_enter Try.func49, Try.ntmps49
  go_wp2_with fail
  go_still_tail 14, (by kernel_rfl)
  change wpList _ _ _ _ _ w.drew
  go_wp2_with fail
  go_returns
  exact ⟨rfl, HP.out, (Spun.refl _ _ _).drew.setCell 1 _⟩

/-- The class that counts of what begins an isolate: an FSI by what is told of it. -/
def M.sidedC (c f : Int) : Int := if c ≠ 21 then c else if f = 1 then 20 else 19
theorem csided_any (c f : Int) (w : World) :
    Calls Try.prog 48 #[.agg #[.int .i64 c, .int .i64 f]] w fun r w' => r = .returned (.int .i64 (M.sidedC c f)) ∧ Below w.heap.size w w' := by
  have H := Lib.hid (show M.sidedC c f = if c ≠ 21 then c else if f = 1 then 20 else 19 from rfl)
  go_enter Try.func48, Try.ntmps48
  go_wp2_with fail
  all_goals
    go_ret
    exact ⟨ret_int (by rw [H.out]; simp_all), (Below.refl _ _).alloc (Nat.le_refl _) _⟩
end Go.Proofs.Ytdipaiflfhdpoaa
