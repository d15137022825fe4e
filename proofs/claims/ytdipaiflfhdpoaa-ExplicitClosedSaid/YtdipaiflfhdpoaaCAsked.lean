/- The contract of the walk's asked: the entry that a class asks for. Condition: the walk is right, its top's level from 0 to 125. -/
import Derived.Test.YtdipaiflfhdpoaaCPush
namespace Go.Proofs.Ytdipaiflfhdpoaa
open Go.RowKit

/-- Old cells and marks read as before. -/
theorem old_cells {W w1 : World} (hb : Below W.heap.size W w1) : (∀ b o, b < W.heap.size → w1.cell? ⟨b, o, none⟩ = W.cell? ⟨b, o, none⟩) ∧ (∀ b o, b < W.heap.size → w1.frozen? ⟨b, o, none⟩ = W.frozen? ⟨b, o, none⟩) :=
  ⟨fun b o h => hb.cell (p := ⟨b, o, none⟩) h, fun b o h => hb.frozen (p := ⟨b, o, none⟩) h⟩
/-- What a class asks for: a side, an override, whether an isolate. -/
def M.asks (c odd ov : Int) (iso : Bool) : Prop := (c = 17 ∧ odd = 1 ∧ ov = 1 ∧ iso = false) ∨ (c = 16 ∧ odd = 1 ∧ ov = -1 ∧ iso = false) ∨ (c = 15 ∧ odd = 0 ∧ ov = 0 ∧ iso = false) ∨ (c = 14 ∧ odd = 0 ∧ ov = -1 ∧ iso = false) ∨ (c = 20 ∧ odd = 1 ∧ ov = -1 ∧ iso = true) ∨ (c = 19 ∧ odd = 0 ∧ ov = -1 ∧ iso = true)
set_option maxHeartbeats 4000000 in
theorem casked_any (base mb g cap n : Nat) (b : Int) (m : M.Mc) (c odd ov : Int) (iso : Bool) (hc : M.asks c odd ov iso) (w : World) (h : WalkAt w base mb g cap b m) (hn : m.s.length = n + 1) (hl : n ≤ 10000) (h0 : 0 ≤ m.top.lv) (h1 : m.top.lv ≤ 125) :
    Calls Try.prog 47 #[.pointer (some ⟨mb, 0, none⟩), .int .i64 c] w fun r w' => r = .returned (.agg #[.int .i64 (m.next odd), .int .i64 ov, .bool iso]) ∧ Below w.heap.size w w' := by
  have HX := fun odd ho W h => Lib.hid (cnext_any base mb g cap n b m odd W h hn hl h0 h1 ho)
  have HBG := fun w => Lib.hid (cbegins_any c w)
  have HH := Lib.hid h
  clear h hn h0 h1
  rcases hc with ⟨rfl, rfl, rfl, rfl⟩ | ⟨rfl, rfl, rfl, rfl⟩ | ⟨rfl, rfl, rfl, rfl⟩ | ⟨rfl, rfl, rfl, rfl⟩ | ⟨rfl, rfl, rfl, rfl⟩ | ⟨rfl, rfl, rfl, rfl⟩
  · obtain ⟨N, hN⟩ : ∃ N, m.next 1 = N := ⟨_, rfl⟩
    have HY := fun W h => Lib.hid (show Calls Try.prog 50 #[.pointer (some ⟨mb, 0, none⟩), .int .i64 1] W fun r w' => r = .returned (.int .i64 N) ∧ Below W.heap.size W w' from by rw [← hN]; exact (HX 1 (by decide) W h).out)
    rw [show M.begins 17 = false from rfl] at HBG
    rw [hN]
    clear hN HX
    go_enter Try.func47, Try.ntmps47
    go_wp2_with fail
    refine (HBG _).out.mono ?_
    rintro r w0 ⟨rfl, rfl⟩
    go_wp2_with fail
    refine (HY _ (HH.out.below ?_)).out.mono ?_
    · exact ((Below.refl _ _).alloc (Nat.le_refl _) _).alloc (by simp) _
    rintro r w1 ⟨rfl, hb⟩
    have HB : Hid (Below w.heap.size w w1) := by
      refine Lib.hid (Below.trans ?_ (hb.mono ?_))
      · exact ((Below.refl _ _).alloc (Nat.le_refl _) _).alloc (by simp) _
      · simp; omega
    obtain ⟨hcc, hcf⟩ := old_cells hb
    have z0 : w1.cell? ⟨w.heap.size, 0, none⟩ = some (.int .i64 0) := by rw [hcc _ _ (by simp; omega)]; simp [go_sem]
    have y0 : w1.frozen? ⟨w.heap.size, 0, none⟩ = false := by rw [hcf _ _ (by simp; omega)]; simp [go_sem]
    have z1 : w1.cell? ⟨w.heap.size, 1, none⟩ = some (.int .i64 0) := by rw [hcc _ _ (by simp; omega)]; simp [go_sem]
    have y1 : w1.frozen? ⟨w.heap.size, 1, none⟩ = false := by rw [hcf _ _ (by simp; omega)]; simp [go_sem]
    have z2 : w1.cell? ⟨w.heap.size, 2, none⟩ = some (.bool false) := by rw [hcc _ _ (by simp; omega)]; simp [go_sem]
    have y2 : w1.frozen? ⟨w.heap.size, 2, none⟩ = false := by rw [hcf _ _ (by simp; omega)]; simp [go_sem]
    have q0 : w1.cell? ⟨w.heap.size + 1, 0, none⟩ = some (.int .i64 0) := by rw [hcc _ _ (by simp)]; simp [go_sem]
    have p0 : w1.frozen? ⟨w.heap.size + 1, 0, none⟩ = false := by rw [hcf _ _ (by simp)]; simp [go_sem]
    have q1 : w1.cell? ⟨w.heap.size + 1, 1, none⟩ = some (.int .i64 (1)) := by rw [hcc _ _ (by simp)]; simp [go_sem]
    have p1 : w1.frozen? ⟨w.heap.size + 1, 1, none⟩ = false := by rw [hcf _ _ (by simp)]; simp [go_sem]
    have q2 : w1.cell? ⟨w.heap.size + 1, 2, none⟩ = some (.bool false) := by rw [hcc _ _ (by simp)]; simp [go_sem]
    have p2 : w1.frozen? ⟨w.heap.size + 1, 2, none⟩ = false := by rw [hcf _ _ (by simp)]; simp [go_sem]
    clear hb hcc hcf
    go_wp2_with fail
    refine bodyPost_ret (v := .agg #[.int .i64 N, .int .i64 (1), .bool false]) (by simp [results, Try.results47, go_sem, z0, z1, z2]) rfl ⟨rfl, ?_⟩
    exact (((HB.out.setCell (p := ⟨w.heap.size + 1, 0, none⟩) (Nat.le_succ _) _).setCell (p := ⟨w.heap.size, 0, none⟩) (Nat.le_refl _) _).setCell (p := ⟨w.heap.size, 1, none⟩) (Nat.le_refl _) _).setCell (p := ⟨w.heap.size, 2, none⟩) (Nat.le_refl _) _
  · obtain ⟨N, hN⟩ : ∃ N, m.next 1 = N := ⟨_, rfl⟩
    have HY := fun W h => Lib.hid (show Calls Try.prog 50 #[.pointer (some ⟨mb, 0, none⟩), .int .i64 1] W fun r w' => r = .returned (.int .i64 N) ∧ Below W.heap.size W w' from by rw [← hN]; exact (HX 1 (by decide) W h).out)
    rw [show M.begins 16 = false from rfl] at HBG
    rw [hN]
    clear hN HX
    go_enter Try.func47, Try.ntmps47
    go_wp2_with fail
    refine (HBG _).out.mono ?_
    rintro r w0 ⟨rfl, rfl⟩
    go_wp2_with fail
    refine (HY _ (HH.out.below ?_)).out.mono ?_
    · exact ((Below.refl _ _).alloc (Nat.le_refl _) _).alloc (by simp) _
    rintro r w1 ⟨rfl, hb⟩
    have HB : Hid (Below w.heap.size w w1) := by
      refine Lib.hid (Below.trans ?_ (hb.mono ?_))
      · exact ((Below.refl _ _).alloc (Nat.le_refl _) _).alloc (by simp) _
      · simp; omega
    obtain ⟨hcc, hcf⟩ := old_cells hb
    have z0 : w1.cell? ⟨w.heap.size, 0, none⟩ = some (.int .i64 0) := by rw [hcc _ _ (by simp; omega)]; simp [go_sem]
    have y0 : w1.frozen? ⟨w.heap.size, 0, none⟩ = false := by rw [hcf _ _ (by simp; omega)]; simp [go_sem]
    have z1 : w1.cell? ⟨w.heap.size, 1, none⟩ = some (.int .i64 0) := by rw [hcc _ _ (by simp; omega)]; simp [go_sem]
    have y1 : w1.frozen? ⟨w.heap.size, 1, none⟩ = false := by rw [hcf _ _ (by simp; omega)]; simp [go_sem]
    have z2 : w1.cell? ⟨w.heap.size, 2, none⟩ = some (.bool false) := by rw [hcc _ _ (by simp; omega)]; simp [go_sem]
    have y2 : w1.frozen? ⟨w.heap.size, 2, none⟩ = false := by rw [hcf _ _ (by simp; omega)]; simp [go_sem]
    have q0 : w1.cell? ⟨w.heap.size + 1, 0, none⟩ = some (.int .i64 0) := by rw [hcc _ _ (by simp)]; simp [go_sem]
    have p0 : w1.frozen? ⟨w.heap.size + 1, 0, none⟩ = false := by rw [hcf _ _ (by simp)]; simp [go_sem]
    have q1 : w1.cell? ⟨w.heap.size + 1, 1, none⟩ = some (.int .i64 (-1)) := by rw [hcc _ _ (by simp)]; simp [go_sem]
    have p1 : w1.frozen? ⟨w.heap.size + 1, 1, none⟩ = false := by rw [hcf _ _ (by simp)]; simp [go_sem]
    have q2 : w1.cell? ⟨w.heap.size + 1, 2, none⟩ = some (.bool false) := by rw [hcc _ _ (by simp)]; simp [go_sem]
    have p2 : w1.frozen? ⟨w.heap.size + 1, 2, none⟩ = false := by rw [hcf _ _ (by simp)]; simp [go_sem]
    clear hb hcc hcf
    go_wp2_with fail
    refine bodyPost_ret (v := .agg #[.int .i64 N, .int .i64 (-1), .bool false]) (by simp [results, Try.results47, go_sem, z0, z1, z2]) rfl ⟨rfl, ?_⟩
    exact (((HB.out.setCell (p := ⟨w.heap.size + 1, 0, none⟩) (Nat.le_succ _) _).setCell (p := ⟨w.heap.size, 0, none⟩) (Nat.le_refl _) _).setCell (p := ⟨w.heap.size, 1, none⟩) (Nat.le_refl _) _).setCell (p := ⟨w.heap.size, 2, none⟩) (Nat.le_refl _) _
  · obtain ⟨N, hN⟩ : ∃ N, m.next 0 = N := ⟨_, rfl⟩
    have HY := fun W h => Lib.hid (show Calls Try.prog 50 #[.pointer (some ⟨mb, 0, none⟩), .int .i64 0] W fun r w' => r = .returned (.int .i64 N) ∧ Below W.heap.size W w' from by rw [← hN]; exact (HX 0 (by decide) W h).out)
    rw [show M.begins 15 = false from rfl] at HBG
    rw [hN]
    clear hN HX
    go_enter Try.func47, Try.ntmps47
    go_wp2_with fail
    refine (HBG _).out.mono ?_
    rintro r w0 ⟨rfl, rfl⟩
    go_wp2_with fail
    refine (HY _ (HH.out.below ?_)).out.mono ?_
    · exact ((Below.refl _ _).alloc (Nat.le_refl _) _).alloc (by simp) _
    rintro r w1 ⟨rfl, hb⟩
    have HB : Hid (Below w.heap.size w w1) := by
      refine Lib.hid (Below.trans ?_ (hb.mono ?_))
      · exact ((Below.refl _ _).alloc (Nat.le_refl _) _).alloc (by simp) _
      · simp; omega
    obtain ⟨hcc, hcf⟩ := old_cells hb
    have z0 : w1.cell? ⟨w.heap.size, 0, none⟩ = some (.int .i64 0) := by rw [hcc _ _ (by simp; omega)]; simp [go_sem]
    have y0 : w1.frozen? ⟨w.heap.size, 0, none⟩ = false := by rw [hcf _ _ (by simp; omega)]; simp [go_sem]
    have z1 : w1.cell? ⟨w.heap.size, 1, none⟩ = some (.int .i64 0) := by rw [hcc _ _ (by simp; omega)]; simp [go_sem]
    have y1 : w1.frozen? ⟨w.heap.size, 1, none⟩ = false := by rw [hcf _ _ (by simp; omega)]; simp [go_sem]
    have z2 : w1.cell? ⟨w.heap.size, 2, none⟩ = some (.bool false) := by rw [hcc _ _ (by simp; omega)]; simp [go_sem]
    have y2 : w1.frozen? ⟨w.heap.size, 2, none⟩ = false := by rw [hcf _ _ (by simp; omega)]; simp [go_sem]
    have q0 : w1.cell? ⟨w.heap.size + 1, 0, none⟩ = some (.int .i64 0) := by rw [hcc _ _ (by simp)]; simp [go_sem]
    have p0 : w1.frozen? ⟨w.heap.size + 1, 0, none⟩ = false := by rw [hcf _ _ (by simp)]; simp [go_sem]
    have q1 : w1.cell? ⟨w.heap.size + 1, 1, none⟩ = some (.int .i64 (0)) := by rw [hcc _ _ (by simp)]; simp [go_sem]
    have p1 : w1.frozen? ⟨w.heap.size + 1, 1, none⟩ = false := by rw [hcf _ _ (by simp)]; simp [go_sem]
    have q2 : w1.cell? ⟨w.heap.size + 1, 2, none⟩ = some (.bool false) := by rw [hcc _ _ (by simp)]; simp [go_sem]
    have p2 : w1.frozen? ⟨w.heap.size + 1, 2, none⟩ = false := by rw [hcf _ _ (by simp)]; simp [go_sem]
    clear hb hcc hcf
    go_wp2_with fail
    refine bodyPost_ret (v := .agg #[.int .i64 N, .int .i64 (0), .bool false]) (by simp [results, Try.results47, go_sem, z0, z1, z2]) rfl ⟨rfl, ?_⟩
    exact (((HB.out.setCell (p := ⟨w.heap.size + 1, 0, none⟩) (Nat.le_succ _) _).setCell (p := ⟨w.heap.size, 0, none⟩) (Nat.le_refl _) _).setCell (p := ⟨w.heap.size, 1, none⟩) (Nat.le_refl _) _).setCell (p := ⟨w.heap.size, 2, none⟩) (Nat.le_refl _) _
  · obtain ⟨N, hN⟩ : ∃ N, m.next 0 = N := ⟨_, rfl⟩
    have HY := fun W h => Lib.hid (show Calls Try.prog 50 #[.pointer (some ⟨mb, 0, none⟩), .int .i64 0] W fun r w' => r = .returned (.int .i64 N) ∧ Below W.heap.size W w' from by rw [← hN]; exact (HX 0 (by decide) W h).out)
    rw [show M.begins 14 = false from rfl] at HBG
    rw [hN]
    clear hN HX
    go_enter Try.func47, Try.ntmps47
    go_wp2_with fail
    refine (HBG _).out.mono ?_
    rintro r w0 ⟨rfl, rfl⟩
    go_wp2_with fail
    refine (HY _ (HH.out.below ?_)).out.mono ?_
    · exact ((Below.refl _ _).alloc (Nat.le_refl _) _).alloc (by simp) _
    rintro r w1 ⟨rfl, hb⟩
    have HB : Hid (Below w.heap.size w w1) := by
      refine Lib.hid (Below.trans ?_ (hb.mono ?_))
      · exact ((Below.refl _ _).alloc (Nat.le_refl _) _).alloc (by simp) _
      · simp; omega
    obtain ⟨hcc, hcf⟩ := old_cells hb
    have z0 : w1.cell? ⟨w.heap.size, 0, none⟩ = some (.int .i64 0) := by rw [hcc _ _ (by simp; omega)]; simp [go_sem]
    have y0 : w1.frozen? ⟨w.heap.size, 0, none⟩ = false := by rw [hcf _ _ (by simp; omega)]; simp [go_sem]
    have z1 : w1.cell? ⟨w.heap.size, 1, none⟩ = some (.int .i64 0) := by rw [hcc _ _ (by simp; omega)]; simp [go_sem]
    have y1 : w1.frozen? ⟨w.heap.size, 1, none⟩ = false := by rw [hcf _ _ (by simp; omega)]; simp [go_sem]
    have z2 : w1.cell? ⟨w.heap.size, 2, none⟩ = some (.bool false) := by rw [hcc _ _ (by simp; omega)]; simp [go_sem]
    have y2 : w1.frozen? ⟨w.heap.size, 2, none⟩ = false := by rw [hcf _ _ (by simp; omega)]; simp [go_sem]
    have q0 : w1.cell? ⟨w.heap.size + 1, 0, none⟩ = some (.int .i64 0) := by rw [hcc _ _ (by simp)]; simp [go_sem]
    have p0 : w1.frozen? ⟨w.heap.size + 1, 0, none⟩ = false := by rw [hcf _ _ (by simp)]; simp [go_sem]
    have q1 : w1.cell? ⟨w.heap.size + 1, 1, none⟩ = some (.int .i64 (-1)) := by rw [hcc _ _ (by simp)]; simp [go_sem]
    have p1 : w1.frozen? ⟨w.heap.size + 1, 1, none⟩ = false := by rw [hcf _ _ (by simp)]; simp [go_sem]
    have q2 : w1.cell? ⟨w.heap.size + 1, 2, none⟩ = some (.bool false) := by rw [hcc _ _ (by simp)]; simp [go_sem]
    have p2 : w1.frozen? ⟨w.heap.size + 1, 2, none⟩ = false := by rw [hcf _ _ (by simp)]; simp [go_sem]
    clear hb hcc hcf
    go_wp2_with fail
    refine bodyPost_ret (v := .agg #[.int .i64 N, .int .i64 (-1), .bool false]) (by simp [results, Try.results47, go_sem, z0, z1, z2]) rfl ⟨rfl, ?_⟩
    exact (((HB.out.setCell (p := ⟨w.heap.size + 1, 0, none⟩) (Nat.le_succ _) _).setCell (p := ⟨w.heap.size, 0, none⟩) (Nat.le_refl _) _).setCell (p := ⟨w.heap.size, 1, none⟩) (Nat.le_refl _) _).setCell (p := ⟨w.heap.size, 2, none⟩) (Nat.le_refl _) _
  · obtain ⟨N, hN⟩ : ∃ N, m.next 1 = N := ⟨_, rfl⟩
    have HY := fun W h => Lib.hid (show Calls Try.prog 50 #[.pointer (some ⟨mb, 0, none⟩), .int .i64 1] W fun r w' => r = .returned (.int .i64 N) ∧ Below W.heap.size W w' from by rw [← hN]; exact (HX 1 (by decide) W h).out)
    rw [show M.begins 20 = true from rfl] at HBG
    rw [hN]
    clear hN HX
    go_enter Try.func47, Try.ntmps47
    go_wp2_with fail
    refine (HBG _).out.mono ?_
    rintro r w0 ⟨rfl, rfl⟩
    go_wp2_with fail
    refine (HY _ (HH.out.below ?_)).out.mono ?_
    · exact ((Below.refl _ _).alloc (Nat.le_refl _) _).alloc (by simp) _
    rintro r w1 ⟨rfl, hb⟩
    have HB : Hid (Below w.heap.size w w1) := by
      refine Lib.hid (Below.trans ?_ (hb.mono ?_))
      · exact ((Below.refl _ _).alloc (Nat.le_refl _) _).alloc (by simp) _
      · simp; omega
    obtain ⟨hcc, hcf⟩ := old_cells hb
    have z0 : w1.cell? ⟨w.heap.size, 0, none⟩ = some (.int .i64 0) := by rw [hcc _ _ (by simp; omega)]; simp [go_sem]
    have y0 : w1.frozen? ⟨w.heap.size, 0, none⟩ = false := by rw [hcf _ _ (by simp; omega)]; simp [go_sem]
    have z1 : w1.cell? ⟨w.heap.size, 1, none⟩ = some (.int .i64 0) := by rw [hcc _ _ (by simp; omega)]; simp [go_sem]
    have y1 : w1.frozen? ⟨w.heap.size, 1, none⟩ = false := by rw [hcf _ _ (by simp; omega)]; simp [go_sem]
    have z2 : w1.cell? ⟨w.heap.size, 2, none⟩ = some (.bool false) := by rw [hcc _ _ (by simp; omega)]; simp [go_sem]
    have y2 : w1.frozen? ⟨w.heap.size, 2, none⟩ = false := by rw [hcf _ _ (by simp; omega)]; simp [go_sem]
    have q0 : w1.cell? ⟨w.heap.size + 1, 0, none⟩ = some (.int .i64 0) := by rw [hcc _ _ (by simp)]; simp [go_sem]
    have p0 : w1.frozen? ⟨w.heap.size + 1, 0, none⟩ = false := by rw [hcf _ _ (by simp)]; simp [go_sem]
    have q1 : w1.cell? ⟨w.heap.size + 1, 1, none⟩ = some (.int .i64 (-1)) := by rw [hcc _ _ (by simp)]; simp [go_sem]
    have p1 : w1.frozen? ⟨w.heap.size + 1, 1, none⟩ = false := by rw [hcf _ _ (by simp)]; simp [go_sem]
    have q2 : w1.cell? ⟨w.heap.size + 1, 2, none⟩ = some (.bool true) := by rw [hcc _ _ (by simp)]; simp [go_sem]
    have p2 : w1.frozen? ⟨w.heap.size + 1, 2, none⟩ = false := by rw [hcf _ _ (by simp)]; simp [go_sem]
    clear hb hcc hcf
    go_wp2_with fail
    refine bodyPost_ret (v := .agg #[.int .i64 N, .int .i64 (-1), .bool true]) (by simp [results, Try.results47, go_sem, z0, z1, z2]) rfl ⟨rfl, ?_⟩
    exact (((HB.out.setCell (p := ⟨w.heap.size + 1, 0, none⟩) (Nat.le_succ _) _).setCell (p := ⟨w.heap.size, 0, none⟩) (Nat.le_refl _) _).setCell (p := ⟨w.heap.size, 1, none⟩) (Nat.le_refl _) _).setCell (p := ⟨w.heap.size, 2, none⟩) (Nat.le_refl _) _
  · obtain ⟨N, hN⟩ : ∃ N, m.next 0 = N := ⟨_, rfl⟩
    have HY := fun W h => Lib.hid (show Calls Try.prog 50 #[.pointer (some ⟨mb, 0, none⟩), .int .i64 0] W fun r w' => r = .returned (.int .i64 N) ∧ Below W.heap.size W w' from by rw [← hN]; exact (HX 0 (by decide) W h).out)
    rw [show M.begins 19 = true from rfl] at HBG
    rw [hN]
    clear hN HX
    go_enter Try.func47, Try.ntmps47
    go_wp2_with fail
    refine (HBG _).out.mono ?_
    rintro r w0 ⟨rfl, rfl⟩
    go_wp2_with fail
    refine (HY _ (HH.out.below ?_)).out.mono ?_
    · exact ((Below.refl _ _).alloc (Nat.le_refl _) _).alloc (by simp) _
    rintro r w1 ⟨rfl, hb⟩
    have HB : Hid (Below w.heap.size w w1) := by
      refine Lib.hid (Below.trans ?_ (hb.mono ?_))
      · exact ((Below.refl _ _).alloc (Nat.le_refl _) _).alloc (by simp) _
      · simp; omega
    obtain ⟨hcc, hcf⟩ := old_cells hb
    have z0 : w1.cell? ⟨w.heap.size, 0, none⟩ = some (.int .i64 0) := by rw [hcc _ _ (by simp; omega)]; simp [go_sem]
    have y0 : w1.frozen? ⟨w.heap.size, 0, none⟩ = false := by rw [hcf _ _ (by simp; omega)]; simp [go_sem]
    have z1 : w1.cell? ⟨w.heap.size, 1, none⟩ = some (.int .i64 0) := by rw [hcc _ _ (by simp; omega)]; simp [go_sem]
    have y1 : w1.frozen? ⟨w.heap.size, 1, none⟩ = false := by rw [hcf _ _ (by simp; omega)]; simp [go_sem]
    have z2 : w1.cell? ⟨w.heap.size, 2, none⟩ = some (.bool false) := by rw [hcc _ _ (by simp; omega)]; simp [go_sem]
    have y2 : w1.frozen? ⟨w.heap.size, 2, none⟩ = false := by rw [hcf _ _ (by simp; omega)]; simp [go_sem]
    have q0 : w1.cell? ⟨w.heap.size + 1, 0, none⟩ = some (.int .i64 0) := by rw [hcc _ _ (by simp)]; simp [go_sem]
    have p0 : w1.frozen? ⟨w.heap.size + 1, 0, none⟩ = false := by rw [hcf _ _ (by simp)]; simp [go_sem]
    have q1 : w1.cell? ⟨w.heap.size + 1, 1, none⟩ = some (.int .i64 (-1)) := by rw [hcc _ _ (by simp)]; simp [go_sem]
    have p1 : w1.frozen? ⟨w.heap.size + 1, 1, none⟩ = false := by rw [hcf _ _ (by simp)]; simp [go_sem]
    have q2 : w1.cell? ⟨w.heap.size + 1, 2, none⟩ = some (.bool true) := by rw [hcc _ _ (by simp)]; simp [go_sem]
    have p2 : w1.frozen? ⟨w.heap.size + 1, 2, none⟩ = false := by rw [hcf _ _ (by simp)]; simp [go_sem]
    clear hb hcc hcf
    go_wp2_with fail
    refine bodyPost_ret (v := .agg #[.int .i64 N, .int .i64 (-1), .bool true]) (by simp [results, Try.results47, go_sem, z0, z1, z2]) rfl ⟨rfl, ?_⟩
    exact (((HB.out.setCell (p := ⟨w.heap.size + 1, 0, none⟩) (Nat.le_succ _) _).setCell (p := ⟨w.heap.size, 0, none⟩) (Nat.le_refl _) _).setCell (p := ⟨w.heap.size, 1, none⟩) (Nat.le_refl _) _).setCell (p := ⟨w.heap.size, 2, none⟩) (Nat.le_refl _) _
end Go.Proofs.Ytdipaiflfhdpoaa
