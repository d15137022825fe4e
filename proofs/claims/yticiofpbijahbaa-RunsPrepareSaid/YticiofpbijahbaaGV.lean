/- The contracts of the document's Ints and of the statements' Same over the translation, at two slices that read as one list: true. -/
/- The live question of stage 9, over the translation: it is answered true. No condition. -/
import Derived.Test.YticiofpbijahbaaGA
import Derived.Test.YticiofpbijahbaaGU
section
namespace Go.Proofs.Yticiofpbijahbaa
open Go.RowKit
set_option maxRecDepth 100000

set_option maxHeartbeats 1000000 in
theorem ints_same (A A' : Option Addr) (c c' n : Nat) (l : List Int) (w : World) (h1 : RdS .i64 w w.heap.size A l) (h2 : RdS .i64 w w.heap.size A' l) (hn : l.length = n) (hl : n ≤ 1000) :
    Calls Try.prog 11 #[.slice A n c, .slice A' n c'] w fun e w' => e = .returned (.bool true) ∧ Below w.heap.size w w' := by
  have H1 := Lib.hid h1
  have H2 := Lib.hid h2
  have HN := Lib.hid hn
  have hl1 : (n : Int) ≤ 1000 := by omega
  clear h1 h2 hn
  go_enter Try.func11, Try.ntmps11
  go_wp2_with fail
  go_loopw [5] (fun i wr => ∃ k : Nat, i = .int .i64 k ∧ k ≤ n ∧ Below w.heap.size w wr) (fun i _ => n - (intOf i).toNat)
  case atStart => exact ⟨0, rfl, Nat.zero_le _, Below.refl _ _⟩
  case round =>
    obtain ⟨k, rfl, hk, hb⟩ := hrel
    have HB := Lib.hid hb
    have hn := HN.out
    by_cases hlt : k < n
    · obtain ⟨ad, x, rfl, hcx, hx, hab⟩ := rd_at H1.out hb (by omega : k < l.length)
      obtain ⟨ad2, y, rfl, hcy, hy, hab2⟩ := rd_at H2.out hb (by omega : k < l.length)
      obtain rfl : x = y := by rw [hx] at hy; injection hy
      have k0 : (0 : Int) ≤ k := by omega
      have k1 : (k : Int) < n := by omega
      have cx := fun d os => cell_regrown hcx d os
      have cy := fun d os => cell_regrown hcy d os
      clear hb hx hy hab hab2 hn hcx hcy
      go_wp2_with fail
      refine wp_region_quiet_below (by kernel_rfl) (by kernel_rfl) ?_
      repeat (go_big_quiet_step (fail))
      refine wpQuiet_nil ?_
      intro _ hw'
      obtain ⟨⟨dq, osq⟩, hw4⟩ := hw'
      subst hw4
      have HB5 := Lib.hid (show Below w.heap.size w (Sort.grow (redrawn wr dq) osq) from HB.out.trans ((below_regrown wr dq osq).mono HB.out.size))
      obtain ⟨W2, hW2⟩ : ∃ W, Sort.grow (redrawn wr dq) osq = W := ⟨_, rfl⟩
      rw [hW2] at HB5
      dsimp only
      rw [hW2]
      clear hW2 cx cy
      go_wp2_with fail
      go_roundw
      case rel => exact ⟨k + 1, by go_num, by omega, HB5.out⟩
      case measure => simp [intOf]; omega
    · clear hb hn
      have k1 : ¬ (k : Int) < n := by omega
      go_wp2_with fail
      go_ret
      exact ⟨rfl, HB.out⟩

set_option maxHeartbeats 1000000 in
theorem same_same (A A' : Option Addr) (c c' n : Nat) (l : List Int) (w : World) (h1 : RdS .i64 w w.heap.size A l) (h2 : RdS .i64 w w.heap.size A' l) (hn : l.length = n) (hl : n ≤ 1000) :
    Calls Try.prog 14 #[.slice A n c, .slice A' n c'] w fun e w' => e = .returned (.bool true) ∧ Below w.heap.size w w' := by
  have H1 := Lib.hid h1
  have H2 := Lib.hid h2
  have HN := Lib.hid hn
  have hl1 : (n : Int) ≤ 1000 := by omega
  clear h1 h2 hn
  go_enter Try.func14, Try.ntmps14
  go_wp2_with fail
  go_loopw [5] (fun i wr => ∃ k : Nat, i = .int .i64 k ∧ k ≤ n ∧ Below w.heap.size w wr) (fun i _ => n - (intOf i).toNat)
  case atStart => exact ⟨0, rfl, Nat.zero_le _, Below.refl _ _⟩
  case round =>
    obtain ⟨k, rfl, hk, hb⟩ := hrel
    have HB := Lib.hid hb
    have hn := HN.out
    by_cases hlt : k < n
    · obtain ⟨ad, x, rfl, hcx, hx, hab⟩ := rd_at H1.out hb (by omega : k < l.length)
      obtain ⟨ad2, y, rfl, hcy, hy, hab2⟩ := rd_at H2.out hb (by omega : k < l.length)
      obtain rfl : x = y := by rw [hx] at hy; injection hy
      have k0 : (0 : Int) ≤ k := by omega
      have k1 : (k : Int) < n := by omega
      have cx := fun d os => cell_regrown hcx d os
      have cy := fun d os => cell_regrown hcy d os
      clear hb hx hy hab hab2 hn hcx hcy
      go_wp2_with fail
      refine wp_region_quiet_below (by kernel_rfl) (by kernel_rfl) ?_
      repeat (go_big_quiet_step (fail))
      refine wpQuiet_nil ?_
      intro _ hw'
      obtain ⟨⟨dq, osq⟩, hw4⟩ := hw'
      subst hw4
      have HB5 := Lib.hid (show Below w.heap.size w (Sort.grow (redrawn wr dq) osq) from HB.out.trans ((below_regrown wr dq osq).mono HB.out.size))
      obtain ⟨W2, hW2⟩ : ∃ W, Sort.grow (redrawn wr dq) osq = W := ⟨_, rfl⟩
      rw [hW2] at HB5
      dsimp only
      rw [hW2]
      clear hW2 cx cy
      go_wp2_with fail
      go_roundw
      case rel => exact ⟨k + 1, by go_num, by omega, HB5.out⟩
      case measure => simp [intOf]; omega
    · clear hb hn
      have k1 : ¬ (k : Int) < n := by omega
      go_wp2_with fail
      go_ret
      exact ⟨rfl, HB.out⟩

end Go.Proofs.Yticiofpbijahbaa
end

section
namespace Go.Proofs.Yticiofpbijahbaa
open Go.RowKit
set_option maxRecDepth 100000

theorem live_runs : M.levs [0, 20, 1, 22, 0] 0 = [0, 0, 1, 0, 0] ∧ M.runs [0, 0, 1, 0, 0] 0 = [⟨[0, 1], 0, 0, 1⟩, ⟨[2], 1, 0, 0⟩, ⟨[3, 4], 0, 1, 0⟩] := ⟨by decide +kernel, rfl⟩
theorem live_seqs : M.seqs [0, 20, 1, 22, 0] (M.levs [0, 20, 1, 22, 0] 0) 0 = [⟨[0, 1, 3, 4], 0, 0, 0⟩, ⟨[2], 1, 1, 1⟩] := by
  rw [live_runs.1]
  unfold M.seqs
  rw [live_runs.2]
  have p0 : M.pv (M.goes [0, 20, 1, 22, 0] [⟨[0, 1], 0, 0, 1⟩, ⟨[2], 1, 0, 0⟩, ⟨[3, 4], 0, 1, 0⟩]) (M.from_ [⟨[0, 1], 0, 0, 1⟩, ⟨[2], 1, 0, 0⟩, ⟨[3, 4], 0, 1, 0⟩]) 0 = none := by decide +kernel
  have p1 : M.pv (M.goes [0, 20, 1, 22, 0] [⟨[0, 1], 0, 0, 1⟩, ⟨[2], 1, 0, 0⟩, ⟨[3, 4], 0, 1, 0⟩]) (M.from_ [⟨[0, 1], 0, 0, 1⟩, ⟨[2], 1, 0, 0⟩, ⟨[3, 4], 0, 1, 0⟩]) 1 = none := by decide +kernel
  have p2 : M.pv (M.goes [0, 20, 1, 22, 0] [⟨[0, 1], 0, 0, 1⟩, ⟨[2], 1, 0, 0⟩, ⟨[3, 4], 0, 1, 0⟩]) (M.from_ [⟨[0, 1], 0, 0, 1⟩, ⟨[2], 1, 0, 0⟩, ⟨[3, 4], 0, 1, 0⟩]) 2 = some 0 := by decide +kernel
  have h1 := (M.sqs_no (b := 0) p0).2
  have h2 := (M.sqs_no (b := 0) p1).2
  obtain ⟨_, s, hs, h3⟩ := M.sqs_go (b := 0) p2
  have e0 : M.sqs [0, 20, 1, 22, 0] 0 [⟨[0, 1], 0, 0, 1⟩, ⟨[2], 1, 0, 0⟩, ⟨[3, 4], 0, 1, 0⟩] 0 = [] := rfl
  have hk : M.sqOf [0, 20, 1, 22, 0] [⟨[0, 1], 0, 0, 1⟩, ⟨[2], 1, 0, 0⟩, ⟨[3, 4], 0, 1, 0⟩] 0 = 0 := (M.sqs_no (b := 0) p0).1
  rw [e0] at h1
  rw [h1] at h2
  rw [h2, hk] at hs h3
  have e1 : (M.Sq.begun (M.rn [⟨[0, 1], 0, 0, 1⟩, ⟨[2], 1, 0, 0⟩, ⟨[3, 4], 0, 1, 0⟩] 0)).with_ [0, 20, 1, 22, 0] 0 (M.rn [⟨[0, 1], 0, 0, 1⟩, ⟨[2], 1, 0, 0⟩, ⟨[3, 4], 0, 1, 0⟩] 0) = ⟨[0, 1], 0, 0, 0⟩ := by rfl
  have e2 : (M.Sq.begun (M.rn [⟨[0, 1], 0, 0, 1⟩, ⟨[2], 1, 0, 0⟩, ⟨[3, 4], 0, 1, 0⟩] 1)).with_ [0, 20, 1, 22, 0] 0 (M.rn [⟨[0, 1], 0, 0, 1⟩, ⟨[2], 1, 0, 0⟩, ⟨[3, 4], 0, 1, 0⟩] 1) = ⟨[2], 1, 1, 1⟩ := by rfl
  rw [e1, e2] at hs h3
  obtain rfl := Option.some.inj hs
  exact h3
set_option maxHeartbeats 4000000 in
theorem live_any (w : World) : Calls Try.prog 7 #[] w fun r w' => r = .returned (.bool true) ∧ Below w.heap.size w w' := by
  have HLS := Lib.hid live_seqs
  obtain ⟨W1, hW1⟩ : ∃ W1, w.alloc (.cells #[.int .i64 0, .int .i64 20, .int .i64 1, .int .i64 22, .int .i64 0] 44) = W1 := ⟨_, rfl⟩
  have hb1 : Below w.heap.size w W1 := by rw [← hW1]; exact (Below.refl _ _).alloc (Nat.le_refl _) _
  have hrd1 : RdS .i64 W1 W1.heap.size (some ⟨w.heap.size, 0, none⟩) [0, 20, 1, 22, 0] := by rw [← hW1]; exact rd_new w [0, 20, 1, 22, 0] 44
  have HW1 := Lib.hid hW1
  have HB1 := Lib.hid hb1
  have HP := Lib.hid (cprep_any (some ⟨w.heap.size, 0, none⟩) 5 5 [0, 20, 1, 22, 0] 0 W1 hrd1 rfl (by omega))
  clear hW1 hb1 hrd1
  go_enter Try.func7, Try.ntmps7
  go_wp2_with fail
  rw [HW1.out]
  refine HP.out.mono ?_
  rintro r w2 ⟨hb2, hok, -⟩
  obtain ⟨A3, c3, A2, c2, rfl, hq, hr⟩ := hok (.inl rfl)
  rw [HLS.out] at hq ⊢
  obtain ⟨g, Ap, cp, rfl, hg, z0, z1, z2, z3, hrp, hlp, -, -⟩ := hq 0 _ rfl
  obtain ⟨g', Ap', cp', hA', -, y0, y1, y2, y3, -⟩ := hq 1 _ rfl
  obtain rfl : g = g' := by injection hA' with e; injection e
  have HB2 := Lib.hid (HB1.out.trans (hb2.mono HB1.out.size))
  obtain ⟨W3, hW3⟩ : ∃ W, w2.alloc (.cells #[.int .i64 0, .int .i64 1, .int .i64 3, .int .i64 4] 3) = W := ⟨_, rfl⟩
  have hb3 : Below w2.heap.size w2 W3 := by rw [← hW3]; exact (Below.refl _ _).alloc (Nat.le_refl _) _
  have hrd3 : RdS .i64 W3 W3.heap.size (some ⟨w2.heap.size, 0, none⟩) [0, 1, 3, 4] := by rw [← hW3]; exact rd_new w2 [0, 1, 3, 4] 3
  have HI := Lib.hid (fun c => ints_same Ap (some ⟨w2.heap.size, 0, none⟩) cp c 4 [0, 1, 3, 4] W3 ((hrp.below hb3).more hb3.size) hrd3 rfl (by omega))
  have y1' : W3.cell? ⟨g, 5, none⟩ = some (.int .i64 1) := (hb3.cell (p := ⟨g, 5, none⟩) hg).trans y1
  have y2' : W3.cell? ⟨g, 6, none⟩ = some (.int .i64 1) := (hb3.cell (p := ⟨g, 6, none⟩) hg).trans y2
  have z3' : W3.cell? ⟨g, 3, none⟩ = some (.int .i64 0) := (hb3.cell (p := ⟨g, 3, none⟩) hg).trans z3
  have z0' : w2.cell? ⟨g, 0, none⟩ = some (.slice Ap 4 cp) := z0
  have HB3 := Lib.hid hb3
  have HW3 := Lib.hid hW3
  clear hq hr z0 z1 z2 z3 y0 y1 y2 y3 hrp hlp hb2 hok hW3 hb3 hrd3
  simp only [List.length_cons, List.length_nil]
  have hg3 : g < W3.heap.size := by have := HB3.out.size; omega
  go_wp2_with fail
  rw [HW3.out]
  refine (HI.out 4).mono ?_
  rintro r w4 ⟨rfl, hb4⟩
  have y1'' := (hb4.cell (p := ⟨g, 5, none⟩) hg3).trans y1'
  have y2'' := (hb4.cell (p := ⟨g, 6, none⟩) hg3).trans y2'
  have z3'' := (hb4.cell (p := ⟨g, 3, none⟩) hg3).trans z3'
  have HB4 := Lib.hid (HB2.out.trans ((HB3.out.mono HB2.out.size).trans (hb4.mono (Nat.le_trans HB2.out.size HB3.out.size))))
  clear hb4 y1' y2' z3'
  go_wp2_with fail
  go_ret
  exact ⟨rfl, HB4.out⟩
end Go.Proofs.Yticiofpbijahbaa
end
