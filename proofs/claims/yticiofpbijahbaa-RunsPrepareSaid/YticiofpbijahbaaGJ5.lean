/- The contracts of the document's Same and of the statements' same, at two that are alike. Conditions: both read as one list, at most a thousand long. -/
import Derived.Test.YticiofpbijahbaaGI
import Derived.Test.YticiofpbijahbaaGV
section
namespace Go.Proofs.Yticiofpbijahbaa
open Go.RowKit
set_option maxRecDepth 100000

set_option maxHeartbeats 4000000 in
theorem seqSame_any (A A' : Option Addr) (c c' n : Nat) (l : List Int) (x y z : Int) (w : World) (h1 : RdS .i64 w w.heap.size A l) (h2 : RdS .i64 w w.heap.size A' l) (hn : l.length = n) (hl : n ≤ 1000) :
    Calls Try.prog 30 #[.agg #[.slice A n c, .int .i64 x, .int .i64 y, .int .i64 z], .agg #[.slice A' n c', .int .i64 x, .int .i64 y, .int .i64 z]] w fun e w' => e = .returned (.bool true) ∧ Below w.heap.size w w' := by
  have HI := Lib.hid (fun (W' : World) (hb : Below w.heap.size w W') => ints_same A A' c c' n l W' ((h1.below hb).more hb.size) ((h2.below hb).more hb.size) hn hl)
  obtain ⟨W1, hW1⟩ : ∃ W, w.alloc (.cells #[.slice A n c, .int .i64 x, .int .i64 y, .int .i64 z] 63) = W := ⟨_, rfl⟩
  have hb1 : Below w.heap.size w W1 := by rw [← hW1]; exact (Below.refl _ _).alloc (Nat.le_refl _) _
  have hs1 : W1.heap.size = w.heap.size + 1 := by rw [← hW1]; simp
  obtain ⟨W2, hW2⟩ : ∃ W, W1.alloc (.cells #[.slice A' n c', .int .i64 x, .int .i64 y, .int .i64 z] 63) = W := ⟨_, rfl⟩
  have hb2 : Below w.heap.size w W2 := by rw [← hW2]; exact hb1.alloc hb1.size _
  have hb12 : Below W1.heap.size W1 W2 := by rw [← hW2]; exact (Below.refl _ _).alloc (Nat.le_refl _) _
  have ya : ∀ (j : Nat) (v : Value), [Value.slice A n c, .int .i64 x, .int .i64 y, .int .i64 z][j]? = some v → W2.cell? ⟨w.heap.size, j, none⟩ = some v := fun j v hv => by
    have h3 : W1.cell? ⟨w.heap.size, j, none⟩ = some v := by
      have := World.news_of_block (w := W1) (B := w.heap.size) (by rw [← hW1]; exact World.alloc_heap_new _ _) j v hv
      by_cases hj : j = 0
      · subst hj; simpa [Addr.add] using this
      · simpa [Addr.add, hj] using this
    exact (hb12.cell (p := ⟨w.heap.size, j, none⟩) (by show w.heap.size < W1.heap.size; omega)).trans h3
  have yb : ∀ (j : Nat) (v : Value), [Value.slice A' n c', .int .i64 x, .int .i64 y, .int .i64 z][j]? = some v → W2.cell? ⟨W1.heap.size, j, none⟩ = some v := fun j v hv => by
    have := World.news_of_block (w := W2) (B := W1.heap.size) (by rw [← hW2]; exact World.alloc_heap_new _ _) j v hv
    by_cases hj : j = 0
    · subst hj; simpa [Addr.add] using this
    · simpa [Addr.add, hj] using this
  have hs2 : W2.heap.size = w.heap.size + 2 := by rw [← hW2]; simp [hs1]
  have a0 := ya 0 _ rfl
  have a1 := ya 1 _ rfl
  have a2 := ya 2 _ rfl
  have a3 := ya 3 _ rfl
  have b0 := yb 0 _ rfl
  have b1 := yb 1 _ rfl
  have b2 := yb 2 _ rfl
  have b3 := yb 3 _ rfl
  have HB2 := Lib.hid hb2
  have HY := Lib.hid (And.intro a1 (And.intro a2 (And.intro a3 (And.intro b1 (And.intro b2 b3)))))
  have HS := Lib.hid (And.intro hs1 hs2)
  have HCI := Lib.hid (HI.out W2 hb2)
  clear ya yb hb1 hb2 hb12 hs1 hs2 h1 h2 a1 a2 a3 b1 b2 b3 HI
  go_enter Try.func30, Try.ntmps30
  go_wp2_with fail
  refine HCI.out.mono ?_
  rintro r w3 ⟨rfl, hb3⟩
  obtain ⟨a1, a2, a3, b1, b2, b3⟩ := HY.out
  have up : ∀ (p : Addr) (v : Value), W2.cell? p = some v → w3.cell? p = some v := fun p v hc => (hb3.cell (World.block_lt_of_cell? _ _ hc)).trans hc
  have a1' := up _ _ a1
  have a2' := up _ _ a2
  have a3' := up _ _ a3
  have b1' := up _ _ b1
  have b2' := up _ _ b2
  have b3' := up _ _ b3
  have HB3 := Lib.hid (HB2.out.trans (hb3.mono HB2.out.size))
  clear up a1 a2 a3 b1 b2 b3 hb3 a0 b0
  go_wp2_with fail
  go_ret
  exact ⟨by simp, HB3.out⟩
set_option maxHeartbeats 4000000 in
theorem same_any (A B : Option Addr) (ca cb K : Nat) (ss : List M.Sq) (w : World) (h1 : RdQ w w.heap.size A ss) (h2 : RdQ w w.heap.size B ss) (hK : ss.length = K) (hK1 : K ≤ 1000) (hpl : ∀ s ∈ ss, s.pl.length ≤ 1000) :
    Calls Try.prog 10 #[.slice A K ca, .slice B K cb] w fun e w' => e = .returned (.bool true) ∧ Below w.heap.size w w' := by
  have H1 := Lib.hid h1
  have H2 := Lib.hid h2
  have HK := Lib.hid hK
  have HPL := Lib.hid hpl
  have hKi : (K : Int) ≤ 1000 := by omega
  clear h1 h2 hK hpl
  go_enter Try.func10, Try.ntmps10
  go_wp2_with fail
  go_loopw [5] (fun v wr => ∃ k : Nat, k ≤ K ∧ v = .int .i64 k ∧ Below w.heap.size w wr) (fun v _ => K - (intOf v).toNat)
  case atStart => exact ⟨0, Nat.zero_le _, rfl, Below.refl _ _⟩
  case round =>
    obtain ⟨k, hk, rfl, hb⟩ := hrel
    have HB := Lib.hid hb
    have k0 : (0 : Int) ≤ k := by omega
    clear hb
    by_cases hlt : k < K
    · have k1 : (k : Int) < K := by omega
      obtain ⟨s, hs⟩ : ∃ s, ss[k]? = some s := ⟨_, List.getElem?_eq_getElem (by rw [HK.out]; exact hlt)⟩
      obtain ⟨g, Ap, cp, rfl, hg, a0, a1, a2, a3, hr, -, -, -⟩ := (H1.out.below HB.out) k s hs
      obtain ⟨g', Ap', cp', rfl, hg', b0, b1, b2, b3, hr', -, -, -⟩ := (H2.out.below HB.out) k s hs
      obtain ⟨n, hn⟩ : ∃ n, s.pl.length = n := ⟨_, rfl⟩
      rw [hn] at a0 b0
      have hnl : n ≤ 1000 := by rw [← hn]; exact HPL.out s (List.mem_of_getElem? hs)
      have HC := Lib.hid (fun d os => Calls.regrown_of (seqSame_any Ap Ap' cp cp' n s.pl s.lv s.fi s.la (Sort.grow (redrawn wr d) os) (((hr.more HB.out.size).below (below_regrown wr d os)).more (below_regrown wr d os).size) (((hr'.more HB.out.size).below (below_regrown wr d os)).more (below_regrown wr d os).size) hn hnl))
      obtain ⟨x, hx⟩ : ∃ x, s.lv = x := ⟨_, rfl⟩
      obtain ⟨y, hy⟩ : ∃ y, s.fi = y := ⟨_, rfl⟩
      obtain ⟨z, hz⟩ : ∃ z, s.la = z := ⟨_, rfl⟩
      rw [hx] at a1 b1
      rw [hy] at a2 b2
      rw [hz] at a3 b3
      rw [hx, hy, hz] at HC
      have a0' := fun d os => cell_regrown a0 d os
      have a1' := fun d os => cell_regrown a1 d os
      have a2' := fun d os => cell_regrown a2 d os
      have a3' := fun d os => cell_regrown a3 d os
      have b0' := fun d os => cell_regrown b0 d os
      have b1' := fun d os => cell_regrown b1 d os
      have b2' := fun d os => cell_regrown b2 d os
      have b3' := fun d os => cell_regrown b3 d os
      clear hs hr hr' hn hx hy hz
      go_wp2_with fail
      refine wp_region_quiet_below (by kernel_rfl) (by kernel_rfl) ?_
      repeat (go_big_quiet_step (exact HC.out _ _))
      refine wpQuiet_nil ?_
      intro _ hw'
      obtain ⟨⟨dq, osq⟩, hw4⟩ := hw'
      subst hw4
      have hbg := below_regrown wr dq osq
      obtain ⟨X, hX⟩ : ∃ Z, Sort.grow (redrawn wr dq) osq = Z := ⟨_, rfl⟩
      rw [hX] at hbg
      dsimp only
      rw [hX]
      have HX := Lib.hid (HB.out.trans (hbg.mono HB.out.size))
      clear hX hbg a0' a1' a2' a3' b0' b1' b2' b3'
      go_wp2_with fail
      go_roundw
      case rel => exact ⟨k + 1, by omega, by go_num, HX.out⟩
      case measure => simp [intOf]; omega
    · obtain rfl : k = K := by omega
      have hnk : ¬ (k : Int) < (k : Int) := by omega
      go_wp2_with fail
      go_ret
      exact ⟨rfl, HB.out⟩
end Go.Proofs.Yticiofpbijahbaa
end
