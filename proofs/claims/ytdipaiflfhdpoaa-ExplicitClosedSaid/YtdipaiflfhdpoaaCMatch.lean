/- The contract of package explicit's Match. Condition: the slice reads as a list of classes, at most a thousand long. -/
import Derived.Test.YtdipaiflfhdpoaaCIso
namespace Go.Proofs.Ytdipaiflfhdpoaa
open Go.RowKit

/-- The first k ends, then noughts. -/
theorem M.match_fill {l : List Int} {k n : Nat} (hk : k < n) : (M.matchTo l k ++ List.replicate (n - k) 0).set k (M.endI l k) = M.matchTo l (k + 1) ++ List.replicate (n - (k + 1)) 0 := by
  rw [M.matchTo_succ, List.set_append_right _ _ (by rw [M.matchTo_len]; exact Nat.le_refl _), M.matchTo_len, Nat.sub_self]
  obtain ⟨m, hm⟩ : ∃ m, n - k = m + 1 := ⟨n - k - 1, by omega⟩
  rw [hm, List.replicate_succ, List.set_cons_zero, List.append_assoc, show n - (k + 1) = m by omega]
  rfl
theorem rep_cells (n : Nat) : (madeCells (Value.int IntKind.i64 0).cells (n * 1)).toList = (List.replicate n (0 : Int)).map (Value.int .i64) := by
  rw [Nat.mul_one, List.map_replicate]
  exact toList_madeCells_one _ _
set_option maxHeartbeats 8000000 in
theorem cmatch_any (A : Option Addr) (ca n : Nat) (l : List Int) (w : World) (hr : RdS .i64 w w.heap.size A l) (hn : l.length = n) (hl : n ≤ 1000) :
    Calls Try.prog 10 #[.slice A n ca] w (RowOut 3 (M.matchI l) w) := by
  obtain ⟨i0, hi, hz0, hz1, hz2⟩ := info_parts Try.infoInt
  have hmk := run_make (P := Try.prog) w 25 3 i0 (.int .i64 0) Try.underlying25 hi hz0 .i64 .i64 n n (by omega) (Int.le_refl _) (by rw [hz2]; omega) (by omega)
  rw [Int.toNat_natCast, hz1] at hmk
  obtain ⟨W1, hW1⟩ : ∃ W1, w.alloc (.cells (madeCells (Value.int .i64 0).cells (n * 1)) 3) = W1 := ⟨_, rfl⟩
  have h1 : W1.ownsRow w.heap.size 3 1 (.slice (some ⟨w.heap.size, 0, none⟩) n n) n ((M.matchTo l 0 ++ List.replicate (n - 0) 0).map (Value.int .i64)) := by
    rw [← hW1, show M.matchTo l 0 ++ List.replicate (n - 0) 0 = List.replicate n 0 from rfl, ← rep_cells]
    exact World.ownsRow_lit w _ n (Nat.le_refl _) (by unfold maxLen; omega) (by simp [madeCells])
  have hb1 : Below w.heap.size w W1 := by rw [← hW1]; exact (Below.refl _ _).alloc (Nat.le_refl _) _
  have hs1 : w.heap.size < W1.heap.size := by rw [← hW1]; simp
  rw [hW1] at hmk
  have HI := Lib.hid (isolates_any A ca n l W1 ((hr.below hb1).more hb1.size) hn hl)
  have H1 := Lib.hid h1
  have HB := Lib.hid hb1
  have HN := Lib.hid hn
  have hl1 : (n : Int) ≤ 1000 := by omega
  clear hr hn h1 hW1 hz0 hz1 hz2 hi hb1
  go_enter Try.func10, Try.ntmps10
  go_wp2_with fail
  refine HI.out.mono ?_
  rintro r w2 ⟨G, all, rfl, hra, hfin, hb2⟩
  have HRA := Lib.hid hra
  have HF := Lib.hid hfin
  have HB2 := Lib.hid hb2
  have hsz := hb2.size
  clear hra hfin hb2
  have H2 := Lib.hid (own_below H1.out HB2.out)
  have HB3 := Lib.hid (HB.out.trans (HB2.out.mono (Nat.le_of_lt hs1)))
  have hG := World.ownsRow.lt HRA.out G rfl
  go_wp2_with fail
  go_loopw [12] (fun v wr => ∃ k : Nat, v = .int .i64 k ∧ k ≤ n ∧ wr.ownsRow w.heap.size 3 1 (.slice (some ⟨w.heap.size, 0, none⟩) n n) n ((M.matchTo l k ++ List.replicate (n - k) 0).map (Value.int .i64)) ∧ wr.ownsRow W1.heap.size 46 2 (.slice (some ⟨G, 0, none⟩) n n) n (isoCells all) ∧ Below w.heap.size w wr) (fun v _ => n - (intOf v).toNat)
  case atStart => exact ⟨0, rfl, Nat.zero_le _, H2.out, HRA.out, HB3.out⟩
  case round =>
    obtain ⟨k, rfl, hk, ho, hra, hb⟩ := hrel
    have HO := Lib.hid ho
    have HA := Lib.hid hra
    have HB4 := Lib.hid hb
    have k0 : (0 : Int) ≤ k := by omega
    by_cases hlt : k < n
    · have k1 : (k : Int) < n := by omega
      obtain ⟨⟨e, f⟩, hx, hfx⟩ := HF.out k hlt
      have he : e = M.endI l k := hfx.1
      obtain ⟨q0, q1⟩ := isoCells_at hx
      have c0 : wr.cell? ⟨G, k * 2, none⟩ = some (.int .i64 e) := (hra.cellAt _ (by omega)).trans q0
      have c1 : wr.cell? ⟨G, k * 2 + 1, none⟩ = some (.int .i64 f) := (hra.cellAt _ (by omega)).trans q1
      obtain ⟨y, hy⟩ : ∃ y, (M.matchTo l k ++ List.replicate (n - k) 0)[k]? = some y := ⟨_, List.getElem?_eq_getElem (by simp [M.matchTo_len]; omega)⟩
      have cy : wr.cell? ⟨w.heap.size, k, none⟩ = some (.int .i64 y) := (ho.cellAt _ (by omega)).trans (by rw [List.getElem?_map, hy]; rfl)
      have fy := ho.frozenAt k
      have hfill := M.match_fill (l := l) hlt
      rw [← he] at hfill
      have HFI := Lib.hid hfill
      have hgw := (World.ownsRow.lt ho w.heap.size rfl).2
      have hgw2 : G < wr.heap.size := (World.ownsRow.lt hra G rfl).2
      have HO5 := Lib.hid ((World.ownsRow.stored ho k (.int .i64 e)).1.alloc (.cells #[.int .i64 e, .int .i64 f] 46))
      have HA5 := Lib.hid ((ownsRow_setCell_other (a := ⟨w.heap.size, k, none⟩) hra (by simp [Value.ownBlock]; omega) (.int .i64 e)).alloc (.cells #[.int .i64 e, .int .i64 f] 46))
      have HB5 := Lib.hid ((hb.setCell (p := ⟨w.heap.size, k, none⟩) (Nat.le_refl _) (.int .i64 e)).alloc (by simp [World.setCell]; omega) (.cells #[.int .i64 e, .int .i64 f] 46))
      clear ho hra hb q0 q1 hy hfx hx hfill he hs1 hsz hG
      go_wp2_with fail
      go_roundw
      case rel => exact ⟨k + 1, by go_num, by omega, by rw [← HFI.out, List.map_set]; exact HO5.out, HA5.out, HB5.out⟩
      case measure => simp [intOf]; omega
    · obtain rfl : k = n := by omega
      clear ho hra hb
      go_wp2_with fail
      go_ret
      refine ⟨_, rfl, ?_, HB4.out⟩
      have q := HO.out
      rw [Nat.sub_self, List.replicate_zero, List.append_nil] at q
      unfold M.matchI
      rw [M.matchTo_len, HN.out]
      exact q
end Go.Proofs.Ytdipaiflfhdpoaa
