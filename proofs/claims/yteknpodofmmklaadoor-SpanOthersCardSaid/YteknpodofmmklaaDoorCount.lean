/- The contracts of utf's count and asked over the translation. Conditions: the variable lengths holds the four rows of the program's text. -/
import Derived.Test.YteknpodofmmklaaDoorLeaf
namespace Go.Proofs.YteknpodofmmklaaDoor
open Go.RowKit

def lensCells : Array Value := #[.int .i64 0, .int .i64 0, .int .i64 127, .int .i64 128, .int .i64 192, .int .i64 223, .int .i64 2048, .int .i64 224, .int .i64 239, .int .i64 65536, .int .i64 240, .int .i64 247]
/-- The block of the variable lengths. -/
def LensOk (w : World) : Prop := ∃ t fr, w.heap[1]? = some (.cells lensCells t fr)
theorem LensOk.lt {w : World} (h : LensOk w) : 1 < w.heap.size := by
  obtain ⟨t, fr, hg⟩ := h
  rcases Nat.lt_or_ge 1 w.heap.size with hlt | hge
  · exact hlt
  · rw [Array.getElem?_eq_none hge] at hg; cases hg
theorem LensOk.below {w w' : World} {B : Nat} (h : LensOk w) (hb : Below B w w') (hB : 1 < B) : LensOk w' := by
  obtain ⟨t, fr, hg⟩ := h
  exact ⟨t, fr, (hb.block _ hB).trans hg⟩

theorem ix0 (w : World) : (Instr.index 74 (.agg lensCells) (.int .i64 0)).run Tryd.prog w = .ok (.agg #[.int .i64 0, .int .i64 0, .int .i64 127]) w := by kernel_rfl
theorem ix1 (w : World) : (Instr.index 74 (.agg lensCells) (.int .i64 1)).run Tryd.prog w = .ok (.agg #[.int .i64 128, .int .i64 192, .int .i64 223]) w := by kernel_rfl
theorem ix2 (w : World) : (Instr.index 74 (.agg lensCells) (.int .i64 2)).run Tryd.prog w = .ok (.agg #[.int .i64 2048, .int .i64 224, .int .i64 239]) w := by kernel_rfl
theorem ix3 (w : World) : (Instr.index 74 (.agg lensCells) (.int .i64 3)).run Tryd.prog w = .ok (.agg #[.int .i64 65536, .int .i64 240, .int .i64 247]) w := by kernel_rfl

set_option maxHeartbeats 1000000 in
theorem count_any (c : Int) (w : World) (hc : 0 ≤ c) (hl : LensOk w) :
    Calls Tryd.prog 60 #[.int .i64 c] w fun e w' => e = .returned (.int .i64 (M.cnt c)) ∧ Below w.heap.size w w' := by
  obtain ⟨t, fr, hg⟩ := hl
  have i0 := ix0
  have i1 := ix1
  have i2 := ix2
  have i3 := ix3
  go_enter Tryd.func60, Tryd.ntmps60
  go_wp2_with (refine wpList_load_row rfl 74 _ rfl 1 rfl t _ fr _ hg Tryd.underlying74 rfl (by kernel_rfl) ?_)
  go_loopw [3, 7] (fun n i wr => ∃ k : Nat, k ≤ 4 ∧ i = .int .i64 k ∧ n = .int .i64 (M.cntTo c k) ∧ Below w.heap.size w wr) (fun _ i _ => 4 - (intOf i).toNat)
  case atStart => exact ⟨0, Nat.zero_le _, rfl, rfl, Below.refl _ _⟩
  case round =>
    obtain ⟨k, hk, rfl, rfl, hb⟩ := hrel
    match k, hk with
    | 0, _ =>
      rw [show M.cntTo c 0 = 0 from rfl]
      go_wp2
      go_roundw
      case rel => exact ⟨1, by omega, by go_num, by simp [M.cntTo], hb.alloc hb.size _⟩
      case measure => simp [intOf]
    | 1, _ =>
      by_cases h : 128 ≤ c
      · have HS := Lib.hid (M.cntTo_at2 h)
        rw [show M.cntTo c 1 = 1 by simp [M.cntTo]]
        go_wp2
        go_roundw
        case rel => exact ⟨2, by omega, by go_num, by rw [HS.out] <;> go_num, hb.alloc hb.size _⟩
        case measure => simp [intOf]
      · have HS := Lib.hid (M.cntTo_no2 h)
        generalize M.cntTo c 1 = q at *
        go_wp2
        go_roundw
        case rel => exact ⟨2, by omega, by go_num, by rw [HS.out], hb.alloc hb.size _⟩
        case measure => simp [intOf]
    | 2, _ =>
      by_cases h : 2048 ≤ c
      · have HS := Lib.hid (M.cntTo_at3 h)
        rw [M.cntTo_at2 (by omega)]
        go_wp2
        go_roundw
        case rel => exact ⟨3, by omega, by go_num, by rw [HS.out] <;> go_num, hb.alloc hb.size _⟩
        case measure => simp [intOf]
      · have HS := Lib.hid (M.cntTo_no3 h)
        generalize M.cntTo c 2 = q at *
        go_wp2
        go_roundw
        case rel => exact ⟨3, by omega, by go_num, by rw [HS.out], hb.alloc hb.size _⟩
        case measure => simp [intOf]
    | 3, _ =>
      by_cases h : 65536 ≤ c
      · have HS := Lib.hid (M.cntTo_at4 h)
        rw [M.cntTo_at3 (by omega)]
        go_wp2
        go_roundw
        case rel => exact ⟨4, by omega, by go_num, by rw [HS.out] <;> go_num, hb.alloc hb.size _⟩
        case measure => simp [intOf]
      · have HS := Lib.hid (M.cntTo_no4 h)
        generalize M.cntTo c 3 = q at *
        go_wp2
        go_roundw
        case rel => exact ⟨4, by omega, by go_num, by rw [HS.out], hb.alloc hb.size _⟩
        case measure => simp [intOf]
    | 4, _ =>
      rw [show M.cntTo c 4 = M.cnt c from rfl]
      go_wp2
      go_ret
      exact ⟨rfl, hb⟩
end Go.Proofs.YteknpodofmmklaaDoor
