/- The contract of utf's asked over the translation. Conditions: the variable lengths holds the four rows of the program's text. -/
import Derived.Test.YteknpodofmmklaaDoorCount
namespace Go.Proofs.YteknpodofmmklaaDoor
open Go.RowKit

def AskRel (h : Int) (k : Nat) : Prop := (1 ≤ k → 127 < h) ∧ (2 ≤ k → (h < 192 ∨ 223 < h)) ∧ (3 ≤ k → (h < 224 ∨ 239 < h)) ∧ (4 ≤ k → (h < 240 ∨ 247 < h))

set_option maxHeartbeats 1000000 in
theorem asked_any (c : Int) (w : World) (hc : 0 ≤ c) (hc2 : c ≤ 255) (hl : LensOk w) :
    Calls Tryd.prog 57 #[.int .i64 c] w fun e w' => e = .returned (.int .i64 (M.askd c)) ∧ Below w.heap.size w w' := by
  obtain ⟨t, fr, hg⟩ := hl
  have i0 := ix0
  have i1 := ix1
  have i2 := ix2
  have i3 := ix3
  go_enter Tryd.func57, Tryd.ntmps57
  go_wp2_with (refine wpList_load_row rfl 74 _ rfl 1 rfl t _ fr _ hg Tryd.underlying74 rfl (by kernel_rfl) ?_)
  go_loopw [6] (fun i wr => ∃ k : Nat, k ≤ 4 ∧ i = .int .i64 k ∧ AskRel c k ∧ Below w.heap.size w wr) (fun i _ => 4 - (intOf i).toNat)
  case atStart => exact ⟨0, Nat.zero_le _, rfl, ⟨by omega, by omega, by omega, by omega⟩, Below.refl _ _⟩
  case round =>
    obtain ⟨k, hk, rfl, hr, hb⟩ := hrel
    obtain ⟨r1, r2, r3, r4⟩ := hr
    match k, hk with
    | 0, _ =>
      rcases (show c < 0 ∨ 127 < c ∨ (0 ≤ c ∧ c ≤ 127) by omega) with h | h | ⟨h, h'⟩
      · omega
      · have h' : 0 ≤ c := by omega
        go_wp2
        go_roundw
        case rel => exact ⟨1, by omega, by go_num, ⟨by omega, by omega, by omega, by omega⟩, hb.alloc hb.size _⟩
        case measure => simp [intOf]
      · have HS := Lib.hid (show M.askd c = 1 from by first | (rw [M.askd, if_pos (by omega)]) | (rw [M.askd, if_neg (by omega), if_neg (by omega), if_pos (by omega)]) | (rw [M.askd, if_neg (by omega), if_neg (by omega), if_neg (by omega), if_pos (by omega)]) | (rw [M.askd, if_neg (by omega), if_neg (by omega), if_neg (by omega), if_neg (by omega), if_pos (by omega)]))
        go_wp2
        go_ret
        exact ⟨by rw [HS.out] <;> go_num, hb.alloc hb.size _⟩
    | 1, _ =>
      rcases (show c < 192 ∨ 223 < c ∨ (192 ≤ c ∧ c ≤ 223) by omega) with h | h | ⟨h, h'⟩
      · go_wp2
        go_roundw
        case rel => exact ⟨2, by omega, by go_num, ⟨by omega, by omega, by omega, by omega⟩, hb.alloc hb.size _⟩
        case measure => simp [intOf]
      · have h' : 192 ≤ c := by omega
        go_wp2
        go_roundw
        case rel => exact ⟨2, by omega, by go_num, ⟨by omega, by omega, by omega, by omega⟩, hb.alloc hb.size _⟩
        case measure => simp [intOf]
      · have HS := Lib.hid (show M.askd c = 2 from by first | (rw [M.askd, if_pos (by omega)]) | (rw [M.askd, if_neg (by omega), if_neg (by omega), if_pos (by omega)]) | (rw [M.askd, if_neg (by omega), if_neg (by omega), if_neg (by omega), if_pos (by omega)]) | (rw [M.askd, if_neg (by omega), if_neg (by omega), if_neg (by omega), if_neg (by omega), if_pos (by omega)]))
        go_wp2
        go_ret
        exact ⟨by rw [HS.out] <;> go_num, hb.alloc hb.size _⟩
    | 2, _ =>
      rcases (show c < 224 ∨ 239 < c ∨ (224 ≤ c ∧ c ≤ 239) by omega) with h | h | ⟨h, h'⟩
      · go_wp2
        go_roundw
        case rel => exact ⟨3, by omega, by go_num, ⟨by omega, by omega, by omega, by omega⟩, hb.alloc hb.size _⟩
        case measure => simp [intOf]
      · have h' : 224 ≤ c := by omega
        go_wp2
        go_roundw
        case rel => exact ⟨3, by omega, by go_num, ⟨by omega, by omega, by omega, by omega⟩, hb.alloc hb.size _⟩
        case measure => simp [intOf]
      · have HS := Lib.hid (show M.askd c = 3 from by first | (rw [M.askd, if_pos (by omega)]) | (rw [M.askd, if_neg (by omega), if_neg (by omega), if_pos (by omega)]) | (rw [M.askd, if_neg (by omega), if_neg (by omega), if_neg (by omega), if_pos (by omega)]) | (rw [M.askd, if_neg (by omega), if_neg (by omega), if_neg (by omega), if_neg (by omega), if_pos (by omega)]))
        go_wp2
        go_ret
        exact ⟨by rw [HS.out] <;> go_num, hb.alloc hb.size _⟩
    | 3, _ =>
      rcases (show c < 240 ∨ 247 < c ∨ (240 ≤ c ∧ c ≤ 247) by omega) with h | h | ⟨h, h'⟩
      · go_wp2
        go_roundw
        case rel => exact ⟨4, by omega, by go_num, ⟨by omega, by omega, by omega, by omega⟩, hb.alloc hb.size _⟩
        case measure => simp [intOf]
      · have h' : 240 ≤ c := by omega
        go_wp2
        go_roundw
        case rel => exact ⟨4, by omega, by go_num, ⟨by omega, by omega, by omega, by omega⟩, hb.alloc hb.size _⟩
        case measure => simp [intOf]
      · have HS := Lib.hid (show M.askd c = 4 from by first | (rw [M.askd, if_pos (by omega)]) | (rw [M.askd, if_neg (by omega), if_neg (by omega), if_pos (by omega)]) | (rw [M.askd, if_neg (by omega), if_neg (by omega), if_neg (by omega), if_pos (by omega)]) | (rw [M.askd, if_neg (by omega), if_neg (by omega), if_neg (by omega), if_neg (by omega), if_pos (by omega)]))
        go_wp2
        go_ret
        exact ⟨by rw [HS.out] <;> go_num, hb.alloc hb.size _⟩
    | 4, _ =>
      have HS := Lib.hid (show M.askd c = 0 from by
        rw [M.askd, if_neg (by omega)]
        by_cases h : c ≤ 191
        · rw [if_pos h]
        · rw [if_neg h, if_neg (by omega), if_neg (by omega), if_neg (by omega)])
      go_wp2
      go_ret
      exact ⟨by rw [HS.out] <;> go_num, hb⟩
end Go.Proofs.YteknpodofmmklaaDoor
