/- The contract of the document's Match. Condition: the slice reads as a list of classes, at most a thousand long. -/
import Derived.Test.YticiofpbijahbaaGBc
section
namespace Go.Proofs.Yticiofpbijahbaa
open Go.RowKit
set_option maxRecDepth 100000

theorem Try.infoInt : (Try.prog.info? 3).map (fun i => (i.zero, i.size, i.bytes)) = some (some (.int .i64 0), 1, 8) := by kernel_rfl
/-- The first k isolates' ends. -/
def M.matchTo (l : List Int) (k : Nat) : List Int := (List.range k).map (M.endI l)
def M.matchI (l : List Int) : List Int := M.matchTo l l.length
theorem M.matchTo_len (l : List Int) (k : Nat) : (M.matchTo l k).length = k := by simp [M.matchTo]
theorem M.matchTo_succ (l : List Int) (k : Nat) : M.matchTo l (k + 1) = M.matchTo l k ++ [M.endI l k] := by simp [M.matchTo, List.range_succ]
set_option maxHeartbeats 4000000 in
theorem refMatch_any (A : Option Addr) (ca n : Nat) (l : List Int) (w : World) (hr : RdS .i64 w w.heap.size A l) (hn : l.length = n) (hl : n ≤ 1000) :
    Calls Try.prog 25 #[.slice A n ca] w (RowOut 3 (M.matchI l) w) := by
  obtain ⟨i0, hi, hz0, hz1, hz2⟩ := info_parts Try.infoInt
  have HR := Lib.hid hr
  have HN := Lib.hid hn
  have hl1 : (n : Int) ≤ 1000 := by omega
  clear hr hn
  go_enter Try.func25, Try.ntmps25
  go_wp2_with fail
  go_loopw [3, 4] (fun v i wr => ∃ k : Nat, k ≤ n ∧ i = .int .i64 k ∧ wr.ownsRow w.heap.size 3 1 v k ((M.matchTo l k).map (Value.int .i64)) ∧ Below w.heap.size w wr) (fun _ i _ => n - (intOf i).toNat)
  case atStart => exact ⟨0, Nat.zero_le _, rfl, World.ownsRow_nil _ _ _ _, Below.refl _ _⟩
  case round =>
    obtain ⟨k, hk, rfl, hown, hb⟩ := hrel
    have HO := Lib.hid hown
    have HB := Lib.hid hb
    have hbs := hb.size
    clear hown hb
    by_cases hlt : k < n
    · have HE := Lib.hid (end_any A ca n k l wr ((HR.out.below HB.out).more hbs) HN.out hl hlt)
      obtain ⟨e, he⟩ : ∃ e, M.endI l k = e := ⟨_, rfl⟩
      rw [he] at HE
      have HS := Lib.hid ((M.matchTo_succ l k).trans (by rw [he]))
      have hk1 : (k : Int) < (n : Int) := by omega
      clear he
      go_wp2_with fail
      refine HE.out.mono ?_
      rintro r w1 ⟨rfl, rfl⟩
      go_wp2_with (at_builtin; refine wpList_append_own _ rfl _ _ 23 rfl w.heap.size 3 i0 (.int .i64 0) 1 8 Try.underlying23 hi hz0 hz1 hz2 rfl (by decide) _ _ _ rfl (World.ownsRow.alloc HO.out _) ⟨wr.heap.size, 0, none⟩ 1 1 [.int .i64 e] rfl rfl (one_new _ _ _) one_cell (by unfold maxLen; omega) (by omega) (by simp; omega) ?_)
      intro v3 w3 hown3 hgrow3 _
      have HO3 := Lib.hid (show w3.ownsRow w.heap.size 3 1 v3 (k + 1) ((M.matchTo l (k + 1)).map (Value.int .i64)) by rw [HS.out, List.map_append]; exact hown3)
      have HB3 := Lib.hid ((HB.out.alloc hbs _).grown hgrow3 (by simp; omega) (fun q hq => (World.ownsRow.lt HO.out q hq).1))
      clear hown3 hgrow3
      go_wp2_with fail
      go_roundw
      case rel => exact ⟨k + 1, by omega, by go_num, HO3.out, HB3.out⟩
      case measure => simp [intOf]; omega
    · obtain rfl : k = n := by omega
      go_wp2_with fail
      go_ret
      refine ⟨_, rfl, ?_, HB.out⟩
      unfold M.matchI
      rw [M.matchTo_len, HN.out]
      exact HO.out
end Go.Proofs.Yticiofpbijahbaa
end
