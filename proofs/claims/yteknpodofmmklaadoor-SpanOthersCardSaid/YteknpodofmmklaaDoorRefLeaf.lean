/- The contracts of the document's Scalar and Bytes over the translation. -/
import Derived.Test.YteknpodofmmklaaDoorLeaf
import Derived.Test.YteknpodofmmklaaDoorReads
import Derived.Test.YteknpodofmmklaaDoorMathD
namespace Go.Proofs.YteknpodofmmklaaDoor
open Go.RowKit

set_option maxHeartbeats 400000 in
theorem refScalar_any (c : Int) (w : World) :
    Calls Tryd.prog 45 #[.int .i64 c] w fun e w' => e = .returned (.bool (M.scal c)) ∧ w = w' := by
  by_cases h1 : 0 ≤ c
  · by_cases h2 : c ≤ 1114111
    · by_cases h3 : c < 55296
      · have hs : M.scal c = true := by simp [M.scal]; omega
        rw [hs]; clear hs
        go_enter Tryd.func45, Tryd.ntmps45
        go_wp2
        go_ret
        exact ⟨rfl, rfl⟩
      · by_cases h4 : 57343 < c
        · have hs : M.scal c = true := by simp [M.scal]; omega
          rw [hs]; clear hs
          go_enter Tryd.func45, Tryd.ntmps45
          go_wp2
          go_ret
          exact ⟨rfl, rfl⟩
        · have hs : M.scal c = false := by simp [M.scal]; omega
          rw [hs]; clear hs
          go_enter Tryd.func45, Tryd.ntmps45
          go_wp2
          go_ret
          exact ⟨rfl, rfl⟩
    · have hs : M.scal c = false := by simp [M.scal]; omega
      rw [hs]; clear hs
      go_enter Tryd.func45, Tryd.ntmps45
      go_wp2
      go_ret
      exact ⟨rfl, rfl⟩
  · have hs : M.scal c = false := by simp [M.scal]; omega
    rw [hs]; clear hs
    go_enter Tryd.func45, Tryd.ntmps45
    go_wp2
    go_ret
    exact ⟨rfl, rfl⟩

/-- What the document's Bytes leaves. -/
def BytesOut (w : World) (bs : List Int) (e : Ending) (w' : World) : Prop :=
  ∃ A' c', e = .returned (.slice A' bs.length c') ∧ RdS .u8 w' w'.heap.size A' bs ∧ (A' = none → c' = 0) ∧ Below w.heap.size w w'
theorem bytesOut_lit (w : World) (bs : List Int) (t : TypeId) (cs : Array Value) (hcs : cs.toList = bs.map (Value.int .u8)) :
    BytesOut w bs (.returned (.slice (some ⟨w.heap.size, 0, none⟩) bs.length bs.length)) (w.alloc (.cells cs t)) := by
  refine ⟨_, _, rfl, fun j x hx => ⟨_, rfl, by simp, ?_⟩, (fun h => by cases h), (Below.refl _ _).alloc (Nat.le_refl _) _⟩
  have hadd : (⟨w.heap.size, 0, none⟩ : Addr).add j = ⟨w.heap.size, j, none⟩ := by unfold Addr.add; split <;> simp_all
  rw [hadd, cell_of_row _ _ _ cs t (0, 0) (heap_alloc_new w _)]
  have : cs[j]? = (bs.map (Value.int .u8))[j]? := by rw [← hcs]; simp
  rw [this, List.getElem?_map, hx]
  rfl

set_option maxHeartbeats 400000 in
theorem refBytes_1 (c : Int) (w : World) (h0 : 0 ≤ c) (h1 : c ≤ 127) :
    Calls Tryd.prog 46 #[.int .i64 c] w (BytesOut w (M.bytes1 c)) := by
  rw [M.bytes_eq1 h0 h1]
  go_enter Tryd.func46, Tryd.ntmps46
  go_wp2
  go_ret
  exact bytesOut_lit w [c] 5 #[.int .u8 (c)] rfl

set_option maxHeartbeats 400000 in
theorem refBytes_2 (c : Int) (w : World) (h0 : 128 ≤ c) (h1 : c ≤ 2047) :
    Calls Tryd.prog 46 #[.int .i64 c] w (BytesOut w (M.bytes1 c)) := by
  rw [M.bytes_eq2 h0 h1]
  go_enter Tryd.func46, Tryd.ntmps46
  go_wp2
  go_ret
  exact bytesOut_lit w [192 + c / 64, 128 + c % 64] 5 #[.int .u8 (192 + c / 64), .int .u8 (128 + c % 64)] rfl

set_option maxHeartbeats 400000 in
theorem refBytes_3 (c : Int) (w : World) (h0 : 2048 ≤ c) (h1 : c ≤ 65535) :
    Calls Tryd.prog 46 #[.int .i64 c] w (BytesOut w (M.bytes1 c)) := by
  rw [M.bytes_eq3 h0 h1]
  go_enter Tryd.func46, Tryd.ntmps46
  go_wp2
  go_ret
  exact bytesOut_lit w [224 + c / 4096, 128 + c / 64 % 64, 128 + c % 64] 5 #[.int .u8 (224 + c / 4096), .int .u8 (128 + c / 64 % 64), .int .u8 (128 + c % 64)] rfl

set_option maxHeartbeats 400000 in
theorem refBytes_4 (c : Int) (w : World) (h0 : 65536 ≤ c) (h1 : c ≤ 1114111) :
    Calls Tryd.prog 46 #[.int .i64 c] w (BytesOut w (M.bytes1 c)) := by
  rw [M.bytes_eq4 h0 h1]
  go_enter Tryd.func46, Tryd.ntmps46
  go_wp2
  go_ret
  exact bytesOut_lit w [240 + c / 262144, 128 + c / 4096 % 64, 128 + c / 64 % 64, 128 + c % 64] 5 #[.int .u8 (240 + c / 262144), .int .u8 (128 + c / 4096 % 64), .int .u8 (128 + c / 64 % 64), .int .u8 (128 + c % 64)] rfl

theorem refBytes_any (c : Int) (w : World) (hs : M.scal c = true) : Calls Tryd.prog 46 #[.int .i64 c] w (BytesOut w (M.bytes1 c)) := by
  obtain ⟨h0, h1⟩ := M.scal_range hs
  rcases (show c ≤ 127 ∨ (128 ≤ c ∧ c ≤ 2047) ∨ (2048 ≤ c ∧ c ≤ 65535) ∨ 65536 ≤ c by omega) with h | ⟨h, h'⟩ | ⟨h, h'⟩ | h
  · exact refBytes_1 c w h0 h
  · exact refBytes_2 c w h h'
  · exact refBytes_3 c w h h'
  · exact refBytes_4 c w h h1
end Go.Proofs.YteknpodofmmklaaDoor
