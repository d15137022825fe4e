/- A string made bytes: a new row that holds the string's bytes; nothing that was there changes. -/
import Derived.Test.YtjkhkhanjeeniaaGreatDoorAlive
import Derived.Lib.ConvBytes
namespace Go.Proofs.YtjkhkhanjeeniaaGreatDoor
open Go.RowKit

theorem conv_bytes (s : ByteArray) (w : World) (hs : s.size ≤ maxLen) : ∃ (w' : World) (c : Nat), (convert 9 22 (.string s)).run Tryz.prog w = .ok (.slice (some ⟨w.heap.size, 0, none⟩) s.size c) w' ∧ Below w.heap.size w w' ∧ RdB w' w'.heap.size (some ⟨w.heap.size, 0, none⟩) s.data.toList ∧ s.size ≤ c ∧ c ≤ maxLen := by
  refine ⟨_, _, run_bytes_of_string w 9 22 5 s Tryz.underlying9 Tryz.underlying22 Tryz.underlying5, (Below.refl _ _).drew.alloc (Nat.le_refl _) _, fun j x hx => ?_, grownCap_ge _ _ _ _, grownCap_le_maxLen _ _ _ _ hs⟩
  refine ⟨_, rfl, by simp, ?_⟩
  unfold ints at hx
  rw [List.getElem?_map] at hx
  cases hc : s.data.toList[j]? with
  | none => rw [hc] at hx; cases hx
  | some c =>
    rw [hc] at hx
    obtain rfl : (c.toNat : Int) = x := by simpa using hx
    have hj : j < s.data.size := by have := (List.getElem?_eq_some_iff.1 hc).1; simpa using this
    rw [addr0_add]
    refine (cell_of_row _ w.drew.heap.size _ _ _ _ (heap_alloc_new w.drew _)).trans ?_
    unfold bytesRow
    rw [Array.getElem?_append_left (by simpa using hj), Array.getElem?_map]
    rw [Array.getElem?_toList] at hc
    rw [hc]
    rfl
end Go.Proofs.YtjkhkhanjeeniaaGreatDoor
