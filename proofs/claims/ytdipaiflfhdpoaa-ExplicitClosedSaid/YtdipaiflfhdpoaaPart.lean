/- The contract of the statements' part over the translation: the slice's first twenty. Condition: the list is as long as the slice. -/
import Derived.Test.YtdipaiflfhdpoaaWholeWalk
namespace Go.Proofs.Ytdipaiflfhdpoaa
open Go.RowKit

set_option maxHeartbeats 1000000 in
theorem part_any (A : Option Addr) (ca n : Nat) (l : List Int) (w : World) (hn : l.length = n) (hl : n ≤ 1000) (hca : n ≤ ca) :
    Calls Try.prog 19 #[.slice A n ca] w (fun r w' => r = .returned (.slice A (l.take 20).length ca) ∧ w' = w) := by
  have HN := Lib.hid hn
  have hl1 : (n : Int) ≤ 1000 := by omega
  have hk0 : (0 : Int) ≤ (n : Int) := by omega
  have hkc : (n : Int) ≤ (ca : Int) := by omega
  clear hn
  go_enter Try.func19, Try.ntmps19
  by_cases h : (n : Int) < 20
  · have HT := Lib.hid (show l.take 20 = l from List.take_of_length_le (by rw [HN.out]; omega))
    go_wp2_with fail
    go_ret
    refine ⟨?_, rfl⟩
    show _ = Ending.returned (.slice A (l.take 20).length ca)
    rw [HT.out, HN.out]
    rfl
  · by_cases h2 : n = 20
    · subst h2
      go_wp2_with fail
      go_ret
      refine ⟨?_, rfl⟩
      rw [show min 20 l.length = 20 by rw [HN.out]; omega]
      rfl
    · have h20 : (20 : Int) ≤ (ca : Int) := by omega
      have h21 : 20 ≤ ca := by omega
      have h22 : (20 : Int) < (n : Int) := by omega
      have h23 : ¬ (n : Int) ≤ 20 := by omega
      clear h2
      go_wp2_with fail
      go_ret
      refine ⟨?_, rfl⟩
      rw [show min 20 l.length = 20 by rw [HN.out]; omega]
      rfl
end Go.Proofs.Ytdipaiflfhdpoaa
