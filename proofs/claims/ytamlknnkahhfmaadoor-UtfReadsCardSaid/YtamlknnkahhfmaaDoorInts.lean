/- The contract of the document's Ints over the translation, at two slices that read as one list: true. -/
import Derived.Test.YtamlknnkahhfmaaDoorLeaf
import Derived.Test.YtamlknnkahhfmaaDoorReads
import Derived.Deep.QuietTactic
import Derived.BigQuiet
namespace Go.Proofs.YtamlknnkahhfmaaDoor
open Go.RowKit

set_option maxHeartbeats 1000000 in
theorem ints_same (A A' : Option Addr) (c c' : Nat) (l : List Int) (B B' : Nat) (w : World) (hlen : l.length ≤ 100000) (h1 : RdS .i64 w B A l) (h2 : RdS .i64 w B' A' l) :
    Calls Tryd.prog 19 #[.slice A l.length c, .slice A' l.length c'] w fun e w' => e = .returned (.bool true) ∧ ∃ n, w' = w.drewN n := by
  have H1 := Lib.hid h1
  have H2 := Lib.hid h2
  clear h1 h2
  go_enter Tryd.func19, Tryd.ntmps19
  go_wp2
  go_loopw [5] (fun i wr => ∃ k n : Nat, k ≤ l.length ∧ i = .int .i64 k ∧ wr = w.drewN n) (fun i _ => l.length - (intOf i).toNat)
  case atStart => exact ⟨0, 0, Nat.zero_le _, rfl, rfl⟩
  case round =>
    obtain ⟨k, n, hk, rfl, rfl⟩ := hrel
    by_cases hlt : k < l.length
    · obtain ⟨x, hx⟩ : ∃ x, l[k]? = some x := ⟨_, List.getElem?_eq_getElem hlt⟩
      obtain ⟨a, hA, _, c1⟩ := H1.out k x hx
      obtain ⟨b, hB, _, c2⟩ := H2.out k x hx
      subst hA hB
      clear hx
      have i0 : (0 : Int) ≤ (k : Int) := Int.natCast_nonneg _
      have i1 : (k : Int) < (l.length : Int) := by omega
      go_wp2
      go_quiet (fail)
      go_wp2
      go_roundw
      case rel => exact ⟨k + 1, _, by omega, by go_num, rfl⟩
      case measure => simp [intOf]; omega
    · go_wp2
      go_ret
      exact ⟨rfl, n, rfl⟩
theorem below_draws (w : World) (n : Nat) : Below w.heap.size w (w.drewN n) := ⟨rfl, rfl, rfl, Nat.le_refl _, fun _ _ => rfl⟩
theorem ints_below (A A' : Option Addr) (c c' : Nat) (l : List Int) (B B' : Nat) (w : World) (hlen : l.length ≤ 100000) (h1 : RdS .i64 w B A l) (h2 : RdS .i64 w B' A' l) :
    Calls Tryd.prog 19 #[.slice A l.length c, .slice A' l.length c'] w fun e w' => e = .returned (.bool true) ∧ Below w.heap.size w w' :=
  (ints_same A A' c c' l B B' w hlen h1 h2).mono fun _ _ ⟨he, n, hw⟩ => ⟨he, by rw [hw]; exact below_draws w n⟩
end Go.Proofs.YtamlknnkahhfmaaDoor
