/- The contract of package breaks' near, over the translation. Conditions: the slice reads as a list, at most a thousand long, and the place is within it. -/
import Derived.Test.YtfackeiommiejaaLeaf
namespace Go.Proofs.Ytfackeiommiejaa
open Go.RowKit

/-- A place that hangs on nothing ahead of it, at or ahead of another. -/
def NearOut (l : List Int) (i : Nat) (w : World) (r : Ending) (w' : World) : Prop :=
  ∃ j : Nat, r = .returned (.int .i64 j) ∧ j ≤ i ∧ (j = 0 ∨ ∀ x, l[j]? = some x → x ≠ 8 ∧ x ≠ 10) ∧ w = w'

set_option maxHeartbeats 2000000 in
theorem near_any (A : Option Addr) (ca n i : Nat) (l : List Int) (w : World) (hr : RdS .i64 w w.heap.size A l) (hn : l.length = n) (hi : i < n) (hl : n ≤ 1000) :
    Calls Try.prog 25 #[.slice A n ca, .int .i64 i] w (NearOut l i w) := by
  have HR := Lib.hid hr
  have HN := Lib.hid hn
  have hl1 : (n : Int) ≤ 1000 := by omega
  clear hr hn
  go_enter Try.func25, Try.ntmps25
  go_wp2_with fail
  go_loop [1] (fun v => ∃ k : Nat, v = .int .i64 k ∧ k ≤ i) (fun v => (intOf v).toNat)
  case atStart => exact ⟨i, rfl, Nat.le_refl _⟩
  case round =>
    obtain ⟨k, rfl, hk⟩ := hrel
    have hn := HN.out
    rcases Nat.eq_zero_or_pos k with hz | hpos
    · subst hz
      clear hn
      have z0 : ¬ (0 : Int) < ((0 : Nat) : Int) := by omega
      go_wp2_with fail
      go_ret
      exact ⟨0, rfl, Nat.zero_le _, .inl rfl, rfl⟩
    · obtain ⟨ad, x, rfl, hcx, hx, hab⟩ := rd_at HR.out (Below.refl _ _) (by omega : k < l.length)
      have HX := Lib.hid hx
      have k0 : (0 : Int) < k := by omega
      have k1 : (k : Int) < n := by omega
      have k2 : (0 : Int) ≤ (k : Int) - 1 := by omega
      clear hn hx hab hpos
      rcases (show x = 8 ∨ x = 10 ∨ (x ≠ 8 ∧ x ≠ 10) by omega) with rfl | rfl | ⟨h1, h2⟩
      iterate 2
        · go_wp2_with fail
          go_round
          case rel => exact ⟨k - 1, by congr 1; omega, by omega⟩
          case measure => simp [intOf]; omega
      · have b1 : (x == 8) = false := by rw [beq_eq_false_iff_ne]; exact h1
        have b2 : (x == 10) = false := by rw [beq_eq_false_iff_ne]; exact h2
        have H12 := Lib.hid (show x ≠ 8 ∧ x ≠ 10 from ⟨h1, h2⟩)
        clear h1 h2
        go_wp2_with fail
        go_ret
        exact ⟨k, rfl, hk, .inr fun y hy => by rw [HX.out] at hy; injection hy with hy; rw [← hy]; exact H12.out, rfl⟩
end Go.Proofs.Ytfackeiommiejaa
