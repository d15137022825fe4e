/- Two slices apart: what one row's growing leaves of another slice. No function of the program is walked here. -/
import Derived.Test.YtpnbkakilmigeaaRefStarts
import Derived.Deep.AppendLies
namespace Go.Proofs.Ytpnbkakilmigeaa
open Go.RowKit

theorem own_base {W : World} {b b' : Nat} {e : TypeId} {n k : Nat} {v : Value} {xs : List Value} (h : W.ownsRow b e n v k xs) (hb : b' ≤ b) : W.ownsRow b' e n v k xs := by
  refine ⟨h.1, ?_⟩
  rcases h.2 with h0 | ⟨g, cap, cur, h1, h2, h3⟩
  · exact .inl h0
  · exact .inr ⟨g, cap, cur, h1, Nat.le_trans hb h2, h3⟩
/-- A slice in memory is kept where another row grows. -/
theorem RdS.grown {k : IntKind} {w w' : World} {B : Nat} {A : Option Addr} {l : List Int} {row : Option Nat} (h : RdS k w B A l) (hg : w.grownBy w' row) (hne : ∀ ad, A = some ad → row ≠ some ad.block) : RdS k w' B A l := fun j x hx => by
  obtain ⟨ad, hA, hb, hc⟩ := h j x hx
  refine ⟨ad, hA, hb, ?_⟩
  rw [← hc]
  refine World.cell?_of_block ?_
  rw [addr_block]
  have hlt := World.block_lt_of_cell? w _ hc
  rw [addr_block] at hlt
  exact hg.block ad.block hlt (fun e => hne ad hA e.symm)
/-- A row of one's own that lies in older blocks is apart from one that lies in newer ones. -/
theorem rows_apart {w w' : World} {b b' n n' : Nat} {e e' : TypeId} {v v' : Value} {k k' : Nat} {xs xs' : List Value} (h : w.ownsRow b e n v k xs) (h' : w'.ownsRow b' e' n' v' k' xs') (hb : w.heap.size ≤ b') : ∀ g, v'.ownBlock = some g → v.ownBlock ≠ some g := fun g hg hv => by
  have h1 := (World.ownsRow.lt h g hv).2
  have h2 := (World.ownsRow.lt h' g hg).1
  omega
end Go.Proofs.Ytpnbkakilmigeaa
