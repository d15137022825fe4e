/- A slice of numbers that reads as a list, over any world: what keeps it, and its cuts. No program is read here. -/
import Derived.WalkKit
namespace Go.Proofs.Ytahjkndphkpieaa
open Go.RowKit

/-- The slice that begins at A holds the numbers l, of kind k, in blocks below B. -/
def RdS (k : IntKind) (w : World) (B : Nat) (A : Option Addr) (l : List Int) : Prop :=
  ∀ j x, l[j]? = some x → ∃ ad, A = some ad ∧ ad.block < B ∧ w.cell? (ad.add j) = some (.int k x)

theorem addr_block (a : Addr) (n : Nat) : (a.add n).block = a.block := by
  unfold Addr.add; split <;> rfl
theorem addr_add_add (a : Addr) (i j : Nat) : (a.add i).add j = a.add (i + j) := by
  unfold Addr.add
  by_cases hi : i = 0
  · subst hi; simp
  · by_cases hj : j = 0
    · subst hj; simp
    · simp [hi, hj, Nat.add_assoc]
theorem addr_add_pos (a : Addr) (n : Nat) (h : n ≠ 0) : a.add n = ⟨a.block, a.off + n, none⟩ := by
  unfold Addr.add; simp [h]

section
variable {k : IntKind} {w w' : World} {B B' : Nat} {A : Option Addr} {l : List Int}
theorem RdS.nil : RdS k w B A [] := fun j x h => by simp at h
theorem RdS.at_ (h : RdS k w B A l) {j : Nat} (hj : j < l.length) : ∃ ad, A = some ad ∧ ad.block < B ∧ w.cell? (ad.add j) = some (.int k l[j]) :=
  h j _ (List.getElem?_eq_getElem hj)
theorem RdS.keep (h : RdS k w B A l) (hk : ∀ p : Addr, p.block < B → w'.cell? p = w.cell? p) : RdS k w' B A l := fun j x hx => by
  obtain ⟨ad, hA, hb, hc⟩ := h j x hx
  exact ⟨ad, hA, hb, (hk _ (by rw [addr_block]; exact hb)).trans hc⟩
theorem RdS.below (h : RdS k w B A l) (hb : Below B w w') : RdS k w' B A l := h.keep fun _ hp => hb.cell hp
theorem RdS.more (h : RdS k w B A l) (hB : B ≤ B') : RdS k w B' A l := fun j x hx => by
  obtain ⟨ad, hA, hb, hc⟩ := h j x hx
  exact ⟨ad, hA, by omega, hc⟩
theorem RdS.take (h : RdS k w B A l) (n : Nat) : RdS k w B A (l.take n) := fun j x hx => by
  rw [List.getElem?_take] at hx
  split at hx
  · exact h j x hx
  · cases hx
theorem RdS.drop (h : RdS k w B A l) (n : Nat) : RdS k w B (A.map (fun x => x.add n)) (l.drop n) := fun j x hx => by
  rw [List.getElem?_drop] at hx
  obtain ⟨ad, hA, hb, hcell⟩ := h _ x hx
  exact ⟨ad.add n, by rw [hA]; rfl, by rw [addr_block]; exact hb, by rw [addr_add_add]; exact hcell⟩
theorem RdS.cut (h : RdS k w B A l) {n cap : Nat} (hc : l.length ≤ cap) : RdS k w B (if cap = n then A else A.map (·.add n)) (l.drop n) := fun j x hx => by
  rw [List.getElem?_drop] at hx
  obtain ⟨ad, hA, hb, hcell⟩ := h _ x hx
  have hlt : n + j < l.length := (List.getElem?_eq_some_iff.1 hx).1
  rw [if_neg (by omega), hA]
  exact ⟨ad.add n, rfl, by rw [addr_block]; exact hb, by rw [addr_add_add]; exact hcell⟩
end
end Go.Proofs.Ytahjkndphkpieaa
