/- Two rows of one's own that grow side by side. No function of the program is walked here. -/
import Derived.Test.YtahjkndphkpieaaBase
import Derived.Deep.AppendLies
namespace Go.Proofs.Ytahjkndphkpieaa
open Go.RowKit

/-- Two rows of whole numbers, both one's own, that grow side by side. -/
structure TwAt (B : Nat) (w wr : World) (vl vm : Value) (L Q : List Int) : Prop where
  below : Below B w wr
  rl : wr.ownsRow B 3 1 vl L.length (L.map (Value.int .i64))
  rm : wr.ownsRow B 3 1 vm Q.length (Q.map (Value.int .i64))
  ap : ∀ b, vl.ownBlock = some b → vm.ownBlock ≠ some b
section
variable {B : Nat} {w wr w3 : World} {vl vm : Value} {L Q : List Int}
theorem TwAt.pushL (h : TwAt B w wr vl vm L Q) (hB : B ≤ wr.heap.size) {x : Int} {q c : Nat} {o : Obj} (hown : w3.ownsRow B 3 1 (.slice (some ⟨q, 0, none⟩) (L.length + 1) c) (L.length + 1) (L.map (Value.int .i64) ++ [.int .i64 x]))
    (hg : (wr.alloc o).grownBy w3 vl.ownBlock) (hat : vl.ownBlock = some q ∨ q = wr.heap.size + 1) : TwAt B w w3 (.slice (some ⟨q, 0, none⟩) (L.length + 1) c) vm (L ++ [x]) Q := by
  refine ⟨(h.below.alloc hB o).grown hg (by simp; omega) (fun k hk => (World.ownsRow.lt h.rl k hk).1), ?_, World.ownsRow.kept (h.rm.alloc o) hg ?_, ?_⟩
  · rw [List.length_append, List.map_append]
    exact hown
  · cases hv : vm.ownBlock with
    | none => exact .inl rfl
    | some b => exact .inr fun e => h.ap b e.symm hv
  · intro b hb e
    have e2 : q = b := by simpa [Value.ownBlock] using hb
    subst e2
    rcases hat with h1 | h1
    · exact h.ap q h1 e
    · have := (World.ownsRow.lt h.rm q e).2
      omega
theorem TwAt.pushM (h : TwAt B w wr vl vm L Q) (hB : B ≤ wr.heap.size) {x : Int} {q c : Nat} {o : Obj} (hown : w3.ownsRow B 3 1 (.slice (some ⟨q, 0, none⟩) (Q.length + 1) c) (Q.length + 1) (Q.map (Value.int .i64) ++ [.int .i64 x]))
    (hg : (wr.alloc o).grownBy w3 vm.ownBlock) (hat : vm.ownBlock = some q ∨ q = wr.heap.size + 1) : TwAt B w w3 vl (.slice (some ⟨q, 0, none⟩) (Q.length + 1) c) L (Q ++ [x]) := by
  refine ⟨(h.below.alloc hB o).grown hg (by simp; omega) (fun k hk => (World.ownsRow.lt h.rm k hk).1), World.ownsRow.kept (h.rl.alloc o) hg ?_, ?_, ?_⟩
  · cases hv : vl.ownBlock with
    | none => exact .inl rfl
    | some b => exact .inr fun e => h.ap b hv e.symm
  · rw [List.length_append, List.map_append]
    exact hown
  · intro b hb e
    have e2 : q = b := by simpa [Value.ownBlock] using e
    subst e2
    rcases hat with h1 | h1
    · exact h.ap q hb h1
    · have := (World.ownsRow.lt h.rl q hb).2
      omega
end
end Go.Proofs.Ytahjkndphkpieaa
