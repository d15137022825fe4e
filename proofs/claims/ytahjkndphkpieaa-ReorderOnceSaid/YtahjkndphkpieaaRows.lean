/-
  No cell of these rows narrows 'for every input' (looked for: loops, veiled, ifaces, maps, wideKeys, modest, calm, conditions, laid).
  DERIVED. THE GIVEN ROWS OF THIS SEAT. 5 by the template 'for every input the law returns true; each argument reads behind the call as it read before'; 0 by the template 'total and deterministic' (their statements: YtahjkndphkpieaaTotals.lean).
  GIVEN WITH THE SEED: the statements are not yours to turn. If you find one false, say at which input.
  Laid BY PROGRAM, IN A SANDBOX (cutbox-rows.mjs): the forced cells as the released guide's own fill.sh prints them over the translation 50df4428be4520d1… (all of the seat's roots in one cut). By AI agents, Wed Nov 11 2026. No macro, syntax, notation, axiom, sorry.
-/
import Derived.Test.YtahjkndphkpieaaChecked
import GoSem.Claim
import GoSem.ClaimJoined
import GoSem.ClaimMapViews
import Derived.JoinedTies
import Derived.KernelRfl
namespace Go.Proofs.Ytahjkndphkpieaa
/- THE CELL 'sum', in the pinned program and in every row, IS THE sha256 OF THE DUMP (.gsa) THAT YtahjkndphkpieaaProg.lean LOADS. Nothing in Lean hashes anything: it is a label: what it is worth is what the hold of that sum in a sandbox is worth. -/
noncomputable def Try.pinned : Pinned := { name := "ytahjkndphkpieaa", sum := "50df4428be4520d108a84453f2f8aa5a73c959ecb297ca3c52b46639f9c2325c", checked := Try.checked }
namespace Rows
def none {H : Type} : Left H := { results := [], args := [] }

/-- 'frisketlaw14.ReorderTells': WHATEVER THE INPUT: true; the input reads as it did. -/
def reorderTellsSpec : ChangeSpec := { name := "reorderTells", fn := fun _ => fun
  | [d1, d2, d3] => { results := [.lit (.bool true)], args := [d1, d2, d3] }
  | _ => none }
def reorderTellsRow : OpenClaim := { program := "ytahjkndphkpieaa", sum := "50df4428be4520d108a84453f2f8aa5a73c959ecb297ca3c52b46639f9c2325c", func := "frisket/frisketlaw14.ReorderTells", spec := "reorderTells", unfollowed := true, recurses := true, apart := false }
def ReorderTellsSaid : Prop := reorderTellsRow.holds Try.pinned (OpenSpec.ofChange reorderTellsSpec)

/-- ITS FALSE NEIGHBOUR: 'it returns false'. Refute it at one input. -/
def reorderTellsWrong : ChangeSpec := { name := "reorderTells", fn := fun _ => fun
  | [d1, d2, d3] => { results := [.lit (.bool false)], args := [d1, d2, d3] }
  | _ => none }
def ReorderTellsWrongFalsely : Prop := reorderTellsRow.holds Try.pinned (OpenSpec.ofChange reorderTellsWrong)

/-- 'frisketlaw14.ReorderOnce': WHATEVER THE INPUT: true; the input reads as it did. -/
def reorderOnceSpec : ChangeSpec := { name := "reorderOnce", fn := fun _ => fun
  | [d] => { results := [.lit (.bool true)], args := [d] }
  | _ => none }
def reorderOnceRow : OpenClaim := { program := "ytahjkndphkpieaa", sum := "50df4428be4520d108a84453f2f8aa5a73c959ecb297ca3c52b46639f9c2325c", func := "frisket/frisketlaw14.ReorderOnce", spec := "reorderOnce", unfollowed := true, recurses := true, apart := false }
def ReorderOnceSaid : Prop := reorderOnceRow.holds Try.pinned (OpenSpec.ofChange reorderOnceSpec)

/-- ITS FALSE NEIGHBOUR: 'it returns false'. Refute it at one input. -/
def reorderOnceWrong : ChangeSpec := { name := "reorderOnce", fn := fun _ => fun
  | [d] => { results := [.lit (.bool false)], args := [d] }
  | _ => none }
def ReorderOnceWrongFalsely : Prop := reorderOnceRow.holds Try.pinned (OpenSpec.ofChange reorderOnceWrong)

/-- 'frisketlaw14.ReorderMore': WHATEVER THE INPUT: true; the input reads as it did. -/
def reorderMoreSpec : ChangeSpec := { name := "reorderMore", fn := fun _ => fun
  | [d] => { results := [.lit (.bool true)], args := [d] }
  | _ => none }
def reorderMoreRow : OpenClaim := { program := "ytahjkndphkpieaa", sum := "50df4428be4520d108a84453f2f8aa5a73c959ecb297ca3c52b46639f9c2325c", func := "frisket/frisketlaw14.ReorderMore", spec := "reorderMore", unfollowed := true, recurses := true, apart := false }
def ReorderMoreSaid : Prop := reorderMoreRow.holds Try.pinned (OpenSpec.ofChange reorderMoreSpec)

/-- ITS FALSE NEIGHBOUR: 'it returns false'. Refute it at one input. -/
def reorderMoreWrong : ChangeSpec := { name := "reorderMore", fn := fun _ => fun
  | [d] => { results := [.lit (.bool false)], args := [d] }
  | _ => none }
def ReorderMoreWrongFalsely : Prop := reorderMoreRow.holds Try.pinned (OpenSpec.ofChange reorderMoreWrong)

/-- 'frisketlaw14.ReorderJoins': WHATEVER THE INPUT: true; the input reads as it did. -/
def reorderJoinsSpec : ChangeSpec := { name := "reorderJoins", fn := fun _ => fun
  | [d1, d2] => { results := [.lit (.bool true)], args := [d1, d2] }
  | _ => none }
def reorderJoinsRow : OpenClaim := { program := "ytahjkndphkpieaa", sum := "50df4428be4520d108a84453f2f8aa5a73c959ecb297ca3c52b46639f9c2325c", func := "frisket/frisketlaw14.ReorderJoins", spec := "reorderJoins", unfollowed := true, recurses := true, apart := false }
def ReorderJoinsSaid : Prop := reorderJoinsRow.holds Try.pinned (OpenSpec.ofChange reorderJoinsSpec)

/-- ITS FALSE NEIGHBOUR: 'it returns false'. Refute it at one input. -/
def reorderJoinsWrong : ChangeSpec := { name := "reorderJoins", fn := fun _ => fun
  | [d1, d2] => { results := [.lit (.bool false)], args := [d1, d2] }
  | _ => none }
def ReorderJoinsWrongFalsely : Prop := reorderJoinsRow.holds Try.pinned (OpenSpec.ofChange reorderJoinsWrong)

/-- 'frisketlaw14.ReorderMirrors': WHATEVER THE INPUT: true; the input reads as it did. -/
def reorderMirrorsSpec : ChangeSpec := { name := "reorderMirrors", fn := fun _ => fun
  | [d1, d2] => { results := [.lit (.bool true)], args := [d1, d2] }
  | _ => none }
def reorderMirrorsRow : OpenClaim := { program := "ytahjkndphkpieaa", sum := "50df4428be4520d108a84453f2f8aa5a73c959ecb297ca3c52b46639f9c2325c", func := "frisket/frisketlaw14.ReorderMirrors", spec := "reorderMirrors", unfollowed := true, recurses := true, apart := false }
def ReorderMirrorsSaid : Prop := reorderMirrorsRow.holds Try.pinned (OpenSpec.ofChange reorderMirrorsSpec)

/-- ITS FALSE NEIGHBOUR: 'it returns false'. Refute it at one input. -/
def reorderMirrorsWrong : ChangeSpec := { name := "reorderMirrors", fn := fun _ => fun
  | [d1, d2] => { results := [.lit (.bool false)], args := [d1, d2] }
  | _ => none }
def ReorderMirrorsWrongFalsely : Prop := reorderMirrorsRow.holds Try.pinned (OpenSpec.ofChange reorderMirrorsWrong)

/- THE SECOND FORM. 'bulk': how many values and letters a reading holds, each counted each time it is reached (what is shared counts as often as it is met; a slice's spare places count too). A statement '..UptoSaid' is the law's where the arguments, and the package variables that the reading takes, are together of bulk at most 1048576: NARROWER than '..Said'. Prove '..Said' where nothing that the law and all that it calls make is longer than what came in: it says more and counts as full. Else prove '..UptoSaid'. A law counts once. -/
mutual
def uptoBulk {H : Type} : DataW H → Nat
  | .lit (.string bytes) => bytes.length + 1
  | .lit _ => 1
  | .nil => 1
  | .ptr d => uptoBulk d + 1
  | .slice elems spare => uptoBulkAll elems + uptoBulkAll spare + 1
  | .agg parts => uptoBulkAll parts + 1
  | .iface _ d => uptoBulk d + 1
  | .map entries => uptoBulkEntries entries + 1
  | .held _ => 1
def uptoBulkAll {H : Type} : List (DataW H) → Nat
  | [] => 0
  | d :: r => uptoBulk d + uptoBulkAll r
def uptoBulkEntries {H : Type} : List (Lit × DataW H) → Nat
  | [] => 0
  | x :: r => uptoBulkEntry x + uptoBulkEntries r
def uptoBulkEntry {H : Type} : Lit × DataW H → Nat
  | (.string bytes, d) => bytes.length + uptoBulk d + 1
  | (_, d) => uptoBulk d + 1
 end
def uptoSmall : (H : Type) → List (DataW H) → Bool := fun _ ds => decide (uptoBulkAll ds ≤ 1048576)
def OpenSpec.upto (s : _root_.Go.ChangeSpec) : _root_.Go.OpenSpec := { _root_.Go.OpenSpec.ofChange s with cond := some uptoSmall }

/-- 'frisketlaw14.ReorderTells', WHERE WHAT IT READS IS OF BULK AT MOST 1048576: true; the input reads as it did. -/
def reorderTellsUptoRow : OpenClaim := { program := "ytahjkndphkpieaa", sum := "50df4428be4520d108a84453f2f8aa5a73c959ecb297ca3c52b46639f9c2325c", func := "frisket/frisketlaw14.ReorderTells", spec := "reorderTells", unfollowed := true, recurses := true, apart := false, narrowed := true }
def ReorderTellsUptoSaid : Prop := reorderTellsUptoRow.holds Try.pinned (OpenSpec.upto reorderTellsSpec)

/-- 'frisketlaw14.ReorderOnce', WHERE WHAT IT READS IS OF BULK AT MOST 1048576: true; the input reads as it did. -/
def reorderOnceUptoRow : OpenClaim := { program := "ytahjkndphkpieaa", sum := "50df4428be4520d108a84453f2f8aa5a73c959ecb297ca3c52b46639f9c2325c", func := "frisket/frisketlaw14.ReorderOnce", spec := "reorderOnce", unfollowed := true, recurses := true, apart := false, narrowed := true }
def ReorderOnceUptoSaid : Prop := reorderOnceUptoRow.holds Try.pinned (OpenSpec.upto reorderOnceSpec)

/-- 'frisketlaw14.ReorderMore', WHERE WHAT IT READS IS OF BULK AT MOST 1048576: true; the input reads as it did. -/
def reorderMoreUptoRow : OpenClaim := { program := "ytahjkndphkpieaa", sum := "50df4428be4520d108a84453f2f8aa5a73c959ecb297ca3c52b46639f9c2325c", func := "frisket/frisketlaw14.ReorderMore", spec := "reorderMore", unfollowed := true, recurses := true, apart := false, narrowed := true }
def ReorderMoreUptoSaid : Prop := reorderMoreUptoRow.holds Try.pinned (OpenSpec.upto reorderMoreSpec)

/-- 'frisketlaw14.ReorderJoins', WHERE WHAT IT READS IS OF BULK AT MOST 1048576: true; the input reads as it did. -/
def reorderJoinsUptoRow : OpenClaim := { program := "ytahjkndphkpieaa", sum := "50df4428be4520d108a84453f2f8aa5a73c959ecb297ca3c52b46639f9c2325c", func := "frisket/frisketlaw14.ReorderJoins", spec := "reorderJoins", unfollowed := true, recurses := true, apart := false, narrowed := true }
def ReorderJoinsUptoSaid : Prop := reorderJoinsUptoRow.holds Try.pinned (OpenSpec.upto reorderJoinsSpec)

/-- 'frisketlaw14.ReorderMirrors', WHERE WHAT IT READS IS OF BULK AT MOST 1048576: true; the input reads as it did. -/
def reorderMirrorsUptoRow : OpenClaim := { program := "ytahjkndphkpieaa", sum := "50df4428be4520d108a84453f2f8aa5a73c959ecb297ca3c52b46639f9c2325c", func := "frisket/frisketlaw14.ReorderMirrors", spec := "reorderMirrors", unfollowed := true, recurses := true, apart := false, narrowed := true }
def ReorderMirrorsUptoSaid : Prop := reorderMirrorsUptoRow.holds Try.pinned (OpenSpec.upto reorderMirrorsSpec)

end Rows
end Go.Proofs.Ytahjkndphkpieaa
