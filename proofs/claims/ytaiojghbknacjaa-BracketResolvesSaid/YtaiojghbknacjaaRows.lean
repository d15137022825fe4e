/-
  No cell of these rows narrows 'for every input' (looked for: loops, veiled, ifaces, maps, wideKeys, modest, calm, conditions, laid).
  DERIVED. THE GIVEN ROWS OF THIS SEAT. 5 by the template 'for every input the law returns true; each argument reads behind the call as it read before'; 0 by the template 'total and deterministic' (their statements: YtaiojghbknacjaaTotals.lean).
  GIVEN WITH THE SEED: the statements are not yours to turn. If you find one false, say at which input.
  Laid BY PROGRAM, IN A SANDBOX (cutbox-rows.mjs): the forced cells as the released guide's own fill.sh prints them over the translation 3fb8ccbb705e83c9… (all of the seat's roots in one cut). By AI agents, Wed Nov 11 2026. No macro, syntax, notation, axiom, sorry.
-/
import Derived.Test.YtaiojghbknacjaaChecked
import GoSem.Claim
import GoSem.ClaimJoined
import GoSem.ClaimMapViews
import Derived.JoinedTies
import Derived.KernelRfl
namespace Go.Proofs.Ytaiojghbknacjaa
/- THE CELL 'sum', in the pinned program and in every row, IS THE sha256 OF THE DUMP (.gsa) THAT YtaiojghbknacjaaProg.lean LOADS. Nothing in Lean hashes anything: it is a label: what it is worth is what the hold of that sum in a sandbox is worth. -/
noncomputable def Try.pinned : Pinned := { name := "ytaiojghbknacjaa", sum := "3fb8ccbb705e83c9c5e736acf113d2da2b982d3c3f9565eecc440547ea8af6fb", checked := Try.checked }
namespace Rows
def none {H : Type} : Left H := { results := [], args := [] }

/-- 'frisketlaw11.BracketPairs': WHATEVER THE INPUT: true; the input reads as it did. -/
def bracketPairsSpec : ChangeSpec := { name := "bracketPairs", fn := fun _ => fun
  | [d1, d2] => { results := [.lit (.bool true)], args := [d1, d2] }
  | _ => none }
def bracketPairsRow : OpenClaim := { program := "ytaiojghbknacjaa", sum := "3fb8ccbb705e83c9c5e736acf113d2da2b982d3c3f9565eecc440547ea8af6fb", func := "frisket/frisketlaw11.BracketPairs", spec := "bracketPairs", unfollowed := true, recurses := true, apart := false }
def BracketPairsSaid : Prop := bracketPairsRow.holds Try.pinned (OpenSpec.ofChange bracketPairsSpec)

/-- ITS FALSE NEIGHBOUR: 'it returns false'. Refute it at one input. -/
def bracketPairsWrong : ChangeSpec := { name := "bracketPairs", fn := fun _ => fun
  | [d1, d2] => { results := [.lit (.bool false)], args := [d1, d2] }
  | _ => none }
def BracketPairsWrongFalsely : Prop := bracketPairsRow.holds Try.pinned (OpenSpec.ofChange bracketPairsWrong)

/-- 'frisketlaw11.BracketResolves': WHATEVER THE INPUT: true; the input reads as it did. -/
def bracketResolvesSpec : ChangeSpec := { name := "bracketResolves", fn := fun _ => fun
  | [d1, d2] => { results := [.lit (.bool true)], args := [d1, d2] }
  | _ => none }
def bracketResolvesRow : OpenClaim := { program := "ytaiojghbknacjaa", sum := "3fb8ccbb705e83c9c5e736acf113d2da2b982d3c3f9565eecc440547ea8af6fb", func := "frisket/frisketlaw11.BracketResolves", spec := "bracketResolves", unfollowed := true, recurses := true, apart := false }
def BracketResolvesSaid : Prop := bracketResolvesRow.holds Try.pinned (OpenSpec.ofChange bracketResolvesSpec)

/-- ITS FALSE NEIGHBOUR: 'it returns false'. Refute it at one input. -/
def bracketResolvesWrong : ChangeSpec := { name := "bracketResolves", fn := fun _ => fun
  | [d1, d2] => { results := [.lit (.bool false)], args := [d1, d2] }
  | _ => none }
def BracketResolvesWrongFalsely : Prop := bracketResolvesRow.holds Try.pinned (OpenSpec.ofChange bracketResolvesWrong)

/-- 'frisketlaw11.BracketNested': WHATEVER THE INPUT: true; the input reads as it did. -/
def bracketNestedSpec : ChangeSpec := { name := "bracketNested", fn := fun _ => fun
  | [d1, d2] => { results := [.lit (.bool true)], args := [d1, d2] }
  | _ => none }
def bracketNestedRow : OpenClaim := { program := "ytaiojghbknacjaa", sum := "3fb8ccbb705e83c9c5e736acf113d2da2b982d3c3f9565eecc440547ea8af6fb", func := "frisket/frisketlaw11.BracketNested", spec := "bracketNested", unfollowed := true, recurses := true, apart := false }
def BracketNestedSaid : Prop := bracketNestedRow.holds Try.pinned (OpenSpec.ofChange bracketNestedSpec)

/-- ITS FALSE NEIGHBOUR: 'it returns false'. Refute it at one input. -/
def bracketNestedWrong : ChangeSpec := { name := "bracketNested", fn := fun _ => fun
  | [d1, d2] => { results := [.lit (.bool false)], args := [d1, d2] }
  | _ => none }
def BracketNestedWrongFalsely : Prop := bracketNestedRow.holds Try.pinned (OpenSpec.ofChange bracketNestedWrong)

/-- 'frisketlaw11.BracketBoth': WHATEVER THE INPUT: true; the input reads as it did. -/
def bracketBothSpec : ChangeSpec := { name := "bracketBoth", fn := fun _ => fun
  | [d1, d2] => { results := [.lit (.bool true)], args := [d1, d2] }
  | _ => none }
def bracketBothRow : OpenClaim := { program := "ytaiojghbknacjaa", sum := "3fb8ccbb705e83c9c5e736acf113d2da2b982d3c3f9565eecc440547ea8af6fb", func := "frisket/frisketlaw11.BracketBoth", spec := "bracketBoth", unfollowed := true, recurses := true, apart := false }
def BracketBothSaid : Prop := bracketBothRow.holds Try.pinned (OpenSpec.ofChange bracketBothSpec)

/-- ITS FALSE NEIGHBOUR: 'it returns false'. Refute it at one input. -/
def bracketBothWrong : ChangeSpec := { name := "bracketBoth", fn := fun _ => fun
  | [d1, d2] => { results := [.lit (.bool false)], args := [d1, d2] }
  | _ => none }
def BracketBothWrongFalsely : Prop := bracketBothRow.holds Try.pinned (OpenSpec.ofChange bracketBothWrong)

/-- 'frisketlaw11.BracketDeep': WHATEVER THE INPUT: true; the input reads as it did. -/
def bracketDeepSpec : ChangeSpec := { name := "bracketDeep", fn := fun _ => fun
  | [d1, d2] => { results := [.lit (.bool true)], args := [d1, d2] }
  | _ => none }
def bracketDeepRow : OpenClaim := { program := "ytaiojghbknacjaa", sum := "3fb8ccbb705e83c9c5e736acf113d2da2b982d3c3f9565eecc440547ea8af6fb", func := "frisket/frisketlaw11.BracketDeep", spec := "bracketDeep", unfollowed := true, recurses := true, apart := false }
def BracketDeepSaid : Prop := bracketDeepRow.holds Try.pinned (OpenSpec.ofChange bracketDeepSpec)

/-- ITS FALSE NEIGHBOUR: 'it returns false'. Refute it at one input. -/
def bracketDeepWrong : ChangeSpec := { name := "bracketDeep", fn := fun _ => fun
  | [d1, d2] => { results := [.lit (.bool false)], args := [d1, d2] }
  | _ => none }
def BracketDeepWrongFalsely : Prop := bracketDeepRow.holds Try.pinned (OpenSpec.ofChange bracketDeepWrong)

/- THE SECOND FORM. 'bulk': how many values and letters a reading holds, each counted each time it is reached (what is shared counts as often as it is met; a slice's spare places count too). A statement '..UptoSaid' is the law's where the arguments, and the package variables that the reading takes, are together of bulk at most 1048576: NARROWER than '..Said'. Prove '..Said' where nothing that the law and all that it calls make is longer than what came in: it says more and counts as full. Else prove '..UptoSaid'. A law counts once. -/
mutual
def uptoBulk {H : Type} : DataW H → Nat
  | .lit (.string bytes) => bytes.length + 1
  | .lit _ => 1
  | .nil => 1
  | .ptr d => uptoBulk d + 1
  | .slice elems spare => uptoBulkAll elems + uptoBulkAll spare + 1
  | .agg parts => uptoBulkAll parts + 1
  | .iface _ d => uptoBulk d + 1
  | .map entries => uptoBulkEntries entries + 1
  | .held _ => 1
def uptoBulkAll {H : Type} : List (DataW H) → Nat
  | [] => 0
  | d :: r => uptoBulk d + uptoBulkAll r
def uptoBulkEntries {H : Type} : List (Lit × DataW H) → Nat
  | [] => 0
  | x :: r => uptoBulkEntry x + uptoBulkEntries r
def uptoBulkEntry {H : Type} : Lit × DataW H → Nat
  | (.string bytes, d) => bytes.length + uptoBulk d + 1
  | (_, d) => uptoBulk d + 1
 end
def uptoSmall : (H : Type) → List (DataW H) → Bool := fun _ ds => decide (uptoBulkAll ds ≤ 1048576)
def OpenSpec.upto (s : _root_.Go.ChangeSpec) : _root_.Go.OpenSpec := { _root_.Go.OpenSpec.ofChange s with cond := some uptoSmall }

/-- 'frisketlaw11.BracketPairs', WHERE WHAT IT READS IS OF BULK AT MOST 1048576: true; the input reads as it did. -/
def bracketPairsUptoRow : OpenClaim := { program := "ytaiojghbknacjaa", sum := "3fb8ccbb705e83c9c5e736acf113d2da2b982d3c3f9565eecc440547ea8af6fb", func := "frisket/frisketlaw11.BracketPairs", spec := "bracketPairs", unfollowed := true, recurses := true, apart := false, narrowed := true }
def BracketPairsUptoSaid : Prop := bracketPairsUptoRow.holds Try.pinned (OpenSpec.upto bracketPairsSpec)

/-- 'frisketlaw11.BracketResolves', WHERE WHAT IT READS IS OF BULK AT MOST 1048576: true; the input reads as it did. -/
def bracketResolvesUptoRow : OpenClaim := { program := "ytaiojghbknacjaa", sum := "3fb8ccbb705e83c9c5e736acf113d2da2b982d3c3f9565eecc440547ea8af6fb", func := "frisket/frisketlaw11.BracketResolves", spec := "bracketResolves", unfollowed := true, recurses := true, apart := false, narrowed := true }
def BracketResolvesUptoSaid : Prop := bracketResolvesUptoRow.holds Try.pinned (OpenSpec.upto bracketResolvesSpec)

/-- 'frisketlaw11.BracketNested', WHERE WHAT IT READS IS OF BULK AT MOST 1048576: true; the input reads as it did. -/
def bracketNestedUptoRow : OpenClaim := { program := "ytaiojghbknacjaa", sum := "3fb8ccbb705e83c9c5e736acf113d2da2b982d3c3f9565eecc440547ea8af6fb", func := "frisket/frisketlaw11.BracketNested", spec := "bracketNested", unfollowed := true, recurses := true, apart := false, narrowed := true }
def BracketNestedUptoSaid : Prop := bracketNestedUptoRow.holds Try.pinned (OpenSpec.upto bracketNestedSpec)

/-- 'frisketlaw11.BracketBoth', WHERE WHAT IT READS IS OF BULK AT MOST 1048576: true; the input reads as it did. -/
def bracketBothUptoRow : OpenClaim := { program := "ytaiojghbknacjaa", sum := "3fb8ccbb705e83c9c5e736acf113d2da2b982d3c3f9565eecc440547ea8af6fb", func := "frisket/frisketlaw11.BracketBoth", spec := "bracketBoth", unfollowed := true, recurses := true, apart := false, narrowed := true }
def BracketBothUptoSaid : Prop := bracketBothUptoRow.holds Try.pinned (OpenSpec.upto bracketBothSpec)

/-- 'frisketlaw11.BracketDeep', WHERE WHAT IT READS IS OF BULK AT MOST 1048576: true; the input reads as it did. -/
def bracketDeepUptoRow : OpenClaim := { program := "ytaiojghbknacjaa", sum := "3fb8ccbb705e83c9c5e736acf113d2da2b982d3c3f9565eecc440547ea8af6fb", func := "frisket/frisketlaw11.BracketDeep", spec := "bracketDeep", unfollowed := true, recurses := true, apart := false, narrowed := true }
def BracketDeepUptoSaid : Prop := bracketDeepUptoRow.holds Try.pinned (OpenSpec.upto bracketDeepSpec)

end Rows
end Go.Proofs.Ytaiojghbknacjaa
