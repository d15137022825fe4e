/-
  No cell of these rows narrows 'for every input' (looked for: loops, veiled, ifaces, maps, wideKeys, modest, calm, conditions, laid).
  DERIVED. THE GIVEN ROWS OF THIS SEAT. 4 by the template 'for every input the law returns true; each argument reads behind the call as it read before'; 0 by the template 'total and deterministic' (their statements: YticiofpbijahbaaTotals.lean).
  GIVEN WITH THE SEED: the statements are not yours to turn. If you find one false, say at which input.
  Laid BY PROGRAM, IN A SANDBOX (cutbox-rows.mjs): the forced cells as the released guide's own fill.sh prints them over the translation 0b170cf54fbabf76… (all of the seat's roots in one cut). By AI agents, Wed Nov 11 2026. No macro, syntax, notation, axiom, sorry.
-/
import Derived.Test.YticiofpbijahbaaChecked
import GoSem.Claim
import GoSem.ClaimJoined
import GoSem.ClaimMapViews
import Derived.JoinedTies
import Derived.KernelRfl
namespace Go.Proofs.Yticiofpbijahbaa
/- THE CELL 'sum', in the pinned program and in every row, IS THE sha256 OF THE DUMP (.gsa) THAT YticiofpbijahbaaProg.lean LOADS. Nothing in Lean hashes anything: it is a label: what it is worth is what the hold of that sum in a sandbox is worth. -/
noncomputable def Try.pinned : Pinned := { name := "yticiofpbijahbaa", sum := "0b170cf54fbabf76f4a4cbd92b5caf259eff97ace6a8d38d2b373eb893936b5c", checked := Try.checked }
namespace Rows
def none {H : Type} : Left H := { results := [], args := [] }

/-- 'frisketlaw09.RunsSplit': WHATEVER THE INPUT: true; the input reads as it did. -/
def runsSplitSpec : ChangeSpec := { name := "runsSplit", fn := fun _ => fun
  | [d1, d2, d3] => { results := [.lit (.bool true)], args := [d1, d2, d3] }
  | _ => none }
def runsSplitRow : OpenClaim := { program := "yticiofpbijahbaa", sum := "0b170cf54fbabf76f4a4cbd92b5caf259eff97ace6a8d38d2b373eb893936b5c", func := "frisket/frisketlaw09.RunsSplit", spec := "runsSplit", unfollowed := true, recurses := true, apart := false }
def RunsSplitSaid : Prop := runsSplitRow.holds Try.pinned (OpenSpec.ofChange runsSplitSpec)

/-- ITS FALSE NEIGHBOUR: 'it returns false'. Refute it at one input. -/
def runsSplitWrong : ChangeSpec := { name := "runsSplit", fn := fun _ => fun
  | [d1, d2, d3] => { results := [.lit (.bool false)], args := [d1, d2, d3] }
  | _ => none }
def RunsSplitWrongFalsely : Prop := runsSplitRow.holds Try.pinned (OpenSpec.ofChange runsSplitWrong)

/-- 'frisketlaw09.RunsPrepare': WHATEVER THE INPUT: true; the input reads as it did. -/
def runsPrepareSpec : ChangeSpec := { name := "runsPrepare", fn := fun _ => fun
  | [d1, d2] => { results := [.lit (.bool true)], args := [d1, d2] }
  | _ => none }
def runsPrepareRow : OpenClaim := { program := "yticiofpbijahbaa", sum := "0b170cf54fbabf76f4a4cbd92b5caf259eff97ace6a8d38d2b373eb893936b5c", func := "frisket/frisketlaw09.RunsPrepare", spec := "runsPrepare", unfollowed := true, recurses := true, apart := false }
def RunsPrepareSaid : Prop := runsPrepareRow.holds Try.pinned (OpenSpec.ofChange runsPrepareSpec)

/-- ITS FALSE NEIGHBOUR: 'it returns false'. Refute it at one input. -/
def runsPrepareWrong : ChangeSpec := { name := "runsPrepare", fn := fun _ => fun
  | [d1, d2] => { results := [.lit (.bool false)], args := [d1, d2] }
  | _ => none }
def RunsPrepareWrongFalsely : Prop := runsPrepareRow.holds Try.pinned (OpenSpec.ofChange runsPrepareWrong)

/-- 'frisketlaw09.RunsOnce': WHATEVER THE INPUT: true; the input reads as it did. -/
def runsOnceSpec : ChangeSpec := { name := "runsOnce", fn := fun _ => fun
  | [d1, d2] => { results := [.lit (.bool true)], args := [d1, d2] }
  | _ => none }
def runsOnceRow : OpenClaim := { program := "yticiofpbijahbaa", sum := "0b170cf54fbabf76f4a4cbd92b5caf259eff97ace6a8d38d2b373eb893936b5c", func := "frisket/frisketlaw09.RunsOnce", spec := "runsOnce", unfollowed := true, recurses := true, apart := false }
def RunsOnceSaid : Prop := runsOnceRow.holds Try.pinned (OpenSpec.ofChange runsOnceSpec)

/-- ITS FALSE NEIGHBOUR: 'it returns false'. Refute it at one input. -/
def runsOnceWrong : ChangeSpec := { name := "runsOnce", fn := fun _ => fun
  | [d1, d2] => { results := [.lit (.bool false)], args := [d1, d2] }
  | _ => none }
def RunsOnceWrongFalsely : Prop := runsOnceRow.holds Try.pinned (OpenSpec.ofChange runsOnceWrong)

/-- 'frisketlaw09.RunsIsolates': WHATEVER THE INPUT: true; the input reads as it did. -/
def runsIsolatesSpec : ChangeSpec := { name := "runsIsolates", fn := fun _ => fun
  | [d1, d2] => { results := [.lit (.bool true)], args := [d1, d2] }
  | _ => none }
def runsIsolatesRow : OpenClaim := { program := "yticiofpbijahbaa", sum := "0b170cf54fbabf76f4a4cbd92b5caf259eff97ace6a8d38d2b373eb893936b5c", func := "frisket/frisketlaw09.RunsIsolates", spec := "runsIsolates", unfollowed := true, recurses := true, apart := false }
def RunsIsolatesSaid : Prop := runsIsolatesRow.holds Try.pinned (OpenSpec.ofChange runsIsolatesSpec)

/-- ITS FALSE NEIGHBOUR: 'it returns false'. Refute it at one input. -/
def runsIsolatesWrong : ChangeSpec := { name := "runsIsolates", fn := fun _ => fun
  | [d1, d2] => { results := [.lit (.bool false)], args := [d1, d2] }
  | _ => none }
def RunsIsolatesWrongFalsely : Prop := runsIsolatesRow.holds Try.pinned (OpenSpec.ofChange runsIsolatesWrong)

/- THE SECOND FORM. 'bulk': how many values and letters a reading holds, each counted each time it is reached (what is shared counts as often as it is met; a slice's spare places count too). A statement '..UptoSaid' is the law's where the arguments, and the package variables that the reading takes, are together of bulk at most 1048576: NARROWER than '..Said'. Prove '..Said' where nothing that the law and all that it calls make is longer than what came in: it says more and counts as full. Else prove '..UptoSaid'. A law counts once. -/
mutual
def uptoBulk {H : Type} : DataW H → Nat
  | .lit (.string bytes) => bytes.length + 1
  | .lit _ => 1
  | .nil => 1
  | .ptr d => uptoBulk d + 1
  | .slice elems spare => uptoBulkAll elems + uptoBulkAll spare + 1
  | .agg parts => uptoBulkAll parts + 1
  | .iface _ d => uptoBulk d + 1
  | .map entries => uptoBulkEntries entries + 1
  | .held _ => 1
def uptoBulkAll {H : Type} : List (DataW H) → Nat
  | [] => 0
  | d :: r => uptoBulk d + uptoBulkAll r
def uptoBulkEntries {H : Type} : List (Lit × DataW H) → Nat
  | [] => 0
  | x :: r => uptoBulkEntry x + uptoBulkEntries r
def uptoBulkEntry {H : Type} : Lit × DataW H → Nat
  | (.string bytes, d) => bytes.length + uptoBulk d + 1
  | (_, d) => uptoBulk d + 1
 end
def uptoSmall : (H : Type) → List (DataW H) → Bool := fun _ ds => decide (uptoBulkAll ds ≤ 1048576)
def OpenSpec.upto (s : _root_.Go.ChangeSpec) : _root_.Go.OpenSpec := { _root_.Go.OpenSpec.ofChange s with cond := some uptoSmall }

/-- 'frisketlaw09.RunsSplit', WHERE WHAT IT READS IS OF BULK AT MOST 1048576: true; the input reads as it did. -/
def runsSplitUptoRow : OpenClaim := { program := "yticiofpbijahbaa", sum := "0b170cf54fbabf76f4a4cbd92b5caf259eff97ace6a8d38d2b373eb893936b5c", func := "frisket/frisketlaw09.RunsSplit", spec := "runsSplit", unfollowed := true, recurses := true, apart := false, narrowed := true }
def RunsSplitUptoSaid : Prop := runsSplitUptoRow.holds Try.pinned (OpenSpec.upto runsSplitSpec)

/-- 'frisketlaw09.RunsPrepare', WHERE WHAT IT READS IS OF BULK AT MOST 1048576: true; the input reads as it did. -/
def runsPrepareUptoRow : OpenClaim := { program := "yticiofpbijahbaa", sum := "0b170cf54fbabf76f4a4cbd92b5caf259eff97ace6a8d38d2b373eb893936b5c", func := "frisket/frisketlaw09.RunsPrepare", spec := "runsPrepare", unfollowed := true, recurses := true, apart := false, narrowed := true }
def RunsPrepareUptoSaid : Prop := runsPrepareUptoRow.holds Try.pinned (OpenSpec.upto runsPrepareSpec)

/-- 'frisketlaw09.RunsOnce', WHERE WHAT IT READS IS OF BULK AT MOST 1048576: true; the input reads as it did. -/
def runsOnceUptoRow : OpenClaim := { program := "yticiofpbijahbaa", sum := "0b170cf54fbabf76f4a4cbd92b5caf259eff97ace6a8d38d2b373eb893936b5c", func := "frisket/frisketlaw09.RunsOnce", spec := "runsOnce", unfollowed := true, recurses := true, apart := false, narrowed := true }
def RunsOnceUptoSaid : Prop := runsOnceUptoRow.holds Try.pinned (OpenSpec.upto runsOnceSpec)

/-- 'frisketlaw09.RunsIsolates', WHERE WHAT IT READS IS OF BULK AT MOST 1048576: true; the input reads as it did. -/
def runsIsolatesUptoRow : OpenClaim := { program := "yticiofpbijahbaa", sum := "0b170cf54fbabf76f4a4cbd92b5caf259eff97ace6a8d38d2b373eb893936b5c", func := "frisket/frisketlaw09.RunsIsolates", spec := "runsIsolates", unfollowed := true, recurses := true, apart := false, narrowed := true }
def RunsIsolatesUptoSaid : Prop := runsIsolatesUptoRow.holds Try.pinned (OpenSpec.upto runsIsolatesSpec)

end Rows
end Go.Proofs.Yticiofpbijahbaa
