/-
  No cell of these rows narrows 'for every input' (looked for: loops, veiled, ifaces, maps, wideKeys, modest, calm, conditions, laid).
  DERIVED. THE GIVEN ROWS OF THIS SEAT. 5 by the template 'for every input the law returns true; each argument reads behind the call as it read before'; 0 by the template 'total and deterministic' (their statements: YtjbpjnnflcmmhaaTotals.lean).
  GIVEN WITH THE SEED: the statements are not yours to turn. If you find one false, say at which input.
  Laid BY PROGRAM, IN A SANDBOX (cutbox-rows.mjs): the forced cells as the released guide's own fill.sh prints them over the translation 2857ba3dd341731d… (all of the seat's roots in one cut). By AI agents, Wed Nov 11 2026. No macro, syntax, notation, axiom, sorry.
-/
import Derived.Test.YtjbpjnnflcmmhaaChecked
import GoSem.Claim
import GoSem.ClaimJoined
import GoSem.ClaimMapViews
import Derived.JoinedTies
import Derived.KernelRfl
namespace Go.Proofs.Ytjbpjnnflcmmhaa
/- THE CELL 'sum', in the pinned program and in every row, IS THE sha256 OF THE DUMP (.gsa) THAT YtjbpjnnflcmmhaaProg.lean LOADS. Nothing in Lean hashes anything: it is a label: what it is worth is what the hold of that sum in a sandbox is worth. -/
noncomputable def Try.pinned : Pinned := { name := "ytjbpjnnflcmmhaa", sum := "2857ba3dd341731d30de4de5edd89a208b27a091f231210af7ac7daff9bb87ac", checked := Try.checked }
namespace Rows
def none {H : Type} : Left H := { results := [], args := [] }

/-- 'frisketlaw03.RangesTell': WHATEVER THE INPUT: true; the input reads as it did. -/
def rangesTellSpec : ChangeSpec := { name := "rangesTell", fn := fun _ => fun
  | [d1, d2] => { results := [.lit (.bool true)], args := [d1, d2] }
  | _ => none }
def rangesTellRow : OpenClaim := { program := "ytjbpjnnflcmmhaa", sum := "2857ba3dd341731d30de4de5edd89a208b27a091f231210af7ac7daff9bb87ac", func := "frisket/frisketlaw03.RangesTell", spec := "rangesTell", unfollowed := true, recurses := true, apart := false }
def RangesTellSaid : Prop := rangesTellRow.holds Try.pinned (OpenSpec.ofChange rangesTellSpec)

/-- ITS FALSE NEIGHBOUR: 'it returns false'. Refute it at one input. -/
def rangesTellWrong : ChangeSpec := { name := "rangesTell", fn := fun _ => fun
  | [d1, d2] => { results := [.lit (.bool false)], args := [d1, d2] }
  | _ => none }
def RangesTellWrongFalsely : Prop := rangesTellRow.holds Try.pinned (OpenSpec.ofChange rangesTellWrong)

/-- 'frisketlaw03.RangesPair': WHATEVER THE INPUT: true; the input reads as it did. -/
def rangesPairSpec : ChangeSpec := { name := "rangesPair", fn := fun _ => fun
  | [d1, d2] => { results := [.lit (.bool true)], args := [d1, d2] }
  | _ => none }
def rangesPairRow : OpenClaim := { program := "ytjbpjnnflcmmhaa", sum := "2857ba3dd341731d30de4de5edd89a208b27a091f231210af7ac7daff9bb87ac", func := "frisket/frisketlaw03.RangesPair", spec := "rangesPair", unfollowed := true, recurses := true, apart := false }
def RangesPairSaid : Prop := rangesPairRow.holds Try.pinned (OpenSpec.ofChange rangesPairSpec)

/-- ITS FALSE NEIGHBOUR: 'it returns false'. Refute it at one input. -/
def rangesPairWrong : ChangeSpec := { name := "rangesPair", fn := fun _ => fun
  | [d1, d2] => { results := [.lit (.bool false)], args := [d1, d2] }
  | _ => none }
def RangesPairWrongFalsely : Prop := rangesPairRow.holds Try.pinned (OpenSpec.ofChange rangesPairWrong)

/-- 'frisketlaw03.RangesShort': WHATEVER THE INPUT: true; the input reads as it did. -/
def rangesShortSpec : ChangeSpec := { name := "rangesShort", fn := fun _ => fun
  | [d1, d2] => { results := [.lit (.bool true)], args := [d1, d2] }
  | _ => none }
def rangesShortRow : OpenClaim := { program := "ytjbpjnnflcmmhaa", sum := "2857ba3dd341731d30de4de5edd89a208b27a091f231210af7ac7daff9bb87ac", func := "frisket/frisketlaw03.RangesShort", spec := "rangesShort", unfollowed := true, recurses := true, apart := false }
def RangesShortSaid : Prop := rangesShortRow.holds Try.pinned (OpenSpec.ofChange rangesShortSpec)

/-- ITS FALSE NEIGHBOUR: 'it returns false'. Refute it at one input. -/
def rangesShortWrong : ChangeSpec := { name := "rangesShort", fn := fun _ => fun
  | [d1, d2] => { results := [.lit (.bool false)], args := [d1, d2] }
  | _ => none }
def RangesShortWrongFalsely : Prop := rangesShortRow.holds Try.pinned (OpenSpec.ofChange rangesShortWrong)

/-- 'frisketlaw03.RangesOwn': WHATEVER THE INPUT: true; the input reads as it did. -/
def rangesOwnSpec : ChangeSpec := { name := "rangesOwn", fn := fun _ => fun
  | [d1, d2] => { results := [.lit (.bool true)], args := [d1, d2] }
  | _ => none }
def rangesOwnRow : OpenClaim := { program := "ytjbpjnnflcmmhaa", sum := "2857ba3dd341731d30de4de5edd89a208b27a091f231210af7ac7daff9bb87ac", func := "frisket/frisketlaw03.RangesOwn", spec := "rangesOwn", unfollowed := true, recurses := true, apart := false }
def RangesOwnSaid : Prop := rangesOwnRow.holds Try.pinned (OpenSpec.ofChange rangesOwnSpec)

/-- ITS FALSE NEIGHBOUR: 'it returns false'. Refute it at one input. -/
def rangesOwnWrong : ChangeSpec := { name := "rangesOwn", fn := fun _ => fun
  | [d1, d2] => { results := [.lit (.bool false)], args := [d1, d2] }
  | _ => none }
def RangesOwnWrongFalsely : Prop := rangesOwnRow.holds Try.pinned (OpenSpec.ofChange rangesOwnWrong)

/-- 'frisketlaw03.RangesNil': WHATEVER THE INPUT: true; the input reads as it did. -/
def rangesNilSpec : ChangeSpec := { name := "rangesNil", fn := fun _ => fun
  | [d] => { results := [.lit (.bool true)], args := [d] }
  | _ => none }
def rangesNilRow : OpenClaim := { program := "ytjbpjnnflcmmhaa", sum := "2857ba3dd341731d30de4de5edd89a208b27a091f231210af7ac7daff9bb87ac", func := "frisket/frisketlaw03.RangesNil", spec := "rangesNil", unfollowed := true, recurses := true, apart := false }
def RangesNilSaid : Prop := rangesNilRow.holds Try.pinned (OpenSpec.ofChange rangesNilSpec)

/-- ITS FALSE NEIGHBOUR: 'it returns false'. Refute it at one input. -/
def rangesNilWrong : ChangeSpec := { name := "rangesNil", fn := fun _ => fun
  | [d] => { results := [.lit (.bool false)], args := [d] }
  | _ => none }
def RangesNilWrongFalsely : Prop := rangesNilRow.holds Try.pinned (OpenSpec.ofChange rangesNilWrong)

/- THE SECOND FORM. 'bulk': how many values and letters a reading holds, each counted each time it is reached (what is shared counts as often as it is met; a slice's spare places count too). A statement '..UptoSaid' is the law's where the arguments, and the package variables that the reading takes, are together of bulk at most 1048576: NARROWER than '..Said'. Prove '..Said' where nothing that the law and all that it calls make is longer than what came in: it says more and counts as full. Else prove '..UptoSaid'. A law counts once. -/
mutual
def uptoBulk {H : Type} : DataW H → Nat
  | .lit (.string bytes) => bytes.length + 1
  | .lit _ => 1
  | .nil => 1
  | .ptr d => uptoBulk d + 1
  | .slice elems spare => uptoBulkAll elems + uptoBulkAll spare + 1
  | .agg parts => uptoBulkAll parts + 1
  | .iface _ d => uptoBulk d + 1
  | .map entries => uptoBulkEntries entries + 1
  | .held _ => 1
def uptoBulkAll {H : Type} : List (DataW H) → Nat
  | [] => 0
  | d :: r => uptoBulk d + uptoBulkAll r
def uptoBulkEntries {H : Type} : List (Lit × DataW H) → Nat
  | [] => 0
  | x :: r => uptoBulkEntry x + uptoBulkEntries r
def uptoBulkEntry {H : Type} : Lit × DataW H → Nat
  | (.string bytes, d) => bytes.length + uptoBulk d + 1
  | (_, d) => uptoBulk d + 1
 end
def uptoSmall : (H : Type) → List (DataW H) → Bool := fun _ ds => decide (uptoBulkAll ds ≤ 1048576)
def OpenSpec.upto (s : _root_.Go.ChangeSpec) : _root_.Go.OpenSpec := { _root_.Go.OpenSpec.ofChange s with cond := some uptoSmall }

/-- 'frisketlaw03.RangesTell', WHERE WHAT IT READS IS OF BULK AT MOST 1048576: true; the input reads as it did. -/
def rangesTellUptoRow : OpenClaim := { program := "ytjbpjnnflcmmhaa", sum := "2857ba3dd341731d30de4de5edd89a208b27a091f231210af7ac7daff9bb87ac", func := "frisket/frisketlaw03.RangesTell", spec := "rangesTell", unfollowed := true, recurses := true, apart := false, narrowed := true }
def RangesTellUptoSaid : Prop := rangesTellUptoRow.holds Try.pinned (OpenSpec.upto rangesTellSpec)

/-- 'frisketlaw03.RangesPair', WHERE WHAT IT READS IS OF BULK AT MOST 1048576: true; the input reads as it did. -/
def rangesPairUptoRow : OpenClaim := { program := "ytjbpjnnflcmmhaa", sum := "2857ba3dd341731d30de4de5edd89a208b27a091f231210af7ac7daff9bb87ac", func := "frisket/frisketlaw03.RangesPair", spec := "rangesPair", unfollowed := true, recurses := true, apart := false, narrowed := true }
def RangesPairUptoSaid : Prop := rangesPairUptoRow.holds Try.pinned (OpenSpec.upto rangesPairSpec)

/-- 'frisketlaw03.RangesShort', WHERE WHAT IT READS IS OF BULK AT MOST 1048576: true; the input reads as it did. -/
def rangesShortUptoRow : OpenClaim := { program := "ytjbpjnnflcmmhaa", sum := "2857ba3dd341731d30de4de5edd89a208b27a091f231210af7ac7daff9bb87ac", func := "frisket/frisketlaw03.RangesShort", spec := "rangesShort", unfollowed := true, recurses := true, apart := false, narrowed := true }
def RangesShortUptoSaid : Prop := rangesShortUptoRow.holds Try.pinned (OpenSpec.upto rangesShortSpec)

/-- 'frisketlaw03.RangesOwn', WHERE WHAT IT READS IS OF BULK AT MOST 1048576: true; the input reads as it did. -/
def rangesOwnUptoRow : OpenClaim := { program := "ytjbpjnnflcmmhaa", sum := "2857ba3dd341731d30de4de5edd89a208b27a091f231210af7ac7daff9bb87ac", func := "frisket/frisketlaw03.RangesOwn", spec := "rangesOwn", unfollowed := true, recurses := true, apart := false, narrowed := true }
def RangesOwnUptoSaid : Prop := rangesOwnUptoRow.holds Try.pinned (OpenSpec.upto rangesOwnSpec)

/-- 'frisketlaw03.RangesNil', WHERE WHAT IT READS IS OF BULK AT MOST 1048576: true; the input reads as it did. -/
def rangesNilUptoRow : OpenClaim := { program := "ytjbpjnnflcmmhaa", sum := "2857ba3dd341731d30de4de5edd89a208b27a091f231210af7ac7daff9bb87ac", func := "frisket/frisketlaw03.RangesNil", spec := "rangesNil", unfollowed := true, recurses := true, apart := false, narrowed := true }
def RangesNilUptoSaid : Prop := rangesNilUptoRow.holds Try.pinned (OpenSpec.upto rangesNilSpec)

end Rows
end Go.Proofs.Ytjbpjnnflcmmhaa
