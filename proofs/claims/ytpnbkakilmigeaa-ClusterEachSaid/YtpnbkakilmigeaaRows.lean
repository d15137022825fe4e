/-
  No cell of these rows narrows 'for every input' (looked for: loops, veiled, ifaces, maps, wideKeys, modest, calm, conditions, laid).
  DERIVED. THE GIVEN ROWS OF THIS SEAT. 4 by the template 'for every input the law returns true; each argument reads behind the call as it read before'; 0 by the template 'total and deterministic' (their statements: YtpnbkakilmigeaaTotals.lean).
  GIVEN WITH THE SEED: the statements are not yours to turn. If you find one false, say at which input.
  Laid BY PROGRAM, IN A SANDBOX (cutbox-rows.mjs): the forced cells as the released guide's own fill.sh prints them over the translation 59e961c1575428ea… (all of the seat's roots in one cut). By AI agents, Wed Nov 11 2026. No macro, syntax, notation, axiom, sorry.
-/
import Derived.Test.YtpnbkakilmigeaaChecked
import GoSem.Claim
import GoSem.ClaimJoined
import GoSem.ClaimMapViews
import Derived.JoinedTies
import Derived.KernelRfl
namespace Go.Proofs.Ytpnbkakilmigeaa
/- THE CELL 'sum', in the pinned program and in every row, IS THE sha256 OF THE DUMP (.gsa) THAT YtpnbkakilmigeaaProg.lean LOADS. Nothing in Lean hashes anything: it is a label: what it is worth is what the hold of that sum in a sandbox is worth. -/
noncomputable def Try.pinned : Pinned := { name := "ytpnbkakilmigeaa", sum := "59e961c1575428ea85c06302a08c2f278b2f15126673e454344a0c54acfd9a40", checked := Try.checked }
namespace Rows
def none {H : Type} : Left H := { results := [], args := [] }

/-- 'frisketlaw05.ClusterStarts': WHATEVER THE INPUT: true; the input reads as it did. -/
def clusterStartsSpec : ChangeSpec := { name := "clusterStarts", fn := fun _ => fun
  | [d1, d2] => { results := [.lit (.bool true)], args := [d1, d2] }
  | _ => none }
def clusterStartsRow : OpenClaim := { program := "ytpnbkakilmigeaa", sum := "59e961c1575428ea85c06302a08c2f278b2f15126673e454344a0c54acfd9a40", func := "frisket/frisketlaw05.ClusterStarts", spec := "clusterStarts", unfollowed := true, recurses := true, apart := false }
def ClusterStartsSaid : Prop := clusterStartsRow.holds Try.pinned (OpenSpec.ofChange clusterStartsSpec)

/-- ITS FALSE NEIGHBOUR: 'it returns false'. Refute it at one input. -/
def clusterStartsWrong : ChangeSpec := { name := "clusterStarts", fn := fun _ => fun
  | [d1, d2] => { results := [.lit (.bool false)], args := [d1, d2] }
  | _ => none }
def ClusterStartsWrongFalsely : Prop := clusterStartsRow.holds Try.pinned (OpenSpec.ofChange clusterStartsWrong)

/-- 'frisketlaw05.ClusterOf': WHATEVER THE INPUT: true; the input reads as it did. -/
def clusterOfSpec : ChangeSpec := { name := "clusterOf", fn := fun _ => fun
  | [d1, d2] => { results := [.lit (.bool true)], args := [d1, d2] }
  | _ => none }
def clusterOfRow : OpenClaim := { program := "ytpnbkakilmigeaa", sum := "59e961c1575428ea85c06302a08c2f278b2f15126673e454344a0c54acfd9a40", func := "frisket/frisketlaw05.ClusterOf", spec := "clusterOf", unfollowed := true, recurses := true, apart := false }
def ClusterOfSaid : Prop := clusterOfRow.holds Try.pinned (OpenSpec.ofChange clusterOfSpec)

/-- ITS FALSE NEIGHBOUR: 'it returns false'. Refute it at one input. -/
def clusterOfWrong : ChangeSpec := { name := "clusterOf", fn := fun _ => fun
  | [d1, d2] => { results := [.lit (.bool false)], args := [d1, d2] }
  | _ => none }
def ClusterOfWrongFalsely : Prop := clusterOfRow.holds Try.pinned (OpenSpec.ofChange clusterOfWrong)

/-- 'frisketlaw05.ClusterCut': WHATEVER THE INPUT: true; the input reads as it did. -/
def clusterCutSpec : ChangeSpec := { name := "clusterCut", fn := fun _ => fun
  | [d1, d2] => { results := [.lit (.bool true)], args := [d1, d2] }
  | _ => none }
def clusterCutRow : OpenClaim := { program := "ytpnbkakilmigeaa", sum := "59e961c1575428ea85c06302a08c2f278b2f15126673e454344a0c54acfd9a40", func := "frisket/frisketlaw05.ClusterCut", spec := "clusterCut", unfollowed := true, recurses := true, apart := false }
def ClusterCutSaid : Prop := clusterCutRow.holds Try.pinned (OpenSpec.ofChange clusterCutSpec)

/-- ITS FALSE NEIGHBOUR: 'it returns false'. Refute it at one input. -/
def clusterCutWrong : ChangeSpec := { name := "clusterCut", fn := fun _ => fun
  | [d1, d2] => { results := [.lit (.bool false)], args := [d1, d2] }
  | _ => none }
def ClusterCutWrongFalsely : Prop := clusterCutRow.holds Try.pinned (OpenSpec.ofChange clusterCutWrong)

/-- 'frisketlaw05.ClusterEach': WHATEVER THE INPUT: true; the input reads as it did. -/
def clusterEachSpec : ChangeSpec := { name := "clusterEach", fn := fun _ => fun
  | [d] => { results := [.lit (.bool true)], args := [d] }
  | _ => none }
def clusterEachRow : OpenClaim := { program := "ytpnbkakilmigeaa", sum := "59e961c1575428ea85c06302a08c2f278b2f15126673e454344a0c54acfd9a40", func := "frisket/frisketlaw05.ClusterEach", spec := "clusterEach", unfollowed := true, recurses := true, apart := false }
def ClusterEachSaid : Prop := clusterEachRow.holds Try.pinned (OpenSpec.ofChange clusterEachSpec)

/-- ITS FALSE NEIGHBOUR: 'it returns false'. Refute it at one input. -/
def clusterEachWrong : ChangeSpec := { name := "clusterEach", fn := fun _ => fun
  | [d] => { results := [.lit (.bool false)], args := [d] }
  | _ => none }
def ClusterEachWrongFalsely : Prop := clusterEachRow.holds Try.pinned (OpenSpec.ofChange clusterEachWrong)

/- THE SECOND FORM. 'bulk': how many values and letters a reading holds, each counted each time it is reached (what is shared counts as often as it is met; a slice's spare places count too). A statement '..UptoSaid' is the law's where the arguments, and the package variables that the reading takes, are together of bulk at most 1048576: NARROWER than '..Said'. Prove '..Said' where nothing that the law and all that it calls make is longer than what came in: it says more and counts as full. Else prove '..UptoSaid'. A law counts once. -/
mutual
def uptoBulk {H : Type} : DataW H → Nat
  | .lit (.string bytes) => bytes.length + 1
  | .lit _ => 1
  | .nil => 1
  | .ptr d => uptoBulk d + 1
  | .slice elems spare => uptoBulkAll elems + uptoBulkAll spare + 1
  | .agg parts => uptoBulkAll parts + 1
  | .iface _ d => uptoBulk d + 1
  | .map entries => uptoBulkEntries entries + 1
  | .held _ => 1
def uptoBulkAll {H : Type} : List (DataW H) → Nat
  | [] => 0
  | d :: r => uptoBulk d + uptoBulkAll r
def uptoBulkEntries {H : Type} : List (Lit × DataW H) → Nat
  | [] => 0
  | x :: r => uptoBulkEntry x + uptoBulkEntries r
def uptoBulkEntry {H : Type} : Lit × DataW H → Nat
  | (.string bytes, d) => bytes.length + uptoBulk d + 1
  | (_, d) => uptoBulk d + 1
 end
def uptoSmall : (H : Type) → List (DataW H) → Bool := fun _ ds => decide (uptoBulkAll ds ≤ 1048576)
def OpenSpec.upto (s : _root_.Go.ChangeSpec) : _root_.Go.OpenSpec := { _root_.Go.OpenSpec.ofChange s with cond := some uptoSmall }

/-- 'frisketlaw05.ClusterStarts', WHERE WHAT IT READS IS OF BULK AT MOST 1048576: true; the input reads as it did. -/
def clusterStartsUptoRow : OpenClaim := { program := "ytpnbkakilmigeaa", sum := "59e961c1575428ea85c06302a08c2f278b2f15126673e454344a0c54acfd9a40", func := "frisket/frisketlaw05.ClusterStarts", spec := "clusterStarts", unfollowed := true, recurses := true, apart := false, narrowed := true }
def ClusterStartsUptoSaid : Prop := clusterStartsUptoRow.holds Try.pinned (OpenSpec.upto clusterStartsSpec)

/-- 'frisketlaw05.ClusterOf', WHERE WHAT IT READS IS OF BULK AT MOST 1048576: true; the input reads as it did. -/
def clusterOfUptoRow : OpenClaim := { program := "ytpnbkakilmigeaa", sum := "59e961c1575428ea85c06302a08c2f278b2f15126673e454344a0c54acfd9a40", func := "frisket/frisketlaw05.ClusterOf", spec := "clusterOf", unfollowed := true, recurses := true, apart := false, narrowed := true }
def ClusterOfUptoSaid : Prop := clusterOfUptoRow.holds Try.pinned (OpenSpec.upto clusterOfSpec)

/-- 'frisketlaw05.ClusterCut', WHERE WHAT IT READS IS OF BULK AT MOST 1048576: true; the input reads as it did. -/
def clusterCutUptoRow : OpenClaim := { program := "ytpnbkakilmigeaa", sum := "59e961c1575428ea85c06302a08c2f278b2f15126673e454344a0c54acfd9a40", func := "frisket/frisketlaw05.ClusterCut", spec := "clusterCut", unfollowed := true, recurses := true, apart := false, narrowed := true }
def ClusterCutUptoSaid : Prop := clusterCutUptoRow.holds Try.pinned (OpenSpec.upto clusterCutSpec)

/-- 'frisketlaw05.ClusterEach', WHERE WHAT IT READS IS OF BULK AT MOST 1048576: true; the input reads as it did. -/
def clusterEachUptoRow : OpenClaim := { program := "ytpnbkakilmigeaa", sum := "59e961c1575428ea85c06302a08c2f278b2f15126673e454344a0c54acfd9a40", func := "frisket/frisketlaw05.ClusterEach", spec := "clusterEach", unfollowed := true, recurses := true, apart := false, narrowed := true }
def ClusterEachUptoSaid : Prop := clusterEachUptoRow.holds Try.pinned (OpenSpec.upto clusterEachSpec)

end Rows
end Go.Proofs.Ytpnbkakilmigeaa
