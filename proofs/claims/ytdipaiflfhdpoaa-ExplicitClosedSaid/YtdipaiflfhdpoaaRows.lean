/-
  No cell of these rows narrows 'for every input' (looked for: loops, veiled, ifaces, maps, wideKeys, modest, calm, conditions, laid).
  DERIVED. THE GIVEN ROWS OF THIS SEAT. 5 by the template 'for every input the law returns true; each argument reads behind the call as it read before'; 0 by the template 'total and deterministic' (their statements: YtdipaiflfhdpoaaTotals.lean).
  GIVEN WITH THE SEED: the statements are not yours to turn. If you find one false, say at which input.
  Laid BY PROGRAM, IN A SANDBOX (cutbox-rows.mjs): the forced cells as the released guide's own fill.sh prints them over the translation b2d753e9398416e2… (all of the seat's roots in one cut). By AI agents, Wed Nov 11 2026. No macro, syntax, notation, axiom, sorry.
-/
import Derived.Test.YtdipaiflfhdpoaaChecked
import GoSem.Claim
import GoSem.ClaimJoined
import GoSem.ClaimMapViews
import Derived.JoinedTies
import Derived.KernelRfl
namespace Go.Proofs.Ytdipaiflfhdpoaa
/- THE CELL 'sum', in the pinned program and in every row, IS THE sha256 OF THE DUMP (.gsa) THAT YtdipaiflfhdpoaaProg.lean LOADS. Nothing in Lean hashes anything: it is a label: what it is worth is what the hold of that sum in a sandbox is worth. -/
noncomputable def Try.pinned : Pinned := { name := "ytdipaiflfhdpoaa", sum := "b2d753e9398416e249deec539fd0b80b516efd919618333b4866072a5478276c", checked := Try.checked }
namespace Rows
def none {H : Type} : Left H := { results := [], args := [] }

/-- 'frisketlaw08.ExplicitMatch': WHATEVER THE INPUT: true; the input reads as it did. -/
def explicitMatchSpec : ChangeSpec := { name := "explicitMatch", fn := fun _ => fun
  | [d] => { results := [.lit (.bool true)], args := [d] }
  | _ => none }
def explicitMatchRow : OpenClaim := { program := "ytdipaiflfhdpoaa", sum := "b2d753e9398416e249deec539fd0b80b516efd919618333b4866072a5478276c", func := "frisket/frisketlaw08.ExplicitMatch", spec := "explicitMatch", unfollowed := true, recurses := true, apart := false }
def ExplicitMatchSaid : Prop := explicitMatchRow.holds Try.pinned (OpenSpec.ofChange explicitMatchSpec)

/-- ITS FALSE NEIGHBOUR: 'it returns false'. Refute it at one input. -/
def explicitMatchWrong : ChangeSpec := { name := "explicitMatch", fn := fun _ => fun
  | [d] => { results := [.lit (.bool false)], args := [d] }
  | _ => none }
def ExplicitMatchWrongFalsely : Prop := explicitMatchRow.holds Try.pinned (OpenSpec.ofChange explicitMatchWrong)

/-- 'frisketlaw08.ExplicitLevels': WHATEVER THE INPUT: true; the input reads as it did. -/
def explicitLevelsSpec : ChangeSpec := { name := "explicitLevels", fn := fun _ => fun
  | [d1, d2] => { results := [.lit (.bool true)], args := [d1, d2] }
  | _ => none }
def explicitLevelsRow : OpenClaim := { program := "ytdipaiflfhdpoaa", sum := "b2d753e9398416e249deec539fd0b80b516efd919618333b4866072a5478276c", func := "frisket/frisketlaw08.ExplicitLevels", spec := "explicitLevels", unfollowed := true, recurses := true, apart := false }
def ExplicitLevelsSaid : Prop := explicitLevelsRow.holds Try.pinned (OpenSpec.ofChange explicitLevelsSpec)

/-- ITS FALSE NEIGHBOUR: 'it returns false'. Refute it at one input. -/
def explicitLevelsWrong : ChangeSpec := { name := "explicitLevels", fn := fun _ => fun
  | [d1, d2] => { results := [.lit (.bool false)], args := [d1, d2] }
  | _ => none }
def ExplicitLevelsWrongFalsely : Prop := explicitLevelsRow.holds Try.pinned (OpenSpec.ofChange explicitLevelsWrong)

/-- 'frisketlaw08.ExplicitDeep': WHATEVER THE INPUT: true; the input reads as it did. -/
def explicitDeepSpec : ChangeSpec := { name := "explicitDeep", fn := fun _ => fun
  | [d1, d2, d3] => { results := [.lit (.bool true)], args := [d1, d2, d3] }
  | _ => none }
def explicitDeepRow : OpenClaim := { program := "ytdipaiflfhdpoaa", sum := "b2d753e9398416e249deec539fd0b80b516efd919618333b4866072a5478276c", func := "frisket/frisketlaw08.ExplicitDeep", spec := "explicitDeep", unfollowed := true, recurses := true, apart := false }
def ExplicitDeepSaid : Prop := explicitDeepRow.holds Try.pinned (OpenSpec.ofChange explicitDeepSpec)

/-- ITS FALSE NEIGHBOUR: 'it returns false'. Refute it at one input. -/
def explicitDeepWrong : ChangeSpec := { name := "explicitDeep", fn := fun _ => fun
  | [d1, d2, d3] => { results := [.lit (.bool false)], args := [d1, d2, d3] }
  | _ => none }
def ExplicitDeepWrongFalsely : Prop := explicitDeepRow.holds Try.pinned (OpenSpec.ofChange explicitDeepWrong)

/-- 'frisketlaw08.ExplicitClosed': WHATEVER THE INPUT: true; the input reads as it did. -/
def explicitClosedSpec : ChangeSpec := { name := "explicitClosed", fn := fun _ => fun
  | [d1, d2, d3] => { results := [.lit (.bool true)], args := [d1, d2, d3] }
  | _ => none }
def explicitClosedRow : OpenClaim := { program := "ytdipaiflfhdpoaa", sum := "b2d753e9398416e249deec539fd0b80b516efd919618333b4866072a5478276c", func := "frisket/frisketlaw08.ExplicitClosed", spec := "explicitClosed", unfollowed := true, recurses := true, apart := false }
def ExplicitClosedSaid : Prop := explicitClosedRow.holds Try.pinned (OpenSpec.ofChange explicitClosedSpec)

/-- ITS FALSE NEIGHBOUR: 'it returns false'. Refute it at one input. -/
def explicitClosedWrong : ChangeSpec := { name := "explicitClosed", fn := fun _ => fun
  | [d1, d2, d3] => { results := [.lit (.bool false)], args := [d1, d2, d3] }
  | _ => none }
def ExplicitClosedWrongFalsely : Prop := explicitClosedRow.holds Try.pinned (OpenSpec.ofChange explicitClosedWrong)

/-- 'frisketlaw08.ExplicitParts': WHATEVER THE INPUT: true; the input reads as it did. -/
def explicitPartsSpec : ChangeSpec := { name := "explicitParts", fn := fun _ => fun
  | [d1, d2, d3] => { results := [.lit (.bool true)], args := [d1, d2, d3] }
  | _ => none }
def explicitPartsRow : OpenClaim := { program := "ytdipaiflfhdpoaa", sum := "b2d753e9398416e249deec539fd0b80b516efd919618333b4866072a5478276c", func := "frisket/frisketlaw08.ExplicitParts", spec := "explicitParts", unfollowed := true, recurses := true, apart := false }
def ExplicitPartsSaid : Prop := explicitPartsRow.holds Try.pinned (OpenSpec.ofChange explicitPartsSpec)

/-- ITS FALSE NEIGHBOUR: 'it returns false'. Refute it at one input. -/
def explicitPartsWrong : ChangeSpec := { name := "explicitParts", fn := fun _ => fun
  | [d1, d2, d3] => { results := [.lit (.bool false)], args := [d1, d2, d3] }
  | _ => none }
def ExplicitPartsWrongFalsely : Prop := explicitPartsRow.holds Try.pinned (OpenSpec.ofChange explicitPartsWrong)

/- THE SECOND FORM. 'bulk': how many values and letters a reading holds, each counted each time it is reached (what is shared counts as often as it is met; a slice's spare places count too). A statement '..UptoSaid' is the law's where the arguments, and the package variables that the reading takes, are together of bulk at most 1048576: NARROWER than '..Said'. Prove '..Said' where nothing that the law and all that it calls make is longer than what came in: it says more and counts as full. Else prove '..UptoSaid'. A law counts once. -/
mutual
def uptoBulk {H : Type} : DataW H → Nat
  | .lit (.string bytes) => bytes.length + 1
  | .lit _ => 1
  | .nil => 1
  | .ptr d => uptoBulk d + 1
  | .slice elems spare => uptoBulkAll elems + uptoBulkAll spare + 1
  | .agg parts => uptoBulkAll parts + 1
  | .iface _ d => uptoBulk d + 1
  | .map entries => uptoBulkEntries entries + 1
  | .held _ => 1
def uptoBulkAll {H : Type} : List (DataW H) → Nat
  | [] => 0
  | d :: r => uptoBulk d + uptoBulkAll r
def uptoBulkEntries {H : Type} : List (Lit × DataW H) → Nat
  | [] => 0
  | x :: r => uptoBulkEntry x + uptoBulkEntries r
def uptoBulkEntry {H : Type} : Lit × DataW H → Nat
  | (.string bytes, d) => bytes.length + uptoBulk d + 1
  | (_, d) => uptoBulk d + 1
 end
def uptoSmall : (H : Type) → List (DataW H) → Bool := fun _ ds => decide (uptoBulkAll ds ≤ 1048576)
def OpenSpec.upto (s : _root_.Go.ChangeSpec) : _root_.Go.OpenSpec := { _root_.Go.OpenSpec.ofChange s with cond := some uptoSmall }

/-- 'frisketlaw08.ExplicitMatch', WHERE WHAT IT READS IS OF BULK AT MOST 1048576: true; the input reads as it did. -/
def explicitMatchUptoRow : OpenClaim := { program := "ytdipaiflfhdpoaa", sum := "b2d753e9398416e249deec539fd0b80b516efd919618333b4866072a5478276c", func := "frisket/frisketlaw08.ExplicitMatch", spec := "explicitMatch", unfollowed := true, recurses := true, apart := false, narrowed := true }
def ExplicitMatchUptoSaid : Prop := explicitMatchUptoRow.holds Try.pinned (OpenSpec.upto explicitMatchSpec)

/-- 'frisketlaw08.ExplicitLevels', WHERE WHAT IT READS IS OF BULK AT MOST 1048576: true; the input reads as it did. -/
def explicitLevelsUptoRow : OpenClaim := { program := "ytdipaiflfhdpoaa", sum := "b2d753e9398416e249deec539fd0b80b516efd919618333b4866072a5478276c", func := "frisket/frisketlaw08.ExplicitLevels", spec := "explicitLevels", unfollowed := true, recurses := true, apart := false, narrowed := true }
def ExplicitLevelsUptoSaid : Prop := explicitLevelsUptoRow.holds Try.pinned (OpenSpec.upto explicitLevelsSpec)

/-- 'frisketlaw08.ExplicitDeep', WHERE WHAT IT READS IS OF BULK AT MOST 1048576: true; the input reads as it did. -/
def explicitDeepUptoRow : OpenClaim := { program := "ytdipaiflfhdpoaa", sum := "b2d753e9398416e249deec539fd0b80b516efd919618333b4866072a5478276c", func := "frisket/frisketlaw08.ExplicitDeep", spec := "explicitDeep", unfollowed := true, recurses := true, apart := false, narrowed := true }
def ExplicitDeepUptoSaid : Prop := explicitDeepUptoRow.holds Try.pinned (OpenSpec.upto explicitDeepSpec)

/-- 'frisketlaw08.ExplicitClosed', WHERE WHAT IT READS IS OF BULK AT MOST 1048576: true; the input reads as it did. -/
def explicitClosedUptoRow : OpenClaim := { program := "ytdipaiflfhdpoaa", sum := "b2d753e9398416e249deec539fd0b80b516efd919618333b4866072a5478276c", func := "frisket/frisketlaw08.ExplicitClosed", spec := "explicitClosed", unfollowed := true, recurses := true, apart := false, narrowed := true }
def ExplicitClosedUptoSaid : Prop := explicitClosedUptoRow.holds Try.pinned (OpenSpec.upto explicitClosedSpec)

/-- 'frisketlaw08.ExplicitParts', WHERE WHAT IT READS IS OF BULK AT MOST 1048576: true; the input reads as it did. -/
def explicitPartsUptoRow : OpenClaim := { program := "ytdipaiflfhdpoaa", sum := "b2d753e9398416e249deec539fd0b80b516efd919618333b4866072a5478276c", func := "frisket/frisketlaw08.ExplicitParts", spec := "explicitParts", unfollowed := true, recurses := true, apart := false, narrowed := true }
def ExplicitPartsUptoSaid : Prop := explicitPartsUptoRow.holds Try.pinned (OpenSpec.upto explicitPartsSpec)

end Rows
end Go.Proofs.Ytdipaiflfhdpoaa
