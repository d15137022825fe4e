/-
  No cell of these rows narrows 'for every input' (looked for: loops, veiled, ifaces, maps, wideKeys, modest, calm, conditions, laid).
  DERIVED. THE GIVEN ROWS OF THIS SEAT. 4 by the template 'for every input the law returns true; each argument reads behind the call as it read before'; 0 by the template 'total and deterministic' (their statements: YtjoiinpkkaigdaaTotals.lean).
  GIVEN WITH THE SEED: the statements are not yours to turn. If you find one false, say at which input.
  Laid BY PROGRAM, IN A SANDBOX (cutbox-rows.mjs): the forced cells as the released guide's own fill.sh prints them over the translation f729d4b744b6ab66… (all of the seat's roots in one cut). By AI agents, Wed Nov 11 2026. No macro, syntax, notation, axiom, sorry.
-/
import Derived.Test.YtjoiinpkkaigdaaChecked
import GoSem.Claim
import GoSem.ClaimJoined
import GoSem.ClaimMapViews
import Derived.JoinedTies
import Derived.KernelRfl
namespace Go.Proofs.Ytjoiinpkkaigdaa
/- THE CELL 'sum', in the pinned program and in every row, IS THE sha256 OF THE DUMP (.gsa) THAT YtjoiinpkkaigdaaProg.lean LOADS. Nothing in Lean hashes anything: it is a label: what it is worth is what the hold of that sum in a sandbox is worth. -/
noncomputable def Try.pinned : Pinned := { name := "ytjoiinpkkaigdaa", sum := "f729d4b744b6ab660aafedb6af3766a5f2a363bcc712bfc05331c7b65ccd5217", checked := Try.checked }
namespace Rows
def none {H : Type} : Left H := { results := [], args := [] }

/-- 'frisketlaw12.NeutralSettles': WHATEVER THE INPUT: true; the input reads as it did. -/
def neutralSettlesSpec : ChangeSpec := { name := "neutralSettles", fn := fun _ => fun
  | [d1, d2] => { results := [.lit (.bool true)], args := [d1, d2] }
  | _ => none }
def neutralSettlesRow : OpenClaim := { program := "ytjoiinpkkaigdaa", sum := "f729d4b744b6ab660aafedb6af3766a5f2a363bcc712bfc05331c7b65ccd5217", func := "frisket/frisketlaw12.NeutralSettles", spec := "neutralSettles", unfollowed := true, recurses := true, apart := false }
def NeutralSettlesSaid : Prop := neutralSettlesRow.holds Try.pinned (OpenSpec.ofChange neutralSettlesSpec)

/-- ITS FALSE NEIGHBOUR: 'it returns false'. Refute it at one input. -/
def neutralSettlesWrong : ChangeSpec := { name := "neutralSettles", fn := fun _ => fun
  | [d1, d2] => { results := [.lit (.bool false)], args := [d1, d2] }
  | _ => none }
def NeutralSettlesWrongFalsely : Prop := neutralSettlesRow.holds Try.pinned (OpenSpec.ofChange neutralSettlesWrong)

/-- 'frisketlaw12.NeutralNone': WHATEVER THE INPUT: true; the input reads as it did. -/
def neutralNoneSpec : ChangeSpec := { name := "neutralNone", fn := fun _ => fun
  | [d1, d2] => { results := [.lit (.bool true)], args := [d1, d2] }
  | _ => none }
def neutralNoneRow : OpenClaim := { program := "ytjoiinpkkaigdaa", sum := "f729d4b744b6ab660aafedb6af3766a5f2a363bcc712bfc05331c7b65ccd5217", func := "frisket/frisketlaw12.NeutralNone", spec := "neutralNone", unfollowed := true, recurses := true, apart := false }
def NeutralNoneSaid : Prop := neutralNoneRow.holds Try.pinned (OpenSpec.ofChange neutralNoneSpec)

/-- ITS FALSE NEIGHBOUR: 'it returns false'. Refute it at one input. -/
def neutralNoneWrong : ChangeSpec := { name := "neutralNone", fn := fun _ => fun
  | [d1, d2] => { results := [.lit (.bool false)], args := [d1, d2] }
  | _ => none }
def NeutralNoneWrongFalsely : Prop := neutralNoneRow.holds Try.pinned (OpenSpec.ofChange neutralNoneWrong)

/-- 'frisketlaw12.NeutralTurned': WHATEVER THE INPUT: true; the input reads as it did. -/
def neutralTurnedSpec : ChangeSpec := { name := "neutralTurned", fn := fun _ => fun
  | [d1, d2] => { results := [.lit (.bool true)], args := [d1, d2] }
  | _ => none }
def neutralTurnedRow : OpenClaim := { program := "ytjoiinpkkaigdaa", sum := "f729d4b744b6ab660aafedb6af3766a5f2a363bcc712bfc05331c7b65ccd5217", func := "frisket/frisketlaw12.NeutralTurned", spec := "neutralTurned", unfollowed := true, recurses := true, apart := false }
def NeutralTurnedSaid : Prop := neutralTurnedRow.holds Try.pinned (OpenSpec.ofChange neutralTurnedSpec)

/-- ITS FALSE NEIGHBOUR: 'it returns false'. Refute it at one input. -/
def neutralTurnedWrong : ChangeSpec := { name := "neutralTurned", fn := fun _ => fun
  | [d1, d2] => { results := [.lit (.bool false)], args := [d1, d2] }
  | _ => none }
def NeutralTurnedWrongFalsely : Prop := neutralTurnedRow.holds Try.pinned (OpenSpec.ofChange neutralTurnedWrong)

/-- 'frisketlaw12.NeutralApart': WHATEVER THE INPUT: true; the input reads as it did. -/
def neutralApartSpec : ChangeSpec := { name := "neutralApart", fn := fun _ => fun
  | [d1, d2, d3] => { results := [.lit (.bool true)], args := [d1, d2, d3] }
  | _ => none }
def neutralApartRow : OpenClaim := { program := "ytjoiinpkkaigdaa", sum := "f729d4b744b6ab660aafedb6af3766a5f2a363bcc712bfc05331c7b65ccd5217", func := "frisket/frisketlaw12.NeutralApart", spec := "neutralApart", unfollowed := true, recurses := true, apart := false }
def NeutralApartSaid : Prop := neutralApartRow.holds Try.pinned (OpenSpec.ofChange neutralApartSpec)

/-- ITS FALSE NEIGHBOUR: 'it returns false'. Refute it at one input. -/
def neutralApartWrong : ChangeSpec := { name := "neutralApart", fn := fun _ => fun
  | [d1, d2, d3] => { results := [.lit (.bool false)], args := [d1, d2, d3] }
  | _ => none }
def NeutralApartWrongFalsely : Prop := neutralApartRow.holds Try.pinned (OpenSpec.ofChange neutralApartWrong)

/- THE SECOND FORM. 'bulk': how many values and letters a reading holds, each counted each time it is reached (what is shared counts as often as it is met; a slice's spare places count too). A statement '..UptoSaid' is the law's where the arguments, and the package variables that the reading takes, are together of bulk at most 1048576: NARROWER than '..Said'. Prove '..Said' where nothing that the law and all that it calls make is longer than what came in: it says more and counts as full. Else prove '..UptoSaid'. A law counts once. -/
mutual
def uptoBulk {H : Type} : DataW H → Nat
  | .lit (.string bytes) => bytes.length + 1
  | .lit _ => 1
  | .nil => 1
  | .ptr d => uptoBulk d + 1
  | .slice elems spare => uptoBulkAll elems + uptoBulkAll spare + 1
  | .agg parts => uptoBulkAll parts + 1
  | .iface _ d => uptoBulk d + 1
  | .map entries => uptoBulkEntries entries + 1
  | .held _ => 1
def uptoBulkAll {H : Type} : List (DataW H) → Nat
  | [] => 0
  | d :: r => uptoBulk d + uptoBulkAll r
def uptoBulkEntries {H : Type} : List (Lit × DataW H) → Nat
  | [] => 0
  | x :: r => uptoBulkEntry x + uptoBulkEntries r
def uptoBulkEntry {H : Type} : Lit × DataW H → Nat
  | (.string bytes, d) => bytes.length + uptoBulk d + 1
  | (_, d) => uptoBulk d + 1
 end
def uptoSmall : (H : Type) → List (DataW H) → Bool := fun _ ds => decide (uptoBulkAll ds ≤ 1048576)
def OpenSpec.upto (s : _root_.Go.ChangeSpec) : _root_.Go.OpenSpec := { _root_.Go.OpenSpec.ofChange s with cond := some uptoSmall }

/-- 'frisketlaw12.NeutralSettles', WHERE WHAT IT READS IS OF BULK AT MOST 1048576: true; the input reads as it did. -/
def neutralSettlesUptoRow : OpenClaim := { program := "ytjoiinpkkaigdaa", sum := "f729d4b744b6ab660aafedb6af3766a5f2a363bcc712bfc05331c7b65ccd5217", func := "frisket/frisketlaw12.NeutralSettles", spec := "neutralSettles", unfollowed := true, recurses := true, apart := false, narrowed := true }
def NeutralSettlesUptoSaid : Prop := neutralSettlesUptoRow.holds Try.pinned (OpenSpec.upto neutralSettlesSpec)

/-- 'frisketlaw12.NeutralNone', WHERE WHAT IT READS IS OF BULK AT MOST 1048576: true; the input reads as it did. -/
def neutralNoneUptoRow : OpenClaim := { program := "ytjoiinpkkaigdaa", sum := "f729d4b744b6ab660aafedb6af3766a5f2a363bcc712bfc05331c7b65ccd5217", func := "frisket/frisketlaw12.NeutralNone", spec := "neutralNone", unfollowed := true, recurses := true, apart := false, narrowed := true }
def NeutralNoneUptoSaid : Prop := neutralNoneUptoRow.holds Try.pinned (OpenSpec.upto neutralNoneSpec)

/-- 'frisketlaw12.NeutralTurned', WHERE WHAT IT READS IS OF BULK AT MOST 1048576: true; the input reads as it did. -/
def neutralTurnedUptoRow : OpenClaim := { program := "ytjoiinpkkaigdaa", sum := "f729d4b744b6ab660aafedb6af3766a5f2a363bcc712bfc05331c7b65ccd5217", func := "frisket/frisketlaw12.NeutralTurned", spec := "neutralTurned", unfollowed := true, recurses := true, apart := false, narrowed := true }
def NeutralTurnedUptoSaid : Prop := neutralTurnedUptoRow.holds Try.pinned (OpenSpec.upto neutralTurnedSpec)

/-- 'frisketlaw12.NeutralApart', WHERE WHAT IT READS IS OF BULK AT MOST 1048576: true; the input reads as it did. -/
def neutralApartUptoRow : OpenClaim := { program := "ytjoiinpkkaigdaa", sum := "f729d4b744b6ab660aafedb6af3766a5f2a363bcc712bfc05331c7b65ccd5217", func := "frisket/frisketlaw12.NeutralApart", spec := "neutralApart", unfollowed := true, recurses := true, apart := false, narrowed := true }
def NeutralApartUptoSaid : Prop := neutralApartUptoRow.holds Try.pinned (OpenSpec.upto neutralApartSpec)

end Rows
end Go.Proofs.Ytjoiinpkkaigdaa
