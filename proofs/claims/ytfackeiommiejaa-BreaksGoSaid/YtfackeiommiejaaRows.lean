/-
  No cell of these rows narrows 'for every input' (looked for: loops, veiled, ifaces, maps, wideKeys, modest, calm, conditions, laid).
  DERIVED. THE GIVEN ROWS OF THIS SEAT. 4 by the template 'for every input the law returns true; each argument reads behind the call as it read before'; 0 by the template 'total and deterministic' (their statements: YtfackeiommiejaaTotals.lean).
  GIVEN WITH THE SEED: the statements are not yours to turn. If you find one false, say at which input.
  Laid BY PROGRAM, IN A SANDBOX (cutbox-rows.mjs): the forced cells as the released guide's own fill.sh prints them over the translation 6674a02d9cc51bd2… (all of the seat's roots in one cut). By AI agents, Wed Nov 11 2026. No macro, syntax, notation, axiom, sorry.
-/
import Derived.Test.YtfackeiommiejaaChecked
import GoSem.Claim
import GoSem.ClaimJoined
import GoSem.ClaimMapViews
import Derived.JoinedTies
import Derived.KernelRfl
namespace Go.Proofs.Ytfackeiommiejaa
/- THE CELL 'sum', in the pinned program and in every row, IS THE sha256 OF THE DUMP (.gsa) THAT YtfackeiommiejaaProg.lean LOADS. Nothing in Lean hashes anything: it is a label: what it is worth is what the hold of that sum in a sandbox is worth. -/
noncomputable def Try.pinned : Pinned := { name := "ytfackeiommiejaa", sum := "6674a02d9cc51bd2960d47ca14b5c9600496d33eaa2fb777df4129f967d48a85", checked := Try.checked }
namespace Rows
def none {H : Type} : Left H := { results := [], args := [] }

/-- 'frisketlaw06.BreaksTell': WHATEVER THE INPUT: true; the input reads as it did. -/
def breaksTellSpec : ChangeSpec := { name := "breaksTell", fn := fun _ => fun
  | [d1, d2] => { results := [.lit (.bool true)], args := [d1, d2] }
  | _ => none }
def breaksTellRow : OpenClaim := { program := "ytfackeiommiejaa", sum := "6674a02d9cc51bd2960d47ca14b5c9600496d33eaa2fb777df4129f967d48a85", func := "frisket/frisketlaw06.BreaksTell", spec := "breaksTell", unfollowed := true, recurses := true, apart := false }
def BreaksTellSaid : Prop := breaksTellRow.holds Try.pinned (OpenSpec.ofChange breaksTellSpec)

/-- ITS FALSE NEIGHBOUR: 'it returns false'. Refute it at one input. -/
def breaksTellWrong : ChangeSpec := { name := "breaksTell", fn := fun _ => fun
  | [d1, d2] => { results := [.lit (.bool false)], args := [d1, d2] }
  | _ => none }
def BreaksTellWrongFalsely : Prop := breaksTellRow.holds Try.pinned (OpenSpec.ofChange breaksTellWrong)

/-- 'frisketlaw06.BreaksPart': WHATEVER THE INPUT: true; the input reads as it did. -/
def breaksPartSpec : ChangeSpec := { name := "breaksPart", fn := fun _ => fun
  | [d1, d2] => { results := [.lit (.bool true)], args := [d1, d2] }
  | _ => none }
def breaksPartRow : OpenClaim := { program := "ytfackeiommiejaa", sum := "6674a02d9cc51bd2960d47ca14b5c9600496d33eaa2fb777df4129f967d48a85", func := "frisket/frisketlaw06.BreaksPart", spec := "breaksPart", unfollowed := true, recurses := true, apart := false }
def BreaksPartSaid : Prop := breaksPartRow.holds Try.pinned (OpenSpec.ofChange breaksPartSpec)

/-- ITS FALSE NEIGHBOUR: 'it returns false'. Refute it at one input. -/
def breaksPartWrong : ChangeSpec := { name := "breaksPart", fn := fun _ => fun
  | [d1, d2] => { results := [.lit (.bool false)], args := [d1, d2] }
  | _ => none }
def BreaksPartWrongFalsely : Prop := breaksPartRow.holds Try.pinned (OpenSpec.ofChange breaksPartWrong)

/-- 'frisketlaw06.BreaksGo': WHATEVER THE INPUT: true; the input reads as it did. -/
def breaksGoSpec : ChangeSpec := { name := "breaksGo", fn := fun _ => fun
  | [d] => { results := [.lit (.bool true)], args := [d] }
  | _ => none }
def breaksGoRow : OpenClaim := { program := "ytfackeiommiejaa", sum := "6674a02d9cc51bd2960d47ca14b5c9600496d33eaa2fb777df4129f967d48a85", func := "frisket/frisketlaw06.BreaksGo", spec := "breaksGo", unfollowed := true, recurses := true, apart := false }
def BreaksGoSaid : Prop := breaksGoRow.holds Try.pinned (OpenSpec.ofChange breaksGoSpec)

/-- ITS FALSE NEIGHBOUR: 'it returns false'. Refute it at one input. -/
def breaksGoWrong : ChangeSpec := { name := "breaksGo", fn := fun _ => fun
  | [d] => { results := [.lit (.bool false)], args := [d] }
  | _ => none }
def BreaksGoWrongFalsely : Prop := breaksGoRow.holds Try.pinned (OpenSpec.ofChange breaksGoWrong)

/-- 'frisketlaw06.BreaksMarks': WHATEVER THE INPUT: true; the input reads as it did. -/
def breaksMarksSpec : ChangeSpec := { name := "breaksMarks", fn := fun _ => fun
  | [d] => { results := [.lit (.bool true)], args := [d] }
  | _ => none }
def breaksMarksRow : OpenClaim := { program := "ytfackeiommiejaa", sum := "6674a02d9cc51bd2960d47ca14b5c9600496d33eaa2fb777df4129f967d48a85", func := "frisket/frisketlaw06.BreaksMarks", spec := "breaksMarks", unfollowed := true, recurses := true, apart := false }
def BreaksMarksSaid : Prop := breaksMarksRow.holds Try.pinned (OpenSpec.ofChange breaksMarksSpec)

/-- ITS FALSE NEIGHBOUR: 'it returns false'. Refute it at one input. -/
def breaksMarksWrong : ChangeSpec := { name := "breaksMarks", fn := fun _ => fun
  | [d] => { results := [.lit (.bool false)], args := [d] }
  | _ => none }
def BreaksMarksWrongFalsely : Prop := breaksMarksRow.holds Try.pinned (OpenSpec.ofChange breaksMarksWrong)

/- THE SECOND FORM. 'bulk': how many values and letters a reading holds, each counted each time it is reached (what is shared counts as often as it is met; a slice's spare places count too). A statement '..UptoSaid' is the law's where the arguments, and the package variables that the reading takes, are together of bulk at most 1048576: NARROWER than '..Said'. Prove '..Said' where nothing that the law and all that it calls make is longer than what came in: it says more and counts as full. Else prove '..UptoSaid'. A law counts once. -/
mutual
def uptoBulk {H : Type} : DataW H → Nat
  | .lit (.string bytes) => bytes.length + 1
  | .lit _ => 1
  | .nil => 1
  | .ptr d => uptoBulk d + 1
  | .slice elems spare => uptoBulkAll elems + uptoBulkAll spare + 1
  | .agg parts => uptoBulkAll parts + 1
  | .iface _ d => uptoBulk d + 1
  | .map entries => uptoBulkEntries entries + 1
  | .held _ => 1
def uptoBulkAll {H : Type} : List (DataW H) → Nat
  | [] => 0
  | d :: r => uptoBulk d + uptoBulkAll r
def uptoBulkEntries {H : Type} : List (Lit × DataW H) → Nat
  | [] => 0
  | x :: r => uptoBulkEntry x + uptoBulkEntries r
def uptoBulkEntry {H : Type} : Lit × DataW H → Nat
  | (.string bytes, d) => bytes.length + uptoBulk d + 1
  | (_, d) => uptoBulk d + 1
 end
def uptoSmall : (H : Type) → List (DataW H) → Bool := fun _ ds => decide (uptoBulkAll ds ≤ 1048576)
def OpenSpec.upto (s : _root_.Go.ChangeSpec) : _root_.Go.OpenSpec := { _root_.Go.OpenSpec.ofChange s with cond := some uptoSmall }

/-- 'frisketlaw06.BreaksTell', WHERE WHAT IT READS IS OF BULK AT MOST 1048576: true; the input reads as it did. -/
def breaksTellUptoRow : OpenClaim := { program := "ytfackeiommiejaa", sum := "6674a02d9cc51bd2960d47ca14b5c9600496d33eaa2fb777df4129f967d48a85", func := "frisket/frisketlaw06.BreaksTell", spec := "breaksTell", unfollowed := true, recurses := true, apart := false, narrowed := true }
def BreaksTellUptoSaid : Prop := breaksTellUptoRow.holds Try.pinned (OpenSpec.upto breaksTellSpec)

/-- 'frisketlaw06.BreaksPart', WHERE WHAT IT READS IS OF BULK AT MOST 1048576: true; the input reads as it did. -/
def breaksPartUptoRow : OpenClaim := { program := "ytfackeiommiejaa", sum := "6674a02d9cc51bd2960d47ca14b5c9600496d33eaa2fb777df4129f967d48a85", func := "frisket/frisketlaw06.BreaksPart", spec := "breaksPart", unfollowed := true, recurses := true, apart := false, narrowed := true }
def BreaksPartUptoSaid : Prop := breaksPartUptoRow.holds Try.pinned (OpenSpec.upto breaksPartSpec)

/-- 'frisketlaw06.BreaksGo', WHERE WHAT IT READS IS OF BULK AT MOST 1048576: true; the input reads as it did. -/
def breaksGoUptoRow : OpenClaim := { program := "ytfackeiommiejaa", sum := "6674a02d9cc51bd2960d47ca14b5c9600496d33eaa2fb777df4129f967d48a85", func := "frisket/frisketlaw06.BreaksGo", spec := "breaksGo", unfollowed := true, recurses := true, apart := false, narrowed := true }
def BreaksGoUptoSaid : Prop := breaksGoUptoRow.holds Try.pinned (OpenSpec.upto breaksGoSpec)

/-- 'frisketlaw06.BreaksMarks', WHERE WHAT IT READS IS OF BULK AT MOST 1048576: true; the input reads as it did. -/
def breaksMarksUptoRow : OpenClaim := { program := "ytfackeiommiejaa", sum := "6674a02d9cc51bd2960d47ca14b5c9600496d33eaa2fb777df4129f967d48a85", func := "frisket/frisketlaw06.BreaksMarks", spec := "breaksMarks", unfollowed := true, recurses := true, apart := false, narrowed := true }
def BreaksMarksUptoSaid : Prop := breaksMarksUptoRow.holds Try.pinned (OpenSpec.upto breaksMarksSpec)

end Rows
end Go.Proofs.Ytfackeiommiejaa
