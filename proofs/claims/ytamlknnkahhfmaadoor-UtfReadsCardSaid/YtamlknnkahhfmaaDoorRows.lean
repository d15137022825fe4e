/-
  NARROWER THAN 'FOR EVERY INPUT', by the rows' own cells (each row's printed sentence says how): UtfWrites: laid · UtfReads: laid · UtfBack: laid · UtfOrder: laid · UtfJoins: laid.
  DERIVED. THE GIVEN ROWS OF THIS SEAT. 5 by the template 'for every input the law returns true; each argument reads behind the call as it read before'; 0 by the template 'total and deterministic' (their statements: YtamlknnkahhfmaaDoorTotals.lean).
  GIVEN WITH THE SEED: the statements are not yours to turn. If you find one false, say at which input.
  Laid BY PROGRAM, IN A SANDBOX (cutbox-rows.mjs): the forced cells as the released guide's own fill.sh prints them over the translation c0444b1df84b6971… (all of the seat's roots in one cut). By AI agents, Wed Nov 11 2026. No macro, syntax, notation, axiom, sorry.
-/
import Derived.Test.YtamlknnkahhfmaaDoorChecked
import GoSem.Claim
import GoSem.ClaimJoined
import GoSem.ClaimMapViews
import Derived.JoinedTies
import Derived.KernelRfl
namespace Go.Proofs.YtamlknnkahhfmaaDoor
/- THE CELL 'sum', in the pinned program and in every row, IS THE sha256 OF THE DUMP (.gsa) THAT YtamlknnkahhfmaaDoorProg.lean LOADS. Nothing in Lean hashes anything: it is a label: what it is worth is what the hold of that sum in a sandbox is worth. -/
noncomputable def Tryd.pinned : Pinned := { name := "ytamlknnkahhfmaadoor", sum := "c0444b1df84b6971e613e9b90f98a9f139ea34063c8a8592a8e7d068fc5c8cf2", checked := Tryd.checked }
namespace Rows
def none {H : Type} : Left H := { results := [], args := [] }

/- WHAT THE LISTED PACKAGE-LEVEL VARIABLES READ AS WHEN THE CALL BEGINS. Each datum BY PROGRAM (the guide's laid-datum.mjs) off the statement by which the dump's own 'gosem.cut.vars' lays the variable. In a bare row this is a premise. The card (YtamlknnkahhfmaaDoorCards.lean) ties it to the program's text. -/
def laid_frisket_utf_lengths {H : Type} : DataW H := .agg [.agg [.lit (.int .i64 0), .lit (.int .i64 0), .lit (.int .i64 127)], .agg [.lit (.int .i64 128), .lit (.int .i64 192), .lit (.int .i64 223)], .agg [.lit (.int .i64 2048), .lit (.int .i64 224), .lit (.int .i64 239)], .agg [.lit (.int .i64 65536), .lit (.int .i64 240), .lit (.int .i64 247)]]

/-- 'frisketlaw01.UtfWrites': WHATEVER THE INPUT: true; the input reads as it did. -/
def utfWritesSpec : ChangeSpec := { name := "utfWrites", fn := fun _ => fun
  | [d1, d2] => { results := [.lit (.bool true)], args := [d1, d2] }
  | _ => none }
def utfWritesRow : OpenClaim := { program := "ytamlknnkahhfmaadoor", sum := "c0444b1df84b6971e613e9b90f98a9f139ea34063c8a8592a8e7d068fc5c8cf2", func := "frisket/frisketlaw01.UtfWrites", spec := "utfWrites", unfollowed := true, recurses := true, named := ["frisket/utf.lengths"], apart := false, laid := [("frisket/utf.lengths", laid_frisket_utf_lengths)] }
def UtfWritesSaid : Prop := utfWritesRow.holds Tryd.pinned (OpenSpec.ofChange utfWritesSpec)

/-- ITS FALSE NEIGHBOUR: 'it returns false'. Refute it at one input. -/
def utfWritesWrong : ChangeSpec := { name := "utfWrites", fn := fun _ => fun
  | [d1, d2] => { results := [.lit (.bool false)], args := [d1, d2] }
  | _ => none }
def UtfWritesWrongFalsely : Prop := utfWritesRow.holds Tryd.pinned (OpenSpec.ofChange utfWritesWrong)

/-- 'frisketlaw01.UtfReads': WHATEVER THE INPUT: true; the input reads as it did. -/
def utfReadsSpec : ChangeSpec := { name := "utfReads", fn := fun _ => fun
  | [d] => { results := [.lit (.bool true)], args := [d] }
  | _ => none }
def utfReadsRow : OpenClaim := { program := "ytamlknnkahhfmaadoor", sum := "c0444b1df84b6971e613e9b90f98a9f139ea34063c8a8592a8e7d068fc5c8cf2", func := "frisket/frisketlaw01.UtfReads", spec := "utfReads", unfollowed := true, recurses := true, named := ["frisket/utf.lengths"], apart := false, laid := [("frisket/utf.lengths", laid_frisket_utf_lengths)] }
def UtfReadsSaid : Prop := utfReadsRow.holds Tryd.pinned (OpenSpec.ofChange utfReadsSpec)

/-- ITS FALSE NEIGHBOUR: 'it returns false'. Refute it at one input. -/
def utfReadsWrong : ChangeSpec := { name := "utfReads", fn := fun _ => fun
  | [d] => { results := [.lit (.bool false)], args := [d] }
  | _ => none }
def UtfReadsWrongFalsely : Prop := utfReadsRow.holds Tryd.pinned (OpenSpec.ofChange utfReadsWrong)

/-- 'frisketlaw01.UtfBack': WHATEVER THE INPUT: true; the input reads as it did. -/
def utfBackSpec : ChangeSpec := { name := "utfBack", fn := fun _ => fun
  | [d1, d2] => { results := [.lit (.bool true)], args := [d1, d2] }
  | _ => none }
def utfBackRow : OpenClaim := { program := "ytamlknnkahhfmaadoor", sum := "c0444b1df84b6971e613e9b90f98a9f139ea34063c8a8592a8e7d068fc5c8cf2", func := "frisket/frisketlaw01.UtfBack", spec := "utfBack", unfollowed := true, recurses := true, named := ["frisket/utf.lengths"], apart := false, laid := [("frisket/utf.lengths", laid_frisket_utf_lengths)] }
def UtfBackSaid : Prop := utfBackRow.holds Tryd.pinned (OpenSpec.ofChange utfBackSpec)

/-- ITS FALSE NEIGHBOUR: 'it returns false'. Refute it at one input. -/
def utfBackWrong : ChangeSpec := { name := "utfBack", fn := fun _ => fun
  | [d1, d2] => { results := [.lit (.bool false)], args := [d1, d2] }
  | _ => none }
def UtfBackWrongFalsely : Prop := utfBackRow.holds Tryd.pinned (OpenSpec.ofChange utfBackWrong)

/-- 'frisketlaw01.UtfOrder': WHATEVER THE INPUT: true; the input reads as it did. -/
def utfOrderSpec : ChangeSpec := { name := "utfOrder", fn := fun _ => fun
  | [d1, d2] => { results := [.lit (.bool true)], args := [d1, d2] }
  | _ => none }
def utfOrderRow : OpenClaim := { program := "ytamlknnkahhfmaadoor", sum := "c0444b1df84b6971e613e9b90f98a9f139ea34063c8a8592a8e7d068fc5c8cf2", func := "frisket/frisketlaw01.UtfOrder", spec := "utfOrder", unfollowed := true, recurses := true, named := ["frisket/utf.lengths"], apart := false, laid := [("frisket/utf.lengths", laid_frisket_utf_lengths)] }
def UtfOrderSaid : Prop := utfOrderRow.holds Tryd.pinned (OpenSpec.ofChange utfOrderSpec)

/-- ITS FALSE NEIGHBOUR: 'it returns false'. Refute it at one input. -/
def utfOrderWrong : ChangeSpec := { name := "utfOrder", fn := fun _ => fun
  | [d1, d2] => { results := [.lit (.bool false)], args := [d1, d2] }
  | _ => none }
def UtfOrderWrongFalsely : Prop := utfOrderRow.holds Tryd.pinned (OpenSpec.ofChange utfOrderWrong)

/-- 'frisketlaw01.UtfJoins': WHATEVER THE INPUT: true; the input reads as it did. -/
def utfJoinsSpec : ChangeSpec := { name := "utfJoins", fn := fun _ => fun
  | [d1, d2] => { results := [.lit (.bool true)], args := [d1, d2] }
  | _ => none }
def utfJoinsRow : OpenClaim := { program := "ytamlknnkahhfmaadoor", sum := "c0444b1df84b6971e613e9b90f98a9f139ea34063c8a8592a8e7d068fc5c8cf2", func := "frisket/frisketlaw01.UtfJoins", spec := "utfJoins", unfollowed := true, recurses := true, named := ["frisket/utf.lengths"], apart := false, laid := [("frisket/utf.lengths", laid_frisket_utf_lengths)] }
def UtfJoinsSaid : Prop := utfJoinsRow.holds Tryd.pinned (OpenSpec.ofChange utfJoinsSpec)

/-- ITS FALSE NEIGHBOUR: 'it returns false'. Refute it at one input. -/
def utfJoinsWrong : ChangeSpec := { name := "utfJoins", fn := fun _ => fun
  | [d1, d2] => { results := [.lit (.bool false)], args := [d1, d2] }
  | _ => none }
def UtfJoinsWrongFalsely : Prop := utfJoinsRow.holds Tryd.pinned (OpenSpec.ofChange utfJoinsWrong)

/- THE SECOND FORM. 'bulk': how many values and letters a reading holds, each counted each time it is reached (what is shared counts as often as it is met; a slice's spare places count too). A statement '..UptoSaid' is the law's where the arguments, and the package variables that the reading takes, are together of bulk at most 1048576: NARROWER than '..Said'. Prove '..Said' where nothing that the law and all that it calls make is longer than what came in: it says more and counts as full. Else prove '..UptoSaid'. A law counts once. -/
mutual
def uptoBulk {H : Type} : DataW H → Nat
  | .lit (.string bytes) => bytes.length + 1
  | .lit _ => 1
  | .nil => 1
  | .ptr d => uptoBulk d + 1
  | .slice elems spare => uptoBulkAll elems + uptoBulkAll spare + 1
  | .agg parts => uptoBulkAll parts + 1
  | .iface _ d => uptoBulk d + 1
  | .map entries => uptoBulkEntries entries + 1
  | .held _ => 1
def uptoBulkAll {H : Type} : List (DataW H) → Nat
  | [] => 0
  | d :: r => uptoBulk d + uptoBulkAll r
def uptoBulkEntries {H : Type} : List (Lit × DataW H) → Nat
  | [] => 0
  | x :: r => uptoBulkEntry x + uptoBulkEntries r
def uptoBulkEntry {H : Type} : Lit × DataW H → Nat
  | (.string bytes, d) => bytes.length + uptoBulk d + 1
  | (_, d) => uptoBulk d + 1
 end
def uptoSmall : (H : Type) → List (DataW H) → Bool := fun _ ds => decide (uptoBulkAll ds ≤ 1048576)
def OpenSpec.upto (s : _root_.Go.ChangeSpec) : _root_.Go.OpenSpec := { _root_.Go.OpenSpec.ofChange s with cond := some uptoSmall }

/-- 'frisketlaw01.UtfWrites', WHERE WHAT IT READS IS OF BULK AT MOST 1048576: true; the input reads as it did. -/
def utfWritesUptoRow : OpenClaim := { program := "ytamlknnkahhfmaadoor", sum := "c0444b1df84b6971e613e9b90f98a9f139ea34063c8a8592a8e7d068fc5c8cf2", func := "frisket/frisketlaw01.UtfWrites", spec := "utfWrites", unfollowed := true, recurses := true, named := ["frisket/utf.lengths"], apart := false, laid := [("frisket/utf.lengths", laid_frisket_utf_lengths)], narrowed := true }
def UtfWritesUptoSaid : Prop := utfWritesUptoRow.holds Tryd.pinned (OpenSpec.upto utfWritesSpec)

/-- 'frisketlaw01.UtfReads', WHERE WHAT IT READS IS OF BULK AT MOST 1048576: true; the input reads as it did. -/
def utfReadsUptoRow : OpenClaim := { program := "ytamlknnkahhfmaadoor", sum := "c0444b1df84b6971e613e9b90f98a9f139ea34063c8a8592a8e7d068fc5c8cf2", func := "frisket/frisketlaw01.UtfReads", spec := "utfReads", unfollowed := true, recurses := true, named := ["frisket/utf.lengths"], apart := false, laid := [("frisket/utf.lengths", laid_frisket_utf_lengths)], narrowed := true }
def UtfReadsUptoSaid : Prop := utfReadsUptoRow.holds Tryd.pinned (OpenSpec.upto utfReadsSpec)

/-- 'frisketlaw01.UtfBack', WHERE WHAT IT READS IS OF BULK AT MOST 1048576: true; the input reads as it did. -/
def utfBackUptoRow : OpenClaim := { program := "ytamlknnkahhfmaadoor", sum := "c0444b1df84b6971e613e9b90f98a9f139ea34063c8a8592a8e7d068fc5c8cf2", func := "frisket/frisketlaw01.UtfBack", spec := "utfBack", unfollowed := true, recurses := true, named := ["frisket/utf.lengths"], apart := false, laid := [("frisket/utf.lengths", laid_frisket_utf_lengths)], narrowed := true }
def UtfBackUptoSaid : Prop := utfBackUptoRow.holds Tryd.pinned (OpenSpec.upto utfBackSpec)

/-- 'frisketlaw01.UtfOrder', WHERE WHAT IT READS IS OF BULK AT MOST 1048576: true; the input reads as it did. -/
def utfOrderUptoRow : OpenClaim := { program := "ytamlknnkahhfmaadoor", sum := "c0444b1df84b6971e613e9b90f98a9f139ea34063c8a8592a8e7d068fc5c8cf2", func := "frisket/frisketlaw01.UtfOrder", spec := "utfOrder", unfollowed := true, recurses := true, named := ["frisket/utf.lengths"], apart := false, laid := [("frisket/utf.lengths", laid_frisket_utf_lengths)], narrowed := true }
def UtfOrderUptoSaid : Prop := utfOrderUptoRow.holds Tryd.pinned (OpenSpec.upto utfOrderSpec)

/-- 'frisketlaw01.UtfJoins', WHERE WHAT IT READS IS OF BULK AT MOST 1048576: true; the input reads as it did. -/
def utfJoinsUptoRow : OpenClaim := { program := "ytamlknnkahhfmaadoor", sum := "c0444b1df84b6971e613e9b90f98a9f139ea34063c8a8592a8e7d068fc5c8cf2", func := "frisket/frisketlaw01.UtfJoins", spec := "utfJoins", unfollowed := true, recurses := true, named := ["frisket/utf.lengths"], apart := false, laid := [("frisket/utf.lengths", laid_frisket_utf_lengths)], narrowed := true }
def UtfJoinsUptoSaid : Prop := utfJoinsUptoRow.holds Tryd.pinned (OpenSpec.upto utfJoinsSpec)

end Rows
end Go.Proofs.YtamlknnkahhfmaaDoor
