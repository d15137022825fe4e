/-
  NARROWER THAN 'FOR EVERY INPUT', by the rows' own cells (each row's printed sentence says how): SpanTells: laid · SpanMoves: laid · SpanNormal: laid · SpanBack: laid · SpanOthers: laid.
  DERIVED. THE GIVEN ROWS OF THIS SEAT. 5 by the template 'for every input the law returns true; each argument reads behind the call as it read before'; 0 by the template 'total and deterministic' (their statements: YteknpodofmmklaaDoorTotals.lean).
  GIVEN WITH THE SEED: the statements are not yours to turn. If you find one false, say at which input.
  Laid BY PROGRAM, IN A SANDBOX (cutbox-rows.mjs): the forced cells as the released guide's own fill.sh prints them over the translation e59f9352778b4629… (all of the seat's roots in one cut). By AI agents, Wed Nov 11 2026. No macro, syntax, notation, axiom, sorry.
-/
import Derived.Test.YteknpodofmmklaaDoorChecked
import GoSem.Claim
import GoSem.ClaimJoined
import GoSem.ClaimMapViews
import Derived.JoinedTies
import Derived.KernelRfl
namespace Go.Proofs.YteknpodofmmklaaDoor
/- THE CELL 'sum', in the pinned program and in every row, IS THE sha256 OF THE DUMP (.gsa) THAT YteknpodofmmklaaDoorProg.lean LOADS. Nothing in Lean hashes anything: it is a label: what it is worth is what the hold of that sum in a sandbox is worth. -/
noncomputable def Tryd.pinned : Pinned := { name := "yteknpodofmmklaadoor", sum := "e59f9352778b462929ede5e43f9858f99b2afcb0d8674e210720388d67cdcd9f", checked := Tryd.checked }
namespace Rows
def none {H : Type} : Left H := { results := [], args := [] }

/- WHAT THE LISTED PACKAGE-LEVEL VARIABLES READ AS WHEN THE CALL BEGINS. Each datum BY PROGRAM (the guide's laid-datum.mjs) off the statement by which the dump's own 'gosem.cut.vars' lays the variable. In a bare row this is a premise. The card (YteknpodofmmklaaDoorCards.lean) ties it to the program's text. -/
def laid_frisket_utf_lengths {H : Type} : DataW H := .agg [.agg [.lit (.int .i64 0), .lit (.int .i64 0), .lit (.int .i64 127)], .agg [.lit (.int .i64 128), .lit (.int .i64 192), .lit (.int .i64 223)], .agg [.lit (.int .i64 2048), .lit (.int .i64 224), .lit (.int .i64 239)], .agg [.lit (.int .i64 65536), .lit (.int .i64 240), .lit (.int .i64 247)]]

/-- 'frisketlaw07.SpanTells': WHATEVER THE INPUT: true; the input reads as it did. -/
def spanTellsSpec : ChangeSpec := { name := "spanTells", fn := fun _ => fun
  | [d1, d2, d3] => { results := [.lit (.bool true)], args := [d1, d2, d3] }
  | _ => none }
def spanTellsRow : OpenClaim := { program := "yteknpodofmmklaadoor", sum := "e59f9352778b462929ede5e43f9858f99b2afcb0d8674e210720388d67cdcd9f", func := "frisket/frisketlaw07.SpanTells", spec := "spanTells", inPlace := ["math.Float64frombits", "math.Float64bits", "math.archCeil", "math.archFloor", "math.archTrunc"], unfollowed := true, recurses := true, named := ["frisket/utf.lengths"], apart := false, laid := [("frisket/utf.lengths", laid_frisket_utf_lengths)] }
def SpanTellsSaid : Prop := spanTellsRow.holds Tryd.pinned (OpenSpec.ofChange spanTellsSpec)

/-- ITS FALSE NEIGHBOUR: 'it returns false'. Refute it at one input. -/
def spanTellsWrong : ChangeSpec := { name := "spanTells", fn := fun _ => fun
  | [d1, d2, d3] => { results := [.lit (.bool false)], args := [d1, d2, d3] }
  | _ => none }
def SpanTellsWrongFalsely : Prop := spanTellsRow.holds Tryd.pinned (OpenSpec.ofChange spanTellsWrong)

/-- 'frisketlaw07.SpanMoves': WHATEVER THE INPUT: true; the input reads as it did. -/
def spanMovesSpec : ChangeSpec := { name := "spanMoves", fn := fun _ => fun
  | [d1, d2, d3] => { results := [.lit (.bool true)], args := [d1, d2, d3] }
  | _ => none }
def spanMovesRow : OpenClaim := { program := "yteknpodofmmklaadoor", sum := "e59f9352778b462929ede5e43f9858f99b2afcb0d8674e210720388d67cdcd9f", func := "frisket/frisketlaw07.SpanMoves", spec := "spanMoves", inPlace := ["math.Float64frombits", "math.Float64bits", "math.archCeil", "math.archFloor", "math.archTrunc"], unfollowed := true, recurses := true, named := ["frisket/utf.lengths"], apart := false, laid := [("frisket/utf.lengths", laid_frisket_utf_lengths)] }
def SpanMovesSaid : Prop := spanMovesRow.holds Tryd.pinned (OpenSpec.ofChange spanMovesSpec)

/-- ITS FALSE NEIGHBOUR: 'it returns false'. Refute it at one input. -/
def spanMovesWrong : ChangeSpec := { name := "spanMoves", fn := fun _ => fun
  | [d1, d2, d3] => { results := [.lit (.bool false)], args := [d1, d2, d3] }
  | _ => none }
def SpanMovesWrongFalsely : Prop := spanMovesRow.holds Tryd.pinned (OpenSpec.ofChange spanMovesWrong)

/-- 'frisketlaw07.SpanNormal': WHATEVER THE INPUT: true; the input reads as it did. -/
def spanNormalSpec : ChangeSpec := { name := "spanNormal", fn := fun _ => fun
  | [d1, d2, d3] => { results := [.lit (.bool true)], args := [d1, d2, d3] }
  | _ => none }
def spanNormalRow : OpenClaim := { program := "yteknpodofmmklaadoor", sum := "e59f9352778b462929ede5e43f9858f99b2afcb0d8674e210720388d67cdcd9f", func := "frisket/frisketlaw07.SpanNormal", spec := "spanNormal", inPlace := ["math.Float64frombits", "math.Float64bits", "math.archCeil", "math.archFloor", "math.archTrunc"], unfollowed := true, recurses := true, named := ["frisket/utf.lengths"], apart := false, laid := [("frisket/utf.lengths", laid_frisket_utf_lengths)] }
def SpanNormalSaid : Prop := spanNormalRow.holds Tryd.pinned (OpenSpec.ofChange spanNormalSpec)

/-- ITS FALSE NEIGHBOUR: 'it returns false'. Refute it at one input. -/
def spanNormalWrong : ChangeSpec := { name := "spanNormal", fn := fun _ => fun
  | [d1, d2, d3] => { results := [.lit (.bool false)], args := [d1, d2, d3] }
  | _ => none }
def SpanNormalWrongFalsely : Prop := spanNormalRow.holds Tryd.pinned (OpenSpec.ofChange spanNormalWrong)

/-- 'frisketlaw07.SpanBack': WHATEVER THE INPUT: true; the input reads as it did. -/
def spanBackSpec : ChangeSpec := { name := "spanBack", fn := fun _ => fun
  | [d1, d2, d3] => { results := [.lit (.bool true)], args := [d1, d2, d3] }
  | _ => none }
def spanBackRow : OpenClaim := { program := "yteknpodofmmklaadoor", sum := "e59f9352778b462929ede5e43f9858f99b2afcb0d8674e210720388d67cdcd9f", func := "frisket/frisketlaw07.SpanBack", spec := "spanBack", inPlace := ["math.Float64frombits", "math.Float64bits", "math.archCeil", "math.archFloor", "math.archTrunc"], unfollowed := true, recurses := true, named := ["frisket/utf.lengths"], apart := false, laid := [("frisket/utf.lengths", laid_frisket_utf_lengths)] }
def SpanBackSaid : Prop := spanBackRow.holds Tryd.pinned (OpenSpec.ofChange spanBackSpec)

/-- ITS FALSE NEIGHBOUR: 'it returns false'. Refute it at one input. -/
def spanBackWrong : ChangeSpec := { name := "spanBack", fn := fun _ => fun
  | [d1, d2, d3] => { results := [.lit (.bool false)], args := [d1, d2, d3] }
  | _ => none }
def SpanBackWrongFalsely : Prop := spanBackRow.holds Tryd.pinned (OpenSpec.ofChange spanBackWrong)

/-- 'frisketlaw07.SpanOthers': WHATEVER THE INPUT: true; the input reads as it did. -/
def spanOthersSpec : ChangeSpec := { name := "spanOthers", fn := fun _ => fun
  | [d1, d2, d3] => { results := [.lit (.bool true)], args := [d1, d2, d3] }
  | _ => none }
def spanOthersRow : OpenClaim := { program := "yteknpodofmmklaadoor", sum := "e59f9352778b462929ede5e43f9858f99b2afcb0d8674e210720388d67cdcd9f", func := "frisket/frisketlaw07.SpanOthers", spec := "spanOthers", inPlace := ["math.Float64frombits", "math.Float64bits", "math.archCeil", "math.archFloor", "math.archTrunc"], unfollowed := true, recurses := true, named := ["frisket/utf.lengths"], apart := false, laid := [("frisket/utf.lengths", laid_frisket_utf_lengths)] }
def SpanOthersSaid : Prop := spanOthersRow.holds Tryd.pinned (OpenSpec.ofChange spanOthersSpec)

/-- ITS FALSE NEIGHBOUR: 'it returns false'. Refute it at one input. -/
def spanOthersWrong : ChangeSpec := { name := "spanOthers", fn := fun _ => fun
  | [d1, d2, d3] => { results := [.lit (.bool false)], args := [d1, d2, d3] }
  | _ => none }
def SpanOthersWrongFalsely : Prop := spanOthersRow.holds Tryd.pinned (OpenSpec.ofChange spanOthersWrong)

/- THE SECOND FORM. 'bulk': how many values and letters a reading holds, each counted each time it is reached (what is shared counts as often as it is met; a slice's spare places count too). A statement '..UptoSaid' is the law's where the arguments, and the package variables that the reading takes, are together of bulk at most 1048576: NARROWER than '..Said'. Prove '..Said' where nothing that the law and all that it calls make is longer than what came in: it says more and counts as full. Else prove '..UptoSaid'. A law counts once. -/
mutual
def uptoBulk {H : Type} : DataW H → Nat
  | .lit (.string bytes) => bytes.length + 1
  | .lit _ => 1
  | .nil => 1
  | .ptr d => uptoBulk d + 1
  | .slice elems spare => uptoBulkAll elems + uptoBulkAll spare + 1
  | .agg parts => uptoBulkAll parts + 1
  | .iface _ d => uptoBulk d + 1
  | .map entries => uptoBulkEntries entries + 1
  | .held _ => 1
def uptoBulkAll {H : Type} : List (DataW H) → Nat
  | [] => 0
  | d :: r => uptoBulk d + uptoBulkAll r
def uptoBulkEntries {H : Type} : List (Lit × DataW H) → Nat
  | [] => 0
  | x :: r => uptoBulkEntry x + uptoBulkEntries r
def uptoBulkEntry {H : Type} : Lit × DataW H → Nat
  | (.string bytes, d) => bytes.length + uptoBulk d + 1
  | (_, d) => uptoBulk d + 1
 end
def uptoSmall : (H : Type) → List (DataW H) → Bool := fun _ ds => decide (uptoBulkAll ds ≤ 1048576)
def OpenSpec.upto (s : _root_.Go.ChangeSpec) : _root_.Go.OpenSpec := { _root_.Go.OpenSpec.ofChange s with cond := some uptoSmall }

/-- 'frisketlaw07.SpanTells', WHERE WHAT IT READS IS OF BULK AT MOST 1048576: true; the input reads as it did. -/
def spanTellsUptoRow : OpenClaim := { program := "yteknpodofmmklaadoor", sum := "e59f9352778b462929ede5e43f9858f99b2afcb0d8674e210720388d67cdcd9f", func := "frisket/frisketlaw07.SpanTells", spec := "spanTells", inPlace := ["math.Float64frombits", "math.Float64bits", "math.archCeil", "math.archFloor", "math.archTrunc"], unfollowed := true, recurses := true, named := ["frisket/utf.lengths"], apart := false, laid := [("frisket/utf.lengths", laid_frisket_utf_lengths)], narrowed := true }
def SpanTellsUptoSaid : Prop := spanTellsUptoRow.holds Tryd.pinned (OpenSpec.upto spanTellsSpec)

/-- 'frisketlaw07.SpanMoves', WHERE WHAT IT READS IS OF BULK AT MOST 1048576: true; the input reads as it did. -/
def spanMovesUptoRow : OpenClaim := { program := "yteknpodofmmklaadoor", sum := "e59f9352778b462929ede5e43f9858f99b2afcb0d8674e210720388d67cdcd9f", func := "frisket/frisketlaw07.SpanMoves", spec := "spanMoves", inPlace := ["math.Float64frombits", "math.Float64bits", "math.archCeil", "math.archFloor", "math.archTrunc"], unfollowed := true, recurses := true, named := ["frisket/utf.lengths"], apart := false, laid := [("frisket/utf.lengths", laid_frisket_utf_lengths)], narrowed := true }
def SpanMovesUptoSaid : Prop := spanMovesUptoRow.holds Tryd.pinned (OpenSpec.upto spanMovesSpec)

/-- 'frisketlaw07.SpanNormal', WHERE WHAT IT READS IS OF BULK AT MOST 1048576: true; the input reads as it did. -/
def spanNormalUptoRow : OpenClaim := { program := "yteknpodofmmklaadoor", sum := "e59f9352778b462929ede5e43f9858f99b2afcb0d8674e210720388d67cdcd9f", func := "frisket/frisketlaw07.SpanNormal", spec := "spanNormal", inPlace := ["math.Float64frombits", "math.Float64bits", "math.archCeil", "math.archFloor", "math.archTrunc"], unfollowed := true, recurses := true, named := ["frisket/utf.lengths"], apart := false, laid := [("frisket/utf.lengths", laid_frisket_utf_lengths)], narrowed := true }
def SpanNormalUptoSaid : Prop := spanNormalUptoRow.holds Tryd.pinned (OpenSpec.upto spanNormalSpec)

/-- 'frisketlaw07.SpanBack', WHERE WHAT IT READS IS OF BULK AT MOST 1048576: true; the input reads as it did. -/
def spanBackUptoRow : OpenClaim := { program := "yteknpodofmmklaadoor", sum := "e59f9352778b462929ede5e43f9858f99b2afcb0d8674e210720388d67cdcd9f", func := "frisket/frisketlaw07.SpanBack", spec := "spanBack", inPlace := ["math.Float64frombits", "math.Float64bits", "math.archCeil", "math.archFloor", "math.archTrunc"], unfollowed := true, recurses := true, named := ["frisket/utf.lengths"], apart := false, laid := [("frisket/utf.lengths", laid_frisket_utf_lengths)], narrowed := true }
def SpanBackUptoSaid : Prop := spanBackUptoRow.holds Tryd.pinned (OpenSpec.upto spanBackSpec)

/-- 'frisketlaw07.SpanOthers', WHERE WHAT IT READS IS OF BULK AT MOST 1048576: true; the input reads as it did. -/
def spanOthersUptoRow : OpenClaim := { program := "yteknpodofmmklaadoor", sum := "e59f9352778b462929ede5e43f9858f99b2afcb0d8674e210720388d67cdcd9f", func := "frisket/frisketlaw07.SpanOthers", spec := "spanOthers", inPlace := ["math.Float64frombits", "math.Float64bits", "math.archCeil", "math.archFloor", "math.archTrunc"], unfollowed := true, recurses := true, named := ["frisket/utf.lengths"], apart := false, laid := [("frisket/utf.lengths", laid_frisket_utf_lengths)], narrowed := true }
def SpanOthersUptoSaid : Prop := spanOthersUptoRow.holds Tryd.pinned (OpenSpec.upto spanOthersSpec)

end Rows
end Go.Proofs.YteknpodofmmklaaDoor
