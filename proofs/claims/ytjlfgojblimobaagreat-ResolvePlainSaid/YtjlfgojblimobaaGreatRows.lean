/-
  No cell of these rows narrows 'for every input' (looked for: loops, veiled, ifaces, maps, wideKeys, modest, calm, conditions, laid).
  DERIVED. THE GIVEN ROWS OF THIS SEAT. 5 by the template 'for every input the law returns true; each argument reads behind the call as it read before'; 0 by the template 'total and deterministic' (their statements: YtjlfgojblimobaaGreatTotals.lean).
  GIVEN WITH THE SEED: the statements are not yours to turn. If you find one false, say at which input.
  Laid BY PROGRAM, IN A SANDBOX (cutbox-rows.mjs): the forced cells as the released guide's own fill.sh prints them over the translation c5c1aee12a41f4b2… (all of the seat's roots in one cut). By AI agents, Wed Nov 11 2026. No macro, syntax, notation, axiom, sorry.
-/
import Derived.Test.YtjlfgojblimobaaGreatChecked
import GoSem.Claim
import GoSem.ClaimJoined
import GoSem.ClaimMapViews
import Derived.JoinedTies
import Derived.KernelRfl
namespace Go.Proofs.YtjlfgojblimobaaGreat
/- THE CELL 'sum', in the pinned program and in every row, IS THE sha256 OF THE DUMP (.gsa) THAT YtjlfgojblimobaaGreatProg.lean LOADS. Nothing in Lean hashes anything: it is a label: what it is worth is what the hold of that sum in a sandbox is worth. -/
noncomputable def Tryz.pinned : Pinned := { name := "ytjlfgojblimobaagreat", sum := "c5c1aee12a41f4b27be454a95e5073d24ee8a856b1af9715f5d0bdd06df5a8a3", checked := Tryz.checked }
namespace Rows
def none {H : Type} : Left H := { results := [], args := [] }

/-- 'frisketlaw13.ResolveParagraph': WHATEVER THE INPUT: true; the input reads as it did. -/
def resolveParagraphSpec : ChangeSpec := { name := "resolveParagraph", fn := fun _ => fun
  | [d1, d2, d3] => { results := [.lit (.bool true)], args := [d1, d2, d3] }
  | _ => none }
def resolveParagraphRow : OpenClaim := { program := "ytjlfgojblimobaagreat", sum := "c5c1aee12a41f4b27be454a95e5073d24ee8a856b1af9715f5d0bdd06df5a8a3", func := "frisket/frisketlaw13.ResolveParagraph", spec := "resolveParagraph", unfollowed := true, recurses := true, apart := false }
def ResolveParagraphSaid : Prop := resolveParagraphRow.holds Tryz.pinned (OpenSpec.ofChange resolveParagraphSpec)

/-- ITS FALSE NEIGHBOUR: 'it returns false'. Refute it at one input. -/
def resolveParagraphWrong : ChangeSpec := { name := "resolveParagraph", fn := fun _ => fun
  | [d1, d2, d3] => { results := [.lit (.bool false)], args := [d1, d2, d3] }
  | _ => none }
def ResolveParagraphWrongFalsely : Prop := resolveParagraphRow.holds Tryz.pinned (OpenSpec.ofChange resolveParagraphWrong)

/-- 'frisketlaw13.ResolveLine': WHATEVER THE INPUT: true; the input reads as it did. -/
def resolveLineSpec : ChangeSpec := { name := "resolveLine", fn := fun _ => fun
  | [d1, d2, d3] => { results := [.lit (.bool true)], args := [d1, d2, d3] }
  | _ => none }
def resolveLineRow : OpenClaim := { program := "ytjlfgojblimobaagreat", sum := "c5c1aee12a41f4b27be454a95e5073d24ee8a856b1af9715f5d0bdd06df5a8a3", func := "frisket/frisketlaw13.ResolveLine", spec := "resolveLine", unfollowed := true, recurses := true, apart := false }
def ResolveLineSaid : Prop := resolveLineRow.holds Tryz.pinned (OpenSpec.ofChange resolveLineSpec)

/-- ITS FALSE NEIGHBOUR: 'it returns false'. Refute it at one input. -/
def resolveLineWrong : ChangeSpec := { name := "resolveLine", fn := fun _ => fun
  | [d1, d2, d3] => { results := [.lit (.bool false)], args := [d1, d2, d3] }
  | _ => none }
def ResolveLineWrongFalsely : Prop := resolveLineRow.holds Tryz.pinned (OpenSpec.ofChange resolveLineWrong)

/-- 'frisketlaw13.ResolvePlain': WHATEVER THE INPUT: true; the input reads as it did. -/
def resolvePlainSpec : ChangeSpec := { name := "resolvePlain", fn := fun _ => fun
  | [d1, d2] => { results := [.lit (.bool true)], args := [d1, d2] }
  | _ => none }
def resolvePlainRow : OpenClaim := { program := "ytjlfgojblimobaagreat", sum := "c5c1aee12a41f4b27be454a95e5073d24ee8a856b1af9715f5d0bdd06df5a8a3", func := "frisket/frisketlaw13.ResolvePlain", spec := "resolvePlain", unfollowed := true, recurses := true, apart := false }
def ResolvePlainSaid : Prop := resolvePlainRow.holds Tryz.pinned (OpenSpec.ofChange resolvePlainSpec)

/-- ITS FALSE NEIGHBOUR: 'it returns false'. Refute it at one input. -/
def resolvePlainWrong : ChangeSpec := { name := "resolvePlain", fn := fun _ => fun
  | [d1, d2] => { results := [.lit (.bool false)], args := [d1, d2] }
  | _ => none }
def ResolvePlainWrongFalsely : Prop := resolvePlainRow.holds Tryz.pinned (OpenSpec.ofChange resolvePlainWrong)

/-- 'frisketlaw13.ResolveNear': WHATEVER THE INPUT: true; the input reads as it did. -/
def resolveNearSpec : ChangeSpec := { name := "resolveNear", fn := fun _ => fun
  | [d1, d2, d3] => { results := [.lit (.bool true)], args := [d1, d2, d3] }
  | _ => none }
def resolveNearRow : OpenClaim := { program := "ytjlfgojblimobaagreat", sum := "c5c1aee12a41f4b27be454a95e5073d24ee8a856b1af9715f5d0bdd06df5a8a3", func := "frisket/frisketlaw13.ResolveNear", spec := "resolveNear", unfollowed := true, recurses := true, apart := false }
def ResolveNearSaid : Prop := resolveNearRow.holds Tryz.pinned (OpenSpec.ofChange resolveNearSpec)

/-- ITS FALSE NEIGHBOUR: 'it returns false'. Refute it at one input. -/
def resolveNearWrong : ChangeSpec := { name := "resolveNear", fn := fun _ => fun
  | [d1, d2, d3] => { results := [.lit (.bool false)], args := [d1, d2, d3] }
  | _ => none }
def ResolveNearWrongFalsely : Prop := resolveNearRow.holds Tryz.pinned (OpenSpec.ofChange resolveNearWrong)

/-- 'frisketlaw13.ResolveWhole': WHATEVER THE INPUT: true; the input reads as it did. -/
def resolveWholeSpec : ChangeSpec := { name := "resolveWhole", fn := fun _ => fun
  | [d1, d2, d3] => { results := [.lit (.bool true)], args := [d1, d2, d3] }
  | _ => none }
def resolveWholeRow : OpenClaim := { program := "ytjlfgojblimobaagreat", sum := "c5c1aee12a41f4b27be454a95e5073d24ee8a856b1af9715f5d0bdd06df5a8a3", func := "frisket/frisketlaw13.ResolveWhole", spec := "resolveWhole", unfollowed := true, recurses := true, apart := false }
def ResolveWholeSaid : Prop := resolveWholeRow.holds Tryz.pinned (OpenSpec.ofChange resolveWholeSpec)

/-- ITS FALSE NEIGHBOUR: 'it returns false'. Refute it at one input. -/
def resolveWholeWrong : ChangeSpec := { name := "resolveWhole", fn := fun _ => fun
  | [d1, d2, d3] => { results := [.lit (.bool false)], args := [d1, d2, d3] }
  | _ => none }
def ResolveWholeWrongFalsely : Prop := resolveWholeRow.holds Tryz.pinned (OpenSpec.ofChange resolveWholeWrong)

/- THE SECOND FORM. 'bulk': how many values and letters a reading holds, each counted each time it is reached (what is shared counts as often as it is met; a slice's spare places count too). A statement '..UptoSaid' is the law's where the arguments, and the package variables that the reading takes, are together of bulk at most 1048576: NARROWER than '..Said'. Prove '..Said' where nothing that the law and all that it calls make is longer than what came in: it says more and counts as full. Else prove '..UptoSaid'. A law counts once. -/
mutual
def uptoBulk {H : Type} : DataW H → Nat
  | .lit (.string bytes) => bytes.length + 1
  | .lit _ => 1
  | .nil => 1
  | .ptr d => uptoBulk d + 1
  | .slice elems spare => uptoBulkAll elems + uptoBulkAll spare + 1
  | .agg parts => uptoBulkAll parts + 1
  | .iface _ d => uptoBulk d + 1
  | .map entries => uptoBulkEntries entries + 1
  | .held _ => 1
def uptoBulkAll {H : Type} : List (DataW H) → Nat
  | [] => 0
  | d :: r => uptoBulk d + uptoBulkAll r
def uptoBulkEntries {H : Type} : List (Lit × DataW H) → Nat
  | [] => 0
  | x :: r => uptoBulkEntry x + uptoBulkEntries r
def uptoBulkEntry {H : Type} : Lit × DataW H → Nat
  | (.string bytes, d) => bytes.length + uptoBulk d + 1
  | (_, d) => uptoBulk d + 1
 end
def uptoSmall : (H : Type) → List (DataW H) → Bool := fun _ ds => decide (uptoBulkAll ds ≤ 1048576)
def OpenSpec.upto (s : _root_.Go.ChangeSpec) : _root_.Go.OpenSpec := { _root_.Go.OpenSpec.ofChange s with cond := some uptoSmall }

/-- 'frisketlaw13.ResolveParagraph', WHERE WHAT IT READS IS OF BULK AT MOST 1048576: true; the input reads as it did. -/
def resolveParagraphUptoRow : OpenClaim := { program := "ytjlfgojblimobaagreat", sum := "c5c1aee12a41f4b27be454a95e5073d24ee8a856b1af9715f5d0bdd06df5a8a3", func := "frisket/frisketlaw13.ResolveParagraph", spec := "resolveParagraph", unfollowed := true, recurses := true, apart := false, narrowed := true }
def ResolveParagraphUptoSaid : Prop := resolveParagraphUptoRow.holds Tryz.pinned (OpenSpec.upto resolveParagraphSpec)

/-- 'frisketlaw13.ResolveLine', WHERE WHAT IT READS IS OF BULK AT MOST 1048576: true; the input reads as it did. -/
def resolveLineUptoRow : OpenClaim := { program := "ytjlfgojblimobaagreat", sum := "c5c1aee12a41f4b27be454a95e5073d24ee8a856b1af9715f5d0bdd06df5a8a3", func := "frisket/frisketlaw13.ResolveLine", spec := "resolveLine", unfollowed := true, recurses := true, apart := false, narrowed := true }
def ResolveLineUptoSaid : Prop := resolveLineUptoRow.holds Tryz.pinned (OpenSpec.upto resolveLineSpec)

/-- 'frisketlaw13.ResolvePlain', WHERE WHAT IT READS IS OF BULK AT MOST 1048576: true; the input reads as it did. -/
def resolvePlainUptoRow : OpenClaim := { program := "ytjlfgojblimobaagreat", sum := "c5c1aee12a41f4b27be454a95e5073d24ee8a856b1af9715f5d0bdd06df5a8a3", func := "frisket/frisketlaw13.ResolvePlain", spec := "resolvePlain", unfollowed := true, recurses := true, apart := false, narrowed := true }
def ResolvePlainUptoSaid : Prop := resolvePlainUptoRow.holds Tryz.pinned (OpenSpec.upto resolvePlainSpec)

/-- 'frisketlaw13.ResolveNear', WHERE WHAT IT READS IS OF BULK AT MOST 1048576: true; the input reads as it did. -/
def resolveNearUptoRow : OpenClaim := { program := "ytjlfgojblimobaagreat", sum := "c5c1aee12a41f4b27be454a95e5073d24ee8a856b1af9715f5d0bdd06df5a8a3", func := "frisket/frisketlaw13.ResolveNear", spec := "resolveNear", unfollowed := true, recurses := true, apart := false, narrowed := true }
def ResolveNearUptoSaid : Prop := resolveNearUptoRow.holds Tryz.pinned (OpenSpec.upto resolveNearSpec)

/-- 'frisketlaw13.ResolveWhole', WHERE WHAT IT READS IS OF BULK AT MOST 1048576: true; the input reads as it did. -/
def resolveWholeUptoRow : OpenClaim := { program := "ytjlfgojblimobaagreat", sum := "c5c1aee12a41f4b27be454a95e5073d24ee8a856b1af9715f5d0bdd06df5a8a3", func := "frisket/frisketlaw13.ResolveWhole", spec := "resolveWhole", unfollowed := true, recurses := true, apart := false, narrowed := true }
def ResolveWholeUptoSaid : Prop := resolveWholeUptoRow.holds Tryz.pinned (OpenSpec.upto resolveWholeSpec)

end Rows
end Go.Proofs.YtjlfgojblimobaaGreat
