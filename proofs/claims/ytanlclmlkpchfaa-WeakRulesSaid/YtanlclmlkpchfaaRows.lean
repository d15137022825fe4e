/-
  No cell of these rows narrows 'for every input' (looked for: loops, veiled, ifaces, maps, wideKeys, modest, calm, conditions, laid).
  DERIVED. THE GIVEN ROWS OF THIS SEAT. 4 by the template 'for every input the law returns true; each argument reads behind the call as it read before'; 0 by the template 'total and deterministic' (their statements: YtanlclmlkpchfaaTotals.lean).
  GIVEN WITH THE SEED: the statements are not yours to turn. If you find one false, say at which input.
  Laid BY PROGRAM, IN A SANDBOX (cutbox-rows.mjs): the forced cells as the released guide's own fill.sh prints them over the translation 1e2a98096cb0aec2… (all of the seat's roots in one cut). By AI agents, Wed Nov 11 2026. No macro, syntax, notation, axiom, sorry.
-/
import Derived.Test.YtanlclmlkpchfaaChecked
import GoSem.Claim
import GoSem.ClaimJoined
import GoSem.ClaimMapViews
import Derived.JoinedTies
import Derived.KernelRfl
namespace Go.Proofs.Ytanlclmlkpchfaa
/- THE CELL 'sum', in the pinned program and in every row, IS THE sha256 OF THE DUMP (.gsa) THAT YtanlclmlkpchfaaProg.lean LOADS. Nothing in Lean hashes anything: it is a label: what it is worth is what the hold of that sum in a sandbox is worth. -/
noncomputable def Try.pinned : Pinned := { name := "ytanlclmlkpchfaa", sum := "1e2a98096cb0aec2926c8ffb016015f2ae8b96e591e9ae3173ee4383182ceafd", checked := Try.checked }
namespace Rows
def none {H : Type} : Left H := { results := [], args := [] }

/-- 'frisketlaw10.WeakRules': WHATEVER THE INPUT: true; the input reads as it did. -/
def weakRulesSpec : ChangeSpec := { name := "weakRules", fn := fun _ => fun
  | [d1, d2, d3] => { results := [.lit (.bool true)], args := [d1, d2, d3] }
  | _ => none }
def weakRulesRow : OpenClaim := { program := "ytanlclmlkpchfaa", sum := "1e2a98096cb0aec2926c8ffb016015f2ae8b96e591e9ae3173ee4383182ceafd", func := "frisket/frisketlaw10.WeakRules", spec := "weakRules", unfollowed := true, recurses := true, apart := false }
def WeakRulesSaid : Prop := weakRulesRow.holds Try.pinned (OpenSpec.ofChange weakRulesSpec)

/-- ITS FALSE NEIGHBOUR: 'it returns false'. Refute it at one input. -/
def weakRulesWrong : ChangeSpec := { name := "weakRules", fn := fun _ => fun
  | [d1, d2, d3] => { results := [.lit (.bool false)], args := [d1, d2, d3] }
  | _ => none }
def WeakRulesWrongFalsely : Prop := weakRulesRow.holds Try.pinned (OpenSpec.ofChange weakRulesWrong)

/-- 'frisketlaw10.WeakLeft': WHATEVER THE INPUT: true; the input reads as it did. -/
def weakLeftSpec : ChangeSpec := { name := "weakLeft", fn := fun _ => fun
  | [d1, d2] => { results := [.lit (.bool true)], args := [d1, d2] }
  | _ => none }
def weakLeftRow : OpenClaim := { program := "ytanlclmlkpchfaa", sum := "1e2a98096cb0aec2926c8ffb016015f2ae8b96e591e9ae3173ee4383182ceafd", func := "frisket/frisketlaw10.WeakLeft", spec := "weakLeft", unfollowed := true, recurses := true, apart := false }
def WeakLeftSaid : Prop := weakLeftRow.holds Try.pinned (OpenSpec.ofChange weakLeftSpec)

/-- ITS FALSE NEIGHBOUR: 'it returns false'. Refute it at one input. -/
def weakLeftWrong : ChangeSpec := { name := "weakLeft", fn := fun _ => fun
  | [d1, d2] => { results := [.lit (.bool false)], args := [d1, d2] }
  | _ => none }
def WeakLeftWrongFalsely : Prop := weakLeftRow.holds Try.pinned (OpenSpec.ofChange weakLeftWrong)

/-- 'frisketlaw10.WeakApart': WHATEVER THE INPUT: true; the input reads as it did. -/
def weakApartSpec : ChangeSpec := { name := "weakApart", fn := fun _ => fun
  | [d1, d2, d3] => { results := [.lit (.bool true)], args := [d1, d2, d3] }
  | _ => none }
def weakApartRow : OpenClaim := { program := "ytanlclmlkpchfaa", sum := "1e2a98096cb0aec2926c8ffb016015f2ae8b96e591e9ae3173ee4383182ceafd", func := "frisket/frisketlaw10.WeakApart", spec := "weakApart", unfollowed := true, recurses := true, apart := false }
def WeakApartSaid : Prop := weakApartRow.holds Try.pinned (OpenSpec.ofChange weakApartSpec)

/-- ITS FALSE NEIGHBOUR: 'it returns false'. Refute it at one input. -/
def weakApartWrong : ChangeSpec := { name := "weakApart", fn := fun _ => fun
  | [d1, d2, d3] => { results := [.lit (.bool false)], args := [d1, d2, d3] }
  | _ => none }
def WeakApartWrongFalsely : Prop := weakApartRow.holds Try.pinned (OpenSpec.ofChange weakApartWrong)

/-- 'frisketlaw10.WeakSteps': WHATEVER THE INPUT: true; the input reads as it did. -/
def weakStepsSpec : ChangeSpec := { name := "weakSteps", fn := fun _ => fun
  | [d1, d2, d3] => { results := [.lit (.bool true)], args := [d1, d2, d3] }
  | _ => none }
def weakStepsRow : OpenClaim := { program := "ytanlclmlkpchfaa", sum := "1e2a98096cb0aec2926c8ffb016015f2ae8b96e591e9ae3173ee4383182ceafd", func := "frisket/frisketlaw10.WeakSteps", spec := "weakSteps", unfollowed := true, recurses := true, apart := false }
def WeakStepsSaid : Prop := weakStepsRow.holds Try.pinned (OpenSpec.ofChange weakStepsSpec)

/-- ITS FALSE NEIGHBOUR: 'it returns false'. Refute it at one input. -/
def weakStepsWrong : ChangeSpec := { name := "weakSteps", fn := fun _ => fun
  | [d1, d2, d3] => { results := [.lit (.bool false)], args := [d1, d2, d3] }
  | _ => none }
def WeakStepsWrongFalsely : Prop := weakStepsRow.holds Try.pinned (OpenSpec.ofChange weakStepsWrong)

/- THE SECOND FORM. 'bulk': how many values and letters a reading holds, each counted each time it is reached (what is shared counts as often as it is met; a slice's spare places count too). A statement '..UptoSaid' is the law's where the arguments, and the package variables that the reading takes, are together of bulk at most 1048576: NARROWER than '..Said'. Prove '..Said' where nothing that the law and all that it calls make is longer than what came in: it says more and counts as full. Else prove '..UptoSaid'. A law counts once. -/
mutual
def uptoBulk {H : Type} : DataW H → Nat
  | .lit (.string bytes) => bytes.length + 1
  | .lit _ => 1
  | .nil => 1
  | .ptr d => uptoBulk d + 1
  | .slice elems spare => uptoBulkAll elems + uptoBulkAll spare + 1
  | .agg parts => uptoBulkAll parts + 1
  | .iface _ d => uptoBulk d + 1
  | .map entries => uptoBulkEntries entries + 1
  | .held _ => 1
def uptoBulkAll {H : Type} : List (DataW H) → Nat
  | [] => 0
  | d :: r => uptoBulk d + uptoBulkAll r
def uptoBulkEntries {H : Type} : List (Lit × DataW H) → Nat
  | [] => 0
  | x :: r => uptoBulkEntry x + uptoBulkEntries r
def uptoBulkEntry {H : Type} : Lit × DataW H → Nat
  | (.string bytes, d) => bytes.length + uptoBulk d + 1
  | (_, d) => uptoBulk d + 1
 end
def uptoSmall : (H : Type) → List (DataW H) → Bool := fun _ ds => decide (uptoBulkAll ds ≤ 1048576)
def OpenSpec.upto (s : _root_.Go.ChangeSpec) : _root_.Go.OpenSpec := { _root_.Go.OpenSpec.ofChange s with cond := some uptoSmall }

/-- 'frisketlaw10.WeakRules', WHERE WHAT IT READS IS OF BULK AT MOST 1048576: true; the input reads as it did. -/
def weakRulesUptoRow : OpenClaim := { program := "ytanlclmlkpchfaa", sum := "1e2a98096cb0aec2926c8ffb016015f2ae8b96e591e9ae3173ee4383182ceafd", func := "frisket/frisketlaw10.WeakRules", spec := "weakRules", unfollowed := true, recurses := true, apart := false, narrowed := true }
def WeakRulesUptoSaid : Prop := weakRulesUptoRow.holds Try.pinned (OpenSpec.upto weakRulesSpec)

/-- 'frisketlaw10.WeakLeft', WHERE WHAT IT READS IS OF BULK AT MOST 1048576: true; the input reads as it did. -/
def weakLeftUptoRow : OpenClaim := { program := "ytanlclmlkpchfaa", sum := "1e2a98096cb0aec2926c8ffb016015f2ae8b96e591e9ae3173ee4383182ceafd", func := "frisket/frisketlaw10.WeakLeft", spec := "weakLeft", unfollowed := true, recurses := true, apart := false, narrowed := true }
def WeakLeftUptoSaid : Prop := weakLeftUptoRow.holds Try.pinned (OpenSpec.upto weakLeftSpec)

/-- 'frisketlaw10.WeakApart', WHERE WHAT IT READS IS OF BULK AT MOST 1048576: true; the input reads as it did. -/
def weakApartUptoRow : OpenClaim := { program := "ytanlclmlkpchfaa", sum := "1e2a98096cb0aec2926c8ffb016015f2ae8b96e591e9ae3173ee4383182ceafd", func := "frisket/frisketlaw10.WeakApart", spec := "weakApart", unfollowed := true, recurses := true, apart := false, narrowed := true }
def WeakApartUptoSaid : Prop := weakApartUptoRow.holds Try.pinned (OpenSpec.upto weakApartSpec)

/-- 'frisketlaw10.WeakSteps', WHERE WHAT IT READS IS OF BULK AT MOST 1048576: true; the input reads as it did. -/
def weakStepsUptoRow : OpenClaim := { program := "ytanlclmlkpchfaa", sum := "1e2a98096cb0aec2926c8ffb016015f2ae8b96e591e9ae3173ee4383182ceafd", func := "frisket/frisketlaw10.WeakSteps", spec := "weakSteps", unfollowed := true, recurses := true, apart := false, narrowed := true }
def WeakStepsUptoSaid : Prop := weakStepsUptoRow.holds Try.pinned (OpenSpec.upto weakStepsSpec)

end Rows
end Go.Proofs.Ytanlclmlkpchfaa
