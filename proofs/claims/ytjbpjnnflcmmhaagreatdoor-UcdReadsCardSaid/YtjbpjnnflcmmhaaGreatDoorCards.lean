/-
  DERIVED. GIVEN WITH THE SEED: THE CARDS: each row of YtjbpjnnflcmmhaaGreatDoorRows.lean that lists a variable, with what it lists TIED to the program's text (the seventh form; the later family's looks); each row that meets fmt, with fmt's text TOLD by the authors' own Lean function (tested against real Go, not proved from fmt's source: count such statements apart). THE CARD IS WHAT COUNTS. Prove the row's statement (the work); the ties are given (YtjbpjnnflcmmhaaGreatDoorTie.lean); close each card by the builder's one call (the guide's Derived/Test/ToyasCard.lean, 'card_holds'). Laid BY PROGRAM, IN A SANDBOX (cutbox-door.mjs). By AI agents, Wed Nov 11 2026. No macro, syntax, notation, axiom, sorry.
-/
import Derived.Test.YtjbpjnnflcmmhaaGreatDoorRows
import GoSem.ClaimSeven
namespace Go.Proofs.YtjbpjnnflcmmhaaGreatDoor
namespace Rows

/-- THE TIED CARD OF 'frisketlaw02.UcdReads'. -/
def ucdReadsCard : Claim7 := { stood := { row := ucdReadsRow, standIns := [], harness := (true, "42a1f70cf50ee4246d4d4a6d542572d8e6fa0be2ca2ea8c8eff1ce06b9374238"), looks := false }, kinds := [], alts := [], laidByText := true, laidKinds := [.data, .data, .data, .data, .pinned, .pinned], laidTests := true, laidLooks := .later }
def UcdReadsCardSaid : Prop := Claim7.holds Tryz.pinned (.plain (OpenSpec.ofChange ucdReadsSpec)) ucdReadsCard

/-- THE SECOND FORM's CARD OF 'frisketlaw02.UcdReads'. -/
def ucdReadsUptoCard : Claim7 := { stood := { row := ucdReadsUptoRow, standIns := [], harness := (true, "42a1f70cf50ee4246d4d4a6d542572d8e6fa0be2ca2ea8c8eff1ce06b9374238"), looks := false }, kinds := [], alts := [], laidByText := true, laidKinds := [.data, .data, .data, .data, .pinned, .pinned], laidTests := true, laidLooks := .later }
def UcdReadsUptoCardSaid : Prop := Claim7.holds Tryz.pinned (.plain (OpenSpec.upto ucdReadsSpec)) ucdReadsUptoCard
end Rows
end Go.Proofs.YtjbpjnnflcmmhaaGreatDoor
