/-
  DERIVED. GIVEN WITH THE SEED: THE CARDS: each row of YteknpodofmmklaaDoorRows.lean that lists a variable, with what it lists TIED to the program's text (the seventh form; the later family's looks); each row that meets fmt, with fmt's text TOLD by the authors' own Lean function (tested against real Go, not proved from fmt's source: count such statements apart). THE CARD IS WHAT COUNTS. Prove the row's statement (the work); the ties are given (YteknpodofmmklaaDoorTie.lean); close each card by the builder's one call (the guide's Derived/Test/ToyasCard.lean, 'card_holds'). Laid BY PROGRAM, IN A SANDBOX (cutbox-door.mjs). By AI agents, Wed Nov 11 2026. No macro, syntax, notation, axiom, sorry.
-/
import Derived.Test.YteknpodofmmklaaDoorRows
import GoSem.ClaimSeven
namespace Go.Proofs.YteknpodofmmklaaDoor
namespace Rows

/-- THE TIED CARD OF 'frisketlaw07.SpanTells'. -/
def spanTellsCard : Claim7 := { stood := { row := spanTellsRow, standIns := [], harness := (true, "a90268b7bd5709a5c7d1cd8f9f225b4a567a7bc7e499f95a7b08bacf37a8f68c"), looks := false }, kinds := [], alts := [], laidByText := true, laidKinds := [.data], laidTests := true, laidLooks := .later }
def SpanTellsCardSaid : Prop := Claim7.holds Tryd.pinned (.plain (OpenSpec.ofChange spanTellsSpec)) spanTellsCard

/-- THE TIED CARD OF 'frisketlaw07.SpanMoves'. -/
def spanMovesCard : Claim7 := { stood := { row := spanMovesRow, standIns := [], harness := (true, "a90268b7bd5709a5c7d1cd8f9f225b4a567a7bc7e499f95a7b08bacf37a8f68c"), looks := false }, kinds := [], alts := [], laidByText := true, laidKinds := [.data], laidTests := true, laidLooks := .later }
def SpanMovesCardSaid : Prop := Claim7.holds Tryd.pinned (.plain (OpenSpec.ofChange spanMovesSpec)) spanMovesCard

/-- THE TIED CARD OF 'frisketlaw07.SpanNormal'. -/
def spanNormalCard : Claim7 := { stood := { row := spanNormalRow, standIns := [], harness := (true, "a90268b7bd5709a5c7d1cd8f9f225b4a567a7bc7e499f95a7b08bacf37a8f68c"), looks := false }, kinds := [], alts := [], laidByText := true, laidKinds := [.data], laidTests := true, laidLooks := .later }
def SpanNormalCardSaid : Prop := Claim7.holds Tryd.pinned (.plain (OpenSpec.ofChange spanNormalSpec)) spanNormalCard

/-- THE TIED CARD OF 'frisketlaw07.SpanBack'. -/
def spanBackCard : Claim7 := { stood := { row := spanBackRow, standIns := [], harness := (true, "a90268b7bd5709a5c7d1cd8f9f225b4a567a7bc7e499f95a7b08bacf37a8f68c"), looks := false }, kinds := [], alts := [], laidByText := true, laidKinds := [.data], laidTests := true, laidLooks := .later }
def SpanBackCardSaid : Prop := Claim7.holds Tryd.pinned (.plain (OpenSpec.ofChange spanBackSpec)) spanBackCard

/-- THE TIED CARD OF 'frisketlaw07.SpanOthers'. -/
def spanOthersCard : Claim7 := { stood := { row := spanOthersRow, standIns := [], harness := (true, "a90268b7bd5709a5c7d1cd8f9f225b4a567a7bc7e499f95a7b08bacf37a8f68c"), looks := false }, kinds := [], alts := [], laidByText := true, laidKinds := [.data], laidTests := true, laidLooks := .later }
def SpanOthersCardSaid : Prop := Claim7.holds Tryd.pinned (.plain (OpenSpec.ofChange spanOthersSpec)) spanOthersCard

/-- THE SECOND FORM's CARD OF 'frisketlaw07.SpanTells'. -/
def spanTellsUptoCard : Claim7 := { stood := { row := spanTellsUptoRow, standIns := [], harness := (true, "a90268b7bd5709a5c7d1cd8f9f225b4a567a7bc7e499f95a7b08bacf37a8f68c"), looks := false }, kinds := [], alts := [], laidByText := true, laidKinds := [.data], laidTests := true, laidLooks := .later }
def SpanTellsUptoCardSaid : Prop := Claim7.holds Tryd.pinned (.plain (OpenSpec.upto spanTellsSpec)) spanTellsUptoCard

/-- THE SECOND FORM's CARD OF 'frisketlaw07.SpanMoves'. -/
def spanMovesUptoCard : Claim7 := { stood := { row := spanMovesUptoRow, standIns := [], harness := (true, "a90268b7bd5709a5c7d1cd8f9f225b4a567a7bc7e499f95a7b08bacf37a8f68c"), looks := false }, kinds := [], alts := [], laidByText := true, laidKinds := [.data], laidTests := true, laidLooks := .later }
def SpanMovesUptoCardSaid : Prop := Claim7.holds Tryd.pinned (.plain (OpenSpec.upto spanMovesSpec)) spanMovesUptoCard

/-- THE SECOND FORM's CARD OF 'frisketlaw07.SpanNormal'. -/
def spanNormalUptoCard : Claim7 := { stood := { row := spanNormalUptoRow, standIns := [], harness := (true, "a90268b7bd5709a5c7d1cd8f9f225b4a567a7bc7e499f95a7b08bacf37a8f68c"), looks := false }, kinds := [], alts := [], laidByText := true, laidKinds := [.data], laidTests := true, laidLooks := .later }
def SpanNormalUptoCardSaid : Prop := Claim7.holds Tryd.pinned (.plain (OpenSpec.upto spanNormalSpec)) spanNormalUptoCard

/-- THE SECOND FORM's CARD OF 'frisketlaw07.SpanBack'. -/
def spanBackUptoCard : Claim7 := { stood := { row := spanBackUptoRow, standIns := [], harness := (true, "a90268b7bd5709a5c7d1cd8f9f225b4a567a7bc7e499f95a7b08bacf37a8f68c"), looks := false }, kinds := [], alts := [], laidByText := true, laidKinds := [.data], laidTests := true, laidLooks := .later }
def SpanBackUptoCardSaid : Prop := Claim7.holds Tryd.pinned (.plain (OpenSpec.upto spanBackSpec)) spanBackUptoCard

/-- THE SECOND FORM's CARD OF 'frisketlaw07.SpanOthers'. -/
def spanOthersUptoCard : Claim7 := { stood := { row := spanOthersUptoRow, standIns := [], harness := (true, "a90268b7bd5709a5c7d1cd8f9f225b4a567a7bc7e499f95a7b08bacf37a8f68c"), looks := false }, kinds := [], alts := [], laidByText := true, laidKinds := [.data], laidTests := true, laidLooks := .later }
def SpanOthersUptoCardSaid : Prop := Claim7.holds Tryd.pinned (.plain (OpenSpec.upto spanOthersSpec)) spanOthersUptoCard
end Rows
end Go.Proofs.YteknpodofmmklaaDoor
