/-
  DERIVED. GIVEN WITH THE SEED: THE CARDS: each row of YtgmdpbahcbhfjaaGreatDoorRows.lean that lists a variable, with what it lists TIED to the program's text (the seventh form; the later family's looks); each row that meets fmt, with fmt's text TOLD by the authors' own Lean function (tested against real Go, not proved from fmt's source: count such statements apart). THE CARD IS WHAT COUNTS. Prove the row's statement (the work); the ties are given (YtgmdpbahcbhfjaaGreatDoorTie.lean); close each card by the builder's one call (the guide's Derived/Test/ToyasCard.lean, 'card_holds'). Laid BY PROGRAM, IN A SANDBOX (cutbox-door.mjs). By AI agents, Wed Nov 11 2026. No macro, syntax, notation, axiom, sorry.
-/
import Derived.Test.YtgmdpbahcbhfjaaGreatDoorRows
import GoSem.ClaimSeven
namespace Go.Proofs.YtgmdpbahcbhfjaaGreatDoor
namespace Rows

/-- THE TIED CARD OF 'turnkeylaw13.IndexPlays'. -/
def indexPlaysCard : Claim7 := { stood := { row := indexPlaysRow, standIns := [], harness := (true, "9f378c551a1bf832738d2884094783c321ce3a9dff581bed9b387bb3861e5d9b"), looks := true }, kinds := [], alts := [], laidByText := true, laidKinds := [.data, .pinned], laidTests := true, laidLooks := .later }
def IndexPlaysCardSaid : Prop := Claim7.holds Tryz.pinned (.plain (OpenSpec.ofChange indexPlaysSpec)) indexPlaysCard

/-- THE TIED CARD OF 'turnkeylaw13.IndexApart'. -/
def indexApartCard : Claim7 := { stood := { row := indexApartRow, standIns := [], harness := (true, "9f378c551a1bf832738d2884094783c321ce3a9dff581bed9b387bb3861e5d9b"), looks := true }, kinds := [], alts := [], laidByText := true, laidKinds := [.data, .pinned], laidTests := true, laidLooks := .later }
def IndexApartCardSaid : Prop := Claim7.holds Tryz.pinned (.plain (OpenSpec.ofChange indexApartSpec)) indexApartCard

/-- THE TIED CARD OF 'turnkeylaw13.IndexSees'. -/
def indexSeesCard : Claim7 := { stood := { row := indexSeesRow, standIns := [], harness := (true, "9f378c551a1bf832738d2884094783c321ce3a9dff581bed9b387bb3861e5d9b"), looks := true }, kinds := [], alts := [], laidByText := true, laidKinds := [.data, .pinned], laidTests := true, laidLooks := .later }
def IndexSeesCardSaid : Prop := Claim7.holds Tryz.pinned (.plain (OpenSpec.ofChange indexSeesSpec)) indexSeesCard

/-- THE SECOND FORM's CARD OF 'turnkeylaw13.IndexPlays'. -/
def indexPlaysUptoCard : Claim7 := { stood := { row := indexPlaysUptoRow, standIns := [], harness := (true, "9f378c551a1bf832738d2884094783c321ce3a9dff581bed9b387bb3861e5d9b"), looks := true }, kinds := [], alts := [], laidByText := true, laidKinds := [.data, .pinned], laidTests := true, laidLooks := .later }
def IndexPlaysUptoCardSaid : Prop := Claim7.holds Tryz.pinned (.plain (OpenSpec.upto indexPlaysSpec)) indexPlaysUptoCard

/-- THE SECOND FORM's CARD OF 'turnkeylaw13.IndexApart'. -/
def indexApartUptoCard : Claim7 := { stood := { row := indexApartUptoRow, standIns := [], harness := (true, "9f378c551a1bf832738d2884094783c321ce3a9dff581bed9b387bb3861e5d9b"), looks := true }, kinds := [], alts := [], laidByText := true, laidKinds := [.data, .pinned], laidTests := true, laidLooks := .later }
def IndexApartUptoCardSaid : Prop := Claim7.holds Tryz.pinned (.plain (OpenSpec.upto indexApartSpec)) indexApartUptoCard

/-- THE SECOND FORM's CARD OF 'turnkeylaw13.IndexSees'. -/
def indexSeesUptoCard : Claim7 := { stood := { row := indexSeesUptoRow, standIns := [], harness := (true, "9f378c551a1bf832738d2884094783c321ce3a9dff581bed9b387bb3861e5d9b"), looks := true }, kinds := [], alts := [], laidByText := true, laidKinds := [.data, .pinned], laidTests := true, laidLooks := .later }
def IndexSeesUptoCardSaid : Prop := Claim7.holds Tryz.pinned (.plain (OpenSpec.upto indexSeesSpec)) indexSeesUptoCard
end Rows
end Go.Proofs.YtgmdpbahcbhfjaaGreatDoor
