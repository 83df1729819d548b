/-
  DERIVED. GIVEN WITH THE SEED: THE CARDS: each row of YtlppibigceeimaaGreatDoorRows.lean that lists a variable, with what it lists TIED to the program's text (the seventh form; the later family's looks); each row that meets fmt, with fmt's text TOLD by the authors' own Lean function (tested against real Go, not proved from fmt's source: count such statements apart). THE CARD IS WHAT COUNTS. Prove the row's statement (the work); the ties are given (YtlppibigceeimaaGreatDoorTie.lean); close each card by the builder's one call (the guide's Derived/Test/ToyasCard.lean, 'card_holds'). Laid BY PROGRAM, IN A SANDBOX (cutbox-door.mjs). By AI agents, Wed Nov 11 2026. No macro, syntax, notation, axiom, sorry.
-/
import Derived.Test.YtlppibigceeimaaGreatDoorRows
import GoSem.ClaimSeven
namespace Go.Proofs.YtlppibigceeimaaGreatDoor
namespace Rows

/-- THE TIED CARD OF 'turnkeylaw14.SeriesPlays'. -/
def seriesPlaysCard : Claim7 := { stood := { row := seriesPlaysRow, standIns := [], harness := (true, "611f0492c06985db6b675d52a850930e66dd63d7499bb5d7211c184f56d968ce"), looks := false }, kinds := [], alts := [], laidByText := true, laidKinds := [.data, .data], laidTests := true, laidLooks := .later }
def SeriesPlaysCardSaid : Prop := Claim7.holds Tryz.pinned (.plain (OpenSpec.ofChange seriesPlaysSpec)) seriesPlaysCard

/-- THE SECOND FORM's CARD OF 'turnkeylaw14.SeriesPlays'. -/
def seriesPlaysUptoCard : Claim7 := { stood := { row := seriesPlaysUptoRow, standIns := [], harness := (true, "611f0492c06985db6b675d52a850930e66dd63d7499bb5d7211c184f56d968ce"), looks := false }, kinds := [], alts := [], laidByText := true, laidKinds := [.data, .data], laidTests := true, laidLooks := .later }
def SeriesPlaysUptoCardSaid : Prop := Claim7.holds Tryz.pinned (.plain (OpenSpec.upto seriesPlaysSpec)) seriesPlaysUptoCard
end Rows
end Go.Proofs.YtlppibigceeimaaGreatDoor
