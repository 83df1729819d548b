/-
  DERIVED. GIVEN WITH THE SEED: THE CARDS: each row of YtlppibigceeimaaDoorRows.lean that lists a variable, with what it lists TIED to the program's text (the seventh form; the later family's looks); each row that meets fmt, with fmt's text TOLD by the authors' own Lean function (tested against real Go, not proved from fmt's source: count such statements apart). THE CARD IS WHAT COUNTS. Prove the row's statement (the work); the ties are given (YtlppibigceeimaaDoorTie.lean); close each card by the builder's one call (the guide's Derived/Test/ToyasCard.lean, 'card_holds'). Laid BY PROGRAM, IN A SANDBOX (cutbox-door.mjs). By AI agents, Wed Nov 11 2026. No macro, syntax, notation, axiom, sorry.
-/
import Derived.Test.YtlppibigceeimaaDoorRows
import GoSem.ClaimSeven
namespace Go.Proofs.YtlppibigceeimaaDoor
namespace Rows

/-- THE TIED CARD OF 'turnkeylaw14.SeriesKeeps'. -/
def seriesKeepsCard : Claim7 := { stood := { row := seriesKeepsRow, standIns := [], harness := (true, "d1432330045b62aa581e55f5836aad4b66b397b112dc42d2567f50baff921ba6"), looks := false }, kinds := [], alts := [], laidByText := true, laidKinds := [.data, .data], laidTests := true, laidLooks := .later }
def SeriesKeepsCardSaid : Prop := Claim7.holds Tryd.pinned (.plain (OpenSpec.ofChange seriesKeepsSpec)) seriesKeepsCard

/-- THE SECOND FORM's CARD OF 'turnkeylaw14.SeriesKeeps'. -/
def seriesKeepsUptoCard : Claim7 := { stood := { row := seriesKeepsUptoRow, standIns := [], harness := (true, "d1432330045b62aa581e55f5836aad4b66b397b112dc42d2567f50baff921ba6"), looks := false }, kinds := [], alts := [], laidByText := true, laidKinds := [.data, .data], laidTests := true, laidLooks := .later }
def SeriesKeepsUptoCardSaid : Prop := Claim7.holds Tryd.pinned (.plain (OpenSpec.upto seriesKeepsSpec)) seriesKeepsUptoCard
end Rows
end Go.Proofs.YtlppibigceeimaaDoor
