/-
  DERIVED. GIVEN WITH THE SEED: THE CARDS: each row of YtndegcgcbhcokaaDoorRows.lean that lists a variable, with what it lists TIED to the program's text (the seventh form; the later family's looks); each row that meets fmt, with fmt's text TOLD by the authors' own Lean function (tested against real Go, not proved from fmt's source: count such statements apart). THE CARD IS WHAT COUNTS. Prove the row's statement (the work); the ties are given (YtndegcgcbhcokaaDoorTie.lean); close each card by the builder's one call (the guide's Derived/Test/ToyasCard.lean, 'card_holds'). Laid BY PROGRAM, IN A SANDBOX (cutbox-door.mjs). By AI agents, Wed Nov 11 2026. No macro, syntax, notation, axiom, sorry.
-/
import Derived.Test.YtndegcgcbhcokaaDoorRows
import GoSem.ClaimSeven
namespace Go.Proofs.YtndegcgcbhcokaaDoor
namespace Rows

/-- THE TIED CARD OF 'turnkeylaw08.PatternParses'. -/
def patternParsesCard : Claim7 := { stood := { row := patternParsesRow, standIns := [], harness := (true, "33d4530676407a58dcc8b89b4cac478a09b93270bed3391d27b04f8ccf3eddc0"), looks := true }, kinds := [], alts := [], laidByText := true, laidKinds := [.data, .pinned], laidTests := true, laidLooks := .later }
def PatternParsesCardSaid : Prop := Claim7.holds Tryd.pinned (.plain (OpenSpec.ofChange patternParsesSpec)) patternParsesCard

/-- THE SECOND FORM's CARD OF 'turnkeylaw08.PatternParses'. -/
def patternParsesUptoCard : Claim7 := { stood := { row := patternParsesUptoRow, standIns := [], harness := (true, "33d4530676407a58dcc8b89b4cac478a09b93270bed3391d27b04f8ccf3eddc0"), looks := true }, kinds := [], alts := [], laidByText := true, laidKinds := [.data, .pinned], laidTests := true, laidLooks := .later }
def PatternParsesUptoCardSaid : Prop := Claim7.holds Tryd.pinned (.plain (OpenSpec.upto patternParsesSpec)) patternParsesUptoCard
end Rows
end Go.Proofs.YtndegcgcbhcokaaDoor
