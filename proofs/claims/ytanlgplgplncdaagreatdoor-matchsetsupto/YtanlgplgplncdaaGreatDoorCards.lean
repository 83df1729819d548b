/-
  DERIVED. GIVEN WITH THE SEED: THE CARDS: each row of YtanlgplgplncdaaGreatDoorRows.lean that lists a variable, with what it lists TIED to the program's text (the seventh form; the later family's looks); each row that meets fmt, with fmt's text TOLD by the authors' own Lean function (tested against real Go, not proved from fmt's source: count such statements apart). THE CARD IS WHAT COUNTS. Prove the row's statement (the work); the ties are given (YtanlgplgplncdaaGreatDoorTie.lean); close each card by the builder's one call (the guide's Derived/Test/ToyasCard.lean, 'card_holds'). Laid BY PROGRAM, IN A SANDBOX (cutbox-door.mjs). By AI agents, Wed Nov 11 2026. No macro, syntax, notation, axiom, sorry.
-/
import Derived.Test.YtanlgplgplncdaaGreatDoorRows
import GoSem.ClaimSeven
namespace Go.Proofs.YtanlgplgplncdaaGreatDoor
namespace Rows

/-- THE TIED CARD OF 'turnkeylaw09.MatchSets'. -/
def matchSetsCard : Claim7 := { stood := { row := matchSetsRow, standIns := [], harness := (true, "a6cb396280c94d48904d44f6bfe0b62478e25a1148d8a13dac48ee4dd130af6e"), looks := true }, kinds := [], alts := [], laidByText := true, laidKinds := [.data, .pinned], laidTests := true, laidLooks := .later }
def MatchSetsCardSaid : Prop := Claim7.holds Tryz.pinned (.plain (OpenSpec.ofChange matchSetsSpec)) matchSetsCard

/-- THE TIED CARD OF 'turnkeylaw09.MatchTexts'. -/
def matchTextsCard : Claim7 := { stood := { row := matchTextsRow, standIns := [], harness := (true, "a6cb396280c94d48904d44f6bfe0b62478e25a1148d8a13dac48ee4dd130af6e"), looks := true }, kinds := [], alts := [], laidByText := true, laidKinds := [.data, .pinned], laidTests := true, laidLooks := .later }
def MatchTextsCardSaid : Prop := Claim7.holds Tryz.pinned (.plain (OpenSpec.ofChange matchTextsSpec)) matchTextsCard

/-- THE SECOND FORM's CARD OF 'turnkeylaw09.MatchSets'. -/
def matchSetsUptoCard : Claim7 := { stood := { row := matchSetsUptoRow, standIns := [], harness := (true, "a6cb396280c94d48904d44f6bfe0b62478e25a1148d8a13dac48ee4dd130af6e"), looks := true }, kinds := [], alts := [], laidByText := true, laidKinds := [.data, .pinned], laidTests := true, laidLooks := .later }
def MatchSetsUptoCardSaid : Prop := Claim7.holds Tryz.pinned (.plain (OpenSpec.upto matchSetsSpec)) matchSetsUptoCard

/-- THE SECOND FORM's CARD OF 'turnkeylaw09.MatchTexts'. -/
def matchTextsUptoCard : Claim7 := { stood := { row := matchTextsUptoRow, standIns := [], harness := (true, "a6cb396280c94d48904d44f6bfe0b62478e25a1148d8a13dac48ee4dd130af6e"), looks := true }, kinds := [], alts := [], laidByText := true, laidKinds := [.data, .pinned], laidTests := true, laidLooks := .later }
def MatchTextsUptoCardSaid : Prop := Claim7.holds Tryz.pinned (.plain (OpenSpec.upto matchTextsSpec)) matchTextsUptoCard
end Rows
end Go.Proofs.YtanlgplgplncdaaGreatDoor
