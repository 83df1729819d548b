/-
  DERIVED. GIVEN WITH THE SEED: THE CARDS: each row of YtanlgplgplncdaaDoorRows.lean that lists a variable, with what it lists TIED to the program's text (the seventh form; the later family's looks); each row that meets fmt, with fmt's text TOLD by the authors' own Lean function (tested against real Go, not proved from fmt's source: count such statements apart). THE CARD IS WHAT COUNTS. Prove the row's statement (the work); the ties are given (YtanlgplgplncdaaDoorTie.lean); close each card by the builder's one call (the guide's Derived/Test/ToyasCard.lean, 'card_holds'). Laid BY PROGRAM, IN A SANDBOX (cutbox-door.mjs). By AI agents, Wed Nov 11 2026. No macro, syntax, notation, axiom, sorry.
-/
import Derived.Test.YtanlgplgplncdaaDoorRows
import GoSem.ClaimSeven
namespace Go.Proofs.YtanlgplgplncdaaDoor
namespace Rows

/-- THE TIED CARD OF 'turnkeylaw09.MatchOpposite'. -/
def matchOppositeCard : Claim7 := { stood := { row := matchOppositeRow, standIns := [], harness := (true, "0c61f4122f4485e0194ed268325e74054353d976f90f7b3c08d9a403d6f44de0"), looks := true }, kinds := [], alts := [], laidByText := true, laidKinds := [.data, .pinned], laidTests := true, laidLooks := .later }
def MatchOppositeCardSaid : Prop := Claim7.holds Tryd.pinned (.plain (OpenSpec.ofChange matchOppositeSpec)) matchOppositeCard

/-- THE TIED CARD OF 'turnkeylaw09.MatchBack'. -/
def matchBackCard : Claim7 := { stood := { row := matchBackRow, standIns := [], harness := (true, "0c61f4122f4485e0194ed268325e74054353d976f90f7b3c08d9a403d6f44de0"), looks := true }, kinds := [], alts := [], laidByText := true, laidKinds := [.data, .pinned], laidTests := true, laidLooks := .later }
def MatchBackCardSaid : Prop := Claim7.holds Tryd.pinned (.plain (OpenSpec.ofChange matchBackSpec)) matchBackCard

/-- THE SECOND FORM's CARD OF 'turnkeylaw09.MatchOpposite'. -/
def matchOppositeUptoCard : Claim7 := { stood := { row := matchOppositeUptoRow, standIns := [], harness := (true, "0c61f4122f4485e0194ed268325e74054353d976f90f7b3c08d9a403d6f44de0"), looks := true }, kinds := [], alts := [], laidByText := true, laidKinds := [.data, .pinned], laidTests := true, laidLooks := .later }
def MatchOppositeUptoCardSaid : Prop := Claim7.holds Tryd.pinned (.plain (OpenSpec.upto matchOppositeSpec)) matchOppositeUptoCard

/-- THE SECOND FORM's CARD OF 'turnkeylaw09.MatchBack'. -/
def matchBackUptoCard : Claim7 := { stood := { row := matchBackUptoRow, standIns := [], harness := (true, "0c61f4122f4485e0194ed268325e74054353d976f90f7b3c08d9a403d6f44de0"), looks := true }, kinds := [], alts := [], laidByText := true, laidKinds := [.data, .pinned], laidTests := true, laidLooks := .later }
def MatchBackUptoCardSaid : Prop := Claim7.holds Tryd.pinned (.plain (OpenSpec.upto matchBackSpec)) matchBackUptoCard
end Rows
end Go.Proofs.YtanlgplgplncdaaDoor
