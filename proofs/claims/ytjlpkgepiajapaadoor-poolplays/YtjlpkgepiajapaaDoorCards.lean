/-
  DERIVED. GIVEN WITH THE SEED: THE CARDS: each row of YtjlpkgepiajapaaDoorRows.lean that lists a variable, with what it lists TIED to the program's text (the seventh form; the later family's looks); each row that meets fmt, with fmt's text TOLD by the authors' own Lean function (tested against real Go, not proved from fmt's source: count such statements apart). THE CARD IS WHAT COUNTS. Prove the row's statement (the work); the ties are given (YtjlpkgepiajapaaDoorTie.lean); close each card by the builder's one call (the guide's Derived/Test/ToyasCard.lean, 'card_holds'). Laid BY PROGRAM, IN A SANDBOX (cutbox-door.mjs). By AI agents, Wed Nov 11 2026. No macro, syntax, notation, axiom, sorry.
-/
import Derived.Test.YtjlpkgepiajapaaDoorRows
import GoSem.ClaimSeven
namespace Go.Proofs.YtjlpkgepiajapaaDoor
namespace Rows

/-- THE TIED CARD OF 'turnkeylaw11.PoolPlays'. -/
def poolPlaysCard : Claim7 := { stood := { row := poolPlaysRow, standIns := [], harness := (true, "eb377c462cf8e69eb872e5e7c2353c11f0f2dcbcf86701eabb1355013cd0e31e"), looks := false }, kinds := [], alts := [], laidByText := true, laidKinds := [.data], laidTests := true, laidLooks := .later }
def PoolPlaysCardSaid : Prop := Claim7.holds Tryd.pinned (.plain (OpenSpec.ofChange poolPlaysSpec)) poolPlaysCard

/-- THE TIED CARD OF 'turnkeylaw11.PoolShares'. -/
def poolSharesCard : Claim7 := { stood := { row := poolSharesRow, standIns := [], harness := (true, "eb377c462cf8e69eb872e5e7c2353c11f0f2dcbcf86701eabb1355013cd0e31e"), looks := false }, kinds := [], alts := [], laidByText := true, laidKinds := [.data], laidTests := true, laidLooks := .later }
def PoolSharesCardSaid : Prop := Claim7.holds Tryd.pinned (.plain (OpenSpec.ofChange poolSharesSpec)) poolSharesCard

/-- THE SECOND FORM's CARD OF 'turnkeylaw11.PoolPlays'. -/
def poolPlaysUptoCard : Claim7 := { stood := { row := poolPlaysUptoRow, standIns := [], harness := (true, "eb377c462cf8e69eb872e5e7c2353c11f0f2dcbcf86701eabb1355013cd0e31e"), looks := false }, kinds := [], alts := [], laidByText := true, laidKinds := [.data], laidTests := true, laidLooks := .later }
def PoolPlaysUptoCardSaid : Prop := Claim7.holds Tryd.pinned (.plain (OpenSpec.upto poolPlaysSpec)) poolPlaysUptoCard

/-- THE SECOND FORM's CARD OF 'turnkeylaw11.PoolShares'. -/
def poolSharesUptoCard : Claim7 := { stood := { row := poolSharesUptoRow, standIns := [], harness := (true, "eb377c462cf8e69eb872e5e7c2353c11f0f2dcbcf86701eabb1355013cd0e31e"), looks := false }, kinds := [], alts := [], laidByText := true, laidKinds := [.data], laidTests := true, laidLooks := .later }
def PoolSharesUptoCardSaid : Prop := Claim7.holds Tryd.pinned (.plain (OpenSpec.upto poolSharesSpec)) poolSharesUptoCard
end Rows
end Go.Proofs.YtjlpkgepiajapaaDoor
