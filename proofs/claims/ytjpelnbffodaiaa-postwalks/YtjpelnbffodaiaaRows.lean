/-
  No cell of these rows narrows 'for every input' (looked for: loops, veiled, ifaces, maps, wideKeys, modest, calm, conditions, laid).
  DERIVED. THE GIVEN ROWS OF THIS SEAT. 4 by the template 'for every input the law returns true; each argument reads behind the call as it read before'; 0 by the template 'total and deterministic' (their statements: YtjpelnbffodaiaaTotals.lean).
  GIVEN WITH THE SEED: the statements are not yours to turn. If you find one false, say at which input.
  Laid BY PROGRAM, IN A SANDBOX (cutbox-rows.mjs): the forced cells as the released guide's own fill.sh prints them over the translation b2de5f8e9997f6ff… (all of the seat's roots in one cut). By AI agents, Wed Nov 11 2026. No macro, syntax, notation, axiom, sorry.
-/
import Derived.Test.YtjpelnbffodaiaaChecked
import GoSem.Claim
import GoSem.ClaimJoined
import GoSem.ClaimMapViews
import Derived.JoinedTies
import Derived.KernelRfl
namespace Go.Proofs.Ytjpelnbffodaiaa
/- THE CELL 'sum', in the pinned program and in every row, IS THE sha256 OF THE DUMP (.gsa) THAT YtjpelnbffodaiaaProg.lean LOADS. Nothing in Lean hashes anything: it is a label: what it is worth is what the hold of that sum in a sandbox is worth. -/
noncomputable def Try.pinned : Pinned := { name := "ytjpelnbffodaiaa", sum := "b2de5f8e9997f6ff42d83dd7901d0da39782d4f006eddb7d28f852faffa2a271", checked := Try.checked }
namespace Rows
def none {H : Type} : Left H := { results := [], args := [] }

/-- 'turnkeylaw12.PostSets': WHATEVER THE INPUT: true; the input reads as it did. -/
def postSetsSpec : ChangeSpec := { name := "postSets", fn := fun _ => fun
  | [d1, d2, d3] => { results := [.lit (.bool true)], args := [d1, d2, d3] }
  | _ => none }
def postSetsRow : OpenClaim := { program := "ytjpelnbffodaiaa", sum := "b2de5f8e9997f6ff42d83dd7901d0da39782d4f006eddb7d28f852faffa2a271", func := "turnkey/turnkeylaw12.PostSets", spec := "postSets", apart := false }
def PostSetsSaid : Prop := postSetsRow.holds Try.pinned (OpenSpec.ofChange postSetsSpec)

/-- ITS FALSE NEIGHBOUR: 'it returns false'. Refute it at one input. -/
def postSetsWrong : ChangeSpec := { name := "postSets", fn := fun _ => fun
  | [d1, d2, d3] => { results := [.lit (.bool false)], args := [d1, d2, d3] }
  | _ => none }
def PostSetsWrongFalsely : Prop := postSetsRow.holds Try.pinned (OpenSpec.ofChange postSetsWrong)

/-- 'turnkeylaw12.PostWalks': WHATEVER THE INPUT: true; the input reads as it did. -/
def postWalksSpec : ChangeSpec := { name := "postWalks", fn := fun _ => fun
  | [d1, d2] => { results := [.lit (.bool true)], args := [d1, d2] }
  | _ => none }
def postWalksRow : OpenClaim := { program := "ytjpelnbffodaiaa", sum := "b2de5f8e9997f6ff42d83dd7901d0da39782d4f006eddb7d28f852faffa2a271", func := "turnkey/turnkeylaw12.PostWalks", spec := "postWalks", unfollowed := true, recurses := true, apart := false }
def PostWalksSaid : Prop := postWalksRow.holds Try.pinned (OpenSpec.ofChange postWalksSpec)

/-- ITS FALSE NEIGHBOUR: 'it returns false'. Refute it at one input. -/
def postWalksWrong : ChangeSpec := { name := "postWalks", fn := fun _ => fun
  | [d1, d2] => { results := [.lit (.bool false)], args := [d1, d2] }
  | _ => none }
def PostWalksWrongFalsely : Prop := postWalksRow.holds Try.pinned (OpenSpec.ofChange postWalksWrong)

/-- 'turnkeylaw12.PostCodes': WHATEVER THE INPUT: true; the input reads as it did. -/
def postCodesSpec : ChangeSpec := { name := "postCodes", fn := fun _ => fun
  | [d1, d2] => { results := [.lit (.bool true)], args := [d1, d2] }
  | _ => none }
def postCodesRow : OpenClaim := { program := "ytjpelnbffodaiaa", sum := "b2de5f8e9997f6ff42d83dd7901d0da39782d4f006eddb7d28f852faffa2a271", func := "turnkey/turnkeylaw12.PostCodes", spec := "postCodes", apart := false }
def PostCodesSaid : Prop := postCodesRow.holds Try.pinned (OpenSpec.ofChange postCodesSpec)

/-- ITS FALSE NEIGHBOUR: 'it returns false'. Refute it at one input. -/
def postCodesWrong : ChangeSpec := { name := "postCodes", fn := fun _ => fun
  | [d1, d2] => { results := [.lit (.bool false)], args := [d1, d2] }
  | _ => none }
def PostCodesWrongFalsely : Prop := postCodesRow.holds Try.pinned (OpenSpec.ofChange postCodesWrong)

/-- 'turnkeylaw12.PostAlgebra': WHATEVER THE INPUT: true; the input reads as it did. -/
def postAlgebraSpec : ChangeSpec := { name := "postAlgebra", fn := fun _ => fun
  | [d1, d2, d3] => { results := [.lit (.bool true)], args := [d1, d2, d3] }
  | _ => none }
def postAlgebraRow : OpenClaim := { program := "ytjpelnbffodaiaa", sum := "b2de5f8e9997f6ff42d83dd7901d0da39782d4f006eddb7d28f852faffa2a271", func := "turnkey/turnkeylaw12.PostAlgebra", spec := "postAlgebra", apart := false }
def PostAlgebraSaid : Prop := postAlgebraRow.holds Try.pinned (OpenSpec.ofChange postAlgebraSpec)

/-- ITS FALSE NEIGHBOUR: 'it returns false'. Refute it at one input. -/
def postAlgebraWrong : ChangeSpec := { name := "postAlgebra", fn := fun _ => fun
  | [d1, d2, d3] => { results := [.lit (.bool false)], args := [d1, d2, d3] }
  | _ => none }
def PostAlgebraWrongFalsely : Prop := postAlgebraRow.holds Try.pinned (OpenSpec.ofChange postAlgebraWrong)

/- THE SECOND FORM. 'bulk': how many values and letters a reading holds, each counted each time it is reached (what is shared counts as often as it is met; a slice's spare places count too). A statement '..UptoSaid' is the law's where the arguments, and the package variables that the reading takes, are together of bulk at most 1048576: NARROWER than '..Said'. Prove '..Said' where nothing that the law and all that it calls make is longer than what came in: it says more and counts as full. Else prove '..UptoSaid'. A law counts once. -/
mutual
def uptoBulk {H : Type} : DataW H → Nat
  | .lit (.string bytes) => bytes.length + 1
  | .lit _ => 1
  | .nil => 1
  | .ptr d => uptoBulk d + 1
  | .slice elems spare => uptoBulkAll elems + uptoBulkAll spare + 1
  | .agg parts => uptoBulkAll parts + 1
  | .iface _ d => uptoBulk d + 1
  | .map entries => uptoBulkEntries entries + 1
  | .held _ => 1
def uptoBulkAll {H : Type} : List (DataW H) → Nat
  | [] => 0
  | d :: r => uptoBulk d + uptoBulkAll r
def uptoBulkEntries {H : Type} : List (Lit × DataW H) → Nat
  | [] => 0
  | x :: r => uptoBulkEntry x + uptoBulkEntries r
def uptoBulkEntry {H : Type} : Lit × DataW H → Nat
  | (.string bytes, d) => bytes.length + uptoBulk d + 1
  | (_, d) => uptoBulk d + 1
 end
def uptoSmall : (H : Type) → List (DataW H) → Bool := fun _ ds => decide (uptoBulkAll ds ≤ 1048576)
def OpenSpec.upto (s : _root_.Go.ChangeSpec) : _root_.Go.OpenSpec := { _root_.Go.OpenSpec.ofChange s with cond := some uptoSmall }

/-- 'turnkeylaw12.PostSets', WHERE WHAT IT READS IS OF BULK AT MOST 1048576: true; the input reads as it did. -/
def postSetsUptoRow : OpenClaim := { program := "ytjpelnbffodaiaa", sum := "b2de5f8e9997f6ff42d83dd7901d0da39782d4f006eddb7d28f852faffa2a271", func := "turnkey/turnkeylaw12.PostSets", spec := "postSets", apart := false, narrowed := true }
def PostSetsUptoSaid : Prop := postSetsUptoRow.holds Try.pinned (OpenSpec.upto postSetsSpec)

/-- 'turnkeylaw12.PostWalks', WHERE WHAT IT READS IS OF BULK AT MOST 1048576: true; the input reads as it did. -/
def postWalksUptoRow : OpenClaim := { program := "ytjpelnbffodaiaa", sum := "b2de5f8e9997f6ff42d83dd7901d0da39782d4f006eddb7d28f852faffa2a271", func := "turnkey/turnkeylaw12.PostWalks", spec := "postWalks", unfollowed := true, recurses := true, apart := false, narrowed := true }
def PostWalksUptoSaid : Prop := postWalksUptoRow.holds Try.pinned (OpenSpec.upto postWalksSpec)

/-- 'turnkeylaw12.PostCodes', WHERE WHAT IT READS IS OF BULK AT MOST 1048576: true; the input reads as it did. -/
def postCodesUptoRow : OpenClaim := { program := "ytjpelnbffodaiaa", sum := "b2de5f8e9997f6ff42d83dd7901d0da39782d4f006eddb7d28f852faffa2a271", func := "turnkey/turnkeylaw12.PostCodes", spec := "postCodes", apart := false, narrowed := true }
def PostCodesUptoSaid : Prop := postCodesUptoRow.holds Try.pinned (OpenSpec.upto postCodesSpec)

/-- 'turnkeylaw12.PostAlgebra', WHERE WHAT IT READS IS OF BULK AT MOST 1048576: true; the input reads as it did. -/
def postAlgebraUptoRow : OpenClaim := { program := "ytjpelnbffodaiaa", sum := "b2de5f8e9997f6ff42d83dd7901d0da39782d4f006eddb7d28f852faffa2a271", func := "turnkey/turnkeylaw12.PostAlgebra", spec := "postAlgebra", apart := false, narrowed := true }
def PostAlgebraUptoSaid : Prop := postAlgebraUptoRow.holds Try.pinned (OpenSpec.upto postAlgebraSpec)

end Rows
end Go.Proofs.Ytjpelnbffodaiaa
