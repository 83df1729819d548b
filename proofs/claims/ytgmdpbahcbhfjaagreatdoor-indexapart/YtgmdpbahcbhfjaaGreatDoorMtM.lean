import Derived.Test.YtgmdpbahcbhfjaaGreatDoorPuI
import Derived.Test.YtgmdpbahcbhfjaaGreatDoorLbM
set_option linter.unusedSimpArgs false
set_option linter.unusedVariables false
set_option maxHeartbeats 40000000
set_option maxRecDepth 100000
/-
  Package match, purely: matchers, which may be, what they hold, printing; the machine that reads a text byte by byte.
-/
namespace Go.Proofs.YtgmdpbahcbhfjaaGreatDoor
open Go

structure Mt where
  n : ByteArray
  op : Int
  t : ByteArray
deriving Inhabited, DecidableEq

def prsOk (s : List UInt8) : Bool := match prs s with
  | .ok _ _ => true
  | _ => false
def prsL (s : List UInt8) : List (List Pt) := match prs s with
  | .ok l _ => l
  | _ => []
theorem prsL_of {s : List UInt8} {l : List (List Pt)} {b : Nat} (h : prs s = .ok l b) : prsL s = l := by unfold prsL; rw [h]
def txtOk (op : Int) (s : List UInt8) : Bool :=
  if op = 1 then decide (s = []) || L.isVal s else if op = 2 then decide (s = []) || L.isVal s else if op = 3 then prsOk s else if op = 4 then prsOk s else false
def Mt.may (x : Mt) : Bool := txtOk x.op (bts x.t) && L.isName (bts x.n)
open Classical in
/-- Does a value hold a matcher? -/
noncomputable def Mt.hold (x : Mt) (v : ByteArray) : Bool :=
  if x.op = 1 then decide (v = x.t) else if x.op = 2 then !decide (v = x.t) else if x.op = 3 then decide (Means (prsL (bts x.t)) (bts v)) else !decide (Means (prsL (bts x.t)) (bts v))
def newOk (l : List Mt) : Bool := decide (l.length ≤ 8) && l.all Mt.may

/-! ### printing -/
/-! ### reading -/
end Go.Proofs.YtgmdpbahcbhfjaaGreatDoor
