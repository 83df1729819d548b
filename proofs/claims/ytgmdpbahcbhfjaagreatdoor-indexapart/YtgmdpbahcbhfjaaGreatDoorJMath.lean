import Derived.WalkKit
set_option linter.unusedSimpArgs false
set_option linter.unusedVariables false
set_option maxHeartbeats 40000000
set_option maxRecDepth 100000
/-
  The plain mathematics of layer 1: how a number is written in groups of seven bits (enc), and how it is read (dec). Nothing of the program.
-/
namespace Go.Proofs.YtgmdpbahcbhfjaaGreatDoor.J

/-- How many groups stand ahead of the last one (with fuel). -/
def grpF : Nat → Nat → Nat
  | 0, _ => 0
  | f + 1, n => if n < 128 then 0 else grpF f (n / 128) + 1
def grp (n : Nat) : Nat := grpF 9 n

/-- k groups that go on, and the last one. -/
def encK : Nat → Nat → List Int
  | 0, n => [(n : Int)]
  | k + 1, n => ((n % 128 + 128 : Nat) : Int) :: encK k (n / 128)
def enc (n : Nat) : List Int := encK (grp n) n

/-- The first k bytes of a number that goes on. -/
def pre : Nat → Nat → List Int
  | 0, _ => []
  | k + 1, n => pre k n ++ [((n / 128 ^ k % 128 + 128 : Nat) : Int)]
/-- How a number is read: i bytes have been read, n is their number. -/
def decAt : List Int → Nat → Nat → Nat × Nat
  | [], _, _ => (0, 0)
  | c :: t, i, n =>
    if 10 ≤ i then (0, 0) else if i = 9 ∧ 1 < c then (0, 0)
    else if 128 ≤ c then decAt t (i + 1) (n + (c.toNat % 128) * 128 ^ i)
    else if c = 0 ∧ 0 < i then (0, 0)
    else (n + (c.toNat % 128) * 128 ^ i, i + 1)
def dec (l : List Int) : Nat × Nat := decAt l 0 0

end Go.Proofs.YtgmdpbahcbhfjaaGreatDoor.J
