/-
  Words of 32 bits. Nothing of the program.
-/
import Derived.WalkKit
import Derived.WalkSpells
import Derived.WalkLawsBesides
import Derived.Laws.BitsAllLaws
namespace Go.Proofs.Ytiaopgphjailiaa
open Go.RowKit
set_option linter.unusedVariables false

/-- A word as the model has it. -/
def N (x : BitVec 32) : Int := (x.toNat : Int)
theorem N_lt (x : BitVec 32) : 0 ≤ N x ∧ N x < 4294967296 := by
  unfold N
  have := x.isLt
  omega
theorem N_inj {x y : BitVec 32} (h : N x = N y) : x = y := by
  unfold N at h
  apply BitVec.eq_of_toNat_eq
  omega
theorem N_xor (x y : BitVec 32) : bits .xor .u32 (N x) (N y) = N (x ^^^ y) := by
  unfold N
  rw [u32_xor_nat _ _ x.isLt y.isLt, BitVec.toNat_xor]
theorem N_and (x y : BitVec 32) : bits .and .u32 (N x) (N y) = N (x &&& y) := by
  unfold N
  rw [u32_and_nat _ _ x.isLt y.isLt, BitVec.toNat_and]
theorem N_or (x y : BitVec 32) : bits .or .u32 (N x) (N y) = N (x ||| y) := by
  unfold N
  rw [u32_or_nat _ _ x.isLt y.isLt, BitVec.toNat_or]
theorem N_add (x y : BitVec 32) : IntKind.u32.wrap (N x + N y) = N (x + y) := by
  unfold N
  rw [IntKind.wrap_u32, BitVec.toNat_add]
  omega
theorem N_not (x : BitVec 32) : bits .xor .u32 4294967295 (N x) = N (~~~x) := by
  have : (4294967295 : Int) = N (BitVec.allOnes 32) := by decide
  rw [this, N_xor, BitVec.allOnes_xor]
theorem N_shr (x : BitVec 32) (k : Nat) : N x / ((2 ^ k : Nat) : Int) = N (x >>> k) := by
  unfold N
  rw [BitVec.toNat_ushiftRight, Nat.shiftRight_eq_div_pow]
  omega
theorem N_shl (x : BitVec 32) (k : Nat) : IntKind.u32.wrap (N x * ((2 ^ k : Nat) : Int)) = N (x <<< k) := by
  unfold N
  rw [IntKind.wrap_u32, BitVec.toNat_shiftLeft, Nat.shiftLeft_eq]
  omega

def rotr (x : BitVec 32) (n : Nat) : BitVec 32 := (x >>> n) ||| (x <<< (32 - n))

end Go.Proofs.Ytiaopgphjailiaa
