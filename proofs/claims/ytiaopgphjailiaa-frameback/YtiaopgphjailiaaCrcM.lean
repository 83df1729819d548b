/-
  The sum of 32 bits, in numbers. Nothing of the program.
-/
import Derived.Test.YtiaopgphjailiaaRowB
namespace Go.Proofs.Ytiaopgphjailiaa
set_option linter.unusedVariables false

def sN (n : Nat) : Nat := (n / 2) ^^^ (if n % 2 = 1 then 3988292384 else 0)
def sNs : Nat → Nat → Nat
  | 0, n => n
  | k + 1, n => sN (sNs k n)

theorem xor_half (a b : Nat) : (a ^^^ b) / 2 = (a / 2) ^^^ (b / 2) := by
  apply Nat.eq_of_testBit_eq
  intro i
  simp [Nat.testBit_div_two]
theorem xor_low (a b : Nat) : (a ^^^ b) % 2 = (a % 2 + b % 2) % 2 := by
  have h := Nat.xor_mod_two_pow (a := a) (b := b) (n := 1)
  rw [Nat.pow_one] at h
  rw [h]
  rcases (by omega : a % 2 = 0 ∨ a % 2 = 1) with h | h <;> rcases (by omega : b % 2 = 0 ∨ b % 2 = 1) with k | k <;> simp [h, k]
theorem sN_xor (a b : Nat) : sN (a ^^^ b) = sN a ^^^ sN b := by
  unfold sN
  rw [xor_half, xor_low]
  rcases (by omega : a % 2 = 0 ∨ a % 2 = 1) with h | h <;> rcases (by omega : b % 2 = 0 ∨ b % 2 = 1) with k | k <;> simp [h, k]
  · rw [Nat.xor_assoc]
  · rw [Nat.xor_assoc, Nat.xor_assoc, Nat.xor_comm (b / 2)]
  · rw [Nat.xor_assoc, Nat.xor_comm 3988292384, Nat.xor_assoc, Nat.xor_self, Nat.xor_zero]
theorem sNs_xor : ∀ (k a b : Nat), sNs k (a ^^^ b) = sNs k a ^^^ sNs k b
  | 0, a, b => rfl
  | k + 1, a, b => by rw [sNs, sNs_xor k, sN_xor]; rfl
theorem sN_two (m : Nat) : sN (2 * m) = m := by
  unfold sN
  simp
theorem sNs_add : ∀ (j k n : Nat), sNs (j + k) n = sNs j (sNs k n)
  | 0, k, n => by simp [sNs]
  | j + 1, k, n => by
    rw [show j + 1 + k = (j + k) + 1 by omega, sNs, sNs_add j k n]
    rfl
theorem sNs_pow : ∀ (k m : Nat), sNs k (2 ^ k * m) = m
  | 0, m => by simp [sNs]
  | k + 1, m => by
    rw [show k + 1 = 1 + k by omega, sNs_add, show 2 ^ (1 + k) * m = 2 ^ k * (2 * m) by rw [Nat.pow_add]; simp [Nat.mul_assoc, Nat.mul_left_comm], sNs_pow k]
    exact sN_two m
theorem sNs_zero (k : Nat) : sNs k 0 = 0 := by
  have := sNs_pow k 0
  simpa using this
theorem sN_lt (n : Nat) (h : n < 4294967296) : sN n < 4294967296 := by
  unfold sN
  refine Nat.xor_lt_two_pow (n := 32) (by omega) (by split <;> decide)
theorem sNs_lt : ∀ (k n : Nat), n < 4294967296 → sNs k n < 4294967296
  | 0, n, h => h
  | k + 1, n, h => sN_lt _ (sNs_lt k n h)
theorem split16 (n : Nat) : n = (16 * (n / 16)) ^^^ (n % 16) := by
  have h := Nat.shiftLeft_add_eq_or_of_lt (i := 4) (b := n % 16) (by omega) (n / 16)
  have h2 : (n / 16) <<< 4 + n % 16 = n := by rw [Nat.shiftLeft_eq]; omega
  have h3 : ((n / 16) <<< 4) &&& (n % 16) = 0 := by
    apply Nat.eq_of_testBit_eq
    intro i
    simp only [Nat.testBit_and, Nat.testBit_shiftLeft, Nat.zero_testBit]
    by_cases hi : 4 ≤ i
    · rw [Nat.testBit_lt_two_pow (x := n % 16) (i := i) (Nat.lt_of_lt_of_le (by omega : n % 16 < 2 ^ 4) (Nat.pow_le_pow_right (by omega) hi))]
      simp
    · simp [hi]
  have h4 : (16 * (n / 16)) = (n / 16) <<< 4 := by rw [Nat.shiftLeft_eq]; omega
  rw [h4]
  have h5 : ((n / 16) <<< 4) ^^^ (n % 16) = ((n / 16) <<< 4) ||| (n % 16) := by
    apply Nat.eq_of_testBit_eq
    intro i
    have := congrArg (·.testBit i) h3
    simp only [Nat.testBit_and, Nat.zero_testBit] at this
    simp only [Nat.testBit_xor, Nat.testBit_or]
    cases hx : ((n / 16) <<< 4).testBit i <;> cases hy : (n % 16).testBit i <;> first | rfl | (rw [hx, hy] at this; cases this)
  rw [h5, ← h, h2]
theorem four (n : Nat) : sNs 4 n = (n / 16) ^^^ sNs 4 (n % 16) := by
  have h := sNs_xor 4 (16 * (n / 16)) (n % 16)
  rw [← split16] at h
  rw [h, show 16 * (n / 16) = 2 ^ 4 * (n / 16) by omega, sNs_pow]
theorem eight (n : Nat) : sNs 8 n = sNs 4 (sNs 4 n) := sNs_add 4 4 n

def crcByte (n : Nat) (c : Int) : Nat := sNs 8 (n ^^^ c.toNat)
def crcRun (l : List Int) : Nat := l.foldl crcByte 4294967295
theorem crcRun_snoc (l : List Int) (c : Int) : crcRun (l ++ [c]) = crcByte (crcRun l) c := List.foldl_append
def crc (l : List Int) : Nat := 4294967295 - crcRun l
theorem crcByte_lt (n : Nat) (c : Int) (h : n < 4294967296) (hc : c ≤ 255) : crcByte n c < 4294967296 := by
  refine sNs_lt _ _ (Nat.xor_lt_two_pow (n := 32) h (by omega))
theorem crcFold_lt : ∀ (l : List Int) (n : Nat), n < 4294967296 → Byte l → l.foldl crcByte n < 4294967296
  | [], n, h, _ => h
  | c :: r, n, h, hb => crcFold_lt r _ (crcByte_lt n c h (hb c (by simp)).2) (fun x hx => hb x (by simp [hx]))
theorem crcRun_lt (l : List Int) (hb : Byte l) : crcRun l < 4294967296 := crcFold_lt l _ (by decide) hb

end Go.Proofs.Ytiaopgphjailiaa
