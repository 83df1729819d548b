/-
  Bits that are turned within 32 in a row: another sum. Nothing of the program.
-/
import Derived.Test.YtiaopgphjailiaaCrcM
namespace Go.Proofs.Ytiaopgphjailiaa
set_option linter.unusedVariables false

/-- Bytes as one number, the first lowest. -/
def num : List Int → Nat
  | [] => 0
  | c :: r => c.toNat + 256 * num r

theorem join256 (a b : Nat) (h : a < 256) : a + 256 * b = a ^^^ (256 * b) := by
  have h1 := Nat.shiftLeft_add_eq_or_of_lt (i := 8) (b := a) (by omega) b
  have h2 : b <<< 8 = 256 * b := by rw [Nat.shiftLeft_eq]; omega
  rw [h2] at h1
  have h5 : a ^^^ (256 * b) = (256 * b) ||| a := by
    apply Nat.eq_of_testBit_eq
    intro i
    simp only [Nat.testBit_xor, Nat.testBit_or]
    rw [← h2, Nat.testBit_shiftLeft]
    by_cases hi : 8 ≤ i
    · rw [Nat.testBit_lt_two_pow (x := a) (i := i) (Nat.lt_of_lt_of_le (by omega : a < 2 ^ 8) (Nat.pow_le_pow_right (by omega) hi))]
      simp
    · simp [hi]
  omega
theorem mul256 (a b : Nat) : 256 * (a ^^^ b) = (256 * a) ^^^ (256 * b) := by
  have h : ∀ x, 256 * x = x <<< 8 := fun x => by rw [Nat.shiftLeft_eq]; omega
  rw [h, h, h, Nat.shiftLeft_xor_distrib]

theorem fold_num : ∀ (l : List Int) (s : Nat), Byte l → l.foldl crcByte s = sNs (8 * l.length) (s ^^^ num l)
  | [], s, _ => by simp [num, sNs]
  | c :: r, s, hb => by
    have hc := hb c (by simp)
    rw [List.foldl_cons, fold_num r _ (fun x hx => hb x (by simp [hx]))]
    have e : num (c :: r) = c.toNat ^^^ (2 ^ 8 * num r) := by
      rw [num, join256 _ _ (by omega)]
    rw [e, List.length_cons, show 8 * (r.length + 1) = 8 * r.length + 8 by omega, sNs_add, ← Nat.xor_assoc, sNs_xor 8, sNs_pow 8]
    rfl
theorem crcRun_num (l : List Int) (hb : Byte l) : crcRun l = sNs (8 * l.length) (4294967295 ^^^ num l) := fold_num l _ hb

theorem sN_ne (n : Nat) (h : n < 4294967296) (h0 : n ≠ 0) : sN n ≠ 0 := by
  unfold sN
  intro e
  have e2 : n / 2 = (if n % 2 = 1 then 3988292384 else 0) := by
    have := congrArg (· ^^^ (if n % 2 = 1 then 3988292384 else 0)) e
    simp only [Nat.xor_assoc, Nat.xor_self, Nat.xor_zero, Nat.zero_xor] at this
    exact this
  split at e2 <;> omega
theorem sNs_ne : ∀ (k n : Nat), n < 4294967296 → n ≠ 0 → sNs k n ≠ 0
  | 0, n, h, h0 => h0
  | k + 1, n, h, h0 => sN_ne _ (sNs_lt k n h) (sNs_ne k n h h0)

theorem crc_turned (l m : List Int) (n B : Nat) (hl : Byte l) (hm : Byte m) (hlen : m.length = l.length) (hn : n ≤ 8 * l.length) (hB : B < 4294967296) (h0 : B ≠ 0) (h : num m = num l ^^^ (2 ^ n * B)) : crc m ≠ crc l := by
  have h1 := crcRun_lt l hl
  have h2 := crcRun_lt m hm
  have e : crcRun m = crcRun l ^^^ sNs (8 * l.length - n) B := by
    rw [crcRun_num m hm, crcRun_num l hl, h, hlen, ← Nat.xor_assoc, sNs_xor]
    congr 1
    have : 8 * l.length = (8 * l.length - n) + n := by omega
    rw [this, sNs_add, sNs_pow]
    congr 1
    omega
  have hne := sNs_ne (8 * l.length - n) B hB h0
  unfold crc
  intro hc
  have hr : crcRun m = crcRun l := by omega
  rw [hr] at e
  apply hne
  have := congrArg (crcRun l ^^^ ·) e
  simp only [Nat.xor_self, ← Nat.xor_assoc, Nat.zero_xor] at this
  exact this.symm

theorem num_flip : ∀ (l : List Int) (k e : Nat), k < l.length → e < 8 → Byte l → num (l.set k (((l.getD k 0).toNat ^^^ 2 ^ e : Nat) : Int)) = num l ^^^ 2 ^ (8 * k + e)
  | [], k, e, h, _, _ => by simp at h
  | c :: r, 0, e, h, he, hb => by
    have hc := hb c (by simp)
    have hx : c.toNat ^^^ 2 ^ e < 256 := Nat.xor_lt_two_pow (n := 8) (by omega) (Nat.pow_lt_pow_right (by omega) he)
    show num ((((c.toNat ^^^ 2 ^ e : Nat)) : Int) :: r) = _
    rw [num, num, Int.toNat_natCast, join256 _ _ hx, join256 _ _ (by omega), Nat.mul_zero, Nat.zero_add, Nat.xor_assoc, Nat.xor_assoc, Nat.xor_comm (2 ^ e)]
  | c :: r, k + 1, e, h, he, hb => by
    have hc := hb c (by simp)
    have ih := num_flip r k e (by simp at h; omega) he (fun x hx => hb x (by simp [hx]))
    have e1 : (c :: r).set (k + 1) ((((c :: r).getD (k + 1) 0).toNat ^^^ 2 ^ e : Nat) : Int) = c :: r.set k (((r.getD k 0).toNat ^^^ 2 ^ e : Nat) : Int) := rfl
    rw [e1, num, num, ih, join256 _ _ (by omega), join256 _ _ (by omega), mul256, ← Nat.xor_assoc]
    congr 1
    rw [show 8 * (k + 1) + e = 8 + (8 * k + e) by omega]
    exact (Nat.pow_add 2 8 (8 * k + e)).symm
theorem flip_byte (l : List Int) (k e : Nat) (he : e < 8) (hb : Byte l) : Byte (l.set k (((l.getD k 0).toNat ^^^ 2 ^ e : Nat) : Int)) := by
  intro n hn
  have hc := hb.at k
  have hx : (l.getD k 0).toNat ^^^ 2 ^ e < 256 := Nat.xor_lt_two_pow (n := 8) (by omega) (Nat.pow_lt_pow_right (by omega) he)
  rcases List.mem_or_eq_of_mem_set hn with h | h
  · exact hb n h
  · omega
theorem bit_step (B i : Nat) : B % 2 ^ (i + 1) = (B % 2 ^ i) ^^^ (if B / 2 ^ i % 2 = 1 then 2 ^ i else 0) := by
  have h1 : B % 2 ^ (i + 1) = B % 2 ^ i + 2 ^ i * (B / 2 ^ i % 2) := by
    rw [Nat.pow_succ, Nat.mod_mul]
  rw [h1]
  have hlt := Nat.mod_lt B (Nat.two_pow_pos i)
  rcases (by omega : B / 2 ^ i % 2 = 0 ∨ B / 2 ^ i % 2 = 1) with h | h
  · simp [h]
  · rw [h, if_pos rfl, Nat.mul_one]
    have h2 := Nat.shiftLeft_add_eq_or_of_lt (i := i) hlt 1
    rw [Nat.one_shiftLeft] at h2
    rw [Nat.add_comm, h2]
    apply Nat.eq_of_testBit_eq
    intro j
    simp only [Nat.testBit_or, Nat.testBit_xor, Nat.testBit_two_pow]
    by_cases hj : i = j
    · subst hj
      rw [Nat.testBit_lt_two_pow hlt]
      simp
    · simp [hj]

end Go.Proofs.Ytiaopgphjailiaa
