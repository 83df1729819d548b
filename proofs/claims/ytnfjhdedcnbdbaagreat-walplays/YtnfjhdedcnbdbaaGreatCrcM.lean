import Derived.Test.YtnfjhdedcnbdbaaGreatRow
import Derived.WalkKit
import Derived.WalkSpells
import Derived.WalkLawsBesides
import Derived.Laws.BitsAllLaws
/-
  The sum of 32 bits, in numbers. Nothing of the program.
-/
namespace Go.Proofs.YtnfjhdedcnbdbaaGreat
set_option linter.unusedVariables false

def sN (n : Nat) : Nat := (n / 2) ^^^ (if n % 2 = 1 then 3988292384 else 0)
def sNs : Nat → Nat → Nat
  | 0, n => n
  | k + 1, n => sN (sNs k n)

theorem xor_half (a b : Nat) : (a ^^^ b) / 2 = (a / 2) ^^^ (b / 2) := by
  apply Nat.eq_of_testBit_eq
  intro i
  simp [Nat.testBit_div_two]
theorem xor_low (a b : Nat) : (a ^^^ b) % 2 = (a % 2 + b % 2) % 2 := by
  have h := Nat.xor_mod_two_pow (a := a) (b := b) (n := 1)
  rw [Nat.pow_one] at h
  rw [h]
  rcases (by omega : a % 2 = 0 ∨ a % 2 = 1) with h | h <;> rcases (by omega : b % 2 = 0 ∨ b % 2 = 1) with k | k <;> simp [h, k]
theorem sN_xor (a b : Nat) : sN (a ^^^ b) = sN a ^^^ sN b := by
  unfold sN
  rw [xor_half, xor_low]
  rcases (by omega : a % 2 = 0 ∨ a % 2 = 1) with h | h <;> rcases (by omega : b % 2 = 0 ∨ b % 2 = 1) with k | k <;> simp [h, k]
  · rw [Nat.xor_assoc]
  · rw [Nat.xor_assoc, Nat.xor_assoc, Nat.xor_comm (b / 2)]
  · rw [Nat.xor_assoc, Nat.xor_comm 3988292384, Nat.xor_assoc, Nat.xor_self, Nat.xor_zero]
theorem sNs_xor : ∀ (k a b : Nat), sNs k (a ^^^ b) = sNs k a ^^^ sNs k b
  | 0, a, b => rfl
  | k + 1, a, b => by rw [sNs, sNs_xor k, sN_xor]; rfl
theorem sN_two (m : Nat) : sN (2 * m) = m := by
  unfold sN
  simp
theorem sNs_add : ∀ (j k n : Nat), sNs (j + k) n = sNs j (sNs k n)
  | 0, k, n => by simp [sNs]
  | j + 1, k, n => by
    rw [show j + 1 + k = (j + k) + 1 by omega, sNs, sNs_add j k n]
    rfl
theorem sNs_pow : ∀ (k m : Nat), sNs k (2 ^ k * m) = m
  | 0, m => by simp [sNs]
  | k + 1, m => by
    rw [show k + 1 = 1 + k by omega, sNs_add, show 2 ^ (1 + k) * m = 2 ^ k * (2 * m) by rw [Nat.pow_add]; simp [Nat.mul_assoc, Nat.mul_left_comm], sNs_pow k]
    exact sN_two m
theorem sNs_zero (k : Nat) : sNs k 0 = 0 := by
  have := sNs_pow k 0
  simpa using this
theorem sN_lt (n : Nat) (h : n < 4294967296) : sN n < 4294967296 := by
  unfold sN
  refine Nat.xor_lt_two_pow (n := 32) (by omega) (by split <;> decide)
theorem sNs_lt : ∀ (k n : Nat), n < 4294967296 → sNs k n < 4294967296
  | 0, n, h => h
  | k + 1, n, h => sN_lt _ (sNs_lt k n h)
theorem split16 (n : Nat) : n = (16 * (n / 16)) ^^^ (n % 16) := by
  have h := Nat.shiftLeft_add_eq_or_of_lt (i := 4) (b := n % 16) (by omega) (n / 16)
  have h2 : (n / 16) <<< 4 + n % 16 = n := by rw [Nat.shiftLeft_eq]; omega
  have h3 : ((n / 16) <<< 4) &&& (n % 16) = 0 := by
    apply Nat.eq_of_testBit_eq
    intro i
    simp only [Nat.testBit_and, Nat.testBit_shiftLeft, Nat.zero_testBit]
    by_cases hi : 4 ≤ i
    · rw [Nat.testBit_lt_two_pow (x := n % 16) (i := i) (Nat.lt_of_lt_of_le (by omega : n % 16 < 2 ^ 4) (Nat.pow_le_pow_right (by omega) hi))]
      simp
    · simp [hi]
  have h4 : (16 * (n / 16)) = (n / 16) <<< 4 := by rw [Nat.shiftLeft_eq]; omega
  rw [h4]
  have h5 : ((n / 16) <<< 4) ^^^ (n % 16) = ((n / 16) <<< 4) ||| (n % 16) := by
    apply Nat.eq_of_testBit_eq
    intro i
    have := congrArg (·.testBit i) h3
    simp only [Nat.testBit_and, Nat.zero_testBit] at this
    simp only [Nat.testBit_xor, Nat.testBit_or]
    cases hx : ((n / 16) <<< 4).testBit i <;> cases hy : (n % 16).testBit i <;> first | rfl | (rw [hx, hy] at this; cases this)
  rw [h5, ← h, h2]
theorem four (n : Nat) : sNs 4 n = (n / 16) ^^^ sNs 4 (n % 16) := by
  have h := sNs_xor 4 (16 * (n / 16)) (n % 16)
  rw [← split16] at h
  rw [h, show 16 * (n / 16) = 2 ^ 4 * (n / 16) by omega, sNs_pow]
theorem eight (n : Nat) : sNs 8 n = sNs 4 (sNs 4 n) := sNs_add 4 4 n

def crcByte (n : Nat) (c : Int) : Nat := sNs 8 (n ^^^ c.toNat)
def crcRun (l : List Int) : Nat := l.foldl crcByte 4294967295
theorem crcRun_snoc (l : List Int) (c : Int) : crcRun (l ++ [c]) = crcByte (crcRun l) c := List.foldl_append
def crc (l : List Int) : Nat := 4294967295 - crcRun l
theorem crcByte_lt (n : Nat) (c : Int) (h : n < 4294967296) (hc : c ≤ 255) : crcByte n c < 4294967296 := by
  refine sNs_lt _ _ (Nat.xor_lt_two_pow (n := 32) h (by omega))
theorem crcFold_lt : ∀ (l : List Int) (n : Nat), n < 4294967296 → Byte l → l.foldl crcByte n < 4294967296
  | [], n, h, _ => h
  | c :: r, n, h, hb => crcFold_lt r _ (crcByte_lt n c h (hb c (by simp)).2) (fun x hx => hb x (by simp [hx]))
theorem crcRun_lt (l : List Int) (hb : Byte l) : crcRun l < 4294967296 := crcFold_lt l _ (by decide) hb

end Go.Proofs.YtnfjhdedcnbdbaaGreat

/-
  Bits that are turned within 32 in a row: another sum. Nothing of the program.
-/
namespace Go.Proofs.YtnfjhdedcnbdbaaGreat
set_option linter.unusedVariables false

/-- Bytes as one number, the first lowest. -/
def num : List Int → Nat
  | [] => 0
  | c :: r => c.toNat + 256 * num r

theorem join256 (a b : Nat) (h : a < 256) : a + 256 * b = a ^^^ (256 * b) := by
  have h1 := Nat.shiftLeft_add_eq_or_of_lt (i := 8) (b := a) (by omega) b
  have h2 : b <<< 8 = 256 * b := by rw [Nat.shiftLeft_eq]; omega
  rw [h2] at h1
  have h5 : a ^^^ (256 * b) = (256 * b) ||| a := by
    apply Nat.eq_of_testBit_eq
    intro i
    simp only [Nat.testBit_xor, Nat.testBit_or]
    rw [← h2, Nat.testBit_shiftLeft]
    by_cases hi : 8 ≤ i
    · rw [Nat.testBit_lt_two_pow (x := a) (i := i) (Nat.lt_of_lt_of_le (by omega : a < 2 ^ 8) (Nat.pow_le_pow_right (by omega) hi))]
      simp
    · simp [hi]
  omega
theorem mul256 (a b : Nat) : 256 * (a ^^^ b) = (256 * a) ^^^ (256 * b) := by
  have h : ∀ x, 256 * x = x <<< 8 := fun x => by rw [Nat.shiftLeft_eq]; omega
  rw [h, h, h, Nat.shiftLeft_xor_distrib]

theorem fold_num : ∀ (l : List Int) (s : Nat), Byte l → l.foldl crcByte s = sNs (8 * l.length) (s ^^^ num l)
  | [], s, _ => by simp [num, sNs]
  | c :: r, s, hb => by
    have hc := hb c (by simp)
    rw [List.foldl_cons, fold_num r _ (fun x hx => hb x (by simp [hx]))]
    have e : num (c :: r) = c.toNat ^^^ (2 ^ 8 * num r) := by
      rw [num, join256 _ _ (by omega)]
    rw [e, List.length_cons, show 8 * (r.length + 1) = 8 * r.length + 8 by omega, sNs_add, ← Nat.xor_assoc, sNs_xor 8, sNs_pow 8]
    rfl
theorem crcRun_num (l : List Int) (hb : Byte l) : crcRun l = sNs (8 * l.length) (4294967295 ^^^ num l) := fold_num l _ hb

theorem sN_ne (n : Nat) (h : n < 4294967296) (h0 : n ≠ 0) : sN n ≠ 0 := by
  unfold sN
  intro e
  have e2 : n / 2 = (if n % 2 = 1 then 3988292384 else 0) := by
    have := congrArg (· ^^^ (if n % 2 = 1 then 3988292384 else 0)) e
    simp only [Nat.xor_assoc, Nat.xor_self, Nat.xor_zero, Nat.zero_xor] at this
    exact this
  split at e2 <;> omega
theorem sNs_ne : ∀ (k n : Nat), n < 4294967296 → n ≠ 0 → sNs k n ≠ 0
  | 0, n, h, h0 => h0
  | k + 1, n, h, h0 => sN_ne _ (sNs_lt k n h) (sNs_ne k n h h0)

theorem crc_turned (l m : List Int) (n B : Nat) (hl : Byte l) (hm : Byte m) (hlen : m.length = l.length) (hn : n ≤ 8 * l.length) (hB : B < 4294967296) (h0 : B ≠ 0) (h : num m = num l ^^^ (2 ^ n * B)) : crc m ≠ crc l := by
  have h1 := crcRun_lt l hl
  have h2 := crcRun_lt m hm
  have e : crcRun m = crcRun l ^^^ sNs (8 * l.length - n) B := by
    rw [crcRun_num m hm, crcRun_num l hl, h, hlen, ← Nat.xor_assoc, sNs_xor]
    congr 1
    have : 8 * l.length = (8 * l.length - n) + n := by omega
    rw [this, sNs_add, sNs_pow]
    congr 1
    omega
  have hne := sNs_ne (8 * l.length - n) B hB h0
  unfold crc
  intro hc
  have hr : crcRun m = crcRun l := by omega
  rw [hr] at e
  apply hne
  have := congrArg (crcRun l ^^^ ·) e
  simp only [Nat.xor_self, ← Nat.xor_assoc, Nat.zero_xor] at this
  exact this.symm

theorem num_flip : ∀ (l : List Int) (k e : Nat), k < l.length → e < 8 → Byte l → num (l.set k (((l.getD k 0).toNat ^^^ 2 ^ e : Nat) : Int)) = num l ^^^ 2 ^ (8 * k + e)
  | [], k, e, h, _, _ => by simp at h
  | c :: r, 0, e, h, he, hb => by
    have hc := hb c (by simp)
    have hx : c.toNat ^^^ 2 ^ e < 256 := Nat.xor_lt_two_pow (n := 8) (by omega) (Nat.pow_lt_pow_right (by omega) he)
    show num ((((c.toNat ^^^ 2 ^ e : Nat)) : Int) :: r) = _
    rw [num, num, Int.toNat_natCast, join256 _ _ hx, join256 _ _ (by omega), Nat.mul_zero, Nat.zero_add, Nat.xor_assoc, Nat.xor_assoc, Nat.xor_comm (2 ^ e)]
  | c :: r, k + 1, e, h, he, hb => by
    have hc := hb c (by simp)
    have ih := num_flip r k e (by simp at h; omega) he (fun x hx => hb x (by simp [hx]))
    have e1 : (c :: r).set (k + 1) ((((c :: r).getD (k + 1) 0).toNat ^^^ 2 ^ e : Nat) : Int) = c :: r.set k (((r.getD k 0).toNat ^^^ 2 ^ e : Nat) : Int) := rfl
    rw [e1, num, num, ih, join256 _ _ (by omega), join256 _ _ (by omega), mul256, ← Nat.xor_assoc]
    congr 1
    rw [show 8 * (k + 1) + e = 8 + (8 * k + e) by omega]
    exact (Nat.pow_add 2 8 (8 * k + e)).symm
theorem flip_byte (l : List Int) (k e : Nat) (he : e < 8) (hb : Byte l) : Byte (l.set k (((l.getD k 0).toNat ^^^ 2 ^ e : Nat) : Int)) := by
  intro n hn
  have hc := hb.at k
  have hx : (l.getD k 0).toNat ^^^ 2 ^ e < 256 := Nat.xor_lt_two_pow (n := 8) (by omega) (Nat.pow_lt_pow_right (by omega) he)
  rcases List.mem_or_eq_of_mem_set hn with h | h
  · exact hb n h
  · omega
theorem bit_step (B i : Nat) : B % 2 ^ (i + 1) = (B % 2 ^ i) ^^^ (if B / 2 ^ i % 2 = 1 then 2 ^ i else 0) := by
  have h1 : B % 2 ^ (i + 1) = B % 2 ^ i + 2 ^ i * (B / 2 ^ i % 2) := by
    rw [Nat.pow_succ, Nat.mod_mul]
  rw [h1]
  have hlt := Nat.mod_lt B (Nat.two_pow_pos i)
  rcases (by omega : B / 2 ^ i % 2 = 0 ∨ B / 2 ^ i % 2 = 1) with h | h
  · simp [h]
  · rw [h, if_pos rfl, Nat.mul_one]
    have h2 := Nat.shiftLeft_add_eq_or_of_lt (i := i) hlt 1
    rw [Nat.one_shiftLeft] at h2
    rw [Nat.add_comm, h2]
    apply Nat.eq_of_testBit_eq
    intro j
    simp only [Nat.testBit_or, Nat.testBit_xor, Nat.testBit_two_pow]
    by_cases hj : i = j
    · subst hj
      rw [Nat.testBit_lt_two_pow hlt]
      simp
    · simp [hj]

end Go.Proofs.YtnfjhdedcnbdbaaGreat

/-
  Frames, as lists of bytes. Nothing of the program.
-/
namespace Go.Proofs.YtnfjhdedcnbdbaaGreat
open Go.RowKit
set_option linter.unusedVariables false

/-- A number as four bytes. -/
def w4 (n : Nat) : List Int := [((n % 256 : Nat) : Int), ((n / 256 % 256 : Nat) : Int), ((n / 65536 % 256 : Nat) : Int), ((n / 16777216 % 256 : Nat) : Int)]
theorem w4_length (n : Nat) : (w4 n).length = 4 := rfl
theorem w4_byte (n : Nat) : Byte (w4 n) := by
  intro z hz
  simp only [w4, List.mem_cons, List.not_mem_nil, or_false] at hz
  omega
/-- The number that four bytes are. -/
def num4 (l : List Int) : Nat := (l.getD 0 0).toNat + 256 * (l.getD 1 0).toNat + 65536 * (l.getD 2 0).toNat + 16777216 * (l.getD 3 0).toNat
theorem num4_lt (l : List Int) (hb : Byte l) : num4 l < 4294967296 := by
  have h0 := hb.at 0
  have h1 := hb.at 1
  have h2 := hb.at 2
  have h3 := hb.at 3
  unfold num4
  omega
theorem num4_w4 (n : Nat) (h : n < 4294967296) (l : List Int) : num4 (w4 n ++ l) = n := by
  simp only [num4, w4, List.cons_append, List.getD_cons_zero, List.getD_cons_succ, Int.toNat_natCast]
  omega
/-- What the sum is taken of. -/
def head (k : Int) (d : List Int) : List Int := k :: (w4 d.length ++ d)
theorem head_length (k : Int) (d : List Int) : (head k d).length = d.length + 5 := by simp [head, w4_length]; omega
theorem crc_lt (l : List Int) : crc l < 4294967296 := by unfold crc; omega
def made (k : Int) (d : List Int) : List Int := head k d ++ w4 (crc (head k d))
theorem made_length (k : Int) (d : List Int) : (made k d).length = d.length + 9 := by simp [made, head_length, w4_length]
theorem head_byte {k : Int} {d : List Int} (hk : 0 ≤ k ∧ k ≤ 255) (hd : Byte d) : Byte (head k d) := by
  intro z hz
  rcases List.mem_cons.1 hz with rfl | hz
  · exact hk
  · exact (w4_byte _).append hd z hz
theorem made_byte {k : Int} {d : List Int} (hk : 0 ≤ k ∧ k ≤ 255) (hd : Byte d) : Byte (made k d) := (head_byte hk hd).append (w4_byte _)

/-- The frame with which bytes begin: its kind, its data, its length; noughts where there is none. -/
def gett (l : List Int) : Int × List Int × Nat :=
  if l.length < 9 then (0, [], 0) else
  if 4194304 < num4 (l.drop 1) ∨ l.length < num4 (l.drop 1) + 9 then (0, [], 0) else
  if num4 (l.drop (5 + num4 (l.drop 1))) = crc (l.take (5 + num4 (l.drop 1))) then (l.getD 0 0, (l.drop 5).take (num4 (l.drop 1)), num4 (l.drop 1) + 9) else (0, [], 0)
def sizeN (n : Int) : Int := if n < 0 then 0 else if 4194304 < n then 0 else n + 9

theorem gett_short {l : List Int} (h : l.length < 9) : gett l = (0, [], 0) := by unfold gett; rw [if_pos h]
theorem gett_none {l : List Int} {n : Nat} (hn : num4 (l.drop 1) = n) (h : 4194304 < n ∨ l.length < n + 9) : gett l = (0, [], 0) := by
  unfold gett
  rw [hn]
  by_cases h9 : l.length < 9
  · rw [if_pos h9]
  · rw [if_neg h9, if_pos h]
theorem gett_bad {l : List Int} {n : Nat} (hn : num4 (l.drop 1) = n) (h : num4 (l.drop (5 + n)) ≠ crc (l.take (5 + n))) : gett l = (0, [], 0) := by
  unfold gett
  rw [hn]
  by_cases h9 : l.length < 9
  · rw [if_pos h9]
  · rw [if_neg h9]
    by_cases h2 : 4194304 < n ∨ l.length < n + 9
    · rw [if_pos h2]
    · rw [if_neg h2, if_neg h]
theorem gett_some {l : List Int} {n : Nat} (hn : num4 (l.drop 1) = n) (h1 : n ≤ 4194304) (h2 : n + 9 ≤ l.length) (h : num4 (l.drop (5 + n)) = crc (l.take (5 + n))) : gett l = (l.getD 0 0, (l.drop 5).take n, n + 9) := by
  unfold gett
  rw [hn, if_neg (by omega), if_neg (by omega), if_pos h]
theorem gett_n (l : List Int) : (gett l).2.2 = 0 ∨ ((gett l).2.2 = (gett l).2.1.length + 9 ∧ (gett l).2.2 ≤ l.length ∧ (gett l).2.1.length ≤ 4194304) := by
  unfold gett
  split
  · exact .inl rfl
  · split
    · exact .inl rfl
    · split
      · refine .inr ?_
        simp only [List.length_take, List.length_drop]
        omega
      · exact .inl rfl
theorem gett_byte {l : List Int} (h : Byte l) : Byte (gett l).2.1 := by
  unfold gett
  split
  · exact fun z hz => absurd hz (by simp)
  · split
    · exact fun z hz => absurd hz (by simp)
    · split
      · exact (h.drop 5).take _
      · exact fun z hz => absurd hz (by simp)
theorem gett_k {l : List Int} (h : Byte l) : 0 ≤ (gett l).1 ∧ (gett l).1 ≤ 255 := by
  unfold gett
  split
  · decide
  · split
    · decide
    · split
      · exact h.at 0
      · decide

end Go.Proofs.YtnfjhdedcnbdbaaGreat

/-
  Words of 32 bits. Nothing of the program.
-/
namespace Go.Proofs.YtnfjhdedcnbdbaaGreat
open Go.RowKit
set_option linter.unusedVariables false

/-- A word as the model has it. -/
def N (x : BitVec 32) : Int := (x.toNat : Int)
theorem N_lt (x : BitVec 32) : 0 ≤ N x ∧ N x < 4294967296 := by
  unfold N
  have := x.isLt
  omega
theorem N_inj {x y : BitVec 32} (h : N x = N y) : x = y := by
  unfold N at h
  apply BitVec.eq_of_toNat_eq
  omega
theorem N_xor (x y : BitVec 32) : bits .xor .u32 (N x) (N y) = N (x ^^^ y) := by
  unfold N
  rw [u32_xor_nat _ _ x.isLt y.isLt, BitVec.toNat_xor]
theorem N_and (x y : BitVec 32) : bits .and .u32 (N x) (N y) = N (x &&& y) := by
  unfold N
  rw [u32_and_nat _ _ x.isLt y.isLt, BitVec.toNat_and]
theorem N_or (x y : BitVec 32) : bits .or .u32 (N x) (N y) = N (x ||| y) := by
  unfold N
  rw [u32_or_nat _ _ x.isLt y.isLt, BitVec.toNat_or]
theorem N_add (x y : BitVec 32) : IntKind.u32.wrap (N x + N y) = N (x + y) := by
  unfold N
  rw [IntKind.wrap_u32, BitVec.toNat_add]
  omega
theorem N_not (x : BitVec 32) : bits .xor .u32 4294967295 (N x) = N (~~~x) := by
  have : (4294967295 : Int) = N (BitVec.allOnes 32) := by decide
  rw [this, N_xor, BitVec.allOnes_xor]
theorem N_shr (x : BitVec 32) (k : Nat) : N x / ((2 ^ k : Nat) : Int) = N (x >>> k) := by
  unfold N
  rw [BitVec.toNat_ushiftRight, Nat.shiftRight_eq_div_pow]
  omega
theorem N_shl (x : BitVec 32) (k : Nat) : IntKind.u32.wrap (N x * ((2 ^ k : Nat) : Int)) = N (x <<< k) := by
  unfold N
  rw [IntKind.wrap_u32, BitVec.toNat_shiftLeft, Nat.shiftLeft_eq]
  omega

def rotr (x : BitVec 32) (n : Nat) : BitVec 32 := (x >>> n) ||| (x <<< (32 - n))

end Go.Proofs.YtnfjhdedcnbdbaaGreat
