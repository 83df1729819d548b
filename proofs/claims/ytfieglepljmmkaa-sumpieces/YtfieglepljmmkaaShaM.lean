/-
  The digest, in words. Nothing of the program.
-/
import Derived.Test.YtfieglepljmmkaaMath
import Derived.Test.YtfieglepljmmkaaRowB
namespace Go.Proofs.Ytfieglepljmmkaa
set_option linter.unusedVariables false

def s0 (x : BitVec 32) : BitVec 32 := rotr x 7 ^^^ rotr x 18 ^^^ (x >>> 3)
def s1 (x : BitVec 32) : BitVec 32 := rotr x 17 ^^^ rotr x 19 ^^^ (x >>> 10)
def b0 (x : BitVec 32) : BitVec 32 := rotr x 2 ^^^ rotr x 13 ^^^ rotr x 22
def b1 (x : BitVec 32) : BitVec 32 := rotr x 6 ^^^ rotr x 11 ^^^ rotr x 25

/-- The word behind some. -/
def wNext (v : List (BitVec 32)) : BitVec 32 := s1 (v.getD (v.length - 2) 0) + v.getD (v.length - 7) 0 + s0 (v.getD (v.length - 15) 0) + v.getD (v.length - 16) 0
def sched : Nat → List (BitVec 32) → List (BitVec 32)
  | 0, v => v
  | k + 1, v => sched k v ++ [wNext (sched k v)]
theorem sched_len : ∀ (k : Nat) (v : List (BitVec 32)), (sched k v).length = v.length + k
  | 0, v => rfl
  | k + 1, v => by simp [sched, sched_len k v]; omega

structure St where
  a : BitVec 32
  b : BitVec 32
  c : BitVec 32
  d : BitVec 32
  e : BitVec 32
  f : BitVec 32
  g : BitVec 32
  h : BitVec 32

def tOf (s : St) (k w : BitVec 32) : BitVec 32 := s.h + b1 s.e + ((s.e &&& s.f) ^^^ (~~~s.e &&& s.g)) + k + w
def uOf (s : St) : BitVec 32 := b0 s.a + ((s.a &&& s.b) ^^^ (s.a &&& s.c) ^^^ (s.b &&& s.c))
def rnd (s : St) (k w : BitVec 32) : St := ⟨tOf s k w + uOf s, s.a, s.b, s.c, s.d + tOf s k w, s.e, s.f, s.g⟩
def rounds (K W : List (BitVec 32)) : Nat → St → St
  | 0, s => s
  | i + 1, s => rnd (rounds K W i s) (K.getD i 0) (W.getD i 0)
def St.add (s t : St) : St := ⟨s.a + t.a, s.b + t.b, s.c + t.c, s.d + t.d, s.e + t.e, s.f + t.f, s.g + t.g, s.h + t.h⟩
def St.l (s : St) : List (BitVec 32) := [s.a, s.b, s.c, s.d, s.e, s.f, s.g, s.h]

/-- Four bytes as a word. -/
def word (b0 b1 b2 b3 : Int) : BitVec 32 := BitVec.ofNat 32 (b0.toNat * 16777216 + b1.toNat * 65536 + b2.toNat * 256 + b3.toNat)
def words (n : Nat) (m : List Int) : List (BitVec 32) := (List.range n).map (fun i => word (m.getD (4 * i) 0) (m.getD (4 * i + 1) 0) (m.getD (4 * i + 2) 0) (m.getD (4 * i + 3) 0))
theorem words_len (n : Nat) (m : List Int) : (words n m).length = n := by simp [words]
def KK : List (BitVec 32) := [0x428a2f98, 0x71374491, 0xb5c0fbcf, 0xe9b5dba5, 0x3956c25b, 0x59f111f1, 0x923f82a4, 0xab1c5ed5,
  0xd807aa98, 0x12835b01, 0x243185be, 0x550c7dc3, 0x72be5d74, 0x80deb1fe, 0x9bdc06a7, 0xc19bf174,
  0xe49b69c1, 0xefbe4786, 0x0fc19dc6, 0x240ca1cc, 0x2de92c6f, 0x4a7484aa, 0x5cb0a9dc, 0x76f988da,
  0x983e5152, 0xa831c66d, 0xb00327c8, 0xbf597fc7, 0xc6e00bf3, 0xd5a79147, 0x06ca6351, 0x14292967,
  0x27b70a85, 0x2e1b2138, 0x4d2c6dfc, 0x53380d13, 0x650a7354, 0x766a0abb, 0x81c2c92e, 0x92722c85,
  0xa2bfe8a1, 0xa81a664b, 0xc24b8b70, 0xc76c51a3, 0xd192e819, 0xd6990624, 0xf40e3585, 0x106aa070,
  0x19a4c116, 0x1e376c08, 0x2748774c, 0x34b0bcb5, 0x391c0cb3, 0x4ed8aa4a, 0x5b9cca4f, 0x682e6ff3,
  0x748f82ee, 0x78a5636f, 0x84c87814, 0x8cc70208, 0x90befffa, 0xa4506ceb, 0xbef9a3f7, 0xc67178f2]
def H0 : St := ⟨0x6a09e667, 0xbb67ae85, 0x3c6ef372, 0xa54ff53a, 0x510e527f, 0x9b05688c, 0x1f83d9ab, 0x5be0cd19⟩

/-- One block more. -/
def comp (s : St) (m : List Int) : St := s.add (rounds KK (sched 48 (words 16 m)) 64 s)
/-- The first n blocks. -/
def absorb : Nat → List Int → St
  | 0, m => H0
  | n + 1, m => comp (absorb n m) ((m.drop (64 * n)).take 64)
/-- What goes behind n bytes. -/
def tail8 (n : Nat) : List Int := (List.range 8).map (fun i => ((n * 8 / 256 ^ (7 - i) % 256 : Nat) : Int))
def ending (n : Nat) : List Int := 128 :: List.replicate ((119 - n % 64) % 64) 0 ++ tail8 n
def outW (x : BitVec 32) : List Int := [((x.toNat / 16777216 % 256 : Nat) : Int), ((x.toNat / 65536 % 256 : Nat) : Int), ((x.toNat / 256 % 256 : Nat) : Int), ((x.toNat % 256 : Nat) : Int)]
def outSt (s : St) : List Int := s.l.flatMap outW
def digest (m : List Int) : List Int := outSt (absorb ((m ++ ending m.length).length / 64) (m ++ ending m.length))

/-- A word as a cell. -/
def wc (l : List (BitVec 32)) : List Value := l.map (fun x => Value.int .u32 (N x))
theorem wc_len (l : List (BitVec 32)) : (wc l).length = l.length := by simp [wc]
theorem wc_at (l : List (BitVec 32)) (i : Nat) (h : i < l.length) : (wc l)[i]? = some (.int .u32 (N (l.getD i 0))) := by simp [wc, h]
theorem wc_one (l : List (BitVec 32)) : ∀ v ∈ wc l, v.oneCell' = true := by
  intro v hv
  simp only [wc, List.mem_map] at hv
  obtain ⟨x, _, rfl⟩ := hv
  rfl
theorem wc_append (l m : List (BitVec 32)) : wc (l ++ m) = wc l ++ wc m := by simp [wc]

theorem nat_join (k a b : Nat) (h : a % 2 ^ k = 0) (hb : b < 2 ^ k) : a ||| b = a + b := by
  have e : a = (a / 2 ^ k) <<< k := by
    rw [Nat.shiftLeft_eq]
    have := Nat.div_add_mod a (2 ^ k)
    rw [h, Nat.mul_comm] at this
    omega
  rw [e, Nat.shiftLeft_add_eq_or_of_lt hb]

theorem word_or (p q r s : Int) (hp : 0 ≤ p ∧ p ≤ 255) (hq : 0 ≤ q ∧ q ≤ 255) (hr : 0 ≤ r ∧ r ≤ 255) (hs : 0 ≤ s ∧ s ≤ 255) :
    bits .or .u32 (bits .or .u32 (bits .or .u32 (p * 16777216) (q * 65536)) (r * 256)) s = N (word p q r s) := by
  have e1 : bits .or .u32 (p * 16777216) (q * 65536) = p * 16777216 + q * 65536 := by
    rw [u32_or _ _ (by omega) (by omega) (by omega) (by omega), show (p * 16777216).toNat ||| (q * 65536).toNat = (p * 16777216).toNat + (q * 65536).toNat from nat_join 24 _ _ (by simp; omega) (by omega)]
    omega
  have e2 : bits .or .u32 (p * 16777216 + q * 65536) (r * 256) = p * 16777216 + q * 65536 + r * 256 := by
    rw [u32_or _ _ (by omega) (by omega) (by omega) (by omega), show (p * 16777216 + q * 65536).toNat ||| (r * 256).toNat = (p * 16777216 + q * 65536).toNat + (r * 256).toNat from nat_join 16 _ _ (by simp; omega) (by omega)]
    omega
  have e3 : bits .or .u32 (p * 16777216 + q * 65536 + r * 256) s = p * 16777216 + q * 65536 + r * 256 + s := by
    rw [u32_or _ _ (by omega) (by omega) (by omega) (by omega), show (p * 16777216 + q * 65536 + r * 256).toNat ||| s.toNat = (p * 16777216 + q * 65536 + r * 256).toNat + s.toNat from nat_join 8 _ _ (by simp; omega) (by omega)]
    omega
  rw [e1, e2, e3]
  unfold N word
  rw [BitVec.toNat_ofNat]
  omega

end Go.Proofs.Ytfieglepljmmkaa
