import Derived.WalkKit
import Derived.Test.YtalmpmhnkilalaaGreatDoorRows
import Derived.WalkSpells
import Derived.WalkLawsBesides
import Derived.Laws.BitsAllLaws
import Derived.Test.YtalmpmhnkilalaaGreatDoorRow
/-
  The plain mathematics of layer 1: how a number is written in groups of seven bits (enc), and how it is read (dec). Nothing of the program.
-/
namespace Go.Proofs.YtalmpmhnkilalaaGreatDoor.Q
set_option linter.unusedVariables false

/-- How many groups stand ahead of the last one (with fuel). -/
def grpF : Nat → Nat → Nat
  | 0, _ => 0
  | f + 1, n => if n < 128 then 0 else grpF f (n / 128) + 1
def grp (n : Nat) : Nat := grpF 9 n

/-- k groups that go on, and the last one. -/
def encK : Nat → Nat → List Int
  | 0, n => [(n : Int)]
  | k + 1, n => ((n % 128 + 128 : Nat) : Int) :: encK k (n / 128)
def enc (n : Nat) : List Int := encK (grp n) n

theorem grpF_le : ∀ f n, grpF f n ≤ f
  | 0, _ => Nat.le_refl _
  | f + 1, n => by
    unfold grpF
    split
    · omega
    · have := grpF_le f (n / 128); omega
theorem grp_le (n : Nat) : grp n ≤ 9 := grpF_le 9 n

theorem grpF_fuel : ∀ f n, n < 128 ^ (f + 1) → grpF (f + 1) n = grpF f n
  | 0, n, h => by
    have : n < 128 := by simpa using h
    simp [grpF, this]
  | f + 1, n, h => by
    have e1 : grpF (f + 1 + 1) n = if n < 128 then 0 else grpF (f + 1) (n / 128) + 1 := rfl
    have e2 : grpF (f + 1) n = if n < 128 then 0 else grpF f (n / 128) + 1 := rfl
    rw [e1, e2]
    split
    · rfl
    · rw [grpF_fuel f (n / 128) (by rw [Nat.pow_succ] at h; omega)]

theorem grp_small (n : Nat) (h : n < 128) : grp n = 0 := by simp [grp, grpF, h]
theorem grp_step (n : Nat) (h : 128 ≤ n) (h1 : n < 18446744073709551616) : grp n = grp (n / 128) + 1 := by
  show grpF 9 n = grpF 9 (n / 128) + 1
  rw [grpF_fuel 8 (n / 128) (by omega), grpF, if_neg (by omega)]

theorem grpF_is : ∀ f k x, k ≤ f → (k = 0 ∨ 128 ^ k ≤ x) → x < 128 ^ (k + 1) → grpF f x = k
  | 0, k, x, h, _, _ => by simp [grpF]; omega
  | f + 1, 0, x, h, h1, h2 => by
    have : x < 128 := by simpa using h2
    simp [grpF, this]
  | f + 1, k + 1, x, h, h1, h2 => by
    have h1 : 128 ^ (k + 1) ≤ x := by omega
    have hp : 0 < 128 ^ k := Nat.pow_pos (by omega)
    rw [Nat.pow_succ] at h1 h2
    rw [grpF, if_neg (by omega), grpF_is f k (x / 128) (by omega) (by right; omega) (by omega)]

theorem encK_length : ∀ k n, (encK k n).length = k + 1
  | 0, _ => rfl
  | k + 1, n => by simp [encK, encK_length k]
theorem enc_length (n : Nat) : (enc n).length = grp n + 1 := encK_length _ _

/-- The first k bytes of a number that goes on. -/
def pre : Nat → Nat → List Int
  | 0, _ => []
  | k + 1, n => pre k n ++ [((n / 128 ^ k % 128 + 128 : Nat) : Int)]
theorem pre_length : ∀ k n, (pre k n).length = k
  | 0, _ => rfl
  | k + 1, n => by simp [pre, pre_length k]
theorem pre_cons : ∀ k n, pre (k + 1) n = ((n % 128 + 128 : Nat) : Int) :: pre k (n / 128)
  | 0, n => by simp [pre]
  | k + 1, n => by
    have e : pre (k + 1 + 1) n = pre (k + 1) n ++ [((n / 128 ^ (k + 1) % 128 + 128 : Nat) : Int)] := rfl
    rw [e, pre_cons k n, pre, Nat.pow_succ, Nat.mul_comm, Nat.div_div_eq_div_mul]
    rfl
theorem encK_pre : ∀ k n, encK k n = pre k n ++ [((n / 128 ^ k : Nat) : Int)]
  | 0, n => by simp [encK, pre]
  | k + 1, n => by
    rw [encK, pre_cons, encK_pre k, Nat.pow_succ, Nat.mul_comm (128 ^ k), ← Nat.div_div_eq_div_mul]
    rfl
theorem enc_pre (n : Nat) : enc n = pre (grp n) n ++ [((n / 128 ^ grp n : Nat) : Int)] := encK_pre _ _
theorem grpF_lt : ∀ f n, n < 128 ^ (f + 1) → n < 128 ^ (grpF f n + 1)
  | 0, n, h => by simpa [grpF] using h
  | f + 1, n, h => by
    rw [grpF]
    split
    · simpa
    · have := grpF_lt f (n / 128) (by rw [Nat.pow_succ] at h; omega)
      rw [Nat.pow_succ]
      omega
theorem grp_lt (n : Nat) (h : n < 18446744073709551616) : n < 128 ^ (grp n + 1) := grpF_lt 9 n (by omega)
theorem last_lt (n : Nat) (h : n < 18446744073709551616) : n / 128 ^ grp n < 128 := by
  have := grp_lt n h
  rw [Nat.pow_succ] at this
  exact Nat.div_lt_of_lt_mul this
theorem pre_byte : ∀ k n, ∀ c ∈ pre k n, 128 ≤ c ∧ c ≤ 255
  | 0, n, c, h => by simp [pre] at h
  | k + 1, n, c, h => by
    rw [pre, List.mem_append] at h
    rcases h with h | h
    · exact pre_byte k n c h
    · simp at h; omega

theorem pow128 (k : Nat) : 128 ^ k = 2 ^ (7 * k) := by rw [Nat.pow_mul]

/-- How a number is read: i bytes have been read, n is their number. -/
def decAt : List Int → Nat → Nat → Nat × Nat
  | [], _, _ => (0, 0)
  | c :: t, i, n =>
    if 10 ≤ i then (0, 0) else if i = 9 ∧ 1 < c then (0, 0)
    else if 128 ≤ c then decAt t (i + 1) (n + (c.toNat % 128) * 128 ^ i)
    else if c = 0 ∧ 0 < i then (0, 0)
    else (n + (c.toNat % 128) * 128 ^ i, i + 1)
def dec (l : List Int) : Nat × Nat := decAt l 0 0

/-- With a sign. -/
def fold (m : Int) : Nat := if m < 0 then (-2 * m - 1).toNat else (2 * m).toNat
def unfold' (n : Nat) : Int := if n % 2 = 1 then -((n / 2 : Nat) : Int) - 1 else ((n / 2 : Nat) : Int)

theorem unfold_fold (m : Int) : unfold' (fold m) = m := by
  unfold unfold' fold
  split <;> split <;> omega
theorem fold_unfold (n : Nat) : fold (unfold' n) = n := by
  unfold unfold' fold
  split <;> split <;> omega

end Go.Proofs.YtalmpmhnkilalaaGreatDoor.Q

namespace Go.Proofs.YtalmpmhnkilalaaGreatDoor.Q
open Go.RowKit
set_option linter.unusedVariables false

/-- How many bits a byte wants. -/
def bits8 (i : Nat) : Nat := if i < 1 then 0 else if i < 2 then 1 else if i < 4 then 2 else if i < 8 then 3 else if i < 16 then 4 else if i < 32 then 5 else if i < 64 then 6 else if i < 128 then 7 else 8
def tab8 : ByteArray := ⟨((List.range 256).map fun i => UInt8.ofNat (bits8 i)).toArray⟩
theorem tab8_size : tab8.size = 256 := by decide +kernel
theorem tab8_get? : ∀ i : Fin 256, (tab8[i.val]?).map (fun b => b.toNat) = some (bits8 i.val) := by decide +kernel
theorem tab8_get (i : Nat) (h : i < 256) (h' : i < tab8.size) : (tab8[i]'h').toNat = bits8 i := by
  have e := tab8_get? ⟨i, h⟩
  simpa [h'] using e

/-- x wants r bits. -/
def IsLen (x r : Nat) : Prop := x < 2 ^ r ∧ (0 < x → 1 ≤ r ∧ 2 ^ (r - 1) ≤ x) ∧ r ≤ 64

theorem isLen_shift (x y k : Nat) (hk : k ≤ 56) (hy : y = x / 2 ^ k) (hy1 : y < 256) (hlo : 2 ^ k ≤ x ∨ k = 0) : IsLen x (k + bits8 y) := by
  have hp : 0 < 2 ^ k := Nat.two_pow_pos k
  have hx1 : 2 ^ k * y ≤ x := by rw [hy]; exact Nat.mul_div_le _ _
  have hx2 : x < 2 ^ k * (y + 1) := by rw [hy]; exact Nat.lt_mul_div_succ _ hp
  have key : y < 2 ^ bits8 y ∧ (0 < y → 1 ≤ bits8 y ∧ 2 ^ (bits8 y - 1) ≤ y) ∧ bits8 y ≤ 8 := by
    unfold bits8
    repeat' split
    all_goals (refine ⟨by simp; omega, fun h => ⟨by omega, by simp; omega⟩, by omega⟩)
  obtain ⟨k1, k2, k3⟩ := key
  refine ⟨?_, fun h0 => ?_, by omega⟩
  · rw [Nat.pow_add]
    exact Nat.lt_of_lt_of_le hx2 (Nat.mul_le_mul_left _ k1)
  · have hy0 : 0 < y := by
      rcases hlo with h | h
      · rw [hy]; exact Nat.div_pos h hp
      · subst h; simp at hy; omega
    obtain ⟨g1, g2⟩ := k2 hy0
    refine ⟨by omega, ?_⟩
    rw [show k + bits8 y - 1 = k + (bits8 y - 1) by omega, Nat.pow_add]
    exact Nat.le_trans (Nat.mul_le_mul_left _ g2) hx1

theorem bits8_le (y : Nat) : bits8 y ≤ 8 := by
  unfold bits8
  repeat' split
  all_goals omega

theorem len_leaf (T : ByteArray) (hT : T = tab8) (x y : Int) (k : Nat) (h0 : 0 ≤ x) (hy : y.toNat = x.toNat / 2 ^ k) (hlo : 2 ^ k ≤ x.toNat ∨ k = 0) (hy0 : 0 ≤ y) (hy1 : y < 256) (hk : k ≤ 56) (hlt : y.toNat < T.size) :
    ∃ r : Nat, wrap64 ((k : Int) + wrap64 ((T[y.toNat]'hlt).toNat : Int)) = (r : Int) ∧ IsLen x.toNat r := by
  subst hT
  have hb := bits8_le y.toNat
  refine ⟨k + bits8 y.toNat, ?_, isLen_shift _ _ _ hk hy (by omega) hlo⟩
  rw [tab8_get y.toNat (by omega)]
  generalize bits8 y.toNat = t at hb
  simp only [wrap64]
  omega

theorem len_leaf0 (T : ByteArray) (hT : T = tab8) (x : Int) (h0 : 0 ≤ x) (hx : x < 256) (hlt : x.toNat < T.size) :
    ∃ r : Nat, wrap64 (wrap64 ((T[x.toNat]'hlt).toNat : Int)) = (r : Int) ∧ IsLen x.toNat r := by
  obtain ⟨r, h, hr⟩ := len_leaf T hT x x 0 h0 (by simp) (.inr rfl) h0 hx (by omega) hlt
  exact ⟨r, by simpa using h, hr⟩

theorem ret_of {Q : World → Nat → Prop} {w : World} {a : Int} (h : ∃ r : Nat, a = (r : Int) ∧ Q w r) : ∃ r : Nat, Ending.returned (.int .i64 a) = .returned (.int .i64 r) ∧ Q w r := by
  obtain ⟨r, rfl, h⟩ := h
  exact ⟨r, rfl, h⟩

set_option maxHeartbeats 4000000 in
set_option maxRecDepth 100000 in
theorem len64_any (x : Int) (w : World) (h0 : 0 ≤ x) (h1 : x ≤ 18446744073709551615) :
    Calls Tryz.prog 182 #[.int .u64 x] w fun e w' => (∃ r : Nat, e = .returned (.int .i64 r) ∧ IsLen x.toNat r) ∧ w' = w := by
  go_enter Tryz.func182, Tryz.ntmps182
  go_wp2
  all_goals go_ret
  all_goals refine ⟨ret_of (Q := fun _ r => IsLen x.toNat r) (w := w) ?_, rfl⟩
  · exact len_leaf _ (by kernel_rfl) x _ 56 h0 (by omega) (.inl (by omega)) (by omega) (by omega) (by omega) _
  · exact len_leaf _ (by kernel_rfl) x _ 48 h0 (by omega) (.inl (by omega)) (by omega) (by omega) (by omega) _
  · exact len_leaf _ (by kernel_rfl) x _ 40 h0 (by omega) (.inl (by omega)) (by omega) (by omega) (by omega) _
  · exact len_leaf _ (by kernel_rfl) x _ 32 h0 (by omega) (.inl (by omega)) (by omega) (by omega) (by omega) _
  · exact len_leaf _ (by kernel_rfl) x _ 24 h0 (by omega) (.inl (by omega)) (by omega) (by omega) (by omega) _
  · exact len_leaf _ (by kernel_rfl) x _ 16 h0 (by omega) (.inl (by omega)) (by omega) (by omega) (by omega) _
  · exact len_leaf _ (by kernel_rfl) x _ 8 h0 (by omega) (.inl (by omega)) (by omega) (by omega) (by omega) _
  · exact len_leaf0 _ (by kernel_rfl) x h0 (by omega) _

end Go.Proofs.YtalmpmhnkilalaaGreatDoor.Q

namespace Go.Proofs.YtalmpmhnkilalaaGreatDoor.Q
open Go.RowKit
set_option linter.unusedVariables false

theorem or_one (n : Nat) : n ||| 1 = n + (1 - n % 2) := by
  rcases (by omega : n % 2 = 0 ∨ n % 2 = 1) with h | h
  · rw [nat_join 1 n 1 (by simpa using h) (by decide)]; omega
  · have e := nat_join 1 (n - 1) 1 (by simp; omega) (by decide)
    have e1 : n = (n - 1) ||| 1 := by rw [e]; omega
    have : n ||| 1 = n := by
      rw [e1, Nat.or_assoc]; simp
    omega

theorem grp_of_len (n r : Nat) (h1 : n < 18446744073709551616) (h : IsLen (n ||| 1) r) : (r + 6) / 7 = grp n + 1 ∧ 1 ≤ r ∧ r ≤ 64 := by
  obtain ⟨a, b, c⟩ := h
  rw [or_one] at a b
  obtain ⟨b1, b2⟩ := b (by omega)
  obtain ⟨k, hk⟩ : ∃ k, k = (r - 1) / 7 := ⟨_, rfl⟩
  have hlo : 128 ^ k ≤ n + (1 - n % 2) := by
    rw [pow128]
    exact Nat.le_trans (Nat.pow_le_pow_right (by omega) (by omega)) b2
  have hhi : n + (1 - n % 2) < 128 ^ (k + 1) := by
    rw [pow128]
    exact Nat.lt_of_lt_of_le a (Nat.pow_le_pow_right (by omega) (by omega))
  have hg : grp n = k := by
    refine grpF_is 9 k n (by omega) ?_ (by omega)
    rcases Nat.eq_zero_or_pos k with h0 | h0
    · exact .inl h0
    · right
      obtain ⟨j, rfl⟩ : ∃ j, k = j + 1 := ⟨k - 1, by omega⟩
      rw [Nat.pow_succ] at hlo ⊢
      omega
  rw [hg]
  exact ⟨by omega, b1, c⟩

set_option maxHeartbeats 400000 in
theorem uintSize_any (n : Int) (w : World) (h0 : 0 ≤ n) (h1 : n ≤ 18446744073709551615) :
    Calls Tryz.prog 161 #[.int .u64 n] w fun e w' => e = .returned (.int .i64 ((grp n.toNat : Int) + 1)) ∧ w' = w := by
  have hor : bits .or .u64 n 1 = ((n.toNat ||| 1 : Nat) : Int) := u64_or n 1 h0 (by omega) (by decide) (by decide)
  have hb : n.toNat ||| 1 < 2 ^ 64 := Nat.or_lt_two_pow (by omega) (by decide)
  go_enter Tryz.func161, Tryz.ntmps161
  go_wp2_with fail
  refine (len64_any _ _ (by omega) (by omega)).mono ?_
  rintro e w' ⟨⟨r, rfl, hr⟩, rfl⟩
  rw [Int.toNat_natCast] at hr
  obtain ⟨q1, q2, q3⟩ := grp_of_len _ _ (by omega) hr
  clear hor hb hr
  go_wp2
  go_ret
  refine ⟨congrArg Ending.returned (congrArg (Value.int IntKind.i64) ?_), rfl⟩
  omega

theorem i64_not' (n : Int) (h0 : -9223372036854775808 ≤ n) (h1 : n ≤ 9223372036854775807) : bits .xor .i64 (-1) n = -1 - n := by
  show IntKind.i64.wrap ((BitVec.ofInt 64 (-1) ^^^ BitVec.ofInt 64 n).toNat : Int) = _
  have h1 : BitVec.ofInt 64 (-1) = BitVec.allOnes 64 := by decide
  rw [h1, BitVec.allOnes_xor, BitVec.toNat_not]
  simp [IntKind.wrap, IntKind.bits, IntKind.signed, BitVec.toNat_ofInt]
  omega

theorem foldNeg (n : Int) (h0 : -9223372036854775808 ≤ n) (h : n < 0) :
    bits .or .u64 (IntKind.u64.wrap (IntKind.u64.wrap (bits .xor .i64 (-1) n) * 2)) 1 = (fold n : Int) := by
  rw [i64_not' n h0 (by omega), IntKind.wrap_u64, IntKind.wrap_u64, u64_or _ 1 (by omega) (by omega) (by decide) (by decide)]
  have e : (((-1 - n) % 18446744073709551616 * 2) % 18446744073709551616).toNat ||| (1 : Int).toNat = ((-1 - n) * 2).toNat + 1 := by
    rw [show (((-1 - n) % 18446744073709551616 * 2) % 18446744073709551616).toNat = ((-1 - n) * 2).toNat by omega]
    exact nat_join 1 _ 1 (by simp; omega) (by decide)
  rw [e, fold, if_pos h]
  omega

set_option maxHeartbeats 400000 in
theorem foldSign_any (n : Int) (w : World) (h0 : -9223372036854775808 ≤ n) (h1 : n ≤ 9223372036854775807) :
    Calls Tryz.prog 180 #[.int .i64 n] w fun e w' => e = .returned (.int .u64 (fold n)) ∧ w' = w := by
  go_enter Tryz.func180, Tryz.ntmps180
  go_wp2
  all_goals go_ret
  all_goals refine ⟨congrArg Ending.returned (congrArg (Value.int IntKind.u64) ?_), rfl⟩
  · exact foldNeg n h0 (by assumption)
  · show n * 2 = _
    have h : 0 ≤ n := by assumption
    rw [fold, if_neg (by omega)]
    omega

theorem and_one (n : Int) (h0 : 0 ≤ n) (h1 : n ≤ 18446744073709551615) : bits .and .u64 n 1 = n % 2 := by
  rw [u64_and n 1 h0 (by omega) (by decide) (by decide)]
  have : n.toNat &&& (1 : Int).toNat = n.toNat % 2 := nat_mask1 _
  rw [this]
  omega

set_option maxHeartbeats 400000 in
theorem unfoldSign_any (n : Int) (w : World) (h0 : 0 ≤ n) (h1 : n ≤ 18446744073709551615) :
    Calls Tryz.prog 181 #[.int .u64 n] w fun e w' => e = .returned (.int .i64 (unfold' n.toNat)) ∧ w' = w := by
  have ha := and_one n h0 h1
  go_enter Tryz.func181, Tryz.ntmps181
  go_wp2
  all_goals go_ret
  all_goals refine ⟨congrArg Ending.returned (congrArg (Value.int IntKind.i64) ?_), rfl⟩
  · have h : (n % 2 == 1) = true := by assumption
    show bits .xor .i64 (-1) (n / 2) = _
    rw [i64_not' (n / 2) (by omega) (by omega), unfold', if_pos (by simp at h; omega)]
    omega
  · have h : (n % 2 == 1) = false := by assumption
    show n / 2 = _
    rw [unfold', if_neg (by simp at h; omega)]
    omega

end Go.Proofs.YtalmpmhnkilalaaGreatDoor.Q

namespace Go.Proofs.YtalmpmhnkilalaaGreatDoor.Q
open Go.RowKit
set_option linter.unusedVariables false

theorem info5 : (Tryz.prog.info? 5).map (fun i => (i.zero, i.size, i.bytes)) = some (some (.int .u8 0), 1, 1) := by kernel_rfl
theorem size5 : (Tryz.prog.info? 5).map (·.size) = some 1 := by kernel_rfl

theorem owns_splice {w : World} {g n m : Nat} {l : List Int} (hl : l.length = n) (hm : m ≤ maxLen) (hnm : n ≤ m)
    (h : w.heap[g]? = some (.cells (splice (List.replicate m (Value.int .u8 0)) 0 (cells8 l)).toArray 5 (0, 0))) :
    w.ownsRow g 5 1 (.slice (some ⟨g, 0, none⟩) n m) n (cells8 l) := by
  refine ⟨by rw [cells8_length, hl]; omega, .inr ⟨g, m, _, rfl, Nat.le_refl _, h, hnm, hm, ?_, ?_⟩⟩
  · rw [List.size_toArray, length_splice _ _ _ (by rw [cells8_length, hl]; simp; omega)]
    simp
  · simp only [splice, List.take_zero, List.nil_append, Nat.mul_one]
    rw [List.take_append_of_le_length (by rw [cells8_length, hl]; omega), List.take_of_length_le (by rw [cells8_length, hl]; omega)]

/-- What a copy asks of its source, where a cell goes over at all. -/
theorem copy_src {w w1 : World} {ad : Option Addr} {len : Nat} {l : List Int} (hs : Sl w ad len l) (hb : Below w.heap.size w w1) {dp d : Option Addr} (hd : dp = d) :
    0 < (cells8 l).length → dp = d ∧ ∃ x, ad = some x ∧ ∀ j v, (cells8 l)[j]? = some v → w1.cell? (x.add j) = some v := by
  intro hp
  rw [cells8_length, hs.len] at hp
  have hs2 := hs.later hb
  obtain ⟨b, off, rfl, _⟩ := hs.at hp
  exact ⟨hd, _, rfl, hs2.cells⟩

set_option maxHeartbeats 400000 in
theorem copyWithRoom_any (ad : Option Addr) (len cap room : Nat) (l : List Int) (w : World) (hs : Sl w ad len l) (hb : len + room ≤ 281474976710656) :
    Calls Tryz.prog 160 #[.slice ad len cap, .int .i64 room] w fun e w' => e = .returned (.slice (some ⟨w.heap.size, 0, none⟩) len (len + room)) ∧
      w'.ownsRow w.heap.size 5 1 (.slice (some ⟨w.heap.size, 0, none⟩) len (len + room)) len (cells8 l) ∧ Below w.heap.size w w' := by
  obtain ⟨i0, hi, hz0, hz1, hz2⟩ := info_parts info5
  have hlen := hs.len
  go_enter Tryz.func160, Tryz.ntmps160
  go_wp2_with (first
    | (at_make; refine wpList_make_room _ rfl _ _ 22 rfl 5 i0 (.int .u8 0) Tryz.underlying22 hi hz0 hz1 hz2 rfl _ _ _ _ len (len + room) rfl rfl (by omega) (by omega) (by omega) (by omega) ?_; intro w1 hr1 hs1 hb1)
    | (refine wpList_copy_splice rfl (.tmp 13) (.tmp 14) 22 22 rfl 5 Tryz.underlying22 size5 _ _ len (len + room) len cap rfl rfl w.heap.size 0 (List.replicate (len + room) (.int .u8 0)) 5 hr1 (cells8 l) (by rw [cells8_length, hlen]; simp) (copy_src hs hb1 rfl) (by rw [cells8_length, hlen]; simp) (cells8_one l) w.heap.size w hb1 (Nat.le_refl _) ?_))
  intro w2 hr2 hb2
  go_wp2
  go_ret
  exact ⟨rfl, owns_splice hlen (by unfold maxLen; omega) (by omega) hr2.out, hb2⟩

end Go.Proofs.YtalmpmhnkilalaaGreatDoor.Q

namespace Go.Proofs.YtalmpmhnkilalaaGreatDoor.Q
open Go.RowKit
set_option linter.unusedVariables false

theorem u64_goOn (x : Nat) (h : x ≤ 18446744073709551615) : bits .or .u64 (bits .and .u64 (x : Int) 127) 128 = ((x % 128 + 128 : Nat) : Int) := by
  have e1 : bits .and .u64 (x : Int) 127 = ((x &&& 127 : Nat) : Int) := u64_and_nat x 127 (by omega) (by decide)
  have e2 : x &&& 127 = x % 128 := Nat.and_two_pow_sub_one_eq_mod x 7
  have e3 : bits .or .u64 ((x % 128 : Nat) : Int) 128 = ((x % 128 ||| 128 : Nat) : Int) := u64_or_nat (x % 128) 128 (by omega) (by decide)
  have e4 : x % 128 ||| 128 = 128 + x % 128 := by rw [Nat.or_comm]; exact nat_join 7 128 _ (by decide) (by omega)
  rw [e1, e2, e3, e4, Nat.add_comm]

theorem enc_byte (n : Nat) (h : n < 18446744073709551616) : Byte (enc n) := by
  intro c hc
  rw [enc_pre, List.mem_append] at hc
  rcases hc with h1 | h1
  · have := pre_byte _ _ _ h1; omega
  · have := last_lt n h
    obtain ⟨q, hq⟩ : ∃ q, q = n / 128 ^ grp n := ⟨_, rfl⟩
    rw [← hq] at this h1
    simp at h1
    omega

set_option maxHeartbeats 1000000 in
theorem appendUint_any (B g n0 cap N : Nat) (l : List Int) (w : World) (hown : w.ownsRow B 5 1 (.slice (some ⟨g, 0, none⟩) n0 cap) n0 (cells8 l)) (hB : B ≤ w.heap.size)
    (h1 : N ≤ 18446744073709551615) (hroom : n0 + grp N + 1 ≤ cap) :
    Calls Tryz.prog 159 #[.slice (some ⟨g, 0, none⟩) n0 cap, .int .u64 N] w fun e w' => e = .returned (.slice (some ⟨g, 0, none⟩) (n0 + grp N + 1) cap) ∧
      w'.ownsRow B 5 1 (.slice (some ⟨g, 0, none⟩) (n0 + grp N + 1) cap) (n0 + grp N + 1) (cells8 (l ++ enc N)) ∧ Below B w w' := by
  obtain ⟨i0, hi, hz0, hz1, hz2⟩ := info_parts info5
  have hg := grp_le N
  obtain ⟨G, hG⟩ : ∃ G, G = grp N := ⟨_, rfl⟩
  rw [← hG] at hg hroom ⊢
  have hgB : B ≤ g := (hown.lt g rfl).1
  go_enter Tryz.func159, Tryz.ntmps159
  go_wp2_with fail
  refine (uintSize_any _ _ (by omega) (by omega)).mono ?_
  rintro e w' ⟨rfl, rfl⟩
  rw [Int.toNat_natCast, ← hG]
  have HG : Hid (G = grp N) := hG
  clear hG
  go_wp2_with fail
  go_loopw [0, 1, 8] (fun v x i wr => ∃ k : Nat, k ≤ G ∧ i = .int .i64 k ∧ x = .int .u64 ((N / 128 ^ k : Nat) : Int) ∧ v = .slice (some ⟨g, 0, none⟩) (n0 + k) cap ∧
      wr.ownsRow B 5 1 (.slice (some ⟨g, 0, none⟩) (n0 + k) cap) (n0 + k) (cells8 (l ++ pre k N)) ∧ Below B w' wr) (fun _ _ i _ => G - (intOf i).toNat)
  case atStart => exact ⟨0, Nat.zero_le _, rfl, by simp, rfl, by simpa [pre] using hown, Below.refl _ _⟩
  case round =>
    obtain ⟨k, hk, rfl, rfl, rfl, hownr, hbr⟩ := hrel
    have hq : N / 128 ^ k ≤ 18446744073709551615 := Nat.le_trans (Nat.div_le_self _ _) h1
    have hbyte := u64_goOn (N / 128 ^ k) hq
    have hpre : pre (k + 1) N = pre k N ++ [((N / 128 ^ k % 128 + 128 : Nat) : Int)] := rfl
    have hnext : N / 128 ^ k / 128 = N / 128 ^ (k + 1) := by rw [Nat.div_div_eq_div_mul, Nat.pow_succ]
    have HP : Hid (pre (k + 1) N = pre k N ++ [((N / 128 ^ k % 128 + 128 : Nat) : Int)]) := hpre
    have HN : Hid (N / 128 ^ k / 128 = N / 128 ^ (k + 1)) := hnext
    clear hpre hnext
    generalize hx : N / 128 ^ k = x at *
    have HX : Hid (N / 128 ^ k = x) := hx
    clear hx
    by_cases hlt : k < G
    · go_wp2_with (first
        | (at_builtin; refine wpList_append_fits _ rfl _ _ 22 rfl B 5 i0 1 Tryz.underlying22 hi hz1 g (n0 + k) cap _ rfl (hownr.alloc _) ⟨wr.heap.size, 0, none⟩ 1 1 [.int .u8 ((x % 128 + 128 : Nat) : Int)] rfl rfl (cell_one_new _ _ _) (by simp [Value.oneCell']) (by omega) ?_; intro w2 hown2 hgrow2))
      go_roundw
      case rel =>
        refine ⟨k + 1, by omega, by go_num, ?_, rfl, ?_, ?_⟩
        · rw [← HN.out]; go_num
        · rw [HP.out, ← List.append_assoc, cells8_append]; exact hown2
        · exact (hbr.alloc (by have := hbr.size; omega) _).grown hgrow2 (by have := hbr.size; simp; omega) (by intro j hj; cases hj; exact hgB)
      case measure => simp [intOf]; omega
    · obtain rfl : k = G := by omega
      have hlast : x < 128 := by
        have := last_lt N (by omega)
        rw [← HG.out, HX.out] at this
        exact this
      have henc : enc N = pre k N ++ [(x : Int)] := by
        rw [enc_pre, ← HG.out, HX.out]
      have HE : Hid (enc N = pre k N ++ [(x : Int)]) := henc
      clear henc hbyte
      go_wp2_with (first
        | (at_builtin; refine wpList_append_fits _ rfl _ _ 22 rfl B 5 i0 1 Tryz.underlying22 hi hz1 g (n0 + k) cap _ rfl (hownr.alloc _) ⟨wr.heap.size, 0, none⟩ 1 1 [.int .u8 (x : Int)] rfl rfl (cell_one_new _ _ _) (by simp [Value.oneCell']) (by omega) ?_; intro w2 hown2 hgrow2))
      go_ret
      refine ⟨rfl, ?_, ?_⟩
      · rw [HE.out, ← List.append_assoc, cells8_append]; exact hown2
      · exact (hbr.alloc (by have := hbr.size; omega) _).grown hgrow2 (by have := hbr.size; simp; omega) (by intro j hj; cases hj; exact hgB)

end Go.Proofs.YtalmpmhnkilalaaGreatDoor.Q

namespace Go.Proofs.YtalmpmhnkilalaaGreatDoor.Q
open Go.RowKit
set_option linter.unusedVariables false

set_option maxHeartbeats 400000 in
theorem putUint_any (ad : Option Addr) (len cap N : Nat) (l : List Int) (w : World) (hs : Sl w ad len l) (hb : len ≤ 140737488355328) (h1 : N ≤ 18446744073709551615) :
    Calls Tryz.prog 129 #[.slice ad len cap, .int .u64 N] w fun e w' => e = .returned (.slice (some ⟨w.heap.size, 0, none⟩) (len + grp N + 1) (len + (grp N + 1))) ∧
      w'.ownsRow w.heap.size 5 1 (.slice (some ⟨w.heap.size, 0, none⟩) (len + grp N + 1) (len + (grp N + 1))) (len + grp N + 1) (cells8 (l ++ enc N)) ∧ Below w.heap.size w w' := by
  have hg := grp_le N
  go_enter Tryz.func129, Tryz.ntmps129
  go_wp2_with fail
  refine (uintSize_any _ _ (by omega) (by omega)).mono ?_
  rintro e w' ⟨rfl, rfl⟩
  rw [Int.toNat_natCast]
  go_wp2_with fail
  rw [show ((grp N : Int) + 1) = ((grp N + 1 : Nat) : Int) by omega]
  refine (copyWithRoom_any ad len cap (grp N + 1) l _ hs (by omega)).mono ?_
  rintro e w1 ⟨rfl, hown, hbel⟩
  go_wp2_with fail
  refine (appendUint_any w'.heap.size _ len _ N l _ hown hbel.size h1 (by omega)).mono ?_
  rintro e w2 ⟨rfl, hown2, hbel2⟩
  go_wp2
  go_ret
  exact ⟨rfl, hown2, hbel.trans hbel2⟩

theorem fold_le (m : Int) (h0 : -9223372036854775808 ≤ m) (h1 : m ≤ 9223372036854775807) : fold m ≤ 18446744073709551615 := by
  unfold fold
  split <;> omega

set_option maxHeartbeats 400000 in
theorem putInt_any (ad : Option Addr) (len cap : Nat) (m : Int) (l : List Int) (w : World) (hs : Sl w ad len l) (hb : len ≤ 140737488355328) (h0 : -9223372036854775808 ≤ m) (h1 : m ≤ 9223372036854775807) :
    Calls Tryz.prog 157 #[.slice ad len cap, .int .i64 m] w fun e w' => e = .returned (.slice (some ⟨w.heap.size, 0, none⟩) (len + grp (fold m) + 1) (len + (grp (fold m) + 1))) ∧
      w'.ownsRow w.heap.size 5 1 (.slice (some ⟨w.heap.size, 0, none⟩) (len + grp (fold m) + 1) (len + (grp (fold m) + 1))) (len + grp (fold m) + 1) (cells8 (l ++ enc (fold m))) ∧ Below w.heap.size w w' := by
  have hf := fold_le m h0 h1
  go_enter Tryz.func157, Tryz.ntmps157
  go_wp2_with fail
  refine (foldSign_any _ _ h0 h1).mono ?_
  rintro e w' ⟨rfl, rfl⟩
  go_wp2_with fail
  refine (putUint_any ad len cap (fold m) l _ hs hb hf).mono ?_
  rintro e w1 ⟨rfl, hown, hbel⟩
  go_wp2
  go_ret
  exact ⟨rfl, hown, hbel⟩

set_option maxHeartbeats 400000 in
theorem putBytes_any (ad : Option Addr) (len cap : Nat) (l : List Int) (ae : Option Addr) (len2 cap2 : Nat) (s : List Int) (w : World) (hs : Sl w ad len l) (hs2 : Sl w ae len2 s) (hn2 : ae = none → len2 = 0 ∧ cap2 = 0)
    (hb : len + len2 ≤ 140737488355328) :
    Calls Tryz.prog 178 #[.slice ad len cap, .slice ae len2 cap2] w fun e w' => e = .returned (.slice (some ⟨w.heap.size, 0, none⟩) (len + grp len2 + 1 + len2) (len + (grp len2 + 1 + len2))) ∧
      w'.ownsRow w.heap.size 5 1 (.slice (some ⟨w.heap.size, 0, none⟩) (len + grp len2 + 1 + len2) (len + (grp len2 + 1 + len2))) (len + grp len2 + 1 + len2) (cells8 (l ++ enc len2 ++ s)) ∧ Below w.heap.size w w' := by
  obtain ⟨i0, hi, hz0, hz1, hz2⟩ := info_parts info5
  have hg := grp_le len2
  go_enter Tryz.func178, Tryz.ntmps178
  go_wp2_with fail
  refine (uintSize_any _ _ (by omega) (by omega)).mono ?_
  rintro e w' ⟨rfl, rfl⟩
  rw [Int.toNat_natCast]
  go_wp2_with fail
  rw [show ((grp len2 : Int) + 1 + (len2 : Int)) = ((grp len2 + 1 + len2 : Nat) : Int) by omega]
  refine (copyWithRoom_any ad len cap (grp len2 + 1 + len2) l _ hs (by omega)).mono ?_
  rintro e w1 ⟨rfl, hown, hbel⟩
  go_wp2_with fail
  refine (appendUint_any w'.heap.size _ len _ len2 l _ hown hbel.size (by omega) (by omega)).mono ?_
  rintro e w2 ⟨rfl, hown2, hbel2⟩
  have hs3 := hs2.later (hbel.trans hbel2)
  have hle := hs2.len
  go_wp2_with (first
    | (at_builtin; refine wpList_append_fits_any _ rfl _ _ 22 rfl w'.heap.size 5 i0 1 Tryz.underlying22 hi hz1 _ (len + grp len2 + 1) _ _ rfl hown2 ae len2 cap2 (cells8 s) rfl (by rw [cells8_length, hle]; omega) hn2 (by intro x hx; subst hx; exact hs3.cells) (cells8_one s) (by omega) ?_; intro w3 hown3 hgrow3))
  go_ret
  refine ⟨rfl, ?_, ?_⟩
  · rw [cells8_append]; exact hown3
  · exact (hbel.trans hbel2).grown hgrow3 (hbel.trans hbel2).size (by intro j hj; cases hj; exact Nat.le_refl _)

end Go.Proofs.YtalmpmhnkilalaaGreatDoor.Q
