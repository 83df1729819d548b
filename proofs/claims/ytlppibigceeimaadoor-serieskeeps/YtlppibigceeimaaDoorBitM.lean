/-
  Bits of bytes, as lists of truths. Nothing of the program.
-/
import Derived.Test.YtlppibigceeimaaDoorRow
import Derived.Laws.BitsAllLaws
namespace Go.Proofs.YtlppibigceeimaaDoor
open Go.RowKit
set_option linter.unusedVariables false

/-- Bit i of bytes, the highest of the first byte first. -/
def bt (R : List Int) (i : Nat) : Bool := (R.getD (i / 8) 0).toNat.testBit (7 - i % 8)
/-- The low k bits of v, the highest first. -/
def low (v k : Nat) : List Bool := (List.range k).map (fun i => v.testBit (k - 1 - i))
/-- The bytes hold the row, and noughts behind it. -/
def Rep (R : List Int) (L : List Bool) : Prop := ∀ i, bt R i = L.getD i false

theorem low_len (v k : Nat) : (low v k).length = k := by simp [low]
theorem low_at (v k i : Nat) : (low v k).getD i false = (decide (i < k) && v.testBit (k - 1 - i)) := by
  by_cases h : i < k
  · simp [low, List.getD, h]
  · simp [low, List.getD, h]
theorem bt_beyond (R : List Int) (i : Nat) (h : 8 * R.length ≤ i) : bt R i = false := by
  unfold bt
  rw [List.getD_eq_getElem?_getD, List.getElem?_eq_none (by omega)]
  simp
theorem Rep.nil : Rep [] [] := fun i => by simp [bt]
theorem getD_append (L M : List Bool) (i : Nat) : (L ++ M).getD i false = if i < L.length then L.getD i false else M.getD (i - L.length) false := by
  split
  · next h => simp [List.getD, List.getElem?_append_left h]
  · next h => simp [List.getD, List.getElem?_append_right (Nat.le_of_not_lt h)]

theorem list_ext {L M : List Bool} (hl : L.length = M.length) (h : ∀ i, i < L.length → L.getD i false = M.getD i false) : L = M := by
  refine List.ext_getElem hl (fun i h1 h2 => ?_)
  have := h i h1
  simpa [List.getD, h1, h2] using this

theorem low_cut (v k t : Nat) (h : t ≤ k) : low v k = (low v k).take t ++ low v (k - t) := by
  refine list_ext (by simp [low_len]; omega) (fun i hi => ?_)
  rw [getD_append, low_at, low_at]
  rw [low_len] at hi
  have hm : ((low v k).take t).length = t := by simp [low_len]; omega
  rw [hm]
  by_cases h2 : i < t
  · rw [if_pos h2]
    have e : ((low v k).take t).getD i false = (low v k).getD i false := by simp [List.getD, h2]
    rw [e, low_at]
  · rw [if_neg h2]
    have a1 : decide (i < k) = true := by simpa using hi
    have a2 : decide (i - t < k - t) = true := by simp; omega
    rw [a1, a2, show k - t - 1 - (i - t) = k - 1 - i by omega]
theorem low_take_at (v k t i : Nat) (h : t ≤ k) : ((low v k).take t).getD i false = (decide (i < t) && v.testBit (k - 1 - i)) := by
  by_cases h2 : i < t
  · have e : ((low v k).take t).getD i false = (low v k).getD i false := by simp [List.getD, h2]
    rw [e, low_at]
    have a1 : decide (i < k) = true := by simp; omega
    rw [a1]
    simp [h2]
  · rw [List.getD_eq_getElem?_getD, List.getElem?_eq_none (by simp; omega)]
    simp [h2]

theorem byte_bits {x : Nat} (h : x < 256) (j : Nat) (hj : 8 ≤ j) : x.testBit j = false :=
  Nat.testBit_lt_two_pow (Nat.lt_of_lt_of_le h (by
    have : 2 ^ 8 ≤ 2 ^ j := Nat.pow_le_pow_right (by omega) hj
    omega))

theorem bt_set (R : List Int) (q : Nat) (x : Int) (hq : q < R.length) (i : Nat) : bt (R.set q x) i = if i / 8 = q then x.toNat.testBit (7 - i % 8) else bt R i := by
  unfold bt
  by_cases h : i / 8 = q
  · rw [if_pos h, h]
    simp [List.getD, hq]
  · rw [if_neg h]
    simp [List.getD, List.getElem?_set_ne (Ne.symm h)]

/-- A piece is put into a byte. -/
theorem put_piece {R : List Int} {L : List Bool} (h : Rep R L) (s free take left v x : Nat) (hs : L.length = s) (hq : s / 8 < R.length) (hf : free = 8 - s % 8) (ht : take ≤ free) (htl : take ≤ left)
    (hx : x = (R.getD (s / 8) 0).toNat ||| (((v / 2 ^ (left - take)) % 2 ^ take) * 2 ^ (free - take))) :
    Rep (R.set (s / 8) (x : Int)) (L ++ (low v left).take take) := by
  intro i
  rw [bt_set R _ _ hq, getD_append, hs]
  by_cases hi : i / 8 = s / 8
  · rw [if_pos hi, Int.toNat_natCast, hx, Nat.testBit_or, Nat.testBit_mul_two_pow, Nat.testBit_mod_two_pow, Nat.testBit_div_two_pow]
    have hb : (R.getD (s / 8) 0).toNat.testBit (7 - i % 8) = L.getD i false := by
      have := h i
      unfold bt at this
      rw [hi] at this
      exact this
    rw [hb]
    by_cases h1 : i < s
    · rw [if_pos h1]
      have a : decide (7 - i % 8 - (free - take) < take) = false := by simp; omega
      simp [a]
    · rw [if_neg h1, low_take_at _ _ _ _ htl]
      have e0 : L.getD i false = false := by simp [List.getD, show L.length ≤ i by omega]
      rw [e0, Bool.false_or]
      by_cases h2 : i - s < take
      · have a : decide (7 - i % 8 - (free - take) < take) = true := by simp; omega
        have b : decide (free - take ≤ 7 - i % 8) = true := by simp; omega
        have c : decide (i - s < take) = true := by simp; omega
        rw [a, b, c, Bool.true_and, Bool.true_and, Bool.true_and]
        congr 1
        omega
      · have c : decide (i - s < take) = false := by simp; omega
        have b : decide (free - take ≤ 7 - i % 8) = false := by simp; omega
        rw [b, c, Bool.false_and, Bool.false_and]
  · rw [if_neg hi, h i]
    by_cases h1 : i < s
    · rw [if_pos h1]
    · rw [if_neg h1, low_take_at _ _ _ _ htl]
      have e0 : L.getD i false = false := by simp [List.getD, show L.length ≤ i by omega]
      have c : decide (i - s < take) = false := by simp; omega
      rw [e0, c, Bool.false_and]
theorem piece_lt (y v k free take : Nat) (hy : y < 256) (hf : free ≤ 8) (ht : take ≤ free) : y ||| ((v / 2 ^ k % 2 ^ take) * 2 ^ (free - take)) < 256 := by
  have h1 : (v / 2 ^ k % 2 ^ take) * 2 ^ (free - take) < 2 ^ 8 := by
    have a : v / 2 ^ k % 2 ^ take < 2 ^ take := Nat.mod_lt _ (Nat.two_pow_pos _)
    have b : (v / 2 ^ k % 2 ^ take) * 2 ^ (free - take) < 2 ^ take * 2 ^ (free - take) := Nat.mul_lt_mul_of_pos_right a (Nat.two_pow_pos _)
    rw [← Nat.pow_add] at b
    exact Nat.lt_of_lt_of_le b (Nat.pow_le_pow_right (by omega) (by omega))
  exact Nat.or_lt_two_pow (n := 8) hy h1

/-- Noughts behind: a cut. -/
theorem Rep.pad {R : List Int} {L : List Bool} (h : Rep R L) (k : Nat) : Rep (R ++ List.replicate k 0) L := by
  intro i
  rw [← h i]
  unfold bt
  by_cases h1 : i / 8 < R.length
  · simp [List.getD, List.getElem?_append_left h1]
  · have e : (R ++ List.replicate k 0).getD (i / 8) 0 = 0 := by
      rw [List.getD_eq_getElem?_getD, List.getElem?_append_right (by omega), List.getElem?_replicate]
      split <;> rfl
    rw [e, List.getD_eq_getElem?_getD, List.getElem?_eq_none (by omega)]
    rfl
/-- Only the bytes of the row. -/
theorem Rep.take {R : List Int} {L : List Bool} (h : Rep R L) (k : Nat) (hk : L.length ≤ 8 * k) : Rep (R.take k) L := by
  intro i
  by_cases h1 : i / 8 < k
  · rw [← h i]
    unfold bt
    simp [List.getD, h1]
  · have e0 : L.getD i false = false := by simp [List.getD, show L.length ≤ i by omega]
    rw [e0]
    unfold bt
    rw [List.getD_eq_getElem?_getD, List.getElem?_eq_none (by simp; omega)]
    simp
/-- Bytes of one length that hold one row are the same. -/
theorem Rep.unique {R S : List Int} {L : List Bool} (h : Rep R L) (k : Rep S L) (hl : R.length = S.length) (hR : Byte R) (hS : Byte S) : R = S := by
  refine List.ext_getElem hl (fun q h1 h2 => ?_)
  have a := hR _ (List.getElem_mem h1)
  have b := hS _ (List.getElem_mem h2)
  have : R[q].toNat = S[q].toNat := by
    apply Nat.eq_of_testBit_eq
    intro j
    by_cases hj : j < 8
    · have := (h (8 * q + (7 - j))).trans (k (8 * q + (7 - j))).symm
      unfold bt at this
      rw [show (8 * q + (7 - j)) / 8 = q by omega, show 7 - (8 * q + (7 - j)) % 8 = j by omega] at this
      simpa [List.getD, h1, h2] using this
    · rw [byte_bits (by omega) j (by omega), byte_bits (by omega) j (by omega)]
  omega

/-- Bytes cleared from c on to e, and the last byte's lower bits. -/
theorem cut_rep {R R' : List Int} {L : List Bool} (h : Rep R L) (n : Nat) (hn : n < L.length) (hlen : L.length ≤ 8 * R.length) (hl : R'.length = R.length)
    (hc : ∀ q, q < R.length → R'.getD q 0 = if n % 8 ≠ 0 ∧ q = n / 8 then (((R.getD q 0).toNat &&& (255 - (2 ^ (8 - n % 8) - 1)) : Nat) : Int) else if (n + 7) / 8 ≤ q ∧ q < (L.length + 7) / 8 then 0 else R.getD q 0) :
    Rep R' (L.take n) := by
  intro i
  have et : (L.take n).getD i false = (decide (i < n) && L.getD i false) := by
    by_cases h1 : i < n
    · simp [List.getD, h1]
    · rw [List.getD_eq_getElem?_getD, List.getElem?_eq_none (by simp; omega)]
      simp [h1]
  rw [et]
  by_cases hq : i / 8 < R.length
  · have hi := h i
    unfold bt at hi ⊢
    rw [hc _ hq]
    split
    · next h1 =>
      rw [Int.toNat_natCast, Nat.testBit_and, hi]
      by_cases h2 : i < n
      · have m : (255 - (2 ^ (8 - n % 8) - 1)).testBit (7 - i % 8) = true := by
          have hr : n % 8 < 8 := Nat.mod_lt _ (by omega)
          have hlt : i % 8 < n % 8 := by omega
          generalize n % 8 = r at *
          generalize i % 8 = t at *
          have : ∀ r, r < 8 → ∀ t, t < r → (255 - (2 ^ (8 - r) - 1)).testBit (7 - t) = true := by decide
          exact this r hr t hlt
        simp [m, h2]
      · have m : (255 - (2 ^ (8 - n % 8) - 1)).testBit (7 - i % 8) = false := by
          have hr : n % 8 < 8 := Nat.mod_lt _ (by omega)
          have hlt : n % 8 ≤ i % 8 := by omega
          have h8 : i % 8 < 8 := Nat.mod_lt _ (by omega)
          have h0 : 0 < n % 8 := by omega
          generalize n % 8 = r at *
          generalize i % 8 = t at *
          have : ∀ r, r < 8 → ∀ t, t < 8 → 0 < r → r ≤ t → (255 - (2 ^ (8 - r) - 1)).testBit (7 - t) = false := by decide
          exact this r hr t h8 h0 hlt
        simp [m, h2]
    · next h1 =>
      split
      · next h2 =>
        have : ¬ i < n := by omega
        simp [this]
      · next h2 =>
        rw [hi]
        by_cases h3 : i < n
        · simp [h3]
        · have e0 : L.getD i false = false := by
            have : L.length ≤ i := by
              by_cases h4 : n % 8 = 0
              · omega
              · have : i / 8 ≠ n / 8 := fun e => h1 ⟨h4, e⟩
                omega
            simp [List.getD, this]
          rw [e0, Bool.and_false]
  · rw [bt_beyond _ _ (by omega)]
    have : ¬ i < n := by omega
    simp [this]

/-- Behind a number that was got, the next piece. -/
def Nm (V n : Nat) (f : Nat → Bool) : Prop := ∀ j, V.testBit j = (decide (j < n) && f (n - 1 - j))
theorem Nm.zero (f : Nat → Bool) : Nm 0 0 f := fun j => by simp
theorem Nm.unique {V U n : Nat} {f : Nat → Bool} (h : Nm V n f) (k : Nm U n f) : V = U := Nat.eq_of_testBit_eq (fun j => (h j).trans (k j).symm)
theorem Nm.lt {V n : Nat} {f : Nat → Bool} (h : Nm V n f) : V < 2 ^ n := by
  apply Nat.lt_pow_two_of_testBit
  intro j hj
  rw [h j]
  have : ¬ j < n := by omega
  simp [this]

end Go.Proofs.YtlppibigceeimaaDoor
