/-
  Frames, as lists of bytes. Nothing of the program.
-/
import Derived.Test.YtiaopgphjailiaaCrcT
namespace Go.Proofs.Ytiaopgphjailiaa
open Go.RowKit
set_option linter.unusedVariables false

/-- A number as four bytes. -/
def w4 (n : Nat) : List Int := [((n % 256 : Nat) : Int), ((n / 256 % 256 : Nat) : Int), ((n / 65536 % 256 : Nat) : Int), ((n / 16777216 % 256 : Nat) : Int)]
theorem w4_length (n : Nat) : (w4 n).length = 4 := rfl
theorem w4_byte (n : Nat) : Byte (w4 n) := by
  intro z hz
  simp only [w4, List.mem_cons, List.not_mem_nil, or_false] at hz
  omega
/-- The number that four bytes are. -/
def num4 (l : List Int) : Nat := (l.getD 0 0).toNat + 256 * (l.getD 1 0).toNat + 65536 * (l.getD 2 0).toNat + 16777216 * (l.getD 3 0).toNat
theorem num4_lt (l : List Int) (hb : Byte l) : num4 l < 4294967296 := by
  have h0 := hb.at 0
  have h1 := hb.at 1
  have h2 := hb.at 2
  have h3 := hb.at 3
  unfold num4
  omega
theorem num4_w4 (n : Nat) (h : n < 4294967296) (l : List Int) : num4 (w4 n ++ l) = n := by
  simp only [num4, w4, List.cons_append, List.getD_cons_zero, List.getD_cons_succ, Int.toNat_natCast]
  omega
/-- What the sum is taken of. -/
def head (k : Int) (d : List Int) : List Int := k :: (w4 d.length ++ d)
theorem head_length (k : Int) (d : List Int) : (head k d).length = d.length + 5 := by simp [head, w4_length]; omega
theorem crc_lt (l : List Int) : crc l < 4294967296 := by unfold crc; omega
def made (k : Int) (d : List Int) : List Int := head k d ++ w4 (crc (head k d))
theorem made_length (k : Int) (d : List Int) : (made k d).length = d.length + 9 := by simp [made, head_length, w4_length]
theorem head_byte {k : Int} {d : List Int} (hk : 0 ≤ k ∧ k ≤ 255) (hd : Byte d) : Byte (head k d) := by
  intro z hz
  rcases List.mem_cons.1 hz with rfl | hz
  · exact hk
  · exact (w4_byte _).append hd z hz
theorem made_byte {k : Int} {d : List Int} (hk : 0 ≤ k ∧ k ≤ 255) (hd : Byte d) : Byte (made k d) := (head_byte hk hd).append (w4_byte _)

/-- The frame with which bytes begin: its kind, its data, its length; noughts where there is none. -/
def gett (l : List Int) : Int × List Int × Nat :=
  if l.length < 9 then (0, [], 0) else
  if 4194304 < num4 (l.drop 1) ∨ l.length < num4 (l.drop 1) + 9 then (0, [], 0) else
  if num4 (l.drop (5 + num4 (l.drop 1))) = crc (l.take (5 + num4 (l.drop 1))) then (l.getD 0 0, (l.drop 5).take (num4 (l.drop 1)), num4 (l.drop 1) + 9) else (0, [], 0)
def sizeN (n : Int) : Int := if n < 0 then 0 else if 4194304 < n then 0 else n + 9

theorem gett_short {l : List Int} (h : l.length < 9) : gett l = (0, [], 0) := by unfold gett; rw [if_pos h]
theorem gett_none {l : List Int} {n : Nat} (hn : num4 (l.drop 1) = n) (h : 4194304 < n ∨ l.length < n + 9) : gett l = (0, [], 0) := by
  unfold gett
  rw [hn]
  by_cases h9 : l.length < 9
  · rw [if_pos h9]
  · rw [if_neg h9, if_pos h]
theorem gett_bad {l : List Int} {n : Nat} (hn : num4 (l.drop 1) = n) (h : num4 (l.drop (5 + n)) ≠ crc (l.take (5 + n))) : gett l = (0, [], 0) := by
  unfold gett
  rw [hn]
  by_cases h9 : l.length < 9
  · rw [if_pos h9]
  · rw [if_neg h9]
    by_cases h2 : 4194304 < n ∨ l.length < n + 9
    · rw [if_pos h2]
    · rw [if_neg h2, if_neg h]
theorem gett_some {l : List Int} {n : Nat} (hn : num4 (l.drop 1) = n) (h1 : n ≤ 4194304) (h2 : n + 9 ≤ l.length) (h : num4 (l.drop (5 + n)) = crc (l.take (5 + n))) : gett l = (l.getD 0 0, (l.drop 5).take n, n + 9) := by
  unfold gett
  rw [hn, if_neg (by omega), if_neg (by omega), if_pos h]
theorem gett_n (l : List Int) : (gett l).2.2 = 0 ∨ ((gett l).2.2 = (gett l).2.1.length + 9 ∧ (gett l).2.2 ≤ l.length ∧ (gett l).2.1.length ≤ 4194304) := by
  unfold gett
  split
  · exact .inl rfl
  · split
    · exact .inl rfl
    · split
      · refine .inr ?_
        simp only [List.length_take, List.length_drop]
        omega
      · exact .inl rfl
theorem gett_byte {l : List Int} (h : Byte l) : Byte (gett l).2.1 := by
  unfold gett
  split
  · exact fun z hz => absurd hz (by simp)
  · split
    · exact fun z hz => absurd hz (by simp)
    · split
      · exact (h.drop 5).take _
      · exact fun z hz => absurd hz (by simp)
theorem gett_k {l : List Int} (h : Byte l) : 0 ≤ (gett l).1 ∧ (gett l).1 ≤ 255 := by
  unfold gett
  split
  · decide
  · split
    · decide
    · split
      · exact h.at 0
      · decide

end Go.Proofs.Ytiaopgphjailiaa
