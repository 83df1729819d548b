/-
  Frames put, cut off, turned. Nothing of the program.
-/
import Derived.Test.YtiaopgphjailiaaFrI
namespace Go.Proofs.Ytiaopgphjailiaa
open Go.RowKit
set_option linter.unusedVariables false

theorem num4_take (l : List Int) (m : Nat) (h : 4 ≤ m) : num4 (l.take m) = num4 l := by
  unfold num4
  simp only [List.getD, List.getElem?_take]
  rw [if_pos (by omega), if_pos (by omega), if_pos (by omega), if_pos (by omega)]
theorem made_n (k : Int) (d x : List Int) (h : d.length ≤ 4194304) : num4 ((made k d ++ x).drop 1) = d.length := by
  have e : (made k d ++ x).drop 1 = w4 d.length ++ (d ++ w4 (crc (head k d)) ++ x) := by simp [made, head]
  rw [e, num4_w4 _ (by omega)]
theorem made_head (k : Int) (d x : List Int) : (made k d ++ x).take (5 + d.length) = head k d := by
  have e : made k d ++ x = head k d ++ (w4 (crc (head k d)) ++ x) := by simp [made]
  rw [e, List.take_append_of_le_length (by rw [head_length]; omega), List.take_of_length_le (by rw [head_length]; omega)]
theorem made_tail (k : Int) (d x : List Int) : (made k d ++ x).drop (5 + d.length) = w4 (crc (head k d)) ++ x := by
  have e : made k d ++ x = head k d ++ (w4 (crc (head k d)) ++ x) := by simp [made]
  rw [e, show 5 + d.length = (head k d).length by rw [head_length]; omega, List.drop_left]
theorem made_data (k : Int) (d x : List Int) : ((made k d ++ x).drop 5).take d.length = d := by
  have e : (made k d ++ x).drop 5 = d ++ (w4 (crc (head k d)) ++ x) := by simp [made, head, w4]
  rw [e, List.take_left]
theorem made_kind (k : Int) (d x : List Int) : (made k d ++ x).getD 0 0 = k := by simp [made, head]
theorem gett_made (k : Int) (d x : List Int) (h : d.length ≤ 4194304) : gett (made k d ++ x) = (k, d, d.length + 9) := by
  rw [gett_some (made_n k d x h) h (by rw [List.length_append, made_length]; omega) (by rw [made_tail, made_head, num4_w4 _ (crc_lt _)]), made_kind, made_data]
theorem gett_cut (k : Int) (d : List Int) (h : d.length ≤ 4194304) (m : Nat) (hm : m < d.length + 9) : gett ((made k d).take m) = (0, [], 0) := by
  by_cases h9 : m < 9
  · exact gett_short (by rw [List.length_take]; omega)
  · refine gett_none (n := d.length) ?_ (.inr ?_)
    · have := made_n k d [] h
      rw [List.append_nil] at this
      rw [List.drop_take, num4_take _ _ (by omega), this]
    · rw [List.length_take]
      omega
theorem gett_inv {l : List Int} {n : Nat} (h : (gett l).2.2 = n + 9) : num4 (l.drop 1) = n ∧ num4 (l.drop (5 + n)) = crc (l.take (5 + n)) := by
  unfold gett at h
  split at h
  · cases h
  · split at h
    · cases h
    · split at h
      · rename_i e
        have e2 : num4 (l.drop 1) = n := by simpa using h
        rw [e2] at e
        exact ⟨e2, e⟩
      · cases h
theorem xor_ne (x B : Nat) (h : B ≠ 0) : x ^^^ B ≠ x := by
  intro e
  apply h
  have h1 : (x ^^^ B) ^^^ x = x ^^^ x := by rw [e]
  rw [Nat.xor_self, Nat.xor_comm x B, Nat.xor_assoc, Nat.xor_self, Nat.xor_zero] at h1
  exact h1
theorem xor_lt256 (x B : Nat) (hx : x < 256) (hB : B < 256) : x ^^^ B < 256 := Nat.xor_lt_two_pow (n := 8) hx hB
theorem num_set : ∀ (l : List Int) (k B : Nat), k < l.length → B < 256 → Byte l → num (l.set k (((l.getD k 0).toNat ^^^ B : Nat) : Int)) = num l ^^^ (2 ^ (8 * k) * B)
  | [], k, B, hk, _, _ => absurd hk (by simp)
  | c :: l, 0, B, hk, hB, hb => by
    have hc := hb c (by simp)
    have h1 : (c.toNat ^^^ B) < 256 := xor_lt256 _ _ (by omega) hB
    simp only [List.set_cons_zero, num, List.getD_cons_zero, Int.toNat_natCast, Nat.mul_zero, Nat.pow_zero, Nat.one_mul]
    rw [join256 _ _ h1, join256 _ _ (by omega), Nat.xor_assoc, Nat.xor_comm B, ← Nat.xor_assoc]
  | c :: l, k + 1, B, hk, hB, hb => by
    have hc := hb c (by simp)
    have ih := num_set l k B (by simpa using hk) hB (fun z hz => hb z (by simp [hz]))
    simp only [List.set_cons_succ, num, List.getD_cons_succ]
    rw [ih, join256 _ _ (by omega), join256 _ _ (by omega), mul256, ← Nat.xor_assoc]
    congr 1
    rw [← Nat.mul_assoc, show 8 * (k + 1) = 8 + 8 * k by omega, Nat.pow_add]
theorem set_byte (l : List Int) (k B : Nat) (hB : B < 256) (hb : Byte l) : Byte (l.set k (((l.getD k 0).toNat ^^^ B : Nat) : Int)) := by
  intro z hz
  rcases List.mem_or_eq_of_mem_set hz with h | h
  · exact hb z h
  · have := hb.at k
    have := xor_lt256 (l.getD k 0).toNat B (by omega) hB
    omega
theorem crc_set (l : List Int) (k B : Nat) (hk : k < l.length) (hB : B < 256) (h0 : B ≠ 0) (hb : Byte l) : crc (l.set k (((l.getD k 0).toNat ^^^ B : Nat) : Int)) ≠ crc l :=
  crc_turned l _ (8 * k) B hb (set_byte l k B hB hb) (by simp) (by omega) (by omega) h0 (num_set l k B hk hB hb)
theorem w4_turned (n j B : Nat) (hn : n < 4294967296) (hj : j < 4) (h0 : B ≠ 0) : num4 ((w4 n).set j ((((w4 n).getD j 0).toNat ^^^ B : Nat) : Int)) ≠ n := by
  have hx := fun x => xor_ne x B h0
  rcases (show j = 0 ∨ j = 1 ∨ j = 2 ∨ j = 3 by omega) with rfl | rfl | rfl | rfl <;> simp only [w4, List.set_cons_zero, List.set_cons_succ, num4, List.getD_cons_zero, List.getD_cons_succ, Int.toNat_natCast]
  · have := hx (n % 256); omega
  · have := hx (n / 256 % 256); omega
  · have := hx (n / 65536 % 256); omega
  · have := hx (n / 16777216 % 256); omega
/-- A frame of which a byte is turned is none of that length. -/
theorem gett_turned (k : Int) (d : List Int) (hk : 0 ≤ k ∧ k ≤ 255) (hd : Byte d) (h : d.length ≤ 4194304) (j B : Nat) (hj : j < d.length + 9) (hB : B < 256) (h0 : B ≠ 0) :
    (gett ((made k d).set j ((((made k d).getD j 0).toNat ^^^ B : Nat) : Int))).2.2 ≠ d.length + 9 := by
  intro e
  obtain ⟨_, e2⟩ := gett_inv e
  have ht := made_tail k d []
  have hh := made_head k d []
  rw [List.append_nil] at ht hh
  by_cases hc : j < 5 + d.length
  · rw [List.drop_set_of_lt hc, ht, List.append_nil, ← List.append_nil (w4 _), num4_w4 _ (crc_lt _), List.take_set] at e2
    have hg : (made k d).getD j 0 = (head k d).getD j 0 := by
      rw [← hh]
      simp only [List.getD, List.getElem?_take]
      rw [if_pos hc]
    rw [hh, hg] at e2
    exact crc_set (head k d) j B (by rw [head_length]; omega) hB h0 (head_byte hk hd) e2.symm
  · rw [List.take_set_of_le (by omega), hh, List.drop_set, if_neg (by omega), ht] at e2
    have hg : (made k d).getD j 0 = (w4 (crc (head k d))).getD (j - (5 + d.length)) 0 := by
      rw [List.append_nil] at ht
      rw [← ht]
      simp only [List.getD, List.getElem?_drop]
      rw [show 5 + d.length + (j - (5 + d.length)) = j by omega]
    rw [hg, List.append_nil] at e2
    exact w4_turned _ _ B (crc_lt _) (by omega) h0 e2

end Go.Proofs.Ytiaopgphjailiaa
