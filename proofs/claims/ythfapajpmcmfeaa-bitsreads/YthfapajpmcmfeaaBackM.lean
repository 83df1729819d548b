import Derived.Test.YthfapajpmcmfeaaShown
namespace Go.Proofs.Ythfapajpmcmfeaa
open Go.RowKit
set_option linter.unusedVariables false

/-- What a slice of integers that came in reads as. -/
def Ar (kd : IntKind) (w : World) (ad : Option Addr) (n : Nat) (f : Nat → Int) : Prop := 0 < n → ∃ b off, ad = some ⟨b, off, none⟩ ∧ b < w.heap.size ∧ ∀ i, i < n → w.cell? ⟨b, off + i, none⟩ = some (.int kd (f i))

/-- The row of some numbers. -/
def rowB (vf : Nat → Nat) (nf : Nat → Int) : Nat → List Bool
  | 0 => []
  | k + 1 => rowB vf nf k ++ low (vf k) (cl (nf k))
theorem rowB_len (vf : Nat → Nat) (nf : Nat → Int) : ∀ k, (rowB vf nf k).length ≤ 64 * k
  | 0 => Nat.le_refl _
  | k + 1 => by
    have := rowB_len vf nf k
    have := cl_le (nf k)
    rw [rowB, List.length_append, low_len]
    omega
theorem rowB_pre (vf : Nat → Nat) (nf : Nat → Int) : ∀ k i, i ≤ k → ∃ M, rowB vf nf k = rowB vf nf i ++ M
  | 0, i, h => by
    obtain rfl : i = 0 := by omega
    exact ⟨[], rfl⟩
  | k + 1, i, h => by
    by_cases e : i = k + 1
    · subst e
      exact ⟨[], by simp⟩
    · obtain ⟨M, hM⟩ := rowB_pre vf nf k i (by omega)
      exact ⟨M ++ low (vf k) (cl (nf k)), by rw [rowB, hM, List.append_assoc]⟩
theorem rowB_mono (vf : Nat → Nat) (nf : Nat → Int) {k i : Nat} (h : i ≤ k) : (rowB vf nf i).length ≤ (rowB vf nf k).length := by
  obtain ⟨M, hM⟩ := rowB_pre vf nf k i h
  rw [hM, List.length_append]
  omega
/-- What is got is what was put. -/
theorem got {vf : Nat → Nat} {nf : Nat → Int} {K i V : Nat} {R : List Int} (hR : Rep R (rowB vf nf K)) (hi : i < K) (hV : Nm V (cl (nf i)) (fun j => bt R ((rowB vf nf i).length + j))) : V = vf i % 2 ^ cl (nf i) := by
  obtain ⟨M, hM⟩ := rowB_pre vf nf K (i + 1) hi
  refine hV.unique (fun j => ?_)
  rw [Nat.testBit_mod_two_pow]
  by_cases hj : j < cl (nf i)
  · have a : decide (j < cl (nf i)) = true := by simpa using hj
    rw [a, Bool.true_and, Bool.true_and]
    show (vf i).testBit j = bt R ((rowB vf nf i).length + (cl (nf i) - 1 - j))
    rw [hR, hM, getD_append, rowB, if_pos (by rw [List.length_append, low_len]; omega), getD_append, if_neg (by omega), Nat.add_sub_cancel_left, low_at]
    have b : decide (cl (nf i) - 1 - j < cl (nf i)) = true := by simp; omega
    rw [b, Bool.true_and]
    congr 1
    omega
  · have a : decide (j < cl (nf i)) = false := by simp; omega
    rw [a, Bool.false_and, Bool.false_and]
theorem rest_zero {L : List Bool} {R : List Int} {V n : Nat} (hR : Rep R L) (hV : Nm V n (fun j => bt R (L.length + j))) : V = 0 := by
  refine hV.unique (fun j => ?_)
  show Nat.testBit 0 j = (decide (j < n) && bt R (L.length + (n - 1 - j)))
  rw [hR, Nat.zero_testBit]
  simp [List.getD]
theorem cut_back (L M : List Bool) : (L ++ M).take ((L.length : Int)).toNat = L := by
  rw [Int.toNat_natCast, List.take_left']
  rfl

theorem mask_eq (v m : Nat) (hv : v < 18446744073709551616) (hm : m < 64) : bits .and .u64 (v : Int) (IntKind.u64.wrap (IntKind.u64.wrap (2 ^ m) - 1)) = ((v % 2 ^ m : Nat) : Int) := by
  have hp : 2 ^ m < 2 ^ 64 := Nat.pow_lt_pow_right (by omega) hm
  have h1 := Nat.two_pow_pos m
  have e : IntKind.u64.wrap (IntKind.u64.wrap (2 ^ m) - 1) = ((2 ^ m - 1 : Nat) : Int) := by
    have e0 : (2 : Int) ^ m = ((2 ^ m : Nat) : Int) := by simp
    rw [IntKind.wrap_u64, IntKind.wrap_u64, e0]
    omega
  rw [e, u64_and_nat _ _ hv (by omega), Nat.and_two_pow_sub_one_eq_mod]

end Go.Proofs.Ythfapajpmcmfeaa
