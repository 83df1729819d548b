import Derived.Test.YtcgjmioncbihhaaDoorWld
namespace Go.Proofs.YtcgjmioncbihhaaDoor
open Go.RowKit
set_option linter.unusedVariables false

theorem RS.same {a b : World} {p t : Nat} {l : List Int} (h : RS a p l t) (hc : Chg (fun _ => False) a b) : RS b p l t := by
  obtain ⟨h1, ad, c, h2, h3, h4⟩ := h
  exact ⟨h1, ad, c, hc.blk h2 (fun e => e), hc.sl h3 (fun _ _ _ e => e), h4⟩
theorem RS.chg {F : Nat → Prop} {a b : World} {p t : Nat} {l : List Int} (h : RS a p l t) (hc : Chg F a b) (hF : ∀ i, F i → a.heap.size ≤ i) : RS b p l t :=
  h.same (hc.mono (fun i hi hf => by have := hF i hf; omega))
theorem RS.step {a : World} {p t t2 : Nat} {l : List Int} (h : RS a p l t) (h2 : t2 ≤ 8 * l.length) : RS (a.setCell ⟨p, 1, none⟩ (.int .i64 (t2 : Int))) p l t2 := by
  obtain ⟨h1, ad, c, hB, hS, hne⟩ := h
  exact ⟨h2, ad, c, hB.set 1 _, (Chg.set ⟨p, 1, none⟩ _ a).sl hS (fun x hx hp e => Nat.ne_of_lt (hne x hx hp) e), hne⟩

theorem piece_nm {l : List Int} (hb : Byte l) (s ah t y : Nat) (hah : s % 8 = ah) (ht : t + ah ≤ 8) (hy : (l.getD (s / 8) 0).toNat = y) : Nm (y * 2 ^ ah % 256 / 2 ^ (8 - t)) t (fun i => bt l (s + i)) := by
  intro j
  have hyb : y < 256 := by
    have := hb.at (s / 8)
    omega
  rw [Nat.testBit_div_two_pow, show (256 : Nat) = 2 ^ 8 from rfl, Nat.testBit_mod_two_pow, Nat.testBit_mul_two_pow]
  by_cases hj : j < t
  · have a1 : decide (j + (8 - t) < 8) = true := by simp; omega
    have a2 : decide (ah ≤ j + (8 - t)) = true := by simp; omega
    have a3 : decide (j < t) = true := by simpa using hj
    rw [a1, a2, a3, Bool.true_and, Bool.true_and, Bool.true_and]
    show _ = bt l (s + (t - 1 - j))
    unfold bt
    rw [show (s + (t - 1 - j)) / 8 = s / 8 by omega, show 7 - (s + (t - 1 - j)) % 8 = j + (8 - t) - ah by omega, hy]
  · have a1 : decide (j + (8 - t) < 8) = false := decide_eq_false (by omega)
    have a3 : decide (j < t) = false := decide_eq_false (by omega)
    rw [a1, a3, Bool.false_and, Bool.false_and]
theorem nm_join {V X m t : Nat} {f : Nat → Bool} (h : Nm V m f) (k : Nm X t (fun i => f (m + i))) : Nm (V * 2 ^ t ||| X) (m + t) f := by
  intro j
  rw [Nat.testBit_or, Nat.testBit_mul_two_pow, h (j - t), k j]
  by_cases hj : j < t
  · have a1 : decide (t ≤ j) = false := by simp; omega
    have a2 : decide (j < t) = true := by simpa using hj
    have a3 : decide (j < m + t) = true := by simp; omega
    rw [a1, a2, a3, Bool.false_and, Bool.false_or, Bool.true_and, Bool.true_and]
    show f (m + (t - 1 - j)) = f (m + t - 1 - j)
    congr 1
    omega
  · have a1 : decide (t ≤ j) = true := by simp; omega
    have a2 : decide (j < t) = false := by simp; omega
    rw [a1, a2, Bool.true_and, Bool.false_and, Bool.or_false]
    by_cases hm : j - t < m
    · have a3 : decide (j - t < m) = true := by simpa using hm
      have a4 : decide (j < m + t) = true := by simp; omega
      rw [a3, a4, Bool.true_and, Bool.true_and]
      congr 1
      omega
    · have a3 : decide (j - t < m) = false := by simp; omega
      have a4 : decide (j < m + t) = false := by simp; omega
      rw [a3, a4, Bool.false_and, Bool.false_and]
theorem join_eq (V X m t : Nat) (hV : V < 2 ^ m) (hX : X < 256) (hm : m + t ≤ 64) : bits .or .u64 ((V : Int) * 2 ^ t % 18446744073709551616) (X : Int) = ((V * 2 ^ t ||| X : Nat) : Int) := by
  have h1 : V * 2 ^ t < 2 ^ 64 := by
    have b : V * 2 ^ t < 2 ^ m * 2 ^ t := Nat.mul_lt_mul_of_pos_right hV (Nat.two_pow_pos _)
    rw [← Nat.pow_add] at b
    exact Nat.lt_of_lt_of_le b (Nat.pow_le_pow_right (by omega) (by omega))
  have e : (V : Int) * 2 ^ t % 18446744073709551616 = ((V * 2 ^ t : Nat) : Int) := by
    have : (V : Int) * 2 ^ t = ((V * 2 ^ t : Nat) : Int) := by simp
    rw [this]
    omega
  rw [e, u64_or_nat _ _ (by omega) (by omega)]
theorem shl_eq (y : Int) (ah d : Nat) (hy : 0 ≤ y ∧ y ≤ 255) : y * 2 ^ ah % 256 / 2 ^ d = ((y.toNat * 2 ^ ah % 256 / 2 ^ d : Nat) : Int) := by
  have e : y = ((y.toNat : Nat) : Int) := by omega
  generalize y.toNat = z at *
  subst e
  simp

end Go.Proofs.YtcgjmioncbihhaaDoor
