/-
  UTF-8 as the document reads it, purely.
-/
import Derived.Test.YtpdffdoogobhfaaDoorLbM
namespace Go.Proofs.YtpdffdoogobhfaaDoor
open Go Go.Lib
set_option linter.unusedSimpArgs false

/-- How many bytes follow a first byte, from which to which the second may be. -/
def fol (k : Nat) : Option (Nat × Nat × Nat) :=
  if k < 128 then some (0, 128, 191) else if 194 ≤ k ∧ k ≤ 223 then some (1, 128, 191) else if k = 224 then some (2, 160, 191) else if k = 237 then some (2, 128, 159)
  else if 225 ≤ k ∧ k ≤ 239 then some (2, 128, 191) else if k = 240 then some (3, 144, 191) else if 241 ≤ k ∧ k ≤ 243 then some (3, 128, 191) else if k = 244 then some (3, 128, 143) else none
def bt (l : List UInt8) (j : Nat) : Nat := (l.getD j 0).toNat
/-- May byte j stand there? -/
def cok (l : List UInt8) (lo hi j : Nat) : Bool := !((decide (j = 1) && (decide (bt l j < lo) || decide (hi < bt l j))) || decide (bt l j < 128) || decide (191 < bt l j))
def callJ (l : List UInt8) (lo hi : Nat) : Nat → Bool
  | 0 => true
  | n + 1 => callJ l lo hi n && cok l lo hi (n + 1)
theorem chk1 (l : List UInt8) (lo hi : Nat) (h1 : 128 ≤ lo) (h2 : hi ≤ 191) : (match checkN l.length (bt l 1) (bt l 2) (bt l 3) 2 lo hi with | none => false | some k => validD (l.drop k)) = (decide (1 < l.length) && callJ l lo hi 1 && validD (l.drop 2)) := by
  simp only [checkN, callJ, cok, if_true]
  by_cases a : l.length < 2 ∨ bt l 1 < lo ∨ hi < bt l 1
  · rw [if_pos a]
    rcases a with a | a | a
    · simp [show ¬ 1 < l.length by omega]
    · simp [a]
    · simp [a]
  · rw [if_neg a]
    have : 1 < l.length ∧ ¬ bt l 1 < lo ∧ ¬ hi < bt l 1 := by omega
    simp [this.1, this.2.1, this.2.2, show ¬ bt l 1 < 128 by omega, show ¬ 191 < bt l 1 by omega]
theorem chk2 (l : List UInt8) (lo hi : Nat) (h1 : 128 ≤ lo) (h2 : hi ≤ 191) : (match checkN l.length (bt l 1) (bt l 2) (bt l 3) 3 lo hi with | none => false | some k => validD (l.drop k)) = (decide (2 < l.length) && callJ l lo hi 2 && validD (l.drop 3)) := by
  simp only [checkN, callJ, cok]
  rw [if_neg (by decide), if_pos trivial]
  by_cases a : l.length < 3 ∨ bt l 1 < lo ∨ hi < bt l 1 ∨ bt l 2 < 128 ∨ 191 < bt l 2
  · rw [if_pos a]
    rcases a with a | a | a | a | a
    · simp [show ¬ 2 < l.length by omega]
    · simp [a]
    · simp [a]
    · simp [a]
    · simp [a]
  · rw [if_neg a]
    have : 2 < l.length ∧ ¬ bt l 1 < lo ∧ ¬ hi < bt l 1 ∧ ¬ bt l 2 < 128 ∧ ¬ 191 < bt l 2 := by omega
    simp [this.1, this.2.1, this.2.2.1, this.2.2.2.1, this.2.2.2.2, show ¬ bt l 1 < 128 by omega, show ¬ 191 < bt l 1 by omega]
theorem chk3 (l : List UInt8) (lo hi : Nat) (h1 : 128 ≤ lo) (h2 : hi ≤ 191) : (match checkN l.length (bt l 1) (bt l 2) (bt l 3) 4 lo hi with | none => false | some k => validD (l.drop k)) = (decide (3 < l.length) && callJ l lo hi 3 && validD (l.drop 4)) := by
  simp only [checkN, callJ, cok]
  rw [if_neg (by decide), if_neg (by decide), if_pos trivial]
  by_cases a : l.length < 4 ∨ bt l 1 < lo ∨ hi < bt l 1 ∨ bt l 2 < 128 ∨ 191 < bt l 2 ∨ bt l 3 < 128 ∨ 191 < bt l 3
  · rw [if_pos a]
    rcases a with a | a | a | a | a | a | a
    · simp [show ¬ 3 < l.length by omega]
    · simp [a]
    · simp [a]
    · simp [a]
    · simp [a]
    · simp [a]
    · simp [a]
  · rw [if_neg a]
    have : 3 < l.length ∧ ¬ bt l 1 < lo ∧ ¬ hi < bt l 1 ∧ ¬ bt l 2 < 128 ∧ ¬ 191 < bt l 2 ∧ ¬ bt l 3 < 128 ∧ ¬ 191 < bt l 3 := by omega
    simp [this.1, this.2.1, this.2.2.1, this.2.2.2.1, this.2.2.2.2.1, this.2.2.2.2.2.1, this.2.2.2.2.2.2, show ¬ bt l 1 < 128 by omega, show ¬ 191 < bt l 1 by omega]
theorem chk0 (l : List UInt8) (sz lo hi : Nat) (h : sz ≠ 2 ∧ sz ≠ 3 ∧ sz ≠ 4) : (match checkN l.length (bt l 1) (bt l 2) (bt l 3) sz lo hi with | none => false | some k => validD (l.drop k)) = false := by
  simp [checkN, h.1, h.2.1, h.2.2]

def tabB (k : Nat) : Bool := match fol k with
  | none => decide (firstT k % 8 ≠ 2 ∧ firstT k % 8 ≠ 3 ∧ firstT k % 8 ≠ 4)
  | some (n, lo, hi) => decide (firstT k % 8 = n + 1 ∧ accLo (firstT k / 16) = lo ∧ accHi (firstT k / 16) = hi ∧ 128 ≤ lo ∧ hi ≤ 191 ∧ (n = 1 ∨ n = 2 ∨ n = 3))
theorem tab_all : ∀ k : Fin 256, 128 ≤ k.val → tabB k.val = true := by decide +kernel

/-- UTF-8, one step. -/
theorem valid_fol (l : List UInt8) (hne : l ≠ []) : validD l = match fol (bt l 0) with
    | none => false
    | some (n, lo, hi) => decide (n < l.length) && callJ l lo hi n && validD (l.drop (n + 1)) := by
  by_cases h0 : bt l 0 < 128
  · have : fol (bt l 0) = some (0, 128, 191) := by rw [fol, if_pos h0]
    rw [this]
    cases l with
    | nil => exact absurd rfl hne
    | cons b t =>
      rw [validD_cons b t (by simpa [bt] using h0)]
      simp [callJ]
  · have hlt : bt l 0 < 256 := (l.getD 0 0).toNat_lt
    rw [validD_lead l hne (by show 128 ≤ bt l 0; omega)]
    show (match checkN l.length (bt l 1) (bt l 2) (bt l 3) (firstT (bt l 0) % 8) (accLo (firstT (bt l 0) / 16)) (accHi (firstT (bt l 0) / 16)) with | none => false | some k => validD (l.drop k)) = _
    generalize bt l 0 = k at h0 hlt
    have this := tab_all ⟨k, hlt⟩ (by show 128 ≤ k; omega)
    simp only [tabB] at this
    cases hf : fol k with
    | none =>
      rw [hf] at this
      exact chk0 l _ _ _ (of_decide_eq_true this)
    | some x =>
      obtain ⟨n, lo, hi⟩ := x
      rw [hf] at this
      obtain ⟨e1, e2, e3, g1, g2, g3⟩ := of_decide_eq_true this
      rw [e1, e2, e3]
      rcases g3 with rfl | rfl | rfl
      · exact chk1 l lo hi g1 g2
      · exact chk2 l lo hi g1 g2
      · exact chk3 l lo hi g1 g2

end Go.Proofs.YtpdffdoogobhfaaDoor
