import Derived.Lib.ValidLaws
import GoSem.Op.String
set_option linter.unusedSimpArgs false
set_option linter.unusedVariables false
set_option maxHeartbeats 40000000
set_option maxRecDepth 100000
/-
  Package label, purely: labels, names, values, right sets, the order, printing; the machine that reads a text byte by byte.
-/
namespace Go.Proofs.YtgmdpbahcbhfjaaGreatDoor.L
open Go

structure Lb where
  n : ByteArray
  v : ByteArray
deriving Inhabited, DecidableEq

def bts (s : ByteArray) : List UInt8 := s.data.toList
theorem bts_inj {a b : ByteArray} (h : bts a = bts b) : a = b := by
  cases a; cases b; simp only [bts, Array.toList_inj] at h; rw [h]
def oft (l : List UInt8) : ByteArray := ⟨l.toArray⟩
theorem bts_oft (l : List UInt8) : bts (oft l) = l := by simp [bts, oft]
theorem oft_bts (s : ByteArray) : oft (bts s) = s := bts_inj (bts_oft _)

/-! ### texts, byte by byte -/
def lss (x y : List UInt8) : Bool := decide (x < y)
theorem lss_irr (x : List UInt8) : lss x x = false := by simp [lss, List.lt_irrefl]
theorem lss_trans {x y z : List UInt8} (h1 : lss x y = true) (h2 : lss y z = true) : lss x z = true := by
  simp only [lss, decide_eq_true_eq] at *; exact List.lt_trans h1 h2
theorem lss_asymm {x y : List UInt8} (h1 : lss x y = true) : lss y x = false := by
  cases h : lss y x
  · rfl
  · exact absurd (lss_trans h1 h) (by rw [lss_irr]; simp)
/-! ### names, values -/
def lett (c : UInt8) : Bool := (decide (97 ≤ c.toNat) && decide (c.toNat ≤ 122)) || (decide (65 ≤ c.toNat) && decide (c.toNat ≤ 90)) || decide (c.toNat = 95)
def digi (c : UInt8) : Bool := decide (48 ≤ c.toNat) && decide (c.toNat ≤ 57)
def lead (first : Bool) (c : UInt8) : Bool := lett c || (!first && digi c)
def wsz : Bool → List UInt8 → Nat
  | _, [] => 0
  | f, c :: t => if lead f c then wsz false t + 1 else 0
def isName (s : List UInt8) : Bool := decide (s.length ≤ 32) && decide (wsz true s = s.length) && decide (s ≠ [])
def isVal (s : List UInt8) : Bool := decide (s ≠ []) && decide (s.length ≤ 64) && Lib.validD s
def Lb.fits (x : Lb) : Bool := isName (bts x.n) && isVal (bts x.v)
def ltN (a b : Lb) : Bool := lss (bts a.n) (bts b.n)

/-! ### right sets -/
def rightFrom : Option Lb → List Lb → Bool
  | _, [] => true
  | none, x :: t => x.fits && rightFrom (some x) t
  | some p, x :: t => x.fits && ltN p x && rightFrom (some x) t
def right (l : List Lb) : Bool := decide (1 ≤ l.length) && decide (l.length ≤ 8) && rightFrom none l

theorem rightFrom_some (p : Lb) : ∀ l : List Lb, rightFrom (some p) l = true ↔ (∀ x ∈ l, x.fits = true) ∧ (p :: l).Pairwise (fun a b => ltN a b = true) := by
  intro l
  induction l generalizing p with
  | nil => simp [rightFrom]
  | cons x t ih =>
    rw [rightFrom, Bool.and_eq_true, Bool.and_eq_true, ih]
    constructor
    · rintro ⟨⟨h1, h2⟩, h3, h4⟩
      refine ⟨fun y hy => ?_, List.pairwise_cons.2 ⟨fun y hy => ?_, h4⟩⟩
      · rcases List.mem_cons.1 hy with rfl | hy
        · exact h1
        · exact h3 y hy
      · rcases List.mem_cons.1 hy with rfl | hy
        · exact h2
        · exact lss_trans h2 ((List.pairwise_cons.1 h4).1 y hy)
    · rintro ⟨h1, h2⟩
      obtain ⟨h3, h4⟩ := List.pairwise_cons.1 h2
      exact ⟨⟨h1 x (by simp), h3 x (by simp)⟩, fun y hy => h1 y (by simp [hy]), h4⟩
theorem rightFrom_none (l : List Lb) : rightFrom none l = true ↔ (∀ x ∈ l, x.fits = true) ∧ l.Pairwise (fun a b => ltN a b = true) := by
  cases l with
  | nil => simp [rightFrom]
  | cons x t =>
    rw [rightFrom, Bool.and_eq_true, rightFrom_some]
    constructor
    · rintro ⟨h1, h2, h3⟩
      refine ⟨fun y hy => ?_, h3⟩
      rcases List.mem_cons.1 hy with rfl | hy
      · exact h1
      · exact h2 y hy
    · rintro ⟨h1, h2⟩
      exact ⟨h1 x (by simp), fun y hy => h1 y (by simp [hy]), h2⟩
theorem right_iff (l : List Lb) : right l = true ↔ 1 ≤ l.length ∧ l.length ≤ 8 ∧ (∀ x ∈ l, x.fits = true) ∧ l.Pairwise (fun a b => ltN a b = true) := by
  rw [right, Bool.and_eq_true, Bool.and_eq_true, rightFrom_none, decide_eq_true_eq, decide_eq_true_eq, and_assoc]

/-! ### in order -/
/-! ### Get, Cmp -/
def getL : List Lb → List UInt8 → List UInt8
  | [], _ => []
  | x :: t, n => if bts x.n = n then bts x.v else getL t n
/-! ### printing -/
end Go.Proofs.YtgmdpbahcbhfjaaGreatDoor.L
