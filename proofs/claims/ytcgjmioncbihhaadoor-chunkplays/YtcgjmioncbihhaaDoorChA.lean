/-
  Runs of samples, purely: what a chunk writes. Nothing of the program.
-/

import Derived.Test.YtcgjmioncbihhaaDoorBitM
import Derived.Lib.TrailingZeros
namespace Go.Proofs.YtcgjmioncbihhaaDoor
set_option linter.unusedVariables false

/-- Numbers of 64 bits that wrap round, with a sign and without. -/
def wr (x : Int) : Int := (x + 9223372036854775808) % 18446744073709551616 - 9223372036854775808
def un (x : Int) : Nat := (x % 18446744073709551616).toNat
def I64 (x : Int) : Prop := -9223372036854775808 ≤ x ∧ x ≤ 9223372036854775807
theorem wr_i64 (x : Int) : I64 (wr x) := by unfold I64 wr; omega
theorem wr_id {x : Int} (h : I64 x) : wr x = x := by unfold I64 at h; unfold wr; omega
theorem un_lt (x : Int) : un x < 18446744073709551616 := by unfold un; omega

/-- A sample; what the next one is told by. -/
structure Sm where
  t : Int
  v : Nat
structure Tr where
  t : Int
  v : Nat
  st : Int
def Tr.drift (a : Tr) (s : Sm) : Int := wr (wr (s.t - a.t) - a.st)
def Tr.flips (a : Tr) (s : Sm) : Nat := s.v ^^^ a.v
def Tr.by' (a : Tr) (d : Int) (x : Nat) : Tr := ⟨wr (a.t + wr (a.st + d)), a.v ^^^ x, wr (a.st + d)⟩
def Tr.next (a : Tr) (s : Sm) : Tr := ⟨s.t, s.v, wr (s.t - a.t)⟩
theorem by_next (a : Tr) (s : Sm) (ht : I64 s.t) : a.by' (a.drift s) (a.flips s) = a.next s := by
  unfold Tr.by' Tr.drift Tr.flips Tr.next
  have e1 : wr (a.st + wr (wr (s.t - a.t) - a.st)) = wr (s.t - a.t) := by unfold wr; omega
  have e2 : wr (a.t + wr (s.t - a.t)) = s.t := by unfold I64 at ht; unfold wr; omega
  have e3 : a.v ^^^ (s.v ^^^ a.v) = s.v := by
    rw [Nat.xor_comm s.v a.v, ← Nat.xor_assoc, Nat.xor_self, Nat.zero_xor]
  rw [e1, e2, e3]

/-- A number of so many bits with a sign is it. -/
def fit (d : Int) (w : Nat) : Prop := if w = 0 then d = 0 else -((2 : Int) ^ (w - 1)) ≤ d ∧ d < (2 : Int) ^ (w - 1)
instance (d : Int) (w : Nat) : Decidable (fit d w) := by unfold fit; infer_instance

def drB (d : Int) : List Bool :=
  if d = 0 then [false]
  else if -64 ≤ d ∧ d ≤ 63 then [true, false] ++ low (un d) 7
  else if -256 ≤ d ∧ d ≤ 255 then [true, true, false] ++ low (un d) 9
  else if -2048 ≤ d ∧ d ≤ 2047 then [true, true, true, false] ++ low (un d) 12
  else [true, true, true, true] ++ low (un d) 64

/-- Noughts ahead, and behind. -/
def blen : Nat → Nat → Nat
  | 0, _ => 0
  | f + 1, x => if x = 0 then 0 else blen f (x / 2) + 1
def ahd (x : Nat) : Nat := 64 - blen 64 x
def bhd (x : Nat) : Nat := Lib.ctz 64 x
def siz (x : Nat) : Nat := 64 - ahd x - bhd x
def flB (x : Nat) : List Bool :=
  if x = 0 then [false] else [true] ++ low (ahd x) 6 ++ low (siz x - 1) 6 ++ low (x / 2 ^ bhd x) (siz x)
def fiB (s : Sm) : List Bool := low (un s.t) 64 ++ low s.v 64

/-- The bits of samples behind one. -/
def moB : Tr → List Sm → List Bool
  | _, [] => []
  | a, s :: t => drB (a.drift s) ++ flB (a.flips s) ++ moB (a.next s) t
def tr0 (s : Sm) : Tr := ⟨s.t, s.v, 0⟩
def rowB : List Sm → List Bool
  | [] => []
  | s :: t => fiB s ++ moB (tr0 s) t
/-- What the next one is told by, behind them all. -/
def trE : Tr → List Sm → Tr
  | a, [] => a
  | a, s :: t => trE (a.next s) t
theorem moB_append : ∀ (l m : List Sm) (a : Tr), moB a (l ++ m) = moB a l ++ moB (trE a l) m
  | [], m, a => rfl
  | s :: t, m, a => by
    show drB (a.drift s) ++ flB (a.flips s) ++ moB (a.next s) (t ++ m) = _
    rw [moB_append t m (a.next s)]
    simp [moB, trE]
theorem trE_append : ∀ (l m : List Sm) (a : Tr), trE a (l ++ m) = trE (trE a l) m
  | [], m, a => rfl
  | s :: t, m, a => trE_append t m (a.next s)
theorem rowB_more (s : Sm) (t : List Sm) (x : Sm) : rowB (s :: t ++ [x]) = rowB (s :: t) ++ (drB ((trE (tr0 s) t).drift x) ++ flB ((trE (tr0 s) t).flips x)) := by
  show fiB s ++ moB (tr0 s) (t ++ [x]) = _
  rw [moB_append]
  simp [rowB, moB]

theorem blen_lt : ∀ f x, x < 2 ^ f → x < 2 ^ blen f x ∧ (0 < x → 1 ≤ blen f x ∧ 2 ^ (blen f x - 1) ≤ x) ∧ blen f x ≤ f
  | 0, x, h => by
    have : x = 0 := by simpa using h
    subst this
    simp [blen]
  | f + 1, x, h => by
    rw [blen]
    split
    · rename_i h0
      subst h0
      simp
    · have hx : x / 2 < 2 ^ f := by rw [Nat.pow_succ] at h; omega
      obtain ⟨h1, h2, h3⟩ := blen_lt f (x / 2) hx
      refine ⟨by rw [Nat.pow_succ]; omega, fun _ => ⟨by omega, ?_⟩, by omega⟩
      rw [Nat.add_sub_cancel]
      by_cases h4 : 0 < x / 2
      · obtain ⟨h5, h6⟩ := h2 h4
        have : 2 ^ blen f (x / 2) = 2 ^ (blen f (x / 2) - 1) * 2 := by rw [← Nat.pow_succ]; congr 1; omega
        omega
      · have h7 : x / 2 = 0 := by omega
        have : blen f 0 = 0 := by cases f <;> simp [blen]
        rw [h7, this]
        omega
/-- The widths, one behind the other. -/
def wds : List Nat := [0, 7, 9, 12]
theorem dr0 {d : Int} (h : fit d 0) : drB d = [false] := by simp [fit] at h; simp [drB, h]
theorem dr1 {d : Int} (h0 : ¬ fit d 0) (h : fit d 7) : drB d = [true, false] ++ low (un d) 7 := by
  simp [fit] at h h0; unfold drB; rw [if_neg h0, if_pos (by omega)]
theorem dr2 {d : Int} (h0 : ¬ fit d 0) (h1 : ¬ fit d 7) (h : fit d 9) : drB d = [true, true, false] ++ low (un d) 9 := by
  simp [fit] at h h0 h1; unfold drB; rw [if_neg h0, if_neg (by omega), if_pos (by omega)]
theorem dr3 {d : Int} (h0 : ¬ fit d 0) (h1 : ¬ fit d 7) (h2 : ¬ fit d 9) (h : fit d 12) : drB d = [true, true, true, false] ++ low (un d) 12 := by
  simp [fit] at h h0 h1 h2; unfold drB; rw [if_neg h0, if_neg (by omega), if_neg (by omega), if_pos (by omega)]
theorem dr4 {d : Int} (h0 : ¬ fit d 0) (h1 : ¬ fit d 7) (h2 : ¬ fit d 9) (h3 : ¬ fit d 12) : drB d = [true, true, true, true] ++ low (un d) 64 := by
  simp [fit] at h3 h0 h1 h2; unfold drB; rw [if_neg h0, if_neg (by omega), if_neg (by omega), if_neg (by omega)]

end Go.Proofs.YtcgjmioncbihhaaDoor
