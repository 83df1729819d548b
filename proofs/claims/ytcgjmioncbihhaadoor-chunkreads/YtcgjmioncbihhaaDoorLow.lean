import Derived.Test.YtcgjmioncbihhaaDoorWrC
import Derived.Test.YtcgjmioncbihhaaDoorRdA
import Derived.Test.YtcgjmioncbihhaaDoorBitM
import Derived.Lib.TrailingZeros
namespace Go.Proofs.YtcgjmioncbihhaaDoor
open Go.RowKit
set_option linter.unusedVariables false

/-- A writer all of whose memory is new since w0. -/
def WB (w0 w : World) (p : Nat) (L : List Bool) : Prop := ∃ rb, WS w p rb L ∧ (∀ i, rb = some i → w0.heap.size ≤ i) ∧ w0.heap.size ≤ p ∧ Below w0.heap.size w0 w
theorem WB.bel {w0 w : World} {p : Nat} {L : List Bool} (h : WB w0 w p L) : Below w0.heap.size w0 w := by
  obtain ⟨_, _, _, _, h⟩ := h
  exact h
theorem WB.later {w0 w w' : World} {p : Nat} {L : List Bool} (h : WB w0 w p L) (hb : Below w.heap.size w w') : WB w0 w' p L := by
  obtain ⟨rb, h1, h2, h3, h4⟩ := h
  exact ⟨rb, h1.chg (Chg.of_below (F := fun _ => False) hb) (fun _ _ e => e), h2, h3, h4.trans (hb.mono h4.size)⟩
theorem new_b (w0 w : World) (h : Below w0.heap.size w0 w) : Calls Tryd.prog 35 #[] w fun e w' => e = .returned (.pointer (some ⟨w.heap.size, 0, none⟩)) ∧ WB w0 w' w.heap.size [] :=
  (newWriter_any w).mono (fun e w' ⟨h1, h2, h3⟩ => ⟨h1, none, h2, fun i hi => (by cases hi), h.size, h.trans (h3.mono h.size)⟩)
theorem put_b (w0 w : World) (p : Nat) (L : List Bool) (v : Nat) (n : Int) (h : WB w0 w p L) (hv : v < 18446744073709551616) (hL : L.length ≤ 1099511627776) :
    Calls Tryd.prog 53 #[.pointer (some ⟨p, 0, none⟩), .int .u64 (v : Int), .int .i64 n] w fun e w' => e = .returned (.tuple #[]) ∧ WB w0 w' p (L ++ low v (cl n)) := by
  obtain ⟨rb, h1, h2, h3, h4⟩ := h
  refine (put_any p rb L v n w h1 hv hL).mono ?_
  rintro e w' ⟨rfl, rb', k1, k2, k3⟩
  refine ⟨rfl, rb', k1, fun i hi => ?_, h3, h4.trans (k2.below h4.size (fun i hi => ?_))⟩
  · rcases k3 with rfl | ⟨g, rfl, hg⟩
    · exact h2 i hi
    · have := h4.size
      simp at hi
      omega
  · rcases hi with rfl | hi
    · exact h3
    · exact h2 i hi
theorem cut_b (w0 w : World) (p : Nat) (L : List Bool) (n : Int) (h : WB w0 w p L) (hL : L.length ≤ 1099511627840) :
    Calls Tryd.prog 24 #[.pointer (some ⟨p, 0, none⟩), .int .i64 n] w fun e w' => e = .returned (.tuple #[]) ∧ WB w0 w' p (L.take n.toNat) := by
  obtain ⟨rb, h1, h2, h3, h4⟩ := h
  refine (cut_any p rb L n w h1 hL).mono ?_
  rintro e w' ⟨rfl, k1, k2⟩
  refine ⟨rfl, rb, k1, h2, h3, h4.trans (k2.below h4.size (fun i hi => ?_))⟩
  rcases hi with rfl | hi
  · exact h3
  · exact h2 i hi
theorem len_b (w0 w : World) (p : Nat) (L : List Bool) (h : WB w0 w p L) : Calls Tryd.prog 20 #[.pointer (some ⟨p, 0, none⟩)] w fun e w' => e = .returned (.int .i64 (L.length : Int)) ∧ w' = w := by
  obtain ⟨rb, h1, h2, h3, h4⟩ := h
  exact len_any p rb L w h1
theorem bytes_b (w0 w : World) (p : Nat) (L : List Bool) (h : WB w0 w p L) (hL : L.length ≤ 1099511627840) :
    Calls Tryd.prog 36 #[.pointer (some ⟨p, 0, none⟩)] w fun e w' => ∃ ad c R, e = .returned (.slice ad ((L.length + 7) / 8) c) ∧ R.length = (L.length + 7) / 8 ∧ Sl w' ad ((L.length + 7) / 8) R ∧ (ad = none → (L.length + 7) / 8 = 0 ∧ c = 0) ∧ Rep R L ∧ WB w0 w' p L := by
  have hh := h
  obtain ⟨rb, h1, h2, h3, h4⟩ := h
  refine (bytes_any p rb L w h1 hL).mono ?_
  rintro e w' ⟨ad, c, R, rfl, k1, k2, k3, k4, k5⟩
  exact ⟨ad, c, R, rfl, k1, sl_of_owns k2 k3, (owns_cap k2).2.2.2, k4, hh.later k5⟩

/-- A reader all of whose memory is new since w0. -/
def RB (w0 w : World) (p : Nat) (l : List Int) (t : Nat) : Prop := RS w p l t ∧ w0.heap.size ≤ p ∧ Below w0.heap.size w0 w
theorem reader_b (w0 w : World) (ad : Option Addr) (n c : Nat) (l : List Int) (h : Below w0.heap.size w0 w) (hS : Sl w ad n l) (hn : n ≤ 70368744177664) (hnone : ad = none → n = 0 ∧ c = 0) :
    Calls Tryd.prog 32 #[.slice ad n c] w fun e w' => ∃ p, e = .returned (.pointer (some ⟨p, 0, none⟩)) ∧ RB w0 w' p l 0 := by
  refine (newReader_any ad n c l w hS hn hnone).mono ?_
  rintro e w' ⟨p, rfl, h1, h2, h3⟩
  exact ⟨p, rfl, h2, Nat.le_trans h.size h1, h.trans (h3.mono h.size)⟩
theorem get_b (w0 w : World) (p t : Nat) (l : List Int) (n : Int) (h : RB w0 w p l t) (hl : l.length ≤ 70368744177664) (hn : 0 ≤ n) (hn2 : n ≤ 64) (hn3 : t + n.toNat ≤ 8 * l.length) :
    Calls Tryd.prog 63 #[.pointer (some ⟨p, 0, none⟩), .int .i64 n] w fun e w' => ∃ V : Nat, e = .returned (.tuple #[.int .u64 (V : Int), .bool true]) ∧ Nm V n.toNat (fun i => bt l (t + i)) ∧ RB w0 w' p l (t + n.toNat) := by
  obtain ⟨h1, h2, h3⟩ := h
  refine (get_any p t l n w h1 hl hn hn2 hn3).mono ?_
  rintro e w' ⟨V, rfl, k1, k2, k3⟩
  exact ⟨V, rfl, k1, k2, h2, h3.trans (k3.below h3.size (fun i hi => by subst hi; exact h2))⟩
theorem get_bad_b (w0 w : World) (p t : Nat) (l : List Int) (n : Int) (h : RB w0 w p l t) (hl : l.length ≤ 70368744177664) (hn : n < 0 ∨ 64 < n ∨ 8 * (l.length : Int) - t < n) :
    Calls Tryd.prog 63 #[.pointer (some ⟨p, 0, none⟩), .int .i64 n] w fun e w' => e = .returned (.tuple #[.int .u64 0, .bool false]) ∧ RB w0 w' p l t := by
  obtain ⟨h1, h2, h3⟩ := h
  refine (get_bad p t l n w h1 hl hn).mono ?_
  rintro e w' ⟨rfl, k1, k2⟩
  exact ⟨rfl, k1, h2, h3.trans (k2.below h3.size (fun i hi => hi.elim))⟩
theorem left_b (w0 w : World) (p t : Nat) (l : List Int) (h : RB w0 w p l t) (hl : l.length ≤ 70368744177664) :
    Calls Tryd.prog 51 #[.pointer (some ⟨p, 0, none⟩)] w fun e w' => e = .returned (.int .i64 ((8 * l.length - t : Nat) : Int)) ∧ RB w0 w' p l t := by
  obtain ⟨h1, h2, h3⟩ := h
  refine (left_any p t l w h1 hl).mono ?_
  rintro e w' ⟨rfl, k1⟩
  exact ⟨rfl, h1.same k1, h2, h3.trans (k1.below h3.size (fun i hi => hi.elim))⟩

theorem rep_of {R : List Int} {L : List Bool} (hl : L.length ≤ 8 * R.length) (h : (List.range (8 * R.length)).all (fun i => bt R i == L.getD i false) = true) : Rep R L := by
  intro i
  by_cases hi : i < 8 * R.length
  · have := List.all_eq_true.1 h i (List.mem_range.2 hi)
    simpa using this
  · rw [bt_beyond R i (by omega)]
    simp [List.getD, show L.length ≤ i by omega]
theorem nm_of {V U n : Nat} {f : Nat → Bool} (h : Nm V n f) (hU : U < 2 ^ n) (k : (List.range n).all (fun j => U.testBit j == f (n - 1 - j)) = true) : V = U := by
  refine h.unique (fun j => ?_)
  by_cases hj : j < n
  · have := List.all_eq_true.1 k j (List.mem_range.2 hj)
    have h2 : U.testBit j = f (n - 1 - j) := by simpa using this
    rw [h2]
    simp [hj]
  · rw [Nat.testBit_lt_two_pow (Nat.lt_of_lt_of_le hU (Nat.pow_le_pow_right (by omega) (by omega)))]
    simp [hj]

end Go.Proofs.YtcgjmioncbihhaaDoor

/-
  Runs of samples, purely: what a chunk writes. Nothing of the program.
-/

namespace Go.Proofs.YtcgjmioncbihhaaDoor
set_option linter.unusedVariables false

/-- Numbers of 64 bits that wrap round, with a sign and without. -/
def wr (x : Int) : Int := (x + 9223372036854775808) % 18446744073709551616 - 9223372036854775808
def un (x : Int) : Nat := (x % 18446744073709551616).toNat
def I64 (x : Int) : Prop := -9223372036854775808 ≤ x ∧ x ≤ 9223372036854775807
theorem wr_i64 (x : Int) : I64 (wr x) := by unfold I64 wr; omega
theorem wr_id {x : Int} (h : I64 x) : wr x = x := by unfold I64 at h; unfold wr; omega
theorem un_lt (x : Int) : un x < 18446744073709551616 := by unfold un; omega

/-- A sample; what the next one is told by. -/
structure Sm where
  t : Int
  v : Nat
structure Tr where
  t : Int
  v : Nat
  st : Int
def Tr.drift (a : Tr) (s : Sm) : Int := wr (wr (s.t - a.t) - a.st)
def Tr.flips (a : Tr) (s : Sm) : Nat := s.v ^^^ a.v
def Tr.by' (a : Tr) (d : Int) (x : Nat) : Tr := ⟨wr (a.t + wr (a.st + d)), a.v ^^^ x, wr (a.st + d)⟩
def Tr.next (a : Tr) (s : Sm) : Tr := ⟨s.t, s.v, wr (s.t - a.t)⟩
theorem by_next (a : Tr) (s : Sm) (ht : I64 s.t) : a.by' (a.drift s) (a.flips s) = a.next s := by
  unfold Tr.by' Tr.drift Tr.flips Tr.next
  have e1 : wr (a.st + wr (wr (s.t - a.t) - a.st)) = wr (s.t - a.t) := by unfold wr; omega
  have e2 : wr (a.t + wr (s.t - a.t)) = s.t := by unfold I64 at ht; unfold wr; omega
  have e3 : a.v ^^^ (s.v ^^^ a.v) = s.v := by
    rw [Nat.xor_comm s.v a.v, ← Nat.xor_assoc, Nat.xor_self, Nat.zero_xor]
  rw [e1, e2, e3]

/-- A number of so many bits with a sign is it. -/
def fit (d : Int) (w : Nat) : Prop := if w = 0 then d = 0 else -((2 : Int) ^ (w - 1)) ≤ d ∧ d < (2 : Int) ^ (w - 1)
instance (d : Int) (w : Nat) : Decidable (fit d w) := by unfold fit; infer_instance

def drB (d : Int) : List Bool :=
  if d = 0 then [false]
  else if -64 ≤ d ∧ d ≤ 63 then [true, false] ++ low (un d) 7
  else if -256 ≤ d ∧ d ≤ 255 then [true, true, false] ++ low (un d) 9
  else if -2048 ≤ d ∧ d ≤ 2047 then [true, true, true, false] ++ low (un d) 12
  else [true, true, true, true] ++ low (un d) 64

/-- Noughts ahead, and behind. -/
def blen : Nat → Nat → Nat
  | 0, _ => 0
  | f + 1, x => if x = 0 then 0 else blen f (x / 2) + 1
def ahd (x : Nat) : Nat := 64 - blen 64 x
def bhd (x : Nat) : Nat := Lib.ctz 64 x
def siz (x : Nat) : Nat := 64 - ahd x - bhd x
def flB (x : Nat) : List Bool :=
  if x = 0 then [false] else [true] ++ low (ahd x) 6 ++ low (siz x - 1) 6 ++ low (x / 2 ^ bhd x) (siz x)
def fiB (s : Sm) : List Bool := low (un s.t) 64 ++ low s.v 64

/-- The bits of samples behind one. -/
def moB : Tr → List Sm → List Bool
  | _, [] => []
  | a, s :: t => drB (a.drift s) ++ flB (a.flips s) ++ moB (a.next s) t
def tr0 (s : Sm) : Tr := ⟨s.t, s.v, 0⟩
def rowB : List Sm → List Bool
  | [] => []
  | s :: t => fiB s ++ moB (tr0 s) t
/-- What the next one is told by, behind them all. -/
def trE : Tr → List Sm → Tr
  | a, [] => a
  | a, s :: t => trE (a.next s) t
theorem moB_append : ∀ (l m : List Sm) (a : Tr), moB a (l ++ m) = moB a l ++ moB (trE a l) m
  | [], m, a => rfl
  | s :: t, m, a => by
    show drB (a.drift s) ++ flB (a.flips s) ++ moB (a.next s) (t ++ m) = _
    rw [moB_append t m (a.next s)]
    simp [moB, trE]
theorem trE_append : ∀ (l m : List Sm) (a : Tr), trE a (l ++ m) = trE (trE a l) m
  | [], m, a => rfl
  | s :: t, m, a => trE_append t m (a.next s)
theorem rowB_more (s : Sm) (t : List Sm) (x : Sm) : rowB (s :: t ++ [x]) = rowB (s :: t) ++ (drB ((trE (tr0 s) t).drift x) ++ flB ((trE (tr0 s) t).flips x)) := by
  show fiB s ++ moB (tr0 s) (t ++ [x]) = _
  rw [moB_append]
  simp [rowB, moB]

theorem blen_lt : ∀ f x, x < 2 ^ f → x < 2 ^ blen f x ∧ (0 < x → 1 ≤ blen f x ∧ 2 ^ (blen f x - 1) ≤ x) ∧ blen f x ≤ f
  | 0, x, h => by
    have : x = 0 := by simpa using h
    subst this
    simp [blen]
  | f + 1, x, h => by
    rw [blen]
    split
    · rename_i h0
      subst h0
      simp
    · have hx : x / 2 < 2 ^ f := by rw [Nat.pow_succ] at h; omega
      obtain ⟨h1, h2, h3⟩ := blen_lt f (x / 2) hx
      refine ⟨by rw [Nat.pow_succ]; omega, fun _ => ⟨by omega, ?_⟩, by omega⟩
      rw [Nat.add_sub_cancel]
      by_cases h4 : 0 < x / 2
      · obtain ⟨h5, h6⟩ := h2 h4
        have : 2 ^ blen f (x / 2) = 2 ^ (blen f (x / 2) - 1) * 2 := by rw [← Nat.pow_succ]; congr 1; omega
        omega
      · have h7 : x / 2 = 0 := by omega
        have : blen f 0 = 0 := by cases f <;> simp [blen]
        rw [h7, this]
        omega
/-- The widths, one behind the other. -/
def wds : List Nat := [0, 7, 9, 12]
theorem dr0 {d : Int} (h : fit d 0) : drB d = [false] := by simp [fit] at h; simp [drB, h]
theorem dr1 {d : Int} (h0 : ¬ fit d 0) (h : fit d 7) : drB d = [true, false] ++ low (un d) 7 := by
  simp [fit] at h h0; unfold drB; rw [if_neg h0, if_pos (by omega)]
theorem dr2 {d : Int} (h0 : ¬ fit d 0) (h1 : ¬ fit d 7) (h : fit d 9) : drB d = [true, true, false] ++ low (un d) 9 := by
  simp [fit] at h h0 h1; unfold drB; rw [if_neg h0, if_neg (by omega), if_pos (by omega)]
theorem dr3 {d : Int} (h0 : ¬ fit d 0) (h1 : ¬ fit d 7) (h2 : ¬ fit d 9) (h : fit d 12) : drB d = [true, true, true, false] ++ low (un d) 12 := by
  simp [fit] at h h0 h1 h2; unfold drB; rw [if_neg h0, if_neg (by omega), if_neg (by omega), if_pos (by omega)]
theorem dr4 {d : Int} (h0 : ¬ fit d 0) (h1 : ¬ fit d 7) (h2 : ¬ fit d 9) (h3 : ¬ fit d 12) : drB d = [true, true, true, true] ++ low (un d) 64 := by
  simp [fit] at h3 h0 h1 h2; unfold drB; rw [if_neg h0, if_neg (by omega), if_neg (by omega), if_neg (by omega)]

end Go.Proofs.YtcgjmioncbihhaaDoor
