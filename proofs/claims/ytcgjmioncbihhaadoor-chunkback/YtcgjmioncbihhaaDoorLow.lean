import Derived.Test.YtcgjmioncbihhaaDoorWrC
import Derived.Test.YtcgjmioncbihhaaDoorRdA
namespace Go.Proofs.YtcgjmioncbihhaaDoor
open Go.RowKit
set_option linter.unusedVariables false

/-- A writer all of whose memory is new since w0. -/
def WB (w0 w : World) (p : Nat) (L : List Bool) : Prop := ∃ rb, WS w p rb L ∧ (∀ i, rb = some i → w0.heap.size ≤ i) ∧ w0.heap.size ≤ p ∧ Below w0.heap.size w0 w
theorem WB.bel {w0 w : World} {p : Nat} {L : List Bool} (h : WB w0 w p L) : Below w0.heap.size w0 w := by
  obtain ⟨_, _, _, _, h⟩ := h
  exact h
theorem WB.later {w0 w w' : World} {p : Nat} {L : List Bool} (h : WB w0 w p L) (hb : Below w.heap.size w w') : WB w0 w' p L := by
  obtain ⟨rb, h1, h2, h3, h4⟩ := h
  exact ⟨rb, h1.chg (Chg.of_below (F := fun _ => False) hb) (fun _ _ e => e), h2, h3, h4.trans (hb.mono h4.size)⟩
theorem new_b (w0 w : World) (h : Below w0.heap.size w0 w) : Calls Tryd.prog 35 #[] w fun e w' => e = .returned (.pointer (some ⟨w.heap.size, 0, none⟩)) ∧ WB w0 w' w.heap.size [] :=
  (newWriter_any w).mono (fun e w' ⟨h1, h2, h3⟩ => ⟨h1, none, h2, fun i hi => (by cases hi), h.size, h.trans (h3.mono h.size)⟩)
theorem put_b (w0 w : World) (p : Nat) (L : List Bool) (v : Nat) (n : Int) (h : WB w0 w p L) (hv : v < 18446744073709551616) (hL : L.length ≤ 1099511627776) :
    Calls Tryd.prog 53 #[.pointer (some ⟨p, 0, none⟩), .int .u64 (v : Int), .int .i64 n] w fun e w' => e = .returned (.tuple #[]) ∧ WB w0 w' p (L ++ low v (cl n)) := by
  obtain ⟨rb, h1, h2, h3, h4⟩ := h
  refine (put_any p rb L v n w h1 hv hL).mono ?_
  rintro e w' ⟨rfl, rb', k1, k2, k3⟩
  refine ⟨rfl, rb', k1, fun i hi => ?_, h3, h4.trans (k2.below h4.size (fun i hi => ?_))⟩
  · rcases k3 with rfl | ⟨g, rfl, hg⟩
    · exact h2 i hi
    · have := h4.size
      simp at hi
      omega
  · rcases hi with rfl | hi
    · exact h3
    · exact h2 i hi
theorem cut_b (w0 w : World) (p : Nat) (L : List Bool) (n : Int) (h : WB w0 w p L) (hL : L.length ≤ 1099511627840) :
    Calls Tryd.prog 24 #[.pointer (some ⟨p, 0, none⟩), .int .i64 n] w fun e w' => e = .returned (.tuple #[]) ∧ WB w0 w' p (L.take n.toNat) := by
  obtain ⟨rb, h1, h2, h3, h4⟩ := h
  refine (cut_any p rb L n w h1 hL).mono ?_
  rintro e w' ⟨rfl, k1, k2⟩
  refine ⟨rfl, rb, k1, h2, h3, h4.trans (k2.below h4.size (fun i hi => ?_))⟩
  rcases hi with rfl | hi
  · exact h3
  · exact h2 i hi
theorem len_b (w0 w : World) (p : Nat) (L : List Bool) (h : WB w0 w p L) : Calls Tryd.prog 20 #[.pointer (some ⟨p, 0, none⟩)] w fun e w' => e = .returned (.int .i64 (L.length : Int)) ∧ w' = w := by
  obtain ⟨rb, h1, h2, h3, h4⟩ := h
  exact len_any p rb L w h1
theorem bytes_b (w0 w : World) (p : Nat) (L : List Bool) (h : WB w0 w p L) (hL : L.length ≤ 1099511627840) :
    Calls Tryd.prog 36 #[.pointer (some ⟨p, 0, none⟩)] w fun e w' => ∃ ad c R, e = .returned (.slice ad ((L.length + 7) / 8) c) ∧ R.length = (L.length + 7) / 8 ∧ Sl w' ad ((L.length + 7) / 8) R ∧ (ad = none → (L.length + 7) / 8 = 0 ∧ c = 0) ∧ Rep R L ∧ WB w0 w' p L := by
  have hh := h
  obtain ⟨rb, h1, h2, h3, h4⟩ := h
  refine (bytes_any p rb L w h1 hL).mono ?_
  rintro e w' ⟨ad, c, R, rfl, k1, k2, k3, k4, k5⟩
  exact ⟨ad, c, R, rfl, k1, sl_of_owns k2 k3, (owns_cap k2).2.2.2, k4, hh.later k5⟩

/-- A reader all of whose memory is new since w0. -/
def RB (w0 w : World) (p : Nat) (l : List Int) (t : Nat) : Prop := RS w p l t ∧ w0.heap.size ≤ p ∧ Below w0.heap.size w0 w
theorem reader_b (w0 w : World) (ad : Option Addr) (n c : Nat) (l : List Int) (h : Below w0.heap.size w0 w) (hS : Sl w ad n l) (hn : n ≤ 70368744177664) (hnone : ad = none → n = 0 ∧ c = 0) :
    Calls Tryd.prog 32 #[.slice ad n c] w fun e w' => ∃ p, e = .returned (.pointer (some ⟨p, 0, none⟩)) ∧ RB w0 w' p l 0 := by
  refine (newReader_any ad n c l w hS hn hnone).mono ?_
  rintro e w' ⟨p, rfl, h1, h2, h3⟩
  exact ⟨p, rfl, h2, Nat.le_trans h.size h1, h.trans (h3.mono h.size)⟩
theorem get_b (w0 w : World) (p t : Nat) (l : List Int) (n : Int) (h : RB w0 w p l t) (hl : l.length ≤ 70368744177664) (hn : 0 ≤ n) (hn2 : n ≤ 64) (hn3 : t + n.toNat ≤ 8 * l.length) :
    Calls Tryd.prog 63 #[.pointer (some ⟨p, 0, none⟩), .int .i64 n] w fun e w' => ∃ V : Nat, e = .returned (.tuple #[.int .u64 (V : Int), .bool true]) ∧ Nm V n.toNat (fun i => bt l (t + i)) ∧ RB w0 w' p l (t + n.toNat) := by
  obtain ⟨h1, h2, h3⟩ := h
  refine (get_any p t l n w h1 hl hn hn2 hn3).mono ?_
  rintro e w' ⟨V, rfl, k1, k2, k3⟩
  exact ⟨V, rfl, k1, k2, h2, h3.trans (k3.below h3.size (fun i hi => by subst hi; exact h2))⟩
theorem get_bad_b (w0 w : World) (p t : Nat) (l : List Int) (n : Int) (h : RB w0 w p l t) (hl : l.length ≤ 70368744177664) (hn : n < 0 ∨ 64 < n ∨ 8 * (l.length : Int) - t < n) :
    Calls Tryd.prog 63 #[.pointer (some ⟨p, 0, none⟩), .int .i64 n] w fun e w' => e = .returned (.tuple #[.int .u64 0, .bool false]) ∧ RB w0 w' p l t := by
  obtain ⟨h1, h2, h3⟩ := h
  refine (get_bad p t l n w h1 hl hn).mono ?_
  rintro e w' ⟨rfl, k1, k2⟩
  exact ⟨rfl, k1, h2, h3.trans (k2.below h3.size (fun i hi => hi.elim))⟩
theorem left_b (w0 w : World) (p t : Nat) (l : List Int) (h : RB w0 w p l t) (hl : l.length ≤ 70368744177664) :
    Calls Tryd.prog 51 #[.pointer (some ⟨p, 0, none⟩)] w fun e w' => e = .returned (.int .i64 ((8 * l.length - t : Nat) : Int)) ∧ RB w0 w' p l t := by
  obtain ⟨h1, h2, h3⟩ := h
  refine (left_any p t l w h1 hl).mono ?_
  rintro e w' ⟨rfl, k1⟩
  exact ⟨rfl, h1.same k1, h2, h3.trans (k1.below h3.size (fun i hi => hi.elim))⟩

theorem rep_of {R : List Int} {L : List Bool} (hl : L.length ≤ 8 * R.length) (h : (List.range (8 * R.length)).all (fun i => bt R i == L.getD i false) = true) : Rep R L := by
  intro i
  by_cases hi : i < 8 * R.length
  · have := List.all_eq_true.1 h i (List.mem_range.2 hi)
    simpa using this
  · rw [bt_beyond R i (by omega)]
    simp [List.getD, show L.length ≤ i by omega]
theorem nm_of {V U n : Nat} {f : Nat → Bool} (h : Nm V n f) (hU : U < 2 ^ n) (k : (List.range n).all (fun j => U.testBit j == f (n - 1 - j)) = true) : V = U := by
  refine h.unique (fun j => ?_)
  by_cases hj : j < n
  · have := List.all_eq_true.1 k j (List.mem_range.2 hj)
    have h2 : U.testBit j = f (n - 1 - j) := by simpa using this
    rw [h2]
    simp [hj]
  · rw [Nat.testBit_lt_two_pow (Nat.lt_of_lt_of_le hU (Nat.pow_le_pow_right (by omega) (by omega)))]
    simp [hj]

end Go.Proofs.YtcgjmioncbihhaaDoor
