/-
  Package quota: accounts, purely; its small functions.
-/
import Derived.Test.YthkmbodpboplfaaChecked
import Derived.Test.YthkmbodpboplfaaMpF
import Derived.Deep.QuietTactic
import Derived.Deep.CutRange
import Derived.BigQuiet
import Derived.Handy
import Derived.Laws.StructEq
import Derived.Laws.Rows
import Derived.Laws.ResultCell
namespace Go.Proofs.Ythkmbodpboplfaa
open Go.RowKit
set_option linter.unusedVariables false
set_option linter.unusedSimpArgs false

/-- An account. -/
@[ext] structure Ac where
  ms : Int
  mx : Int
  se : Int
  wr : Int
  wi : Int
deriving DecidableEq
def I64 (n : Int) : Prop := -9223372036854775808 ≤ n ∧ n ≤ 9223372036854775807
structure Ac.Fits (a : Ac) : Prop where
  ms : I64 a.ms
  mx : I64 a.mx
  se : I64 a.se
  wr : I64 a.wr
  wi : I64 a.wi
/-- Its cells. -/
def aL (a : Ac) : List Value := [.int .i64 a.ms, .int .i64 a.mx, .int .i64 a.se, .int .i64 a.wr, .int .i64 a.wi]
def aV (a : Ac) : Value := .agg (aL a).toArray
def aZ : Ac := ⟨0, 0, 0, 0, 0⟩
theorem aV_inj {a b : Ac} (h : aV a = aV b) : a = b := by
  simp [aV, aL] at h
  obtain ⟨h1, h2, h3, h4, h5⟩ := h
  exact Ac.ext h1 h2 h3 h4 h5

/-- An account that a book may hold. -/
structure OkA (a : Ac) : Prop where
  ms : 1 ≤ a.ms ∧ a.ms ≤ 1000000
  mx : 1 ≤ a.mx ∧ a.mx ≤ 1000000
  se : 0 ≤ a.se ∧ a.se ≤ a.ms
  wr : 0 ≤ a.wr ∧ a.wr ≤ a.mx
  wi : 0 ≤ a.wi ∧ a.wi ≤ 9223372036854775807

theorem below_alloc {w : World} {o : Obj} : Below w.heap.size w (w.alloc o) := (Below.refl _ _).alloc (Nat.le_refl _) _
theorem ne_aZ {a : Ac} (h : ¬ a = aZ) : decide (a = aZ) = false := by simpa using h

theorem knownE (a : Ac) (w : World) : Calls Try.prog 25 #[aV a] w fun e w' => e = .returned (.bool (!decide (a = aZ))) ∧ w' = w.alloc (.cells (aL a).toArray 32) := by
  obtain ⟨m1, m2, m3, m4, m5⟩ := a
  unfold aV aL
  obtain ⟨B, hB⟩ : ∃ B, (!decide ((⟨m1, m2, m3, m4, m5⟩ : Ac) = aZ)) = B := ⟨_, rfl⟩
  rw [hB]
  replace hB := hidden hB
  go_enter Try.func25, Try.ntmps25
  go_wp2_with fail
  all_goals
    go_ret
    rw [← hB.out]
    refine ⟨?_, by simp [*]⟩
    simp [aZ, *]
theorem knownP (a : Ac) (w : World) : Calls Try.prog 25 #[aV a] w fun e w' => e = .returned (.bool (!decide (a = aZ))) ∧ Below w.heap.size w w' :=
  (knownE a w).mono fun e w' ⟨h1, h2⟩ => ⟨h1, h2 ▸ below_alloc⟩
/-- An account in the window of a call. -/
def durA (a : Ac) (n : Int) : Ac := if a.wi < n then ⟨a.ms, a.mx, a.se, 0, n⟩ else a
theorem duringP (a : Ac) (n : Int) (w : World) : Calls Try.prog 26 #[aV a, .int .i64 n] w fun e w' => e = .returned (aV (durA a n)) ∧ Below w.heap.size w w' := by
  obtain ⟨m1, m2, m3, m4, m5⟩ := a
  by_cases h : m5 < n
  · have e1 : durA ⟨m1, m2, m3, m4, m5⟩ n = ⟨m1, m2, m3, 0, n⟩ := by simp [durA, h]
    rw [e1]
    unfold aV aL
    clear e1
    go_enter Try.func26, Try.ntmps26
    go_wp2_with fail
    refine bodyPost_ret (results_cell_row rfl _ _ (w.heap.size + 1) 32 _ (0, 0) _ rfl (heap_alloc2_new _ _ _) Try.underlying32 rfl (by kernel_rfl)) rfl ?_
    refine ⟨rfl, ?_⟩
    exact below_alloc.trans (Below.alloc (Below.refl _ _) (by simp) _)
  · have e1 : durA ⟨m1, m2, m3, m4, m5⟩ n = ⟨m1, m2, m3, m4, m5⟩ := by simp [durA, h]
    rw [e1]
    unfold aV aL
    clear e1
    go_enter Try.func26, Try.ntmps26
    go_wp2_with fail
    refine bodyPost_ret (results_cell_row rfl _ _ (w.heap.size + 1) 32 _ (0, 0) _ rfl (heap_alloc2_new _ _ _) Try.underlying32 rfl (by kernel_rfl)) rfl ?_
    refine ⟨rfl, ?_⟩
    exact below_alloc.trans (Below.alloc (Below.refl _ _) (by simp) _)
/-- What may still come. -/
theorem roomP (a : Ac) (w : World) (x y : Int) (hx : a.ms - a.se = x) (hy : a.mx - a.wr = y) (hi : I64 x) (hj : I64 y) : Calls Try.prog 27 #[aV a] w fun e w' => e = .returned (.tuple #[.int .i64 x, .int .i64 y]) ∧ Below w.heap.size w w' := by
  obtain ⟨m1, m2, m3, m4, m5⟩ := a
  simp only at hx hy
  unfold aV aL
  unfold I64 at hi hj
  go_enter Try.func27, Try.ntmps27
  go_wp2_with fail
  go_quiet (fail)
  go_wp2_with fail
  go_ret2
  exact ⟨rfl, below_drewN below_alloc _⟩
def limB (n : Int) : Bool := decide (1 ≤ n ∧ n ≤ 1000000)
theorem isLimitP (n : Int) (w : World) : Calls Try.prog 28 #[.int .i64 n] w fun e w' => e = .returned (.bool (limB n)) ∧ w' = w := by
  obtain ⟨b, hb⟩ : ∃ b, limB n = b := ⟨_, rfl⟩
  rw [hb]
  unfold limB at hb
  by_cases h0 : 1 ≤ n
  · by_cases h2 : n ≤ 1000000
    · have hb2 : b = true := by rw [← hb]; simp [h0, h2]
      subst hb2
      clear hb
      go_enter Try.func28, Try.ntmps28
      go_wp2_with fail
      go_ret
      exact ⟨rfl, rfl⟩
    · have hb2 : b = false := by rw [← hb]; simp [h2]
      subst hb2
      clear hb
      have h2' : 1000000 < n := by omega
      go_enter Try.func28, Try.ntmps28
      go_wp2_with fail
      go_ret
      exact ⟨rfl, rfl⟩
  · have hb2 : b = false := by rw [← hb]; simp [h0]
    subst hb2
    clear hb
    have h0' : n < 1 := by omega
    go_enter Try.func28, Try.ntmps28
    go_wp2_with fail
    go_ret
    exact ⟨rfl, rfl⟩
def bndA (a : Ac) : Ac := ⟨a.ms, a.mx, min (max a.se 0) a.ms, min (max a.wr 0) a.mx, max a.wi 0⟩
set_option maxHeartbeats 2000000 in
theorem boundedE (a : Ac) (w : World) : Calls Try.prog 29 #[aV a] w fun e w' => e = .returned (aV (bndA a)) ∧ w' = (w.alloc (.cells (aL (bndA a)).toArray 32)).alloc (.cells (aL (bndA a)).toArray 32) := by
  obtain ⟨m1, m2, m3, m4, m5⟩ := a
  unfold aV aL
  obtain ⟨B, hB⟩ : ∃ B, bndA ⟨m1, m2, m3, m4, m5⟩ = B := ⟨_, rfl⟩
  rw [hB]
  obtain ⟨b1, b2, b3, b4, b5⟩ := B
  replace hB := hidden hB
  go_enter Try.func29, Try.ntmps29
  go_wp2_with fail
  all_goals
    refine bodyPost_ret (results_cell_row rfl _ _ (w.heap.size + 1) 32 _ (0, 0) _ rfl (heap_alloc2_new _ _ _) Try.underlying32 rfl (by kernel_rfl)) rfl ?_
    have h9 := hB.out
    simp only [bndA, Ac.mk.injEq] at h9
    clear hB
    obtain ⟨g1, g2, g3, g4, g5⟩ := h9
    simp only [Ending.returned.injEq, Value.agg.injEq, Array.mk.injEq, List.cons.injEq, Value.int.injEq, true_and, and_true]
    have k1 : m1 = b1 := by omega
    have k2 : m2 = b2 := by omega
    first | have k3 : 0 = b3 := by omega | have k3 : m1 = b3 := by omega | have k3 : m3 = b3 := by omega
    first | have k4 : 0 = b4 := by omega | have k4 : m2 = b4 := by omega | have k4 : m4 = b4 := by omega
    first | have k5 : 0 = b5 := by omega | have k5 : m5 = b5 := by omega
    refine ⟨by omega, ?_⟩
    clear g1 g2 g3 g4 g5
    subst k1 k2 k3 k4 k5
    rfl
theorem boundedP (a : Ac) (w : World) : Calls Try.prog 29 #[aV a] w fun e w' => e = .returned (aV (bndA a)) ∧ Below w.heap.size w w' :=
  (boundedE a w).mono fun e w' ⟨h1, h2⟩ => ⟨h1, h2 ▸ below_alloc.alloc (by simp) _⟩

end Go.Proofs.Ythkmbodpboplfaa
