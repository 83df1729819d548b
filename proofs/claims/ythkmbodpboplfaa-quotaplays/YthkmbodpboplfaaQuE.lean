/-
  Statements of quota: its examples.
-/
import Derived.Test.YthkmbodpboplfaaQuD
namespace Go.Proofs.Ythkmbodpboplfaa
open Go.RowKit
set_option linter.unusedVariables false
set_option linter.unusedSimpArgs false

def g0 : Gk := fun _ => none
def g1 : Gk := updA g0 ⟨#[97]⟩ (some ⟨2, 10, 0, 0, 0⟩)
def g2 : Gk := updA g1 ⟨#[97]⟩ (some ⟨2, 10, 1, 8, 7⟩)
def g3 : Gk := updA g2 ⟨#[97]⟩ (some ⟨2, 10, 1, 10, 7⟩)
def g4 : Gk := updA g3 ⟨#[97]⟩ none
def g5 : Gk := updA g4 ⟨#[97]⟩ none
theorem ex0 : putA g0 ⟨#[97]⟩ ⟨2, 10, 0, 0, 0⟩ = (0, g1) := by kernel_rfl
theorem ex1 : putA g1 ⟨#[97]⟩ ⟨2, 10, 0, 0, 0⟩ = (163, g1) := by kernel_rfl
theorem ex2 : putA g1 ⟨#[98]⟩ ⟨0, 1, 0, 0, 0⟩ = (152, g1) := by kernel_rfl
theorem ex3 : takeA g1 ⟨#[97]⟩ 7 1 8 = (0, g2) := by kernel_rfl
theorem ex4 : takeA g2 ⟨#[97]⟩ 7 0 3 = (151, g2) := by kernel_rfl
theorem ex5 : takeA g2 ⟨#[97]⟩ 8 2 11 = (150, g2) := by kernel_rfl
theorem ex6 : takeA g2 ⟨#[97]⟩ 5 0 2 = (0, g3) := by kernel_rfl
theorem ex7 : takeA g3 ⟨#[99]⟩ 1 1 1 = (171, g3) := by kernel_rfl
theorem ex8 : roomA (getA g3 ⟨#[97]⟩) 3 = (1, 0) := by kernel_rfl
theorem ex9 : roomA (getA g3 ⟨#[97]⟩) 8 = (1, 10) := by kernel_rfl
theorem ex10 : (g3 ⟨#[97]⟩).isSome = true := by kernel_rfl
theorem ex11 : (g4 ⟨#[97]⟩).isSome = false := by kernel_rfl

set_option maxHeartbeats 4000000 in
theorem shownP (w : World) : Calls Try.prog 6 #[] w fun e w' => e = .returned (.bool true) ∧ Below w.heap.size w w' := by
  have HN := hidden (newP w)
  go_enter Try.func6, Try.ntmps6
  go_wp2_with (refine HN.out.mono ?_; rintro e w0 ⟨p, b, rfl, h0, b0, hp, hb⟩)
  have H0 := hidden h0
  have C0 := hidden (Chg.of_below (F := fun i => i = b) b0)
  clear h0 HN
  have HC := hidden (setP ⟨#[97]⟩ 2 10 p b g0 w0 H0.out)
  rw [ex0] at HC
  go_wp2_with (refine HC.out.mono ?_; clear HC; rintro e w1 ⟨rfl, hk, ck⟩)
  have H1 : Hid (Bk w1 p b g1) := hidden hk
  have C1 := hidden (C0.out.trans ck (fun i _ hi => hi))
  clear hk ck
  have HC := hidden (setP ⟨#[97]⟩ 2 10 p b g1 w1 H1.out)
  rw [ex1] at HC
  go_wp2_with (refine HC.out.mono ?_; clear HC; rintro e w2 ⟨rfl, hk, ck⟩)
  have H2 : Hid (Bk w2 p b g1) := hidden hk
  have C2 := hidden (C1.out.trans ck (fun i _ hi => hi))
  clear hk ck
  have HC := hidden (setP ⟨#[98]⟩ 0 1 p b g1 w2 H2.out)
  rw [ex2] at HC
  go_wp2_with (refine HC.out.mono ?_; clear HC; rintro e w3 ⟨rfl, hk, ck⟩)
  have H3 : Hid (Bk w3 p b g1) := hidden hk
  have C3 := hidden (C2.out.trans ck (fun i _ hi => hi))
  clear hk ck
  have HC := hidden (takeP ⟨#[97]⟩ 7 1 8 p b g1 w3 H3.out (by decide))
  rw [ex3] at HC
  go_wp2_with (refine HC.out.mono ?_; clear HC; rintro e w4 ⟨rfl, hk, ck⟩)
  have H4 : Hid (Bk w4 p b g2) := hidden hk
  have C4 := hidden (C3.out.trans ck (fun i _ hi => hi))
  clear hk ck
  have HC := hidden (takeP ⟨#[97]⟩ 7 0 3 p b g2 w4 H4.out (by decide))
  rw [ex4] at HC
  go_wp2_with (refine HC.out.mono ?_; clear HC; rintro e w5 ⟨rfl, hk, ck⟩)
  have H5 : Hid (Bk w5 p b g2) := hidden hk
  have C5 := hidden (C4.out.trans ck (fun i _ hi => hi))
  clear hk ck
  have HC := hidden (takeP ⟨#[97]⟩ 8 2 11 p b g2 w5 H5.out (by decide))
  rw [ex5] at HC
  go_wp2_with (refine HC.out.mono ?_; clear HC; rintro e w6 ⟨rfl, hk, ck⟩)
  have H6 : Hid (Bk w6 p b g2) := hidden hk
  have C6 := hidden (C5.out.trans ck (fun i _ hi => hi))
  clear hk ck
  have HC := hidden (takeP ⟨#[97]⟩ 5 0 2 p b g2 w6 H6.out (by decide))
  rw [ex6] at HC
  go_wp2_with (refine HC.out.mono ?_; clear HC; rintro e w7 ⟨rfl, hk, ck⟩)
  have H7 : Hid (Bk w7 p b g3) := hidden hk
  have C7 := hidden (C6.out.trans ck (fun i _ hi => hi))
  clear hk ck
  have HC := hidden (takeP ⟨#[99]⟩ 1 1 1 p b g3 w7 H7.out (by decide))
  rw [ex7] at HC
  go_wp2_with (refine HC.out.mono ?_; clear HC; rintro e w8 ⟨rfl, hk, ck⟩)
  have H8 : Hid (Bk w8 p b g3) := hidden hk
  have C8 := hidden (C7.out.trans ck (fun i _ hi => hi))
  clear hk ck
  have HC := hidden (roomBP ⟨#[97]⟩ 3 p b g3 w8 H8.out)
  rw [ex8] at HC
  go_wp2_with (refine HC.out.mono ?_; clear HC; rintro e w9 ⟨rfl, bk⟩)
  have H9 := hidden (H8.out.later bk)
  have C9 := hidden (C8.out.trans (Chg.of_below bk) (fun i _ hi => hi))
  clear bk
  have HC := hidden (roomBP ⟨#[97]⟩ 8 p b g3 w9 H9.out)
  rw [ex9] at HC
  go_wp2_with (refine HC.out.mono ?_; clear HC; rintro e w10 ⟨rfl, bk⟩)
  have H10 := hidden (H9.out.later bk)
  have C10 := hidden (C9.out.trans (Chg.of_below bk) (fun i _ hi => hi))
  clear bk
  have HC := hidden (dropP ⟨#[97]⟩ p b g3 w10 H10.out)
  rw [ex10] at HC
  go_wp2_with (refine HC.out.mono ?_; clear HC; rintro e w11 ⟨rfl, hk, ck⟩)
  have H11 : Hid (Bk w11 p b g4) := hidden hk
  have C11 := hidden (C10.out.trans ck (fun i _ hi => hi))
  clear hk ck
  have HC := hidden (dropP ⟨#[97]⟩ p b g4 w11 H11.out)
  rw [ex11] at HC
  go_wp2_with (refine HC.out.mono ?_; clear HC; rintro e w12 ⟨rfl, hk, ck⟩)
  have H12 : Hid (Bk w12 p b g5) := hidden hk
  have C12 := hidden (C11.out.trans ck (fun i _ hi => hi))
  clear hk ck
  go_ret
  exact ⟨rfl, C12.out.below (Nat.le_refl _) (fun i hi => by omega)⟩

end Go.Proofs.Ythkmbodpboplfaa
