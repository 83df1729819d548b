/-
  FrameTorn: the region that draws its order.
-/
import Derived.Test.YtiaopgphjailiaaGetW
namespace Go.Proofs.Ytiaopgphjailiaa
open Go Go.RowKit
set_option linter.unusedVariables false
set_option linter.unusedSimpArgs false

set_option maxRecDepth 100000 in
set_option maxHeartbeats 2000000 in
theorem torn_r13 (g m cc r : Nat) (j x y B : Int) (w : World) (a0 : Act) (Q : Exit → Act → World → Prop) (hsz : a0.tmps.size = 99)
    (s17 : a0.tmps.getD 17 undef = .slice (some ⟨g, 0, none⟩) m cc)
    (s3 : a0.tmps.getD 3 undef = .int .i64 j)
    (s4 : a0.tmps.getD 4 undef = .int .u8 B)
    (hm0 : ¬ m = 0)
    (hrem : Int.tmod j (m : Int) = (r : Int))
    (hr : (r : Int) < (m : Int))
    (hr2 : r < m)
    (hc : ∀ w1, Lat w w1 → w1.cell? ⟨g, r, none⟩ = some (.int .u8 x))
    (hxy : Go.bits .xor .u8 x B = y)
    (u : Value) (hcell : ∀ w1, Lat w w1 → w1.cell? ⟨g, r, none⟩ = some u) (hfrz : ∀ w1, Lat w w1 → w1.frozen? ⟨g, r, none⟩ = false)
    (hQ : ∀ (v67 v68 v69 v70 v71 v72 v73 v74 v75 v76 v77 v78 v79 v80 v81 : Value) (w1 : World), Lat w w1 → Q .normal (((((((((((((((a0.put (some 67) v67).put (some 68) v68).put (some 69) v69).put (some 70) v70).put (some 71) v71).put (some 72) v72).put (some 73) v73).put (some 74) v74).put (some 75) v75).put (some 76) v76).put (some 77) v77).put (some 78) v78).put (some 79) v79).put (some 80) v80).put (some 81) v81) (w1.setCell ⟨g, r, none⟩ (.int .u8 y))) :
    Code.wp Try.prog ((Try.f7.body.bind (findRegion 13)).getD .skip) Q a0 w := by
  conv => arg 2; whnf
  refine wp_region_last 15 Lat (TV [.slice (some ⟨g, 0, none⟩) m cc, .int .i64 j, .slice (some ⟨g, 0, none⟩) m cc, .int .i64 (m : Int), .int .i64 (r : Int), .slice (some ⟨g, 0, none⟩) m cc, .int .i64 j, .slice (some ⟨g, 0, none⟩) m cc, .int .i64 (m : Int), .int .i64 (r : Int), .pointer (some ⟨g, r, none⟩), .int .u8 x, .int .u8 B, .int .u8 y, .pointer (some ⟨g, r, none⟩)]) (by kernel_rfl) (by kernel_rfl) (by kernel_rfl) (by rw [hsz]; kernel_rfl) (by kernel_rfl) (by kernel_rfl) Lat.refl Lat.trans (TV.stable _) (Lat.draw w) ?hop ?hlast
  case hlast =>
    intro o a w1 ho hL hS hT
    obtain rfl := Option.some.inj ho
    have he := same_puts hS
    have hQ2 := hQ (a.tmps.getD 67 undef) (a.tmps.getD 68 undef) (a.tmps.getD 69 undef) (a.tmps.getD 70 undef) (a.tmps.getD 71 undef) (a.tmps.getD 72 undef) (a.tmps.getD 73 undef) (a.tmps.getD 74 undef) (a.tmps.getD 75 undef) (a.tmps.getD 76 undef) (a.tmps.getD 77 undef) (a.tmps.getD 78 undef) (a.tmps.getD 79 undef) (a.tmps.getD 80 undef) (a.tmps.getD 81 undef) w1 hL
    have dA : a.tmps.getD 81 undef = .pointer (some ⟨g, r, none⟩) := hT 14 _ (by omega) rfl _ rfl
    have dV : a.tmps.getD 80 undef = .int .u8 y := hT 13 _ (by omega) rfl _ rfl
    have hc1 := hcell w1 hL
    have hf1 := hfrz w1 hL
    unfold Oper.wp
    simp [execOp, Act.eval, dA, dV, hc1, hf1, Result.andThen, go_sem]
    show Q .normal a _
    rw [he]
    exact hQ2
  case hop =>
    intro i o hlt hi
    rcases (show i = 0 ∨ i = 1 ∨ i = 2 ∨ i = 3 ∨ i = 4 ∨ i = 5 ∨ i = 6 ∨ i = 7 ∨ i = 8 ∨ i = 9 ∨ i = 10 ∨ i = 11 ∨ i = 12 ∨ i = 13 ∨ i = 14 by omega) with rfl | rfl | rfl | rfl | rfl | rfl | rfl | rfl | rfl | rfl | rfl | rfl | rfl | rfl | rfl
    · obtain rfl := Option.some.inj hi
      clear hi hlt
      intro a w1 hL hS hD
      have e17 : a.tmps.getD 17 undef = .slice (some ⟨g, 0, none⟩) m cc := (hS.slot 17 (by kernel_rfl)).trans s17
      refine step_yes rfl ?_
      exact ok_value Lat.refl (.slice (some ⟨g, 0, none⟩) m cc) (by simp [execOp, Act.eval, e17, go_sem]) (TV.mk rfl)
    · obtain rfl := Option.some.inj hi
      clear hi hlt
      intro a w1 hL hS hD
      have e3 : a.tmps.getD 3 undef = .int .i64 j := (hS.slot 3 (by kernel_rfl)).trans s3
      refine step_yes rfl ?_
      exact ok_value Lat.refl (.int .i64 j) (by simp [execOp, Act.eval, e3, go_sem]) (TV.mk rfl)
    · obtain rfl := Option.some.inj hi
      clear hi hlt
      intro a w1 hL hS hD
      have e17 : a.tmps.getD 17 undef = .slice (some ⟨g, 0, none⟩) m cc := (hS.slot 17 (by kernel_rfl)).trans s17
      refine step_yes rfl ?_
      exact ok_value Lat.refl (.slice (some ⟨g, 0, none⟩) m cc) (by simp [execOp, Act.eval, e17, go_sem]) (TV.mk rfl)
    · obtain rfl := Option.some.inj hi
      clear hi hlt
      intro a w1 hL hS hD
      have d2 : a.tmps.getD 69 undef = .slice (some ⟨g, 0, none⟩) m cc := hD ⟨2, .data⟩ (by simp) rfl _ rfl _ rfl
      refine step_yes rfl ?_
      exact ok_value Lat.refl (.int .i64 (m : Int)) (by simp [execOp, Act.eval, d2, go_sem]) (TV.mk rfl)
    · obtain rfl := Option.some.inj hi
      clear hi hlt
      intro a w1 hL hS hD
      have d1 : a.tmps.getD 68 undef = .int .i64 j := hD ⟨1, .data⟩ (by simp) rfl _ rfl _ rfl
      have d3 : a.tmps.getD 70 undef = .int .i64 (m : Int) := hD ⟨3, .data⟩ (by simp) rfl _ rfl _ rfl
      refine step_yes rfl ?_
      exact ok_value Lat.refl (.int .i64 (r : Int)) (by simp [execOp, Act.eval, d1, d3, hm0, hrem, go_sem]) (TV.mk rfl)
    · obtain rfl := Option.some.inj hi
      clear hi hlt
      intro a w1 hL hS hD
      have e17 : a.tmps.getD 17 undef = .slice (some ⟨g, 0, none⟩) m cc := (hS.slot 17 (by kernel_rfl)).trans s17
      refine step_yes rfl ?_
      exact ok_value Lat.refl (.slice (some ⟨g, 0, none⟩) m cc) (by simp [execOp, Act.eval, e17, go_sem]) (TV.mk rfl)
    · obtain rfl := Option.some.inj hi
      clear hi hlt
      intro a w1 hL hS hD
      have e3 : a.tmps.getD 3 undef = .int .i64 j := (hS.slot 3 (by kernel_rfl)).trans s3
      refine step_yes rfl ?_
      exact ok_value Lat.refl (.int .i64 j) (by simp [execOp, Act.eval, e3, go_sem]) (TV.mk rfl)
    · obtain rfl := Option.some.inj hi
      clear hi hlt
      intro a w1 hL hS hD
      have e17 : a.tmps.getD 17 undef = .slice (some ⟨g, 0, none⟩) m cc := (hS.slot 17 (by kernel_rfl)).trans s17
      refine step_yes rfl ?_
      exact ok_value Lat.refl (.slice (some ⟨g, 0, none⟩) m cc) (by simp [execOp, Act.eval, e17, go_sem]) (TV.mk rfl)
    · obtain rfl := Option.some.inj hi
      clear hi hlt
      intro a w1 hL hS hD
      have d7 : a.tmps.getD 74 undef = .slice (some ⟨g, 0, none⟩) m cc := hD ⟨7, .data⟩ (by simp) rfl _ rfl _ rfl
      refine step_yes rfl ?_
      exact ok_value Lat.refl (.int .i64 (m : Int)) (by simp [execOp, Act.eval, d7, go_sem]) (TV.mk rfl)
    · obtain rfl := Option.some.inj hi
      clear hi hlt
      intro a w1 hL hS hD
      have d6 : a.tmps.getD 73 undef = .int .i64 j := hD ⟨6, .data⟩ (by simp) rfl _ rfl _ rfl
      have d8 : a.tmps.getD 75 undef = .int .i64 (m : Int) := hD ⟨8, .data⟩ (by simp) rfl _ rfl _ rfl
      refine step_yes rfl ?_
      exact ok_value Lat.refl (.int .i64 (r : Int)) (by simp [execOp, Act.eval, d6, d8, hm0, hrem, go_sem]) (TV.mk rfl)
    · obtain rfl := Option.some.inj hi
      clear hi hlt
      intro a w1 hL hS hD
      have d5 : a.tmps.getD 72 undef = .slice (some ⟨g, 0, none⟩) m cc := hD ⟨5, .data⟩ (by simp) rfl _ rfl _ rfl
      have d9 : a.tmps.getD 76 undef = .int .i64 (r : Int) := hD ⟨9, .data⟩ (by simp) rfl _ rfl _ rfl
      refine step_yes rfl ?_
      exact ok_value Lat.refl (.pointer (some ⟨g, r, none⟩)) (by simp [execOp, Act.eval, d5, d9, hr, hr2, go_sem]) (TV.mk rfl)
    · obtain rfl := Option.some.inj hi
      clear hi hlt
      intro a w1 hL hS hD
      have d10 : a.tmps.getD 77 undef = .pointer (some ⟨g, r, none⟩) := hD ⟨10, .data⟩ (by simp) rfl _ rfl _ rfl
      refine step_yes rfl ?_
      exact ok_value Lat.refl (.int .u8 x) (by simp [execOp, Act.eval, d10, hc w1 hL, go_sem]) (TV.mk rfl)
    · obtain rfl := Option.some.inj hi
      clear hi hlt
      intro a w1 hL hS hD
      have e4 : a.tmps.getD 4 undef = .int .u8 B := (hS.slot 4 (by kernel_rfl)).trans s4
      refine step_yes rfl ?_
      exact ok_value Lat.refl (.int .u8 B) (by simp [execOp, Act.eval, e4, go_sem]) (TV.mk rfl)
    · obtain rfl := Option.some.inj hi
      clear hi hlt
      intro a w1 hL hS hD
      have d11 : a.tmps.getD 78 undef = .int .u8 x := hD ⟨11, .data⟩ (by simp) rfl _ rfl _ rfl
      have d12 : a.tmps.getD 79 undef = .int .u8 B := hD ⟨12, .data⟩ (by simp) rfl _ rfl _ rfl
      refine step_yes rfl ?_
      exact ok_value Lat.refl (.int .u8 y) (by simp [execOp, Act.eval, d11, d12, hxy, go_sem]) (TV.mk rfl)
    · obtain rfl := Option.some.inj hi
      clear hi hlt
      intro a w1 hL hS hD
      have d0 : a.tmps.getD 67 undef = .slice (some ⟨g, 0, none⟩) m cc := hD ⟨0, .data⟩ (by simp) rfl _ rfl _ rfl
      have d4 : a.tmps.getD 71 undef = .int .i64 (r : Int) := hD ⟨4, .data⟩ (by simp) rfl _ rfl _ rfl
      refine step_yes rfl ?_
      exact ok_value Lat.refl (.pointer (some ⟨g, r, none⟩)) (by simp [execOp, Act.eval, d0, d4, hr, hr2, go_sem]) (TV.mk rfl)

end Go.Proofs.Ytiaopgphjailiaa
