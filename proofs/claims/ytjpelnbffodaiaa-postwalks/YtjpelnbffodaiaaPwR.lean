/-
  PostWalks: a region that draws its order.
-/
import Derived.Test.YtjpelnbffodaiaaAnyM
import Derived.Test.YtjpelnbffodaiaaPoB
namespace Go.Proofs.Ytjpelnbffodaiaa
open Go Go.RowKit
set_option linter.unusedVariables false
set_option linter.unusedSimpArgs false

set_option maxRecDepth 100000 in
set_option maxHeartbeats 2000000 in
theorem post_r17 (r6 r7 g j K c6 c7 nx cx cy : Nat) (ay : Option Addr) (w : World) (a0 : Act) (Q : Exit → Act → World → Prop) (hsz : a0.tmps.size = 128)
    (s6 : a0.tmps.getD 6 undef = .slice (some ⟨r6, 0, none⟩) K c6)
    (s13 : a0.tmps.getD 13 undef = .int .i64 (j : Int))
    (s7 : a0.tmps.getD 7 undef = .slice (some ⟨r7, 0, none⟩) K c7)
    (hlt : (j : Int) < (K : Int))
    (h6 : ∀ w1, Lat w w1 → w1.cell? ⟨r6, j, none⟩ = some (.slice (some ⟨g, 0, none⟩) nx cx))
    (h7 : ∀ w1, Lat w w1 → w1.cell? ⟨r7, j, none⟩ = some (.slice ay nx cy))
    (hcall : ∀ w1, Lat w w1 → Calls Try.prog 24 #[.slice (some ⟨g, 0, none⟩) nx cx, .slice ay nx cy] w1 fun e w2 => e = .returned (.bool true) ∧ Lat w1 w2)
    (hQ : ∀ (v59 v60 v61 v62 v63 v64 v65 v66 v67 : Value) (w1 : World), Lat w w1 → Q .normal ((((((((((a0.put (some 59) v59).put (some 60) v60).put (some 61) v61).put (some 62) v62).put (some 63) v63).put (some 64) v64).put (some 65) v65).put (some 66) v66).put (some 67) v67).put (some 14) (.bool true)) w1) :
    Code.wp Try.prog ((Try.f4.body.bind (findRegion 17)).getD .skip) Q a0 w := by
  conv => arg 2; whnf
  refine wp_region_inv Lat (TV [.slice (some ⟨r6, 0, none⟩) K c6, .int .i64 (j : Int), .pointer (some ⟨r6, j, none⟩), .slice (some ⟨g, 0, none⟩) nx cx, .slice (some ⟨r7, 0, none⟩) K c7, .int .i64 (j : Int), .pointer (some ⟨r7, j, none⟩), .slice ay nx cy, .bool true, .bool true]) (by kernel_rfl) (by kernel_rfl) (by kernel_rfl) (by rw [hsz]; kernel_rfl) (by kernel_rfl) Lat.refl Lat.trans (TV.stable _) (Lat.draw w) ?hop ?hdone
  case hdone =>
    intro a w1 hL hS hT
    have k14 : a.tmps.getD 14 undef = .bool true := hT 9 _ rfl _ rfl
    have he := same_puts hS
    have hQ2 := hQ (a.tmps.getD 59 undef) (a.tmps.getD 60 undef) (a.tmps.getD 61 undef) (a.tmps.getD 62 undef) (a.tmps.getD 63 undef) (a.tmps.getD 64 undef) (a.tmps.getD 65 undef) (a.tmps.getD 66 undef) (a.tmps.getD 67 undef) w1 hL
    rw [← k14] at hQ2
    rw [he]
    exact hQ2
  case hop =>
    intro i o hi
    have hlt : i < 10 := (Array.getElem?_eq_some_iff.1 hi).1
    rcases (show i = 0 ∨ i = 1 ∨ i = 2 ∨ i = 3 ∨ i = 4 ∨ i = 5 ∨ i = 6 ∨ i = 7 ∨ i = 8 ∨ i = 9 by omega) with rfl | rfl | rfl | rfl | rfl | rfl | rfl | rfl | rfl | rfl
    · obtain rfl := Option.some.inj hi
      clear hi hlt
      intro a w1 hL hS hD
      have e6 : a.tmps.getD 6 undef = .slice (some ⟨r6, 0, none⟩) K c6 := (hS.slot 6 (by kernel_rfl)).trans s6
      refine step_yes rfl ?_
      exact ok_value Lat.refl (.slice (some ⟨r6, 0, none⟩) K c6) (by simp [execOp, Act.eval, e6, go_sem]) (TV.mk rfl)
    · obtain rfl := Option.some.inj hi
      clear hi hlt
      intro a w1 hL hS hD
      have e13 : a.tmps.getD 13 undef = .int .i64 (j : Int) := (hS.slot 13 (by kernel_rfl)).trans s13
      refine step_yes rfl ?_
      exact ok_value Lat.refl (.int .i64 (j : Int)) (by simp [execOp, Act.eval, e13, go_sem]) (TV.mk rfl)
    · obtain rfl := Option.some.inj hi
      clear hi hlt
      intro a w1 hL hS hD
      have d0 : a.tmps.getD 59 undef = .slice (some ⟨r6, 0, none⟩) K c6 := hD ⟨0, .data⟩ (by simp) rfl _ rfl _ rfl
      have d1 : a.tmps.getD 60 undef = .int .i64 (j : Int) := hD ⟨1, .data⟩ (by simp) rfl _ rfl _ rfl
      refine step_yes rfl ?_
      exact ok_value Lat.refl (.pointer (some ⟨r6, j, none⟩)) (by simp [execOp, Act.eval, d0, d1, hlt, go_sem]) (TV.mk rfl)
    · obtain rfl := Option.some.inj hi
      clear hi hlt
      intro a w1 hL hS hD
      have d2 : a.tmps.getD 61 undef = .pointer (some ⟨r6, j, none⟩) := hD ⟨2, .data⟩ (by simp) rfl _ rfl _ rfl
      refine step_yes rfl ?_
      exact ok_value Lat.refl (.slice (some ⟨g, 0, none⟩) nx cx) (by simp [execOp, Act.eval, d2, h6 w1 hL, go_sem]) (TV.mk rfl)
    · obtain rfl := Option.some.inj hi
      clear hi hlt
      intro a w1 hL hS hD
      have e7 : a.tmps.getD 7 undef = .slice (some ⟨r7, 0, none⟩) K c7 := (hS.slot 7 (by kernel_rfl)).trans s7
      refine step_yes rfl ?_
      exact ok_value Lat.refl (.slice (some ⟨r7, 0, none⟩) K c7) (by simp [execOp, Act.eval, e7, go_sem]) (TV.mk rfl)
    · obtain rfl := Option.some.inj hi
      clear hi hlt
      intro a w1 hL hS hD
      have e13 : a.tmps.getD 13 undef = .int .i64 (j : Int) := (hS.slot 13 (by kernel_rfl)).trans s13
      refine step_yes rfl ?_
      exact ok_value Lat.refl (.int .i64 (j : Int)) (by simp [execOp, Act.eval, e13, go_sem]) (TV.mk rfl)
    · obtain rfl := Option.some.inj hi
      clear hi hlt
      intro a w1 hL hS hD
      have d4 : a.tmps.getD 63 undef = .slice (some ⟨r7, 0, none⟩) K c7 := hD ⟨4, .data⟩ (by simp) rfl _ rfl _ rfl
      have d5 : a.tmps.getD 64 undef = .int .i64 (j : Int) := hD ⟨5, .data⟩ (by simp) rfl _ rfl _ rfl
      refine step_yes rfl ?_
      exact ok_value Lat.refl (.pointer (some ⟨r7, j, none⟩)) (by simp [execOp, Act.eval, d4, d5, hlt, go_sem]) (TV.mk rfl)
    · obtain rfl := Option.some.inj hi
      clear hi hlt
      intro a w1 hL hS hD
      have d6 : a.tmps.getD 65 undef = .pointer (some ⟨r7, j, none⟩) := hD ⟨6, .data⟩ (by simp) rfl _ rfl _ rfl
      refine step_yes rfl ?_
      exact ok_value Lat.refl (.slice ay nx cy) (by simp [execOp, Act.eval, d6, h7 w1 hL, go_sem]) (TV.mk rfl)
    · obtain rfl := Option.some.inj hi
      clear hi hlt
      intro a w1 hL hS hD
      have d3 : a.tmps.getD 62 undef = .slice (some ⟨g, 0, none⟩) nx cx := hD ⟨3, .data⟩ (by simp) rfl _ rfl _ rfl
      have d7 : a.tmps.getD 66 undef = .slice ay nx cy := hD ⟨7, .data⟩ (by simp) rfl _ rfl _ rfl
      refine step_yes rfl ?_
      refine ok_call (f := 24) (args := #[.slice (some ⟨g, 0, none⟩) nx cx, .slice ay nx cy]) (by simp [execOp, resolve, Act.eval, d3, d7, go_sem]) ?_
      refine (hcall w1 hL).mono ?_
      rintro e w2 ⟨rfl, hb⟩
      exact ⟨_, rfl, hb, TV.mk rfl⟩
    · obtain rfl := Option.some.inj hi
      clear hi hlt
      intro a w1 hL hS hD
      have d8 : a.tmps.getD 67 undef = .bool true := hD ⟨8, .data⟩ (by simp) rfl _ rfl _ rfl
      refine step_yes rfl ?_
      exact ok_value Lat.refl (.bool true) (by simp [execOp, Act.eval, d8, go_sem]) (TV.mk rfl)

end Go.Proofs.Ytjpelnbffodaiaa
