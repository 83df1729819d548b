/-
  owned: its region that writes a mark.
-/
import Derived.Test.YtpdffdoogobhfaaDoorLwG
import Derived.Test.YtpdffdoogobhfaaDoorLwA
import Derived.Test.YtpdffdoogobhfaaDoorAnyW
namespace Go.Proofs.YtpdffdoogobhfaaDoor
open Go Go.RowKit
set_option linter.unusedVariables false
set_option linter.unusedSimpArgs false

set_option maxRecDepth 100000 in
set_option maxHeartbeats 2000000 in
theorem owned_r7 (h g n c i k : Nat) (x : Lb) (w : World) (a0 : Act) (Q : Exit → Act → World → Prop) (hsz : a0.tmps.size = 103)
    (s0 : a0.tmps.getD 0 undef = .slice (some ⟨h, 0, none⟩) 3 3)
    (s3 : a0.tmps.getD 3 undef = .int .i64 (i : Int))
    (s4 : a0.tmps.getD 4 undef = .int .i64 (k : Int))
    (hi : (i : Int) < 3) (hiN : i < 3) (hk : (k : Int) < (n : Int)) (hkN : k < n)
    (c0 : ∀ w1, Lat w w1 → w1.cell? ⟨h, i, none⟩ = some (.slice (some ⟨g, 0, none⟩) n c))
    (hcall : ∀ w1, Lat w w1 → Calls Tryd.prog 26 #[.int .i64 (i : Int)] w1 fun e w' => e = .returned (.agg #[.string x.n, .string x.v]) ∧ Below w1.heap.size w1 w')
    (u v : Value) (hc0 : ∀ w1, Lat w w1 → w1.cell? ⟨g, k * 2, none⟩ = some u) (hc1 : ∀ w1, Lat w w1 → w1.cell? ⟨g, k * 2 + 1, none⟩ = some v) (hf0 : ∀ w1, Lat w w1 → w1.frozen? ⟨g, k * 2, none⟩ = false) (hf1 : ∀ w1, Lat w w1 → w1.frozen? ⟨g, k * 2 + 1, none⟩ = false)
    (hQ : ∀ (v26 v27 v28 v29 v30 v31 v32 v33 : Value) (w1 : World), Lat w w1 → Q .normal ((((((((a0.put (some 26) v26).put (some 27) v27).put (some 28) v28).put (some 29) v29).put (some 30) v30).put (some 31) v31).put (some 32) v32).put (some 33) v33) ((w1.setCell ⟨g, k * 2, none⟩ (.string x.n)).setCell ⟨g, k * 2 + 1, none⟩ (.string x.v))) :
    Code.wp Tryd.prog ((Tryd.f13.body.bind (findRegion 7)).getD .skip) Q a0 w := by
  conv => arg 2; whnf
  refine wp_region_last 8 Lat (TV [.slice (some ⟨h, 0, none⟩) 3 3, .int .i64 (i : Int), .pointer (some ⟨h, i, none⟩), .slice (some ⟨g, 0, none⟩) n c, .int .i64 (k : Int), .int .i64 (i : Int), .agg #[.string x.n, .string x.v], .pointer (some ⟨g, k * 2, none⟩)]) (by kernel_rfl) (by kernel_rfl) (by kernel_rfl) (by rw [hsz]; kernel_rfl) (by kernel_rfl) (by kernel_rfl) Lat.refl Lat.trans (TV.stable _) (Lat.draw w) ?hop ?hlast
  case hlast =>
    intro o a w1 ho hL hS hT
    obtain rfl := Option.some.inj ho
    have he := same_puts hS
    have hQ2 := hQ (a.tmps.getD 26 undef) (a.tmps.getD 27 undef) (a.tmps.getD 28 undef) (a.tmps.getD 29 undef) (a.tmps.getD 30 undef) (a.tmps.getD 31 undef) (a.tmps.getD 32 undef) (a.tmps.getD 33 undef) w1 hL
    have dA : a.tmps.getD 33 undef = .pointer (some ⟨g, k * 2, none⟩) := hT 7 _ (by omega) rfl _ rfl
    have dV : a.tmps.getD 32 undef = .agg #[.string x.n, .string x.v] := hT 6 _ (by omega) rfl _ rfl
    have q0 := hc0 w1 hL
    have q1 := hc1 w1 hL
    have q2 := hf0 w1 hL
    have q3 := hf1 w1 hL
    unfold Oper.wp
    simp [execOp, Act.eval, dA, dV, q0, q1, q2, q3, Result.andThen, go_sem]
    show Q .normal a _
    rw [he]
    exact hQ2
  case hop =>
    intro i o hlt hi
    rcases (show i = 0 ∨ i = 1 ∨ i = 2 ∨ i = 3 ∨ i = 4 ∨ i = 5 ∨ i = 6 ∨ i = 7 by omega) with rfl | rfl | rfl | rfl | rfl | rfl | rfl | rfl
    · obtain rfl := Option.some.inj hi
      clear hi hlt
      intro a w1 hL hS hD
      have e0 : a.tmps.getD 0 undef = .slice (some ⟨h, 0, none⟩) 3 3 := (hS.slot 0 (by kernel_rfl)).trans s0
      refine step_yes rfl ?_
      exact ok_value Lat.refl (.slice (some ⟨h, 0, none⟩) 3 3) (by simp [execOp, Act.eval, e0, go_sem]) (TV.mk rfl)
    · obtain rfl := Option.some.inj hi
      clear hi hlt
      intro a w1 hL hS hD
      have e3 : a.tmps.getD 3 undef = .int .i64 (i : Int) := (hS.slot 3 (by kernel_rfl)).trans s3
      refine step_yes rfl ?_
      exact ok_value Lat.refl (.int .i64 (i : Int)) (by simp [execOp, Act.eval, e3, go_sem]) (TV.mk rfl)
    · obtain rfl := Option.some.inj hi
      clear hi hlt
      intro a w1 hL hS hD
      have d0 : a.tmps.getD 26 undef = .slice (some ⟨h, 0, none⟩) 3 3 := hD ⟨0, .data⟩ (by simp) rfl _ rfl _ rfl
      have d1 : a.tmps.getD 27 undef = .int .i64 (i : Int) := hD ⟨1, .data⟩ (by simp) rfl _ rfl _ rfl
      refine step_yes rfl ?_
      exact ok_value Lat.refl (.pointer (some ⟨h, i, none⟩)) (by simp [execOp, Act.eval, d0, d1, hi, hiN, go_sem]) (TV.mk rfl)
    · obtain rfl := Option.some.inj hi
      clear hi hlt
      intro a w1 hL hS hD
      have d2 : a.tmps.getD 28 undef = .pointer (some ⟨h, i, none⟩) := hD ⟨2, .data⟩ (by simp) rfl _ rfl _ rfl
      refine step_yes rfl ?_
      exact ok_value Lat.refl (.slice (some ⟨g, 0, none⟩) n c) (by simp [execOp, Act.eval, d2, c0 w1 hL, go_sem]) (TV.mk rfl)
    · obtain rfl := Option.some.inj hi
      clear hi hlt
      intro a w1 hL hS hD
      have e4 : a.tmps.getD 4 undef = .int .i64 (k : Int) := (hS.slot 4 (by kernel_rfl)).trans s4
      refine step_yes rfl ?_
      exact ok_value Lat.refl (.int .i64 (k : Int)) (by simp [execOp, Act.eval, e4, go_sem]) (TV.mk rfl)
    · obtain rfl := Option.some.inj hi
      clear hi hlt
      intro a w1 hL hS hD
      have e3 : a.tmps.getD 3 undef = .int .i64 (i : Int) := (hS.slot 3 (by kernel_rfl)).trans s3
      refine step_yes rfl ?_
      exact ok_value Lat.refl (.int .i64 (i : Int)) (by simp [execOp, Act.eval, e3, go_sem]) (TV.mk rfl)
    · obtain rfl := Option.some.inj hi
      clear hi hlt
      intro a w1 hL hS hD
      have d5 : a.tmps.getD 31 undef = .int .i64 (i : Int) := hD ⟨5, .data⟩ (by simp) rfl _ rfl _ rfl
      refine step_yes rfl ?_
      refine ok_call (f := 26) (args := #[.int .i64 (i : Int)]) (by simp [execOp, resolve, Act.eval, d5, go_sem]) ?_
      refine (hcall w1 hL).mono ?_
      rintro e w' ⟨rfl, hb⟩
      exact ⟨_, rfl, hb, TV.mk rfl⟩
    · obtain rfl := Option.some.inj hi
      clear hi hlt
      intro a w1 hL hS hD
      have d3 : a.tmps.getD 29 undef = .slice (some ⟨g, 0, none⟩) n c := hD ⟨3, .data⟩ (by simp) rfl _ rfl _ rfl
      have d4 : a.tmps.getD 30 undef = .int .i64 (k : Int) := hD ⟨4, .data⟩ (by simp) rfl _ rfl _ rfl
      refine step_yes rfl ?_
      exact ok_value Lat.refl (.pointer (some ⟨g, k * 2, none⟩)) (by simp [execOp, Act.eval, d3, d4, hk, hkN, go_sem]) (TV.mk rfl)

end Go.Proofs.YtpdffdoogobhfaaDoor
