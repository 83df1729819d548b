/-
  WalLasts: a region that draws its order.
-/
import Derived.Test.YtnfjhdedcnbdbaaWtA
namespace Go.Proofs.Ytnfjhdedcnbdbaa
open Go.RowKit
set_option linter.unusedVariables false
set_option linter.unusedSimpArgs false

set_option maxRecDepth 100000 in
set_option maxHeartbeats 2000000 in
theorem same_r6 (bx ga gb m ca cb i n1 c1 n2 c2 : Nat) (a1 a2 : Option Addr) (S : ByteArray) (w : World) (a0 : Act) (Q : Exit → Act → World → Prop) (hsz : a0.tmps.size = 40)
    (s2 : a0.tmps.getD 2 undef = .slice (some ⟨gb, 0, none⟩) m cb)
    (s7 : a0.tmps.getD 7 undef = .int .i64 (i : Int))
    (s3 : a0.tmps.getD 3 undef = .pointer (some ⟨bx, 0, none⟩))
    (hi : i < m)
    (h0 : ∀ w1, Lat w w1 → w1.cell? ⟨bx, 1, none⟩ = some (.slice (some ⟨ga, 0, none⟩) m ca))
    (h1 : ∀ w1, Lat w w1 → w1.cell? ⟨ga, i, none⟩ = some (.slice a1 n1 c1))
    (h2 : ∀ w1, Lat w w1 → w1.cell? ⟨gb, i, none⟩ = some (.slice a2 n2 c2))
    (e1 : ∀ w1, Lat w w1 → (convert 22 9 (.slice a1 n1 c1)).run Try.prog w1 = .ok (.string S) w1)
    (e2 : ∀ w1, Lat w w1 → (convert 22 9 (.slice a2 n2 c2)).run Try.prog w1 = .ok (.string S) w1)
    (hQ : ∀ (v28 v29 v30 v31 v32 v33 v34 v35 v36 v37 v38 : Value) (w1 : World), Lat w w1 → Q .normal ((((((((((((a0.put (some 28) v28).put (some 29) v29).put (some 30) v30).put (some 31) v31).put (some 32) v32).put (some 33) v33).put (some 34) v34).put (some 35) v35).put (some 36) v36).put (some 37) v37).put (some 38) v38).put (some 39) (.bool false)) w1) :
    Code.wp Try.prog ((Try.f15.body.bind (findRegion 6)).getD .skip) Q a0 w := by
  conv => arg 2; whnf
  refine wp_region_inv Lat (TV [.slice (some ⟨gb, 0, none⟩) m cb, .int .i64 (i : Int), .pointer (some ⟨gb, i, none⟩), .slice a2 n2 c2, .string S, .pointer (some ⟨bx, 1, none⟩), .slice (some ⟨ga, 0, none⟩) m ca, .int .i64 (i : Int), .pointer (some ⟨ga, i, none⟩), .slice a1 n1 c1, .string S, .bool false]) (by kernel_rfl) (by kernel_rfl) (by kernel_rfl) (by rw [hsz]; kernel_rfl) (by kernel_rfl) Lat.refl Lat.trans (TV.stable _) (Lat.draw w) ?hop ?hdone
  case hdone =>
    intro a w1 hL hS hT
    have k39 : a.tmps.getD 39 undef = .bool false := hT 11 _ rfl _ rfl
    have he := same_puts hS
    have hQ2 := hQ (a.tmps.getD 28 undef) (a.tmps.getD 29 undef) (a.tmps.getD 30 undef) (a.tmps.getD 31 undef) (a.tmps.getD 32 undef) (a.tmps.getD 33 undef) (a.tmps.getD 34 undef) (a.tmps.getD 35 undef) (a.tmps.getD 36 undef) (a.tmps.getD 37 undef) (a.tmps.getD 38 undef) w1 hL
    rw [← k39] at hQ2
    rw [he]
    exact hQ2
  case hop =>
    intro i o hi
    have hlt : i < 12 := (Array.getElem?_eq_some_iff.1 hi).1
    rcases (show i = 0 ∨ i = 1 ∨ i = 2 ∨ i = 3 ∨ i = 4 ∨ i = 5 ∨ i = 6 ∨ i = 7 ∨ i = 8 ∨ i = 9 ∨ i = 10 ∨ i = 11 by omega) with rfl | rfl | rfl | rfl | rfl | rfl | rfl | rfl | rfl | rfl | rfl | rfl
    · obtain rfl := Option.some.inj hi
      clear hi hlt
      intro a w1 hL hS hD
      have e2 : a.tmps.getD 2 undef = .slice (some ⟨gb, 0, none⟩) m cb := (hS.slot 2 (by kernel_rfl)).trans s2
      refine step_yes rfl ?_
      exact ok_value Lat.refl (.slice (some ⟨gb, 0, none⟩) m cb) (by simp [execOp, Act.eval, e2, go_sem]) (TV.mk rfl)
    · obtain rfl := Option.some.inj hi
      clear hi hlt
      intro a w1 hL hS hD
      have e7 : a.tmps.getD 7 undef = .int .i64 (i : Int) := (hS.slot 7 (by kernel_rfl)).trans s7
      refine step_yes rfl ?_
      exact ok_value Lat.refl (.int .i64 (i : Int)) (by simp [execOp, Act.eval, e7, go_sem]) (TV.mk rfl)
    · obtain rfl := Option.some.inj hi
      clear hi hlt
      intro a w1 hL hS hD
      have d0 : a.tmps.getD 28 undef = .slice (some ⟨gb, 0, none⟩) m cb := hD ⟨0, .data⟩ (by simp) rfl _ rfl _ rfl
      have d1 : a.tmps.getD 29 undef = .int .i64 (i : Int) := hD ⟨1, .data⟩ (by simp) rfl _ rfl _ rfl
      refine step_yes rfl ?_
      exact ok_value Lat.refl (.pointer (some ⟨gb, i, none⟩)) (by simp [execOp, Act.eval, d0, d1, hi, go_sem]) (TV.mk rfl)
    · obtain rfl := Option.some.inj hi
      clear hi hlt
      intro a w1 hL hS hD
      have d2 : a.tmps.getD 30 undef = .pointer (some ⟨gb, i, none⟩) := hD ⟨2, .data⟩ (by simp) rfl _ rfl _ rfl
      refine step_yes rfl ?_
      exact ok_value Lat.refl (.slice a2 n2 c2) (by simp [execOp, Act.eval, d2, h2 w1 hL, go_sem]) (TV.mk rfl)
    · obtain rfl := Option.some.inj hi
      clear hi hlt
      intro a w1 hL hS hD
      have d3 : a.tmps.getD 31 undef = .slice a2 n2 c2 := hD ⟨3, .data⟩ (by simp) rfl _ rfl _ rfl
      refine step_yes rfl ?_
      exact ok_value Lat.refl (.string S) (by simp [execOp, Act.eval, d3, e2 w1 hL, go_sem]) (TV.mk rfl)
    · obtain rfl := Option.some.inj hi
      clear hi hlt
      intro a w1 hL hS hD
      have e3 : a.tmps.getD 3 undef = .pointer (some ⟨bx, 0, none⟩) := (hS.slot 3 (by kernel_rfl)).trans s3
      refine step_yes rfl ?_
      exact ok_value Lat.refl (.pointer (some ⟨bx, 1, none⟩)) (by simp [execOp, Act.eval, e3, go_sem]) (TV.mk rfl)
    · obtain rfl := Option.some.inj hi
      clear hi hlt
      intro a w1 hL hS hD
      have d5 : a.tmps.getD 33 undef = .pointer (some ⟨bx, 1, none⟩) := hD ⟨5, .data⟩ (by simp) rfl _ rfl _ rfl
      refine step_yes rfl ?_
      exact ok_value Lat.refl (.slice (some ⟨ga, 0, none⟩) m ca) (by simp [execOp, Act.eval, d5, h0 w1 hL, go_sem]) (TV.mk rfl)
    · obtain rfl := Option.some.inj hi
      clear hi hlt
      intro a w1 hL hS hD
      have e7 : a.tmps.getD 7 undef = .int .i64 (i : Int) := (hS.slot 7 (by kernel_rfl)).trans s7
      refine step_yes rfl ?_
      exact ok_value Lat.refl (.int .i64 (i : Int)) (by simp [execOp, Act.eval, e7, go_sem]) (TV.mk rfl)
    · obtain rfl := Option.some.inj hi
      clear hi hlt
      intro a w1 hL hS hD
      have d6 : a.tmps.getD 34 undef = .slice (some ⟨ga, 0, none⟩) m ca := hD ⟨6, .data⟩ (by simp) rfl _ rfl _ rfl
      have d7 : a.tmps.getD 35 undef = .int .i64 (i : Int) := hD ⟨7, .data⟩ (by simp) rfl _ rfl _ rfl
      refine step_yes rfl ?_
      exact ok_value Lat.refl (.pointer (some ⟨ga, i, none⟩)) (by simp [execOp, Act.eval, d6, d7, hi, go_sem]) (TV.mk rfl)
    · obtain rfl := Option.some.inj hi
      clear hi hlt
      intro a w1 hL hS hD
      have d8 : a.tmps.getD 36 undef = .pointer (some ⟨ga, i, none⟩) := hD ⟨8, .data⟩ (by simp) rfl _ rfl _ rfl
      refine step_yes rfl ?_
      exact ok_value Lat.refl (.slice a1 n1 c1) (by simp [execOp, Act.eval, d8, h1 w1 hL, go_sem]) (TV.mk rfl)
    · obtain rfl := Option.some.inj hi
      clear hi hlt
      intro a w1 hL hS hD
      have d9 : a.tmps.getD 37 undef = .slice a1 n1 c1 := hD ⟨9, .data⟩ (by simp) rfl _ rfl _ rfl
      refine step_yes rfl ?_
      exact ok_value Lat.refl (.string S) (by simp [execOp, Act.eval, d9, e1 w1 hL, go_sem]) (TV.mk rfl)
    · obtain rfl := Option.some.inj hi
      clear hi hlt
      intro a w1 hL hS hD
      have d4 : a.tmps.getD 32 undef = .string S := hD ⟨4, .data⟩ (by simp) rfl _ rfl _ rfl
      have d10 : a.tmps.getD 38 undef = .string S := hD ⟨10, .data⟩ (by simp) rfl _ rfl _ rfl
      refine step_yes rfl ?_
      exact ok_value Lat.refl (.bool false) (by simp [execOp, Act.eval, d4, d10, go_sem]) (TV.mk rfl)


end Go.Proofs.Ytnfjhdedcnbdbaa
