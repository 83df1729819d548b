/-
  Regions of the document's log that draw their order.
-/
import Derived.Test.YtnfjhdedcnbdbaaGreatWaC
import Derived.Test.YtnfjhdedcnbdbaaGreatFrP
namespace Go.Proofs.YtnfjhdedcnbdbaaGreat
open Go.RowKit
set_option linter.unusedVariables false
set_option linter.unusedSimpArgs false

set_option maxRecDepth 100000 in
set_option maxHeartbeats 2000000 in
theorem rdead_r1_ne (lp p x y : Nat) (w : World) (a0 : Act) (Q : Exit → Act → World → Prop) (hsz : a0.tmps.size = 15)
    (s0 : a0.tmps.getD 0 undef = .pointer (some ⟨lp, 0, none⟩))
    (hA : ∀ w1, Lat w w1 → w1.cell? ⟨lp, 0, none⟩ = some (.pointer (some ⟨p, 0, none⟩)))
    (hX : ∀ w1, Lat w w1 → w1.cell? ⟨p, 2, none⟩ = some (.int .i64 (x : Int)))
    (hB : ∀ w1, Lat w w1 → w1.cell? ⟨lp, 1, none⟩ = some (.int .i64 (y : Int)))
    (hxy : ¬ (x : Int) = (y : Int))
    (hQ : ∀ (v3 v4 v5 v6 v7 v8 v9 v10 v11 v12 v13 v14 : Value) (w1 : World), Lat w w1 → Q .normal (((((((((((((a0.put (some 3) v3).put (some 4) v4).put (some 5) v5).put (some 6) v6).put (some 7) v7).put (some 8) v8).put (some 9) v9).put (some 10) v10).put (some 11) v11).put (some 12) v12).put (some 13) v13).put (some 14) v14).put (some 2) (.bool true)) w1) :
    Code.wp Tryz.prog ((Tryz.f56.body.bind (findRegion 1)).getD .skip) Q a0 w := by
  conv => arg 2; whnf
  refine wp_region_inv Lat (TV [.pointer (some ⟨lp, 0, none⟩), .pointer (some ⟨lp, 0, none⟩), .pointer (some ⟨lp, 0, none⟩), .pointer (some ⟨p, 0, none⟩), .pointer (some ⟨p, 0, none⟩), .pointer (some ⟨p, 2, none⟩), .int .i64 (x : Int), .pointer (some ⟨lp, 0, none⟩), .pointer (some ⟨lp, 0, none⟩), .pointer (some ⟨lp, 1, none⟩), .int .i64 (y : Int), .bool true, .bool true]) (by kernel_rfl) (by kernel_rfl) (by kernel_rfl) (by rw [hsz]; kernel_rfl) (by kernel_rfl) Lat.refl Lat.trans (TV.stable _) (Lat.draw w) ?hop ?hdone
  case hdone =>
    intro a w1 hL hS hT
    have k2 : a.tmps.getD 2 undef = .bool true := hT 12 _ rfl _ rfl
    have he := same_puts hS
    have hQ2 := hQ (a.tmps.getD 3 undef) (a.tmps.getD 4 undef) (a.tmps.getD 5 undef) (a.tmps.getD 6 undef) (a.tmps.getD 7 undef) (a.tmps.getD 8 undef) (a.tmps.getD 9 undef) (a.tmps.getD 10 undef) (a.tmps.getD 11 undef) (a.tmps.getD 12 undef) (a.tmps.getD 13 undef) (a.tmps.getD 14 undef) w1 hL
    rw [← k2] at hQ2
    rw [he]
    exact hQ2
  case hop =>
    intro i o hi
    have hlt : i < 13 := (Array.getElem?_eq_some_iff.1 hi).1
    rcases (show i = 0 ∨ i = 1 ∨ i = 2 ∨ i = 3 ∨ i = 4 ∨ i = 5 ∨ i = 6 ∨ i = 7 ∨ i = 8 ∨ i = 9 ∨ i = 10 ∨ i = 11 ∨ i = 12 by omega) with rfl | rfl | rfl | rfl | rfl | rfl | rfl | rfl | rfl | rfl | rfl | rfl | rfl
    · obtain rfl := Option.some.inj hi
      clear hi hlt
      intro a w1 hL hS hD
      have e0 : a.tmps.getD 0 undef = .pointer (some ⟨lp, 0, none⟩) := (hS.slot 0 (by kernel_rfl)).trans s0
      refine step_yes rfl ?_
      exact ok_value Lat.refl (.pointer (some ⟨lp, 0, none⟩)) (by simp [execOp, Act.eval, e0, go_sem]) (TV.mk rfl)
    · obtain rfl := Option.some.inj hi
      clear hi hlt
      intro a w1 hL hS hD
      have d0 : a.tmps.getD 3 undef = .pointer (some ⟨lp, 0, none⟩) := hD ⟨0, .data⟩ (by simp) rfl _ rfl _ rfl
      refine step_yes rfl ?_
      exact ok_value Lat.refl (.pointer (some ⟨lp, 0, none⟩)) (by simp [execOp, Act.eval, d0, go_sem]) (TV.mk rfl)
    · obtain rfl := Option.some.inj hi
      clear hi hlt
      intro a w1 hL hS hD
      have d1 : a.tmps.getD 4 undef = .pointer (some ⟨lp, 0, none⟩) := hD ⟨1, .data⟩ (by simp) rfl _ rfl _ rfl
      refine step_yes rfl ?_
      exact ok_value Lat.refl (.pointer (some ⟨lp, 0, none⟩)) (by simp [execOp, Act.eval, d1, go_sem]) (TV.mk rfl)
    · obtain rfl := Option.some.inj hi
      clear hi hlt
      intro a w1 hL hS hD
      have d2 : a.tmps.getD 5 undef = .pointer (some ⟨lp, 0, none⟩) := hD ⟨2, .data⟩ (by simp) rfl _ rfl _ rfl
      refine step_yes rfl ?_
      exact ok_value Lat.refl (.pointer (some ⟨p, 0, none⟩)) (by simp [execOp, Act.eval, d2, hA w1 hL, go_sem]) (TV.mk rfl)
    · obtain rfl := Option.some.inj hi
      clear hi hlt
      intro a w1 hL hS hD
      have d3 : a.tmps.getD 6 undef = .pointer (some ⟨p, 0, none⟩) := hD ⟨3, .data⟩ (by simp) rfl _ rfl _ rfl
      refine step_yes rfl ?_
      exact ok_value Lat.refl (.pointer (some ⟨p, 0, none⟩)) (by simp [execOp, Act.eval, d3, go_sem]) (TV.mk rfl)
    · obtain rfl := Option.some.inj hi
      clear hi hlt
      intro a w1 hL hS hD
      have d4 : a.tmps.getD 7 undef = .pointer (some ⟨p, 0, none⟩) := hD ⟨4, .data⟩ (by simp) rfl _ rfl _ rfl
      refine step_yes rfl ?_
      exact ok_value Lat.refl (.pointer (some ⟨p, 2, none⟩)) (by simp [execOp, Act.eval, d4, go_sem]) (TV.mk rfl)
    · obtain rfl := Option.some.inj hi
      clear hi hlt
      intro a w1 hL hS hD
      have d5 : a.tmps.getD 8 undef = .pointer (some ⟨p, 2, none⟩) := hD ⟨5, .data⟩ (by simp) rfl _ rfl _ rfl
      refine step_yes rfl ?_
      exact ok_value Lat.refl (.int .i64 (x : Int)) (by simp [execOp, Act.eval, d5, hX w1 hL, go_sem]) (TV.mk rfl)
    · obtain rfl := Option.some.inj hi
      clear hi hlt
      intro a w1 hL hS hD
      have e0 : a.tmps.getD 0 undef = .pointer (some ⟨lp, 0, none⟩) := (hS.slot 0 (by kernel_rfl)).trans s0
      refine step_yes rfl ?_
      exact ok_value Lat.refl (.pointer (some ⟨lp, 0, none⟩)) (by simp [execOp, Act.eval, e0, go_sem]) (TV.mk rfl)
    · obtain rfl := Option.some.inj hi
      clear hi hlt
      intro a w1 hL hS hD
      have d7 : a.tmps.getD 10 undef = .pointer (some ⟨lp, 0, none⟩) := hD ⟨7, .data⟩ (by simp) rfl _ rfl _ rfl
      refine step_yes rfl ?_
      exact ok_value Lat.refl (.pointer (some ⟨lp, 0, none⟩)) (by simp [execOp, Act.eval, d7, go_sem]) (TV.mk rfl)
    · obtain rfl := Option.some.inj hi
      clear hi hlt
      intro a w1 hL hS hD
      have d8 : a.tmps.getD 11 undef = .pointer (some ⟨lp, 0, none⟩) := hD ⟨8, .data⟩ (by simp) rfl _ rfl _ rfl
      refine step_yes rfl ?_
      exact ok_value Lat.refl (.pointer (some ⟨lp, 1, none⟩)) (by simp [execOp, Act.eval, d8, go_sem]) (TV.mk rfl)
    · obtain rfl := Option.some.inj hi
      clear hi hlt
      intro a w1 hL hS hD
      have d9 : a.tmps.getD 12 undef = .pointer (some ⟨lp, 1, none⟩) := hD ⟨9, .data⟩ (by simp) rfl _ rfl _ rfl
      refine step_yes rfl ?_
      exact ok_value Lat.refl (.int .i64 (y : Int)) (by simp [execOp, Act.eval, d9, hB w1 hL, go_sem]) (TV.mk rfl)
    · obtain rfl := Option.some.inj hi
      clear hi hlt
      intro a w1 hL hS hD
      have d6 : a.tmps.getD 9 undef = .int .i64 (x : Int) := hD ⟨6, .data⟩ (by simp) rfl _ rfl _ rfl
      have d10 : a.tmps.getD 13 undef = .int .i64 (y : Int) := hD ⟨10, .data⟩ (by simp) rfl _ rfl _ rfl
      refine step_yes rfl ?_
      exact ok_value Lat.refl (.bool true) (by simp [execOp, Act.eval, d6, d10, hxy, go_sem]) (TV.mk rfl)
    · obtain rfl := Option.some.inj hi
      clear hi hlt
      intro a w1 hL hS hD
      have d11 : a.tmps.getD 14 undef = .bool true := hD ⟨11, .data⟩ (by simp) rfl _ rfl _ rfl
      refine step_yes rfl ?_
      exact ok_value Lat.refl (.bool true) (by simp [execOp, Act.eval, d11, go_sem]) (TV.mk rfl)

set_option maxRecDepth 100000 in
set_option maxHeartbeats 2000000 in
theorem rdead_r1_eq (lp p x y : Nat) (w : World) (a0 : Act) (Q : Exit → Act → World → Prop) (hsz : a0.tmps.size = 15)
    (s0 : a0.tmps.getD 0 undef = .pointer (some ⟨lp, 0, none⟩))
    (hA : ∀ w1, Lat w w1 → w1.cell? ⟨lp, 0, none⟩ = some (.pointer (some ⟨p, 0, none⟩)))
    (hX : ∀ w1, Lat w w1 → w1.cell? ⟨p, 2, none⟩ = some (.int .i64 (x : Int)))
    (hB : ∀ w1, Lat w w1 → w1.cell? ⟨lp, 1, none⟩ = some (.int .i64 (y : Int)))
    (hxy : (x : Int) = (y : Int))
    (hQ : ∀ (v3 v4 v5 v6 v7 v8 v9 v10 v11 v12 v13 v14 : Value) (w1 : World), Lat w w1 → Q .normal (((((((((((((a0.put (some 3) v3).put (some 4) v4).put (some 5) v5).put (some 6) v6).put (some 7) v7).put (some 8) v8).put (some 9) v9).put (some 10) v10).put (some 11) v11).put (some 12) v12).put (some 13) v13).put (some 14) v14).put (some 2) (.bool false)) w1) :
    Code.wp Tryz.prog ((Tryz.f56.body.bind (findRegion 1)).getD .skip) Q a0 w := by
  conv => arg 2; whnf
  refine wp_region_inv Lat (TV [.pointer (some ⟨lp, 0, none⟩), .pointer (some ⟨lp, 0, none⟩), .pointer (some ⟨lp, 0, none⟩), .pointer (some ⟨p, 0, none⟩), .pointer (some ⟨p, 0, none⟩), .pointer (some ⟨p, 2, none⟩), .int .i64 (x : Int), .pointer (some ⟨lp, 0, none⟩), .pointer (some ⟨lp, 0, none⟩), .pointer (some ⟨lp, 1, none⟩), .int .i64 (y : Int), .bool false, .bool false]) (by kernel_rfl) (by kernel_rfl) (by kernel_rfl) (by rw [hsz]; kernel_rfl) (by kernel_rfl) Lat.refl Lat.trans (TV.stable _) (Lat.draw w) ?hop ?hdone
  case hdone =>
    intro a w1 hL hS hT
    have k2 : a.tmps.getD 2 undef = .bool false := hT 12 _ rfl _ rfl
    have he := same_puts hS
    have hQ2 := hQ (a.tmps.getD 3 undef) (a.tmps.getD 4 undef) (a.tmps.getD 5 undef) (a.tmps.getD 6 undef) (a.tmps.getD 7 undef) (a.tmps.getD 8 undef) (a.tmps.getD 9 undef) (a.tmps.getD 10 undef) (a.tmps.getD 11 undef) (a.tmps.getD 12 undef) (a.tmps.getD 13 undef) (a.tmps.getD 14 undef) w1 hL
    rw [← k2] at hQ2
    rw [he]
    exact hQ2
  case hop =>
    intro i o hi
    have hlt : i < 13 := (Array.getElem?_eq_some_iff.1 hi).1
    rcases (show i = 0 ∨ i = 1 ∨ i = 2 ∨ i = 3 ∨ i = 4 ∨ i = 5 ∨ i = 6 ∨ i = 7 ∨ i = 8 ∨ i = 9 ∨ i = 10 ∨ i = 11 ∨ i = 12 by omega) with rfl | rfl | rfl | rfl | rfl | rfl | rfl | rfl | rfl | rfl | rfl | rfl | rfl
    · obtain rfl := Option.some.inj hi
      clear hi hlt
      intro a w1 hL hS hD
      have e0 : a.tmps.getD 0 undef = .pointer (some ⟨lp, 0, none⟩) := (hS.slot 0 (by kernel_rfl)).trans s0
      refine step_yes rfl ?_
      exact ok_value Lat.refl (.pointer (some ⟨lp, 0, none⟩)) (by simp [execOp, Act.eval, e0, go_sem]) (TV.mk rfl)
    · obtain rfl := Option.some.inj hi
      clear hi hlt
      intro a w1 hL hS hD
      have d0 : a.tmps.getD 3 undef = .pointer (some ⟨lp, 0, none⟩) := hD ⟨0, .data⟩ (by simp) rfl _ rfl _ rfl
      refine step_yes rfl ?_
      exact ok_value Lat.refl (.pointer (some ⟨lp, 0, none⟩)) (by simp [execOp, Act.eval, d0, go_sem]) (TV.mk rfl)
    · obtain rfl := Option.some.inj hi
      clear hi hlt
      intro a w1 hL hS hD
      have d1 : a.tmps.getD 4 undef = .pointer (some ⟨lp, 0, none⟩) := hD ⟨1, .data⟩ (by simp) rfl _ rfl _ rfl
      refine step_yes rfl ?_
      exact ok_value Lat.refl (.pointer (some ⟨lp, 0, none⟩)) (by simp [execOp, Act.eval, d1, go_sem]) (TV.mk rfl)
    · obtain rfl := Option.some.inj hi
      clear hi hlt
      intro a w1 hL hS hD
      have d2 : a.tmps.getD 5 undef = .pointer (some ⟨lp, 0, none⟩) := hD ⟨2, .data⟩ (by simp) rfl _ rfl _ rfl
      refine step_yes rfl ?_
      exact ok_value Lat.refl (.pointer (some ⟨p, 0, none⟩)) (by simp [execOp, Act.eval, d2, hA w1 hL, go_sem]) (TV.mk rfl)
    · obtain rfl := Option.some.inj hi
      clear hi hlt
      intro a w1 hL hS hD
      have d3 : a.tmps.getD 6 undef = .pointer (some ⟨p, 0, none⟩) := hD ⟨3, .data⟩ (by simp) rfl _ rfl _ rfl
      refine step_yes rfl ?_
      exact ok_value Lat.refl (.pointer (some ⟨p, 0, none⟩)) (by simp [execOp, Act.eval, d3, go_sem]) (TV.mk rfl)
    · obtain rfl := Option.some.inj hi
      clear hi hlt
      intro a w1 hL hS hD
      have d4 : a.tmps.getD 7 undef = .pointer (some ⟨p, 0, none⟩) := hD ⟨4, .data⟩ (by simp) rfl _ rfl _ rfl
      refine step_yes rfl ?_
      exact ok_value Lat.refl (.pointer (some ⟨p, 2, none⟩)) (by simp [execOp, Act.eval, d4, go_sem]) (TV.mk rfl)
    · obtain rfl := Option.some.inj hi
      clear hi hlt
      intro a w1 hL hS hD
      have d5 : a.tmps.getD 8 undef = .pointer (some ⟨p, 2, none⟩) := hD ⟨5, .data⟩ (by simp) rfl _ rfl _ rfl
      refine step_yes rfl ?_
      exact ok_value Lat.refl (.int .i64 (x : Int)) (by simp [execOp, Act.eval, d5, hX w1 hL, go_sem]) (TV.mk rfl)
    · obtain rfl := Option.some.inj hi
      clear hi hlt
      intro a w1 hL hS hD
      have e0 : a.tmps.getD 0 undef = .pointer (some ⟨lp, 0, none⟩) := (hS.slot 0 (by kernel_rfl)).trans s0
      refine step_yes rfl ?_
      exact ok_value Lat.refl (.pointer (some ⟨lp, 0, none⟩)) (by simp [execOp, Act.eval, e0, go_sem]) (TV.mk rfl)
    · obtain rfl := Option.some.inj hi
      clear hi hlt
      intro a w1 hL hS hD
      have d7 : a.tmps.getD 10 undef = .pointer (some ⟨lp, 0, none⟩) := hD ⟨7, .data⟩ (by simp) rfl _ rfl _ rfl
      refine step_yes rfl ?_
      exact ok_value Lat.refl (.pointer (some ⟨lp, 0, none⟩)) (by simp [execOp, Act.eval, d7, go_sem]) (TV.mk rfl)
    · obtain rfl := Option.some.inj hi
      clear hi hlt
      intro a w1 hL hS hD
      have d8 : a.tmps.getD 11 undef = .pointer (some ⟨lp, 0, none⟩) := hD ⟨8, .data⟩ (by simp) rfl _ rfl _ rfl
      refine step_yes rfl ?_
      exact ok_value Lat.refl (.pointer (some ⟨lp, 1, none⟩)) (by simp [execOp, Act.eval, d8, go_sem]) (TV.mk rfl)
    · obtain rfl := Option.some.inj hi
      clear hi hlt
      intro a w1 hL hS hD
      have d9 : a.tmps.getD 12 undef = .pointer (some ⟨lp, 1, none⟩) := hD ⟨9, .data⟩ (by simp) rfl _ rfl _ rfl
      refine step_yes rfl ?_
      exact ok_value Lat.refl (.int .i64 (y : Int)) (by simp [execOp, Act.eval, d9, hB w1 hL, go_sem]) (TV.mk rfl)
    · obtain rfl := Option.some.inj hi
      clear hi hlt
      intro a w1 hL hS hD
      have d6 : a.tmps.getD 9 undef = .int .i64 (x : Int) := hD ⟨6, .data⟩ (by simp) rfl _ rfl _ rfl
      have d10 : a.tmps.getD 13 undef = .int .i64 (y : Int) := hD ⟨10, .data⟩ (by simp) rfl _ rfl _ rfl
      refine step_yes rfl ?_
      exact ok_value Lat.refl (.bool false) (by simp [execOp, Act.eval, d6, d10, hxy, go_sem]) (TV.mk rfl)
    · obtain rfl := Option.some.inj hi
      clear hi hlt
      intro a w1 hL hS hD
      have d11 : a.tmps.getD 14 undef = .bool false := hD ⟨11, .data⟩ (by simp) rfl _ rfl _ rfl
      refine step_yes rfl ?_
      exact ok_value Lat.refl (.bool false) (by simp [execOp, Act.eval, d11, go_sem]) (TV.mk rfl)

set_option maxRecDepth 100000 in
set_option maxHeartbeats 2000000 in
theorem rbytes_r4 (lp p v : Nat) (z : Int) (w : World) (a0 : Act) (Q : Exit → Act → World → Prop) (hsz : a0.tmps.size = 16)
    (s0 : a0.tmps.getD 0 undef = .pointer (some ⟨lp, 0, none⟩))
    (hA : ∀ w1, Lat w w1 → w1.cell? ⟨lp, 0, none⟩ = some (.pointer (some ⟨p, 0, none⟩)))
    (hV : ∀ w1, Lat w w1 → w1.cell? ⟨lp, 2, none⟩ = some (.int .i64 (v : Int)))
    (k1 : ∀ w1, Lat w w1 → Calls Tryz.prog 51 #[.pointer (some ⟨p, 0, none⟩), .int .i64 (v : Int)] w1 fun e w2 => e = .returned (.int .i64 z) ∧ Lat w1 w2)
    (hQ : ∀ (v7 v8 v9 v10 v11 v12 v13 v14 v15 : Value) (w1 : World), Lat w w1 → Q .normal ((((((((((a0.put (some 7) v7).put (some 8) v8).put (some 9) v9).put (some 10) v10).put (some 11) v11).put (some 12) v12).put (some 13) v13).put (some 14) v14).put (some 15) v15).put (some 2) (.int .i64 z)) w1) :
    Code.wp Tryz.prog ((Tryz.f72.body.bind (findRegion 4)).getD .skip) Q a0 w := by
  conv => arg 2; whnf
  refine wp_region_inv Lat (TV [.pointer (some ⟨lp, 0, none⟩), .pointer (some ⟨lp, 0, none⟩), .pointer (some ⟨lp, 0, none⟩), .pointer (some ⟨p, 0, none⟩), .pointer (some ⟨lp, 0, none⟩), .pointer (some ⟨lp, 0, none⟩), .pointer (some ⟨lp, 2, none⟩), .int .i64 (v : Int), .int .i64 z, .int .i64 z]) (by kernel_rfl) (by kernel_rfl) (by kernel_rfl) (by rw [hsz]; kernel_rfl) (by kernel_rfl) Lat.refl Lat.trans (TV.stable _) (Lat.draw w) ?hop ?hdone
  case hdone =>
    intro a w1 hL hS hT
    have k2 : a.tmps.getD 2 undef = .int .i64 z := hT 9 _ rfl _ rfl
    have he := same_puts hS
    have hQ2 := hQ (a.tmps.getD 7 undef) (a.tmps.getD 8 undef) (a.tmps.getD 9 undef) (a.tmps.getD 10 undef) (a.tmps.getD 11 undef) (a.tmps.getD 12 undef) (a.tmps.getD 13 undef) (a.tmps.getD 14 undef) (a.tmps.getD 15 undef) w1 hL
    rw [← k2] at hQ2
    rw [he]
    exact hQ2
  case hop =>
    intro i o hi
    have hlt : i < 10 := (Array.getElem?_eq_some_iff.1 hi).1
    rcases (show i = 0 ∨ i = 1 ∨ i = 2 ∨ i = 3 ∨ i = 4 ∨ i = 5 ∨ i = 6 ∨ i = 7 ∨ i = 8 ∨ i = 9 by omega) with rfl | rfl | rfl | rfl | rfl | rfl | rfl | rfl | rfl | rfl
    · obtain rfl := Option.some.inj hi
      clear hi hlt
      intro a w1 hL hS hD
      have e0 : a.tmps.getD 0 undef = .pointer (some ⟨lp, 0, none⟩) := (hS.slot 0 (by kernel_rfl)).trans s0
      refine step_yes rfl ?_
      exact ok_value Lat.refl (.pointer (some ⟨lp, 0, none⟩)) (by simp [execOp, Act.eval, e0, go_sem]) (TV.mk rfl)
    · obtain rfl := Option.some.inj hi
      clear hi hlt
      intro a w1 hL hS hD
      have d0 : a.tmps.getD 7 undef = .pointer (some ⟨lp, 0, none⟩) := hD ⟨0, .data⟩ (by simp) rfl _ rfl _ rfl
      refine step_yes rfl ?_
      exact ok_value Lat.refl (.pointer (some ⟨lp, 0, none⟩)) (by simp [execOp, Act.eval, d0, go_sem]) (TV.mk rfl)
    · obtain rfl := Option.some.inj hi
      clear hi hlt
      intro a w1 hL hS hD
      have d1 : a.tmps.getD 8 undef = .pointer (some ⟨lp, 0, none⟩) := hD ⟨1, .data⟩ (by simp) rfl _ rfl _ rfl
      refine step_yes rfl ?_
      exact ok_value Lat.refl (.pointer (some ⟨lp, 0, none⟩)) (by simp [execOp, Act.eval, d1, go_sem]) (TV.mk rfl)
    · obtain rfl := Option.some.inj hi
      clear hi hlt
      intro a w1 hL hS hD
      have d2 : a.tmps.getD 9 undef = .pointer (some ⟨lp, 0, none⟩) := hD ⟨2, .data⟩ (by simp) rfl _ rfl _ rfl
      refine step_yes rfl ?_
      exact ok_value Lat.refl (.pointer (some ⟨p, 0, none⟩)) (by simp [execOp, Act.eval, d2, hA w1 hL, go_sem]) (TV.mk rfl)
    · obtain rfl := Option.some.inj hi
      clear hi hlt
      intro a w1 hL hS hD
      have e0 : a.tmps.getD 0 undef = .pointer (some ⟨lp, 0, none⟩) := (hS.slot 0 (by kernel_rfl)).trans s0
      refine step_yes rfl ?_
      exact ok_value Lat.refl (.pointer (some ⟨lp, 0, none⟩)) (by simp [execOp, Act.eval, e0, go_sem]) (TV.mk rfl)
    · obtain rfl := Option.some.inj hi
      clear hi hlt
      intro a w1 hL hS hD
      have d4 : a.tmps.getD 11 undef = .pointer (some ⟨lp, 0, none⟩) := hD ⟨4, .data⟩ (by simp) rfl _ rfl _ rfl
      refine step_yes rfl ?_
      exact ok_value Lat.refl (.pointer (some ⟨lp, 0, none⟩)) (by simp [execOp, Act.eval, d4, go_sem]) (TV.mk rfl)
    · obtain rfl := Option.some.inj hi
      clear hi hlt
      intro a w1 hL hS hD
      have d5 : a.tmps.getD 12 undef = .pointer (some ⟨lp, 0, none⟩) := hD ⟨5, .data⟩ (by simp) rfl _ rfl _ rfl
      refine step_yes rfl ?_
      exact ok_value Lat.refl (.pointer (some ⟨lp, 2, none⟩)) (by simp [execOp, Act.eval, d5, go_sem]) (TV.mk rfl)
    · obtain rfl := Option.some.inj hi
      clear hi hlt
      intro a w1 hL hS hD
      have d6 : a.tmps.getD 13 undef = .pointer (some ⟨lp, 2, none⟩) := hD ⟨6, .data⟩ (by simp) rfl _ rfl _ rfl
      refine step_yes rfl ?_
      exact ok_value Lat.refl (.int .i64 (v : Int)) (by simp [execOp, Act.eval, d6, hV w1 hL, go_sem]) (TV.mk rfl)
    · obtain rfl := Option.some.inj hi
      clear hi hlt
      intro a w1 hL hS hD
      have d3 : a.tmps.getD 10 undef = .pointer (some ⟨p, 0, none⟩) := hD ⟨3, .data⟩ (by simp) rfl _ rfl _ rfl
      have d7 : a.tmps.getD 14 undef = .int .i64 (v : Int) := hD ⟨7, .data⟩ (by simp) rfl _ rfl _ rfl
      refine step_yes rfl ?_
      refine ok_call (f := 51) (args := #[.pointer (some ⟨p, 0, none⟩), .int .i64 (v : Int)]) (by simp [execOp, resolve, Act.eval, d3, d7, go_sem]) ?_
      refine (k1 w1 hL).mono ?_
      rintro e w2 ⟨rfl, hb⟩
      exact ⟨_, rfl, hb, TV.mk rfl⟩
    · obtain rfl := Option.some.inj hi
      clear hi hlt
      intro a w1 hL hS hD
      have d8 : a.tmps.getD 15 undef = .int .i64 z := hD ⟨8, .data⟩ (by simp) rfl _ rfl _ rfl
      refine step_yes rfl ?_
      exact ok_value Lat.refl (.int .i64 z) (by simp [execOp, Act.eval, d8, go_sem]) (TV.mk rfl)

set_option maxRecDepth 100000 in
set_option maxHeartbeats 2000000 in
theorem rfits_no (lp : Nat) (y n c : Int) (w : World) (a0 : Act) (Q : Exit → Act → World → Prop) (hsz : a0.tmps.size = 24)
    (s0 : a0.tmps.getD 0 undef = .pointer (some ⟨lp, 0, none⟩))
    (s1 : a0.tmps.getD 1 undef = .int .i64 n)
    (hz : ¬ 0 ≤ n)
    (hQ : ∀ (v5 v6 v7 v8 v9 v10 v11 v12 v13 v14 v15 v16 v17 v18 v19 v20 v21 v22 v23 : Value) (w1 : World), Lat w w1 → Q .normal ((((((((((((((((((((a0.put (some 5) v5).put (some 6) v6).put (some 7) v7).put (some 8) v8).put (some 9) v9).put (some 10) v10).put (some 11) v11).put (some 12) v12).put (some 13) v13).put (some 14) v14).put (some 15) v15).put (some 16) v16).put (some 17) v17).put (some 18) v18).put (some 19) v19).put (some 20) v20).put (some 21) v21).put (some 22) v22).put (some 23) v23).put (some 4) (.bool false)) w1) :
    Code.wp Tryz.prog ((Tryz.f57.body.bind (findRegion 1)).getD .skip) Q a0 w := by
  conv => arg 2; whnf
  refine wp_region_inv Lat (TV [.int .i64 n, .bool false, .bool false, undef, undef, .bool false, .bool false, undef, undef, undef, undef, undef, undef, undef, undef, undef, undef, undef, .bool false, .bool false]) (by kernel_rfl) (by kernel_rfl) (by kernel_rfl) (by rw [hsz]; kernel_rfl) (by kernel_rfl) Lat.refl Lat.trans (TV.stable _) (Lat.draw w) ?hop ?hdone
  case hdone =>
    intro a w1 hL hS hT
    have k4 : a.tmps.getD 4 undef = .bool false := hT 19 _ rfl _ rfl
    have he := same_puts hS
    have hQ2 := hQ (a.tmps.getD 5 undef) (a.tmps.getD 6 undef) (a.tmps.getD 7 undef) (a.tmps.getD 8 undef) (a.tmps.getD 9 undef) (a.tmps.getD 10 undef) (a.tmps.getD 11 undef) (a.tmps.getD 12 undef) (a.tmps.getD 13 undef) (a.tmps.getD 14 undef) (a.tmps.getD 15 undef) (a.tmps.getD 16 undef) (a.tmps.getD 17 undef) (a.tmps.getD 18 undef) (a.tmps.getD 19 undef) (a.tmps.getD 20 undef) (a.tmps.getD 21 undef) (a.tmps.getD 22 undef) (a.tmps.getD 23 undef) w1 hL
    rw [← k4] at hQ2
    rw [he]
    exact hQ2
  case hop =>
    intro i o hi
    have hlt : i < 20 := (Array.getElem?_eq_some_iff.1 hi).1
    rcases (show i = 0 ∨ i = 1 ∨ i = 2 ∨ i = 3 ∨ i = 4 ∨ i = 5 ∨ i = 6 ∨ i = 7 ∨ i = 8 ∨ i = 9 ∨ i = 10 ∨ i = 11 ∨ i = 12 ∨ i = 13 ∨ i = 14 ∨ i = 15 ∨ i = 16 ∨ i = 17 ∨ i = 18 ∨ i = 19 by omega) with rfl | rfl | rfl | rfl | rfl | rfl | rfl | rfl | rfl | rfl | rfl | rfl | rfl | rfl | rfl | rfl | rfl | rfl | rfl | rfl
    · obtain rfl := Option.some.inj hi
      clear hi hlt
      intro a w1 hL hS hD
      have e1 : a.tmps.getD 1 undef = .int .i64 n := (hS.slot 1 (by kernel_rfl)).trans s1
      refine step_yes rfl ?_
      exact ok_value Lat.refl (.int .i64 n) (by simp [execOp, Act.eval, e1, go_sem]) (TV.mk rfl)
    · obtain rfl := Option.some.inj hi
      clear hi hlt
      intro a w1 hL hS hD
      have d0 : a.tmps.getD 5 undef = .int .i64 n := hD ⟨0, .data⟩ (by simp) rfl _ rfl _ rfl
      refine step_yes rfl ?_
      exact ok_value Lat.refl (.bool false) (by simp [execOp, Act.eval, d0, hz, go_sem]) (TV.mk rfl)
    · obtain rfl := Option.some.inj hi
      clear hi hlt
      intro a w1 hL hS hD
      have d1 : a.tmps.getD 6 undef = .bool false := hD ⟨1, .data⟩ (by simp) rfl _ rfl _ rfl
      refine step_yes rfl ?_
      exact ok_value Lat.refl (.bool false) (by simp [execOp, Act.eval, d1, go_sem]) (TV.mk rfl)
    · obtain rfl := Option.some.inj hi
      clear hi hlt
      intro a w1 hL hS hD
      have d2 : a.tmps.getD 7 undef = .bool false := hD ⟨2, .guard⟩ (by simp) rfl _ rfl _ rfl
      exact step_no (wanted_no rfl rfl rfl d2 rfl) (TV.mk rfl)
    · obtain rfl := Option.some.inj hi
      clear hi hlt
      intro a w1 hL hS hD
      have d2 : a.tmps.getD 7 undef = .bool false := hD ⟨2, .guard⟩ (by simp) rfl _ rfl _ rfl
      exact step_no (wanted_no rfl rfl rfl d2 rfl) (TV.mk rfl)
    · obtain rfl := Option.some.inj hi
      clear hi hlt
      intro a w1 hL hS hD
      have d2 : a.tmps.getD 7 undef = .bool false := hD ⟨2, .data⟩ (by simp) rfl _ rfl _ rfl
      have d4 : a.tmps.getD 9 undef = undef := hD ⟨4, .data⟩ (by simp) rfl _ rfl _ rfl
      refine step_yes rfl ?_
      exact ok_value Lat.refl (.bool false) (by simp [execOp, Act.eval, d2, d4, go_sem]) (TV.mk rfl)
    · obtain rfl := Option.some.inj hi
      clear hi hlt
      intro a w1 hL hS hD
      have d5 : a.tmps.getD 10 undef = .bool false := hD ⟨5, .data⟩ (by simp) rfl _ rfl _ rfl
      refine step_yes rfl ?_
      exact ok_value Lat.refl (.bool false) (by simp [execOp, Act.eval, d5, go_sem]) (TV.mk rfl)
    · obtain rfl := Option.some.inj hi
      clear hi hlt
      intro a w1 hL hS hD
      have d6 : a.tmps.getD 11 undef = .bool false := hD ⟨6, .guard⟩ (by simp) rfl _ rfl _ rfl
      exact step_no (wanted_no rfl rfl rfl d6 rfl) (TV.mk rfl)
    · obtain rfl := Option.some.inj hi
      clear hi hlt
      intro a w1 hL hS hD
      have d6 : a.tmps.getD 11 undef = .bool false := hD ⟨6, .guard⟩ (by simp) rfl _ rfl _ rfl
      exact step_no (wanted_no rfl rfl rfl d6 rfl) (TV.mk rfl)
    · obtain rfl := Option.some.inj hi
      clear hi hlt
      intro a w1 hL hS hD
      have d6 : a.tmps.getD 11 undef = .bool false := hD ⟨6, .guard⟩ (by simp) rfl _ rfl _ rfl
      exact step_no (wanted_no rfl rfl rfl d6 rfl) (TV.mk rfl)
    · obtain rfl := Option.some.inj hi
      clear hi hlt
      intro a w1 hL hS hD
      have d6 : a.tmps.getD 11 undef = .bool false := hD ⟨6, .guard⟩ (by simp) rfl _ rfl _ rfl
      exact step_no (wanted_no rfl rfl rfl d6 rfl) (TV.mk rfl)
    · obtain rfl := Option.some.inj hi
      clear hi hlt
      intro a w1 hL hS hD
      have d6 : a.tmps.getD 11 undef = .bool false := hD ⟨6, .guard⟩ (by simp) rfl _ rfl _ rfl
      exact step_no (wanted_no rfl rfl rfl d6 rfl) (TV.mk rfl)
    · obtain rfl := Option.some.inj hi
      clear hi hlt
      intro a w1 hL hS hD
      have d6 : a.tmps.getD 11 undef = .bool false := hD ⟨6, .guard⟩ (by simp) rfl _ rfl _ rfl
      exact step_no (wanted_no rfl rfl rfl d6 rfl) (TV.mk rfl)
    · obtain rfl := Option.some.inj hi
      clear hi hlt
      intro a w1 hL hS hD
      have d6 : a.tmps.getD 11 undef = .bool false := hD ⟨6, .guard⟩ (by simp) rfl _ rfl _ rfl
      exact step_no (wanted_no rfl rfl rfl d6 rfl) (TV.mk rfl)
    · obtain rfl := Option.some.inj hi
      clear hi hlt
      intro a w1 hL hS hD
      have d6 : a.tmps.getD 11 undef = .bool false := hD ⟨6, .guard⟩ (by simp) rfl _ rfl _ rfl
      exact step_no (wanted_no rfl rfl rfl d6 rfl) (TV.mk rfl)
    · obtain rfl := Option.some.inj hi
      clear hi hlt
      intro a w1 hL hS hD
      have d6 : a.tmps.getD 11 undef = .bool false := hD ⟨6, .guard⟩ (by simp) rfl _ rfl _ rfl
      exact step_no (wanted_no rfl rfl rfl d6 rfl) (TV.mk rfl)
    · obtain rfl := Option.some.inj hi
      clear hi hlt
      intro a w1 hL hS hD
      have d6 : a.tmps.getD 11 undef = .bool false := hD ⟨6, .guard⟩ (by simp) rfl _ rfl _ rfl
      exact step_no (wanted_no rfl rfl rfl d6 rfl) (TV.mk rfl)
    · obtain rfl := Option.some.inj hi
      clear hi hlt
      intro a w1 hL hS hD
      have d6 : a.tmps.getD 11 undef = .bool false := hD ⟨6, .guard⟩ (by simp) rfl _ rfl _ rfl
      exact step_no (wanted_no rfl rfl rfl d6 rfl) (TV.mk rfl)
    · obtain rfl := Option.some.inj hi
      clear hi hlt
      intro a w1 hL hS hD
      have d6 : a.tmps.getD 11 undef = .bool false := hD ⟨6, .data⟩ (by simp) rfl _ rfl _ rfl
      have d17 : a.tmps.getD 22 undef = undef := hD ⟨17, .data⟩ (by simp) rfl _ rfl _ rfl
      refine step_yes rfl ?_
      exact ok_value Lat.refl (.bool false) (by simp [execOp, Act.eval, d6, d17, go_sem]) (TV.mk rfl)
    · obtain rfl := Option.some.inj hi
      clear hi hlt
      intro a w1 hL hS hD
      have d18 : a.tmps.getD 23 undef = .bool false := hD ⟨18, .data⟩ (by simp) rfl _ rfl _ rfl
      refine step_yes rfl ?_
      exact ok_value Lat.refl (.bool false) (by simp [execOp, Act.eval, d18, go_sem]) (TV.mk rfl)

set_option maxRecDepth 100000 in
set_option maxHeartbeats 2000000 in
theorem rfits_big (lp : Nat) (y n c : Int) (w : World) (a0 : Act) (Q : Exit → Act → World → Prop) (hsz : a0.tmps.size = 24)
    (s0 : a0.tmps.getD 0 undef = .pointer (some ⟨lp, 0, none⟩))
    (s1 : a0.tmps.getD 1 undef = .int .i64 n)
    (hz : 0 ≤ n)
    (hy : ¬ n ≤ 4194304)
    (hQ : ∀ (v5 v6 v7 v8 v9 v10 v11 v12 v13 v14 v15 v16 v17 v18 v19 v20 v21 v22 v23 : Value) (w1 : World), Lat w w1 → Q .normal ((((((((((((((((((((a0.put (some 5) v5).put (some 6) v6).put (some 7) v7).put (some 8) v8).put (some 9) v9).put (some 10) v10).put (some 11) v11).put (some 12) v12).put (some 13) v13).put (some 14) v14).put (some 15) v15).put (some 16) v16).put (some 17) v17).put (some 18) v18).put (some 19) v19).put (some 20) v20).put (some 21) v21).put (some 22) v22).put (some 23) v23).put (some 4) (.bool false)) w1) :
    Code.wp Tryz.prog ((Tryz.f57.body.bind (findRegion 1)).getD .skip) Q a0 w := by
  conv => arg 2; whnf
  refine wp_region_inv Lat (TV [.int .i64 n, .bool true, .bool true, .int .i64 n, .bool false, .bool false, .bool false, undef, undef, undef, undef, undef, undef, undef, undef, undef, undef, undef, .bool false, .bool false]) (by kernel_rfl) (by kernel_rfl) (by kernel_rfl) (by rw [hsz]; kernel_rfl) (by kernel_rfl) Lat.refl Lat.trans (TV.stable _) (Lat.draw w) ?hop ?hdone
  case hdone =>
    intro a w1 hL hS hT
    have k4 : a.tmps.getD 4 undef = .bool false := hT 19 _ rfl _ rfl
    have he := same_puts hS
    have hQ2 := hQ (a.tmps.getD 5 undef) (a.tmps.getD 6 undef) (a.tmps.getD 7 undef) (a.tmps.getD 8 undef) (a.tmps.getD 9 undef) (a.tmps.getD 10 undef) (a.tmps.getD 11 undef) (a.tmps.getD 12 undef) (a.tmps.getD 13 undef) (a.tmps.getD 14 undef) (a.tmps.getD 15 undef) (a.tmps.getD 16 undef) (a.tmps.getD 17 undef) (a.tmps.getD 18 undef) (a.tmps.getD 19 undef) (a.tmps.getD 20 undef) (a.tmps.getD 21 undef) (a.tmps.getD 22 undef) (a.tmps.getD 23 undef) w1 hL
    rw [← k4] at hQ2
    rw [he]
    exact hQ2
  case hop =>
    intro i o hi
    have hlt : i < 20 := (Array.getElem?_eq_some_iff.1 hi).1
    rcases (show i = 0 ∨ i = 1 ∨ i = 2 ∨ i = 3 ∨ i = 4 ∨ i = 5 ∨ i = 6 ∨ i = 7 ∨ i = 8 ∨ i = 9 ∨ i = 10 ∨ i = 11 ∨ i = 12 ∨ i = 13 ∨ i = 14 ∨ i = 15 ∨ i = 16 ∨ i = 17 ∨ i = 18 ∨ i = 19 by omega) with rfl | rfl | rfl | rfl | rfl | rfl | rfl | rfl | rfl | rfl | rfl | rfl | rfl | rfl | rfl | rfl | rfl | rfl | rfl | rfl
    · obtain rfl := Option.some.inj hi
      clear hi hlt
      intro a w1 hL hS hD
      have e1 : a.tmps.getD 1 undef = .int .i64 n := (hS.slot 1 (by kernel_rfl)).trans s1
      refine step_yes rfl ?_
      exact ok_value Lat.refl (.int .i64 n) (by simp [execOp, Act.eval, e1, go_sem]) (TV.mk rfl)
    · obtain rfl := Option.some.inj hi
      clear hi hlt
      intro a w1 hL hS hD
      have d0 : a.tmps.getD 5 undef = .int .i64 n := hD ⟨0, .data⟩ (by simp) rfl _ rfl _ rfl
      refine step_yes rfl ?_
      exact ok_value Lat.refl (.bool true) (by simp [execOp, Act.eval, d0, hz, go_sem]) (TV.mk rfl)
    · obtain rfl := Option.some.inj hi
      clear hi hlt
      intro a w1 hL hS hD
      have d1 : a.tmps.getD 6 undef = .bool true := hD ⟨1, .data⟩ (by simp) rfl _ rfl _ rfl
      refine step_yes rfl ?_
      exact ok_value Lat.refl (.bool true) (by simp [execOp, Act.eval, d1, go_sem]) (TV.mk rfl)
    · obtain rfl := Option.some.inj hi
      clear hi hlt
      intro a w1 hL hS hD
      have d2 : a.tmps.getD 7 undef = .bool true := hD ⟨2, .guard⟩ (by simp) rfl _ rfl _ rfl
      have e1 : a.tmps.getD 1 undef = .int .i64 n := (hS.slot 1 (by kernel_rfl)).trans s1
      refine step_yes (wanted_yes rfl rfl rfl d2) ?_
      exact ok_value Lat.refl (.int .i64 n) (by simp [execOp, Act.eval, e1, go_sem]) (TV.mk rfl)
    · obtain rfl := Option.some.inj hi
      clear hi hlt
      intro a w1 hL hS hD
      have d2 : a.tmps.getD 7 undef = .bool true := hD ⟨2, .guard⟩ (by simp) rfl _ rfl _ rfl
      have d3 : a.tmps.getD 8 undef = .int .i64 n := hD ⟨3, .data⟩ (by simp) rfl _ rfl _ rfl
      refine step_yes (wanted_yes rfl rfl rfl d2) ?_
      exact ok_value Lat.refl (.bool false) (by simp [execOp, Act.eval, d3, hy, go_sem]) (TV.mk rfl)
    · obtain rfl := Option.some.inj hi
      clear hi hlt
      intro a w1 hL hS hD
      have d2 : a.tmps.getD 7 undef = .bool true := hD ⟨2, .data⟩ (by simp) rfl _ rfl _ rfl
      have d4 : a.tmps.getD 9 undef = .bool false := hD ⟨4, .data⟩ (by simp) rfl _ rfl _ rfl
      refine step_yes rfl ?_
      exact ok_value Lat.refl (.bool false) (by simp [execOp, Act.eval, d2, d4, go_sem]) (TV.mk rfl)
    · obtain rfl := Option.some.inj hi
      clear hi hlt
      intro a w1 hL hS hD
      have d5 : a.tmps.getD 10 undef = .bool false := hD ⟨5, .data⟩ (by simp) rfl _ rfl _ rfl
      refine step_yes rfl ?_
      exact ok_value Lat.refl (.bool false) (by simp [execOp, Act.eval, d5, go_sem]) (TV.mk rfl)
    · obtain rfl := Option.some.inj hi
      clear hi hlt
      intro a w1 hL hS hD
      have d6 : a.tmps.getD 11 undef = .bool false := hD ⟨6, .guard⟩ (by simp) rfl _ rfl _ rfl
      exact step_no (wanted_no rfl rfl rfl d6 rfl) (TV.mk rfl)
    · obtain rfl := Option.some.inj hi
      clear hi hlt
      intro a w1 hL hS hD
      have d6 : a.tmps.getD 11 undef = .bool false := hD ⟨6, .guard⟩ (by simp) rfl _ rfl _ rfl
      exact step_no (wanted_no rfl rfl rfl d6 rfl) (TV.mk rfl)
    · obtain rfl := Option.some.inj hi
      clear hi hlt
      intro a w1 hL hS hD
      have d6 : a.tmps.getD 11 undef = .bool false := hD ⟨6, .guard⟩ (by simp) rfl _ rfl _ rfl
      exact step_no (wanted_no rfl rfl rfl d6 rfl) (TV.mk rfl)
    · obtain rfl := Option.some.inj hi
      clear hi hlt
      intro a w1 hL hS hD
      have d6 : a.tmps.getD 11 undef = .bool false := hD ⟨6, .guard⟩ (by simp) rfl _ rfl _ rfl
      exact step_no (wanted_no rfl rfl rfl d6 rfl) (TV.mk rfl)
    · obtain rfl := Option.some.inj hi
      clear hi hlt
      intro a w1 hL hS hD
      have d6 : a.tmps.getD 11 undef = .bool false := hD ⟨6, .guard⟩ (by simp) rfl _ rfl _ rfl
      exact step_no (wanted_no rfl rfl rfl d6 rfl) (TV.mk rfl)
    · obtain rfl := Option.some.inj hi
      clear hi hlt
      intro a w1 hL hS hD
      have d6 : a.tmps.getD 11 undef = .bool false := hD ⟨6, .guard⟩ (by simp) rfl _ rfl _ rfl
      exact step_no (wanted_no rfl rfl rfl d6 rfl) (TV.mk rfl)
    · obtain rfl := Option.some.inj hi
      clear hi hlt
      intro a w1 hL hS hD
      have d6 : a.tmps.getD 11 undef = .bool false := hD ⟨6, .guard⟩ (by simp) rfl _ rfl _ rfl
      exact step_no (wanted_no rfl rfl rfl d6 rfl) (TV.mk rfl)
    · obtain rfl := Option.some.inj hi
      clear hi hlt
      intro a w1 hL hS hD
      have d6 : a.tmps.getD 11 undef = .bool false := hD ⟨6, .guard⟩ (by simp) rfl _ rfl _ rfl
      exact step_no (wanted_no rfl rfl rfl d6 rfl) (TV.mk rfl)
    · obtain rfl := Option.some.inj hi
      clear hi hlt
      intro a w1 hL hS hD
      have d6 : a.tmps.getD 11 undef = .bool false := hD ⟨6, .guard⟩ (by simp) rfl _ rfl _ rfl
      exact step_no (wanted_no rfl rfl rfl d6 rfl) (TV.mk rfl)
    · obtain rfl := Option.some.inj hi
      clear hi hlt
      intro a w1 hL hS hD
      have d6 : a.tmps.getD 11 undef = .bool false := hD ⟨6, .guard⟩ (by simp) rfl _ rfl _ rfl
      exact step_no (wanted_no rfl rfl rfl d6 rfl) (TV.mk rfl)
    · obtain rfl := Option.some.inj hi
      clear hi hlt
      intro a w1 hL hS hD
      have d6 : a.tmps.getD 11 undef = .bool false := hD ⟨6, .guard⟩ (by simp) rfl _ rfl _ rfl
      exact step_no (wanted_no rfl rfl rfl d6 rfl) (TV.mk rfl)
    · obtain rfl := Option.some.inj hi
      clear hi hlt
      intro a w1 hL hS hD
      have d6 : a.tmps.getD 11 undef = .bool false := hD ⟨6, .data⟩ (by simp) rfl _ rfl _ rfl
      have d17 : a.tmps.getD 22 undef = undef := hD ⟨17, .data⟩ (by simp) rfl _ rfl _ rfl
      refine step_yes rfl ?_
      exact ok_value Lat.refl (.bool false) (by simp [execOp, Act.eval, d6, d17, go_sem]) (TV.mk rfl)
    · obtain rfl := Option.some.inj hi
      clear hi hlt
      intro a w1 hL hS hD
      have d18 : a.tmps.getD 23 undef = .bool false := hD ⟨18, .data⟩ (by simp) rfl _ rfl _ rfl
      refine step_yes rfl ?_
      exact ok_value Lat.refl (.bool false) (by simp [execOp, Act.eval, d18, go_sem]) (TV.mk rfl)

set_option maxRecDepth 100000 in
set_option maxHeartbeats 2000000 in
theorem rfits_le (lp : Nat) (y n c : Int) (w : World) (a0 : Act) (Q : Exit → Act → World → Prop) (hsz : a0.tmps.size = 24)
    (s0 : a0.tmps.getD 0 undef = .pointer (some ⟨lp, 0, none⟩))
    (s1 : a0.tmps.getD 1 undef = .int .i64 n)
    (hz : 0 ≤ n)
    (hy : n ≤ 4194304)
    (k1 : ∀ w1, Lat w w1 → Calls Tryz.prog 72 #[.pointer (some ⟨lp, 0, none⟩)] w1 fun e w2 => e = .returned (.int .i64 y) ∧ Lat w1 w2)
    (hw : IntKind.i64.wrap (y + n) = y + n)
    (hw2 : IntKind.i64.wrap (y + n + 9) = y + n + 9)
    (hC : ∀ w1, Lat w w1 → w1.cell? ⟨lp, 4, none⟩ = some (.int .i64 c))
    (hle : y + n + 9 ≤ c)
    (hQ : ∀ (v5 v6 v7 v8 v9 v10 v11 v12 v13 v14 v15 v16 v17 v18 v19 v20 v21 v22 v23 : Value) (w1 : World), Lat w w1 → Q .normal ((((((((((((((((((((a0.put (some 5) v5).put (some 6) v6).put (some 7) v7).put (some 8) v8).put (some 9) v9).put (some 10) v10).put (some 11) v11).put (some 12) v12).put (some 13) v13).put (some 14) v14).put (some 15) v15).put (some 16) v16).put (some 17) v17).put (some 18) v18).put (some 19) v19).put (some 20) v20).put (some 21) v21).put (some 22) v22).put (some 23) v23).put (some 4) (.bool true)) w1) :
    Code.wp Tryz.prog ((Tryz.f57.body.bind (findRegion 1)).getD .skip) Q a0 w := by
  conv => arg 2; whnf
  refine wp_region_inv Lat (TV [.int .i64 n, .bool true, .bool true, .int .i64 n, .bool true, .bool true, .bool true, .pointer (some ⟨lp, 0, none⟩), .int .i64 y, .int .i64 n, .int .i64 (y + n), .int .i64 (y + n + 9), .pointer (some ⟨lp, 0, none⟩), .pointer (some ⟨lp, 0, none⟩), .pointer (some ⟨lp, 3, none⟩), .pointer (some ⟨lp, 4, none⟩), .int .i64 c, .bool true, .bool true, .bool true]) (by kernel_rfl) (by kernel_rfl) (by kernel_rfl) (by rw [hsz]; kernel_rfl) (by kernel_rfl) Lat.refl Lat.trans (TV.stable _) (Lat.draw w) ?hop ?hdone
  case hdone =>
    intro a w1 hL hS hT
    have k4 : a.tmps.getD 4 undef = .bool true := hT 19 _ rfl _ rfl
    have he := same_puts hS
    have hQ2 := hQ (a.tmps.getD 5 undef) (a.tmps.getD 6 undef) (a.tmps.getD 7 undef) (a.tmps.getD 8 undef) (a.tmps.getD 9 undef) (a.tmps.getD 10 undef) (a.tmps.getD 11 undef) (a.tmps.getD 12 undef) (a.tmps.getD 13 undef) (a.tmps.getD 14 undef) (a.tmps.getD 15 undef) (a.tmps.getD 16 undef) (a.tmps.getD 17 undef) (a.tmps.getD 18 undef) (a.tmps.getD 19 undef) (a.tmps.getD 20 undef) (a.tmps.getD 21 undef) (a.tmps.getD 22 undef) (a.tmps.getD 23 undef) w1 hL
    rw [← k4] at hQ2
    rw [he]
    exact hQ2
  case hop =>
    intro i o hi
    have hlt : i < 20 := (Array.getElem?_eq_some_iff.1 hi).1
    rcases (show i = 0 ∨ i = 1 ∨ i = 2 ∨ i = 3 ∨ i = 4 ∨ i = 5 ∨ i = 6 ∨ i = 7 ∨ i = 8 ∨ i = 9 ∨ i = 10 ∨ i = 11 ∨ i = 12 ∨ i = 13 ∨ i = 14 ∨ i = 15 ∨ i = 16 ∨ i = 17 ∨ i = 18 ∨ i = 19 by omega) with rfl | rfl | rfl | rfl | rfl | rfl | rfl | rfl | rfl | rfl | rfl | rfl | rfl | rfl | rfl | rfl | rfl | rfl | rfl | rfl
    · obtain rfl := Option.some.inj hi
      clear hi hlt
      intro a w1 hL hS hD
      have e1 : a.tmps.getD 1 undef = .int .i64 n := (hS.slot 1 (by kernel_rfl)).trans s1
      refine step_yes rfl ?_
      exact ok_value Lat.refl (.int .i64 n) (by simp [execOp, Act.eval, e1, go_sem]) (TV.mk rfl)
    · obtain rfl := Option.some.inj hi
      clear hi hlt
      intro a w1 hL hS hD
      have d0 : a.tmps.getD 5 undef = .int .i64 n := hD ⟨0, .data⟩ (by simp) rfl _ rfl _ rfl
      refine step_yes rfl ?_
      exact ok_value Lat.refl (.bool true) (by simp [execOp, Act.eval, d0, hz, go_sem]) (TV.mk rfl)
    · obtain rfl := Option.some.inj hi
      clear hi hlt
      intro a w1 hL hS hD
      have d1 : a.tmps.getD 6 undef = .bool true := hD ⟨1, .data⟩ (by simp) rfl _ rfl _ rfl
      refine step_yes rfl ?_
      exact ok_value Lat.refl (.bool true) (by simp [execOp, Act.eval, d1, go_sem]) (TV.mk rfl)
    · obtain rfl := Option.some.inj hi
      clear hi hlt
      intro a w1 hL hS hD
      have d2 : a.tmps.getD 7 undef = .bool true := hD ⟨2, .guard⟩ (by simp) rfl _ rfl _ rfl
      have e1 : a.tmps.getD 1 undef = .int .i64 n := (hS.slot 1 (by kernel_rfl)).trans s1
      refine step_yes (wanted_yes rfl rfl rfl d2) ?_
      exact ok_value Lat.refl (.int .i64 n) (by simp [execOp, Act.eval, e1, go_sem]) (TV.mk rfl)
    · obtain rfl := Option.some.inj hi
      clear hi hlt
      intro a w1 hL hS hD
      have d2 : a.tmps.getD 7 undef = .bool true := hD ⟨2, .guard⟩ (by simp) rfl _ rfl _ rfl
      have d3 : a.tmps.getD 8 undef = .int .i64 n := hD ⟨3, .data⟩ (by simp) rfl _ rfl _ rfl
      refine step_yes (wanted_yes rfl rfl rfl d2) ?_
      exact ok_value Lat.refl (.bool true) (by simp [execOp, Act.eval, d3, hy, go_sem]) (TV.mk rfl)
    · obtain rfl := Option.some.inj hi
      clear hi hlt
      intro a w1 hL hS hD
      have d2 : a.tmps.getD 7 undef = .bool true := hD ⟨2, .data⟩ (by simp) rfl _ rfl _ rfl
      have d4 : a.tmps.getD 9 undef = .bool true := hD ⟨4, .data⟩ (by simp) rfl _ rfl _ rfl
      refine step_yes rfl ?_
      exact ok_value Lat.refl (.bool true) (by simp [execOp, Act.eval, d2, d4, go_sem]) (TV.mk rfl)
    · obtain rfl := Option.some.inj hi
      clear hi hlt
      intro a w1 hL hS hD
      have d5 : a.tmps.getD 10 undef = .bool true := hD ⟨5, .data⟩ (by simp) rfl _ rfl _ rfl
      refine step_yes rfl ?_
      exact ok_value Lat.refl (.bool true) (by simp [execOp, Act.eval, d5, go_sem]) (TV.mk rfl)
    · obtain rfl := Option.some.inj hi
      clear hi hlt
      intro a w1 hL hS hD
      have d6 : a.tmps.getD 11 undef = .bool true := hD ⟨6, .guard⟩ (by simp) rfl _ rfl _ rfl
      have e0 : a.tmps.getD 0 undef = .pointer (some ⟨lp, 0, none⟩) := (hS.slot 0 (by kernel_rfl)).trans s0
      refine step_yes (wanted_yes rfl rfl rfl d6) ?_
      exact ok_value Lat.refl (.pointer (some ⟨lp, 0, none⟩)) (by simp [execOp, Act.eval, e0, go_sem]) (TV.mk rfl)
    · obtain rfl := Option.some.inj hi
      clear hi hlt
      intro a w1 hL hS hD
      have d6 : a.tmps.getD 11 undef = .bool true := hD ⟨6, .guard⟩ (by simp) rfl _ rfl _ rfl
      have d7 : a.tmps.getD 12 undef = .pointer (some ⟨lp, 0, none⟩) := hD ⟨7, .data⟩ (by simp) rfl _ rfl _ rfl
      refine step_yes (wanted_yes rfl rfl rfl d6) ?_
      refine ok_call (f := 72) (args := #[.pointer (some ⟨lp, 0, none⟩)]) (by simp [execOp, resolve, Act.eval, d7, go_sem]) ?_
      refine (k1 w1 hL).mono ?_
      rintro e w2 ⟨rfl, hb⟩
      exact ⟨_, rfl, hb, TV.mk rfl⟩
    · obtain rfl := Option.some.inj hi
      clear hi hlt
      intro a w1 hL hS hD
      have d6 : a.tmps.getD 11 undef = .bool true := hD ⟨6, .guard⟩ (by simp) rfl _ rfl _ rfl
      have e1 : a.tmps.getD 1 undef = .int .i64 n := (hS.slot 1 (by kernel_rfl)).trans s1
      refine step_yes (wanted_yes rfl rfl rfl d6) ?_
      exact ok_value Lat.refl (.int .i64 n) (by simp [execOp, Act.eval, e1, go_sem]) (TV.mk rfl)
    · obtain rfl := Option.some.inj hi
      clear hi hlt
      intro a w1 hL hS hD
      have d6 : a.tmps.getD 11 undef = .bool true := hD ⟨6, .guard⟩ (by simp) rfl _ rfl _ rfl
      have d8 : a.tmps.getD 13 undef = .int .i64 y := hD ⟨8, .data⟩ (by simp) rfl _ rfl _ rfl
      have d9 : a.tmps.getD 14 undef = .int .i64 n := hD ⟨9, .data⟩ (by simp) rfl _ rfl _ rfl
      refine step_yes (wanted_yes rfl rfl rfl d6) ?_
      exact ok_value Lat.refl (.int .i64 (y + n)) (by simp [execOp, Act.eval, d8, d9, hw, go_sem]) (TV.mk rfl)
    · obtain rfl := Option.some.inj hi
      clear hi hlt
      intro a w1 hL hS hD
      have d6 : a.tmps.getD 11 undef = .bool true := hD ⟨6, .guard⟩ (by simp) rfl _ rfl _ rfl
      have d10 : a.tmps.getD 15 undef = .int .i64 (y + n) := hD ⟨10, .data⟩ (by simp) rfl _ rfl _ rfl
      refine step_yes (wanted_yes rfl rfl rfl d6) ?_
      exact ok_value Lat.refl (.int .i64 (y + n + 9)) (by simp [execOp, Act.eval, d10, hw2, go_sem]) (TV.mk rfl)
    · obtain rfl := Option.some.inj hi
      clear hi hlt
      intro a w1 hL hS hD
      have d6 : a.tmps.getD 11 undef = .bool true := hD ⟨6, .guard⟩ (by simp) rfl _ rfl _ rfl
      have e0 : a.tmps.getD 0 undef = .pointer (some ⟨lp, 0, none⟩) := (hS.slot 0 (by kernel_rfl)).trans s0
      refine step_yes (wanted_yes rfl rfl rfl d6) ?_
      exact ok_value Lat.refl (.pointer (some ⟨lp, 0, none⟩)) (by simp [execOp, Act.eval, e0, go_sem]) (TV.mk rfl)
    · obtain rfl := Option.some.inj hi
      clear hi hlt
      intro a w1 hL hS hD
      have d6 : a.tmps.getD 11 undef = .bool true := hD ⟨6, .guard⟩ (by simp) rfl _ rfl _ rfl
      have d12 : a.tmps.getD 17 undef = .pointer (some ⟨lp, 0, none⟩) := hD ⟨12, .data⟩ (by simp) rfl _ rfl _ rfl
      refine step_yes (wanted_yes rfl rfl rfl d6) ?_
      exact ok_value Lat.refl (.pointer (some ⟨lp, 0, none⟩)) (by simp [execOp, Act.eval, d12, go_sem]) (TV.mk rfl)
    · obtain rfl := Option.some.inj hi
      clear hi hlt
      intro a w1 hL hS hD
      have d6 : a.tmps.getD 11 undef = .bool true := hD ⟨6, .guard⟩ (by simp) rfl _ rfl _ rfl
      have d13 : a.tmps.getD 18 undef = .pointer (some ⟨lp, 0, none⟩) := hD ⟨13, .data⟩ (by simp) rfl _ rfl _ rfl
      refine step_yes (wanted_yes rfl rfl rfl d6) ?_
      exact ok_value Lat.refl (.pointer (some ⟨lp, 3, none⟩)) (by simp [execOp, Act.eval, d13, go_sem]) (TV.mk rfl)
    · obtain rfl := Option.some.inj hi
      clear hi hlt
      intro a w1 hL hS hD
      have d6 : a.tmps.getD 11 undef = .bool true := hD ⟨6, .guard⟩ (by simp) rfl _ rfl _ rfl
      have d14 : a.tmps.getD 19 undef = .pointer (some ⟨lp, 3, none⟩) := hD ⟨14, .data⟩ (by simp) rfl _ rfl _ rfl
      refine step_yes (wanted_yes rfl rfl rfl d6) ?_
      exact ok_value Lat.refl (.pointer (some ⟨lp, 4, none⟩)) (by simp [execOp, Act.eval, d14, go_sem]) (TV.mk rfl)
    · obtain rfl := Option.some.inj hi
      clear hi hlt
      intro a w1 hL hS hD
      have d6 : a.tmps.getD 11 undef = .bool true := hD ⟨6, .guard⟩ (by simp) rfl _ rfl _ rfl
      have d15 : a.tmps.getD 20 undef = .pointer (some ⟨lp, 4, none⟩) := hD ⟨15, .data⟩ (by simp) rfl _ rfl _ rfl
      refine step_yes (wanted_yes rfl rfl rfl d6) ?_
      exact ok_value Lat.refl (.int .i64 c) (by simp [execOp, Act.eval, d15, hC w1 hL, go_sem]) (TV.mk rfl)
    · obtain rfl := Option.some.inj hi
      clear hi hlt
      intro a w1 hL hS hD
      have d6 : a.tmps.getD 11 undef = .bool true := hD ⟨6, .guard⟩ (by simp) rfl _ rfl _ rfl
      have d11 : a.tmps.getD 16 undef = .int .i64 (y + n + 9) := hD ⟨11, .data⟩ (by simp) rfl _ rfl _ rfl
      have d16 : a.tmps.getD 21 undef = .int .i64 c := hD ⟨16, .data⟩ (by simp) rfl _ rfl _ rfl
      refine step_yes (wanted_yes rfl rfl rfl d6) ?_
      exact ok_value Lat.refl (.bool true) (by simp [execOp, Act.eval, d11, d16, hle, go_sem]) (TV.mk rfl)
    · obtain rfl := Option.some.inj hi
      clear hi hlt
      intro a w1 hL hS hD
      have d6 : a.tmps.getD 11 undef = .bool true := hD ⟨6, .data⟩ (by simp) rfl _ rfl _ rfl
      have d17 : a.tmps.getD 22 undef = .bool true := hD ⟨17, .data⟩ (by simp) rfl _ rfl _ rfl
      refine step_yes rfl ?_
      exact ok_value Lat.refl (.bool true) (by simp [execOp, Act.eval, d6, d17, go_sem]) (TV.mk rfl)
    · obtain rfl := Option.some.inj hi
      clear hi hlt
      intro a w1 hL hS hD
      have d18 : a.tmps.getD 23 undef = .bool true := hD ⟨18, .data⟩ (by simp) rfl _ rfl _ rfl
      refine step_yes rfl ?_
      exact ok_value Lat.refl (.bool true) (by simp [execOp, Act.eval, d18, go_sem]) (TV.mk rfl)

set_option maxRecDepth 100000 in
set_option maxHeartbeats 2000000 in
theorem rfits_gt (lp : Nat) (y n c : Int) (w : World) (a0 : Act) (Q : Exit → Act → World → Prop) (hsz : a0.tmps.size = 24)
    (s0 : a0.tmps.getD 0 undef = .pointer (some ⟨lp, 0, none⟩))
    (s1 : a0.tmps.getD 1 undef = .int .i64 n)
    (hz : 0 ≤ n)
    (hy : n ≤ 4194304)
    (k1 : ∀ w1, Lat w w1 → Calls Tryz.prog 72 #[.pointer (some ⟨lp, 0, none⟩)] w1 fun e w2 => e = .returned (.int .i64 y) ∧ Lat w1 w2)
    (hw : IntKind.i64.wrap (y + n) = y + n)
    (hw2 : IntKind.i64.wrap (y + n + 9) = y + n + 9)
    (hC : ∀ w1, Lat w w1 → w1.cell? ⟨lp, 4, none⟩ = some (.int .i64 c))
    (hle : ¬ y + n + 9 ≤ c)
    (hQ : ∀ (v5 v6 v7 v8 v9 v10 v11 v12 v13 v14 v15 v16 v17 v18 v19 v20 v21 v22 v23 : Value) (w1 : World), Lat w w1 → Q .normal ((((((((((((((((((((a0.put (some 5) v5).put (some 6) v6).put (some 7) v7).put (some 8) v8).put (some 9) v9).put (some 10) v10).put (some 11) v11).put (some 12) v12).put (some 13) v13).put (some 14) v14).put (some 15) v15).put (some 16) v16).put (some 17) v17).put (some 18) v18).put (some 19) v19).put (some 20) v20).put (some 21) v21).put (some 22) v22).put (some 23) v23).put (some 4) (.bool false)) w1) :
    Code.wp Tryz.prog ((Tryz.f57.body.bind (findRegion 1)).getD .skip) Q a0 w := by
  conv => arg 2; whnf
  refine wp_region_inv Lat (TV [.int .i64 n, .bool true, .bool true, .int .i64 n, .bool true, .bool true, .bool true, .pointer (some ⟨lp, 0, none⟩), .int .i64 y, .int .i64 n, .int .i64 (y + n), .int .i64 (y + n + 9), .pointer (some ⟨lp, 0, none⟩), .pointer (some ⟨lp, 0, none⟩), .pointer (some ⟨lp, 3, none⟩), .pointer (some ⟨lp, 4, none⟩), .int .i64 c, .bool false, .bool false, .bool false]) (by kernel_rfl) (by kernel_rfl) (by kernel_rfl) (by rw [hsz]; kernel_rfl) (by kernel_rfl) Lat.refl Lat.trans (TV.stable _) (Lat.draw w) ?hop ?hdone
  case hdone =>
    intro a w1 hL hS hT
    have k4 : a.tmps.getD 4 undef = .bool false := hT 19 _ rfl _ rfl
    have he := same_puts hS
    have hQ2 := hQ (a.tmps.getD 5 undef) (a.tmps.getD 6 undef) (a.tmps.getD 7 undef) (a.tmps.getD 8 undef) (a.tmps.getD 9 undef) (a.tmps.getD 10 undef) (a.tmps.getD 11 undef) (a.tmps.getD 12 undef) (a.tmps.getD 13 undef) (a.tmps.getD 14 undef) (a.tmps.getD 15 undef) (a.tmps.getD 16 undef) (a.tmps.getD 17 undef) (a.tmps.getD 18 undef) (a.tmps.getD 19 undef) (a.tmps.getD 20 undef) (a.tmps.getD 21 undef) (a.tmps.getD 22 undef) (a.tmps.getD 23 undef) w1 hL
    rw [← k4] at hQ2
    rw [he]
    exact hQ2
  case hop =>
    intro i o hi
    have hlt : i < 20 := (Array.getElem?_eq_some_iff.1 hi).1
    rcases (show i = 0 ∨ i = 1 ∨ i = 2 ∨ i = 3 ∨ i = 4 ∨ i = 5 ∨ i = 6 ∨ i = 7 ∨ i = 8 ∨ i = 9 ∨ i = 10 ∨ i = 11 ∨ i = 12 ∨ i = 13 ∨ i = 14 ∨ i = 15 ∨ i = 16 ∨ i = 17 ∨ i = 18 ∨ i = 19 by omega) with rfl | rfl | rfl | rfl | rfl | rfl | rfl | rfl | rfl | rfl | rfl | rfl | rfl | rfl | rfl | rfl | rfl | rfl | rfl | rfl
    · obtain rfl := Option.some.inj hi
      clear hi hlt
      intro a w1 hL hS hD
      have e1 : a.tmps.getD 1 undef = .int .i64 n := (hS.slot 1 (by kernel_rfl)).trans s1
      refine step_yes rfl ?_
      exact ok_value Lat.refl (.int .i64 n) (by simp [execOp, Act.eval, e1, go_sem]) (TV.mk rfl)
    · obtain rfl := Option.some.inj hi
      clear hi hlt
      intro a w1 hL hS hD
      have d0 : a.tmps.getD 5 undef = .int .i64 n := hD ⟨0, .data⟩ (by simp) rfl _ rfl _ rfl
      refine step_yes rfl ?_
      exact ok_value Lat.refl (.bool true) (by simp [execOp, Act.eval, d0, hz, go_sem]) (TV.mk rfl)
    · obtain rfl := Option.some.inj hi
      clear hi hlt
      intro a w1 hL hS hD
      have d1 : a.tmps.getD 6 undef = .bool true := hD ⟨1, .data⟩ (by simp) rfl _ rfl _ rfl
      refine step_yes rfl ?_
      exact ok_value Lat.refl (.bool true) (by simp [execOp, Act.eval, d1, go_sem]) (TV.mk rfl)
    · obtain rfl := Option.some.inj hi
      clear hi hlt
      intro a w1 hL hS hD
      have d2 : a.tmps.getD 7 undef = .bool true := hD ⟨2, .guard⟩ (by simp) rfl _ rfl _ rfl
      have e1 : a.tmps.getD 1 undef = .int .i64 n := (hS.slot 1 (by kernel_rfl)).trans s1
      refine step_yes (wanted_yes rfl rfl rfl d2) ?_
      exact ok_value Lat.refl (.int .i64 n) (by simp [execOp, Act.eval, e1, go_sem]) (TV.mk rfl)
    · obtain rfl := Option.some.inj hi
      clear hi hlt
      intro a w1 hL hS hD
      have d2 : a.tmps.getD 7 undef = .bool true := hD ⟨2, .guard⟩ (by simp) rfl _ rfl _ rfl
      have d3 : a.tmps.getD 8 undef = .int .i64 n := hD ⟨3, .data⟩ (by simp) rfl _ rfl _ rfl
      refine step_yes (wanted_yes rfl rfl rfl d2) ?_
      exact ok_value Lat.refl (.bool true) (by simp [execOp, Act.eval, d3, hy, go_sem]) (TV.mk rfl)
    · obtain rfl := Option.some.inj hi
      clear hi hlt
      intro a w1 hL hS hD
      have d2 : a.tmps.getD 7 undef = .bool true := hD ⟨2, .data⟩ (by simp) rfl _ rfl _ rfl
      have d4 : a.tmps.getD 9 undef = .bool true := hD ⟨4, .data⟩ (by simp) rfl _ rfl _ rfl
      refine step_yes rfl ?_
      exact ok_value Lat.refl (.bool true) (by simp [execOp, Act.eval, d2, d4, go_sem]) (TV.mk rfl)
    · obtain rfl := Option.some.inj hi
      clear hi hlt
      intro a w1 hL hS hD
      have d5 : a.tmps.getD 10 undef = .bool true := hD ⟨5, .data⟩ (by simp) rfl _ rfl _ rfl
      refine step_yes rfl ?_
      exact ok_value Lat.refl (.bool true) (by simp [execOp, Act.eval, d5, go_sem]) (TV.mk rfl)
    · obtain rfl := Option.some.inj hi
      clear hi hlt
      intro a w1 hL hS hD
      have d6 : a.tmps.getD 11 undef = .bool true := hD ⟨6, .guard⟩ (by simp) rfl _ rfl _ rfl
      have e0 : a.tmps.getD 0 undef = .pointer (some ⟨lp, 0, none⟩) := (hS.slot 0 (by kernel_rfl)).trans s0
      refine step_yes (wanted_yes rfl rfl rfl d6) ?_
      exact ok_value Lat.refl (.pointer (some ⟨lp, 0, none⟩)) (by simp [execOp, Act.eval, e0, go_sem]) (TV.mk rfl)
    · obtain rfl := Option.some.inj hi
      clear hi hlt
      intro a w1 hL hS hD
      have d6 : a.tmps.getD 11 undef = .bool true := hD ⟨6, .guard⟩ (by simp) rfl _ rfl _ rfl
      have d7 : a.tmps.getD 12 undef = .pointer (some ⟨lp, 0, none⟩) := hD ⟨7, .data⟩ (by simp) rfl _ rfl _ rfl
      refine step_yes (wanted_yes rfl rfl rfl d6) ?_
      refine ok_call (f := 72) (args := #[.pointer (some ⟨lp, 0, none⟩)]) (by simp [execOp, resolve, Act.eval, d7, go_sem]) ?_
      refine (k1 w1 hL).mono ?_
      rintro e w2 ⟨rfl, hb⟩
      exact ⟨_, rfl, hb, TV.mk rfl⟩
    · obtain rfl := Option.some.inj hi
      clear hi hlt
      intro a w1 hL hS hD
      have d6 : a.tmps.getD 11 undef = .bool true := hD ⟨6, .guard⟩ (by simp) rfl _ rfl _ rfl
      have e1 : a.tmps.getD 1 undef = .int .i64 n := (hS.slot 1 (by kernel_rfl)).trans s1
      refine step_yes (wanted_yes rfl rfl rfl d6) ?_
      exact ok_value Lat.refl (.int .i64 n) (by simp [execOp, Act.eval, e1, go_sem]) (TV.mk rfl)
    · obtain rfl := Option.some.inj hi
      clear hi hlt
      intro a w1 hL hS hD
      have d6 : a.tmps.getD 11 undef = .bool true := hD ⟨6, .guard⟩ (by simp) rfl _ rfl _ rfl
      have d8 : a.tmps.getD 13 undef = .int .i64 y := hD ⟨8, .data⟩ (by simp) rfl _ rfl _ rfl
      have d9 : a.tmps.getD 14 undef = .int .i64 n := hD ⟨9, .data⟩ (by simp) rfl _ rfl _ rfl
      refine step_yes (wanted_yes rfl rfl rfl d6) ?_
      exact ok_value Lat.refl (.int .i64 (y + n)) (by simp [execOp, Act.eval, d8, d9, hw, go_sem]) (TV.mk rfl)
    · obtain rfl := Option.some.inj hi
      clear hi hlt
      intro a w1 hL hS hD
      have d6 : a.tmps.getD 11 undef = .bool true := hD ⟨6, .guard⟩ (by simp) rfl _ rfl _ rfl
      have d10 : a.tmps.getD 15 undef = .int .i64 (y + n) := hD ⟨10, .data⟩ (by simp) rfl _ rfl _ rfl
      refine step_yes (wanted_yes rfl rfl rfl d6) ?_
      exact ok_value Lat.refl (.int .i64 (y + n + 9)) (by simp [execOp, Act.eval, d10, hw2, go_sem]) (TV.mk rfl)
    · obtain rfl := Option.some.inj hi
      clear hi hlt
      intro a w1 hL hS hD
      have d6 : a.tmps.getD 11 undef = .bool true := hD ⟨6, .guard⟩ (by simp) rfl _ rfl _ rfl
      have e0 : a.tmps.getD 0 undef = .pointer (some ⟨lp, 0, none⟩) := (hS.slot 0 (by kernel_rfl)).trans s0
      refine step_yes (wanted_yes rfl rfl rfl d6) ?_
      exact ok_value Lat.refl (.pointer (some ⟨lp, 0, none⟩)) (by simp [execOp, Act.eval, e0, go_sem]) (TV.mk rfl)
    · obtain rfl := Option.some.inj hi
      clear hi hlt
      intro a w1 hL hS hD
      have d6 : a.tmps.getD 11 undef = .bool true := hD ⟨6, .guard⟩ (by simp) rfl _ rfl _ rfl
      have d12 : a.tmps.getD 17 undef = .pointer (some ⟨lp, 0, none⟩) := hD ⟨12, .data⟩ (by simp) rfl _ rfl _ rfl
      refine step_yes (wanted_yes rfl rfl rfl d6) ?_
      exact ok_value Lat.refl (.pointer (some ⟨lp, 0, none⟩)) (by simp [execOp, Act.eval, d12, go_sem]) (TV.mk rfl)
    · obtain rfl := Option.some.inj hi
      clear hi hlt
      intro a w1 hL hS hD
      have d6 : a.tmps.getD 11 undef = .bool true := hD ⟨6, .guard⟩ (by simp) rfl _ rfl _ rfl
      have d13 : a.tmps.getD 18 undef = .pointer (some ⟨lp, 0, none⟩) := hD ⟨13, .data⟩ (by simp) rfl _ rfl _ rfl
      refine step_yes (wanted_yes rfl rfl rfl d6) ?_
      exact ok_value Lat.refl (.pointer (some ⟨lp, 3, none⟩)) (by simp [execOp, Act.eval, d13, go_sem]) (TV.mk rfl)
    · obtain rfl := Option.some.inj hi
      clear hi hlt
      intro a w1 hL hS hD
      have d6 : a.tmps.getD 11 undef = .bool true := hD ⟨6, .guard⟩ (by simp) rfl _ rfl _ rfl
      have d14 : a.tmps.getD 19 undef = .pointer (some ⟨lp, 3, none⟩) := hD ⟨14, .data⟩ (by simp) rfl _ rfl _ rfl
      refine step_yes (wanted_yes rfl rfl rfl d6) ?_
      exact ok_value Lat.refl (.pointer (some ⟨lp, 4, none⟩)) (by simp [execOp, Act.eval, d14, go_sem]) (TV.mk rfl)
    · obtain rfl := Option.some.inj hi
      clear hi hlt
      intro a w1 hL hS hD
      have d6 : a.tmps.getD 11 undef = .bool true := hD ⟨6, .guard⟩ (by simp) rfl _ rfl _ rfl
      have d15 : a.tmps.getD 20 undef = .pointer (some ⟨lp, 4, none⟩) := hD ⟨15, .data⟩ (by simp) rfl _ rfl _ rfl
      refine step_yes (wanted_yes rfl rfl rfl d6) ?_
      exact ok_value Lat.refl (.int .i64 c) (by simp [execOp, Act.eval, d15, hC w1 hL, go_sem]) (TV.mk rfl)
    · obtain rfl := Option.some.inj hi
      clear hi hlt
      intro a w1 hL hS hD
      have d6 : a.tmps.getD 11 undef = .bool true := hD ⟨6, .guard⟩ (by simp) rfl _ rfl _ rfl
      have d11 : a.tmps.getD 16 undef = .int .i64 (y + n + 9) := hD ⟨11, .data⟩ (by simp) rfl _ rfl _ rfl
      have d16 : a.tmps.getD 21 undef = .int .i64 c := hD ⟨16, .data⟩ (by simp) rfl _ rfl _ rfl
      refine step_yes (wanted_yes rfl rfl rfl d6) ?_
      exact ok_value Lat.refl (.bool false) (by simp [execOp, Act.eval, d11, d16, hle, go_sem]) (TV.mk rfl)
    · obtain rfl := Option.some.inj hi
      clear hi hlt
      intro a w1 hL hS hD
      have d6 : a.tmps.getD 11 undef = .bool true := hD ⟨6, .data⟩ (by simp) rfl _ rfl _ rfl
      have d17 : a.tmps.getD 22 undef = .bool false := hD ⟨17, .data⟩ (by simp) rfl _ rfl _ rfl
      refine step_yes rfl ?_
      exact ok_value Lat.refl (.bool false) (by simp [execOp, Act.eval, d6, d17, go_sem]) (TV.mk rfl)
    · obtain rfl := Option.some.inj hi
      clear hi hlt
      intro a w1 hL hS hD
      have d18 : a.tmps.getD 23 undef = .bool false := hD ⟨18, .data⟩ (by simp) rfl _ rfl _ rfl
      refine step_yes rfl ?_
      exact ok_value Lat.refl (.bool false) (by simp [execOp, Act.eval, d18, go_sem]) (TV.mk rfl)

set_option maxRecDepth 100000 in
set_option maxHeartbeats 2000000 in
theorem rappend_r7 (lp p v n c B m : Nat) (ad : Option Addr) (xs : List Int) (R : Value → World → Prop) (w : World) (a0 : Act) (Q : Exit → Act → World → Prop) (hsz : a0.tmps.size = 42)
    (s0 : a0.tmps.getD 0 undef = .pointer (some ⟨lp, 0, none⟩))
    (s1 : a0.tmps.getD 1 undef = .slice ad n c)
    (hA : ∀ w1, Lat w w1 → w1.cell? ⟨lp, 0, none⟩ = some (.pointer (some ⟨p, 0, none⟩)))
    (hV : ∀ w1, Lat w w1 → w1.cell? ⟨lp, 2, none⟩ = some (.int .i64 (v : Int)))
    (k1 : ∀ w1, Lat w w1 → Calls Tryz.prog 58 #[.int .u8 2, .slice ad n c] w1 fun e w2 => ∃ v, e = .returned v ∧ Lat w1 w2 ∧ RowE B m xs v w2)
    (hcall : ∀ w1, Lat w w1 → ∀ ag cg, RowE B m xs (.slice ag m cg) w1 → Calls Tryz.prog 33 #[.pointer (some ⟨p, 0, none⟩), .int .i64 (v : Int), .slice ag m cg] w1 fun e w2 => ∃ x, e = .returned x ∧ R x w2)
    (hQ : ∀ (v19 v20 v21 v22 v23 v24 v25 v26 v27 v28 v29 v7 : Value) (x : Value) (w2 : World), R x w2 → Q .normal ((((((((((((((a0.put (some 19) v19).put (some 20) v20).put (some 21) v21).put (some 22) v22).put (some 23) v23).put (some 24) v24).put (some 25) v25).put (some 26) v26).put (some 27) v27).put (some 28) v28).put (some 29) v29).put (some 7) v7).put (some 29) (x)).put (some 7) (x)) w2) :
    Code.wp Tryz.prog ((Tryz.f24.body.bind (findRegion 7)).getD .skip) Q a0 w := by
  conv => arg 2; whnf
  refine wp_region_tail 10 Lat (TE [Ent.val (.pointer (some ⟨lp, 0, none⟩)), Ent.val (.pointer (some ⟨lp, 0, none⟩)), Ent.val (.pointer (some ⟨lp, 0, none⟩)), Ent.val (.pointer (some ⟨p, 0, none⟩)), Ent.val (.pointer (some ⟨lp, 0, none⟩)), Ent.val (.pointer (some ⟨lp, 0, none⟩)), Ent.val (.pointer (some ⟨lp, 2, none⟩)), Ent.val (.int .i64 (v : Int)), Ent.val (.slice ad n c), rowE B m xs]) (by kernel_rfl) (by kernel_rfl) (by kernel_rfl) (by rw [hsz]; kernel_rfl) (by kernel_rfl) (by kernel_rfl) Lat.refl Lat.trans (TE_stable _) (Lat.draw w) ?hop ?hlast
  case hlast =>
    intro a w1 hL hS hT
    have k22 : a.tmps.getD 22 undef = .pointer (some ⟨p, 0, none⟩) := hT 3 _ (by omega) rfl
    have k26 : a.tmps.getD 26 undef = .int .i64 (v : Int) := hT 7 _ (by omega) rfl
    have kk28 := hT 9 _ (by omega) rfl
    obtain ⟨ag, cg, k28, hr28⟩ := kk28
    have k28 : a.tmps.getD 28 undef = .slice ag m cg := k28
    refine wpAny_one 10 _ rfl rfl (by kernel_rfl) ?_
    refine wp_call_r (f := 33) (args := #[.pointer (some ⟨p, 0, none⟩), .int .i64 (v : Int), .slice ag m cg]) (by simp [execOp, resolve, Act.eval, k22, k26, k28, go_sem]) ?_
    refine (hcall w1 hL ag cg ⟨ag, cg, rfl, k28 ▸ hr28⟩).mono ?_
    rintro e w2 ⟨x, rfl, hR⟩
    refine ⟨x, rfl, ?_⟩
    show wpAny Tryz.prog .any _ Q _ _ (a.put (some 29) (x)) w2
    obtain ⟨fr1, hfr1⟩ : ∃ y, a.put (some 29) (x) = y := ⟨_, rfl⟩
    rw [hfr1]
    have zfr1 : fr1.tmps.size = 42 := by rw [← hfr1, put_size]; exact (hS.size.trans hsz)
    have c1_22 : fr1.tmps.getD 22 undef = .pointer (some ⟨p, 0, none⟩) := by rw [← hfr1]; exact (put_slot _ 29 22 _ (by decide)).trans k22
    have c1_26 : fr1.tmps.getD 26 undef = .int .i64 (v : Int) := by rw [← hfr1]; exact (put_slot _ 29 26 _ (by decide)).trans k26
    have c1_28 : fr1.tmps.getD 28 undef = .slice ag m cg := by rw [← hfr1]; exact (put_slot _ 29 28 _ (by decide)).trans k28
    have c1_29 : fr1.tmps.getD 29 undef = x := by rw [← hfr1]; exact put_same _ 29 _ (by rw [(hS.size.trans hsz)]; decide)
    refine wpAny_one 11 _ rfl rfl (by kernel_rfl) ?_
    refine wp_val (x) (w' := w2) (by simp only [Array.getD_eq_getD_getElem?] at c1_29; simp [execOp, Act.eval, c1_29, go_sem]) ?_
    show wpAny Tryz.prog .any _ Q _ _ (fr1.put (some 7) (x)) w2
    obtain ⟨fr2, hfr2⟩ : ∃ y, fr1.put (some 7) (x) = y := ⟨_, rfl⟩
    rw [hfr2]
    have zfr2 : fr2.tmps.size = 42 := by rw [← hfr2, put_size]; exact zfr1
    have c2_22 : fr2.tmps.getD 22 undef = .pointer (some ⟨p, 0, none⟩) := by rw [← hfr2]; exact (put_slot _ 7 22 _ (by decide)).trans c1_22
    have c2_26 : fr2.tmps.getD 26 undef = .int .i64 (v : Int) := by rw [← hfr2]; exact (put_slot _ 7 26 _ (by decide)).trans c1_26
    have c2_28 : fr2.tmps.getD 28 undef = .slice ag m cg := by rw [← hfr2]; exact (put_slot _ 7 28 _ (by decide)).trans c1_28
    have c2_29 : fr2.tmps.getD 29 undef = x := by rw [← hfr2]; exact (put_slot _ 7 29 _ (by decide)).trans c1_29
    have c2_7 : fr2.tmps.getD 7 undef = x := by rw [← hfr2]; exact put_same _ 7 _ (by rw [zfr1]; decide)
    refine wpAny_nil (by kernel_rfl) ?_
    show Q .normal _ w2
    rw [← hfr2, ← hfr1]
    rw [same_puts hS]
    exact hQ (a.tmps.getD 19 undef) (a.tmps.getD 20 undef) (a.tmps.getD 21 undef) (a.tmps.getD 22 undef) (a.tmps.getD 23 undef) (a.tmps.getD 24 undef) (a.tmps.getD 25 undef) (a.tmps.getD 26 undef) (a.tmps.getD 27 undef) (a.tmps.getD 28 undef) (a.tmps.getD 29 undef) (a.tmps.getD 7 undef) x w2 hR
  case hop =>
    intro i o hlt hi
    rcases (show i = 0 ∨ i = 1 ∨ i = 2 ∨ i = 3 ∨ i = 4 ∨ i = 5 ∨ i = 6 ∨ i = 7 ∨ i = 8 ∨ i = 9 by omega) with rfl | rfl | rfl | rfl | rfl | rfl | rfl | rfl | rfl | rfl
    · obtain rfl := Option.some.inj hi
      clear hi hlt
      intro a w1 hL hS hD
      have e0 : a.tmps.getD 0 undef = .pointer (some ⟨lp, 0, none⟩) := (hS.slot 0 (by kernel_rfl)).trans s0
      refine step_yes rfl ?_
      exact ok_value Lat.refl (.pointer (some ⟨lp, 0, none⟩)) (by simp [execOp, Act.eval, e0, go_sem]) rfl
    · obtain rfl := Option.some.inj hi
      clear hi hlt
      intro a w1 hL hS hD
      have d0 : a.tmps.getD 19 undef = .pointer (some ⟨lp, 0, none⟩) := hD ⟨0, .data⟩ (by simp) rfl _ rfl
      refine step_yes rfl ?_
      exact ok_value Lat.refl (.pointer (some ⟨lp, 0, none⟩)) (by simp [execOp, Act.eval, d0, go_sem]) rfl
    · obtain rfl := Option.some.inj hi
      clear hi hlt
      intro a w1 hL hS hD
      have d1 : a.tmps.getD 20 undef = .pointer (some ⟨lp, 0, none⟩) := hD ⟨1, .data⟩ (by simp) rfl _ rfl
      refine step_yes rfl ?_
      exact ok_value Lat.refl (.pointer (some ⟨lp, 0, none⟩)) (by simp [execOp, Act.eval, d1, go_sem]) rfl
    · obtain rfl := Option.some.inj hi
      clear hi hlt
      intro a w1 hL hS hD
      have d2 : a.tmps.getD 21 undef = .pointer (some ⟨lp, 0, none⟩) := hD ⟨2, .data⟩ (by simp) rfl _ rfl
      refine step_yes rfl ?_
      exact ok_value Lat.refl (.pointer (some ⟨p, 0, none⟩)) (by simp [execOp, Act.eval, d2, hA w1 hL, go_sem]) rfl
    · obtain rfl := Option.some.inj hi
      clear hi hlt
      intro a w1 hL hS hD
      have e0 : a.tmps.getD 0 undef = .pointer (some ⟨lp, 0, none⟩) := (hS.slot 0 (by kernel_rfl)).trans s0
      refine step_yes rfl ?_
      exact ok_value Lat.refl (.pointer (some ⟨lp, 0, none⟩)) (by simp [execOp, Act.eval, e0, go_sem]) rfl
    · obtain rfl := Option.some.inj hi
      clear hi hlt
      intro a w1 hL hS hD
      have d4 : a.tmps.getD 23 undef = .pointer (some ⟨lp, 0, none⟩) := hD ⟨4, .data⟩ (by simp) rfl _ rfl
      refine step_yes rfl ?_
      exact ok_value Lat.refl (.pointer (some ⟨lp, 0, none⟩)) (by simp [execOp, Act.eval, d4, go_sem]) rfl
    · obtain rfl := Option.some.inj hi
      clear hi hlt
      intro a w1 hL hS hD
      have d5 : a.tmps.getD 24 undef = .pointer (some ⟨lp, 0, none⟩) := hD ⟨5, .data⟩ (by simp) rfl _ rfl
      refine step_yes rfl ?_
      exact ok_value Lat.refl (.pointer (some ⟨lp, 2, none⟩)) (by simp [execOp, Act.eval, d5, go_sem]) rfl
    · obtain rfl := Option.some.inj hi
      clear hi hlt
      intro a w1 hL hS hD
      have d6 : a.tmps.getD 25 undef = .pointer (some ⟨lp, 2, none⟩) := hD ⟨6, .data⟩ (by simp) rfl _ rfl
      refine step_yes rfl ?_
      exact ok_value Lat.refl (.int .i64 (v : Int)) (by simp [execOp, Act.eval, d6, hV w1 hL, go_sem]) rfl
    · obtain rfl := Option.some.inj hi
      clear hi hlt
      intro a w1 hL hS hD
      have e1 : a.tmps.getD 1 undef = .slice ad n c := (hS.slot 1 (by kernel_rfl)).trans s1
      refine step_yes rfl ?_
      exact ok_value Lat.refl (.slice ad n c) (by simp [execOp, Act.eval, e1, go_sem]) rfl
    · obtain rfl := Option.some.inj hi
      clear hi hlt
      intro a w1 hL hS hD
      have d8 : a.tmps.getD 27 undef = .slice ad n c := hD ⟨8, .data⟩ (by simp) rfl _ rfl
      refine step_yes rfl ?_
      refine ok_call (f := 58) (args := #[.int .u8 2, .slice ad n c]) (by simp [execOp, resolve, Act.eval, d8, go_sem]) ?_
      refine (k1 w1 hL).mono ?_
      rintro e w2 ⟨v, rfl, hb, hr⟩
      exact ⟨v, rfl, hb, hr⟩

set_option maxRecDepth 100000 in
set_option maxHeartbeats 2000000 in
theorem rappend_r9 (lp p v : Nat) (R : Value → World → Prop) (w : World) (a0 : Act) (Q : Exit → Act → World → Prop) (hsz : a0.tmps.size = 42)
    (s0 : a0.tmps.getD 0 undef = .pointer (some ⟨lp, 0, none⟩))
    (hA : ∀ w1, Lat w w1 → w1.cell? ⟨lp, 0, none⟩ = some (.pointer (some ⟨p, 0, none⟩)))
    (hV : ∀ w1, Lat w w1 → w1.cell? ⟨lp, 2, none⟩ = some (.int .i64 (v : Int)))
    (hcall : ∀ w1, Lat w w1 → Calls Tryz.prog 54 #[.pointer (some ⟨p, 0, none⟩), .int .i64 (v : Int)] w1 fun e w2 => ∃ x, e = .returned x ∧ R x w2)
    (hQ : ∀ (v32 v33 v34 v35 v36 v37 v38 v39 v40 v7 : Value) (x : Value) (w2 : World), R x w2 → Q .normal ((((((((((((a0.put (some 32) v32).put (some 33) v33).put (some 34) v34).put (some 35) v35).put (some 36) v36).put (some 37) v37).put (some 38) v38).put (some 39) v39).put (some 40) v40).put (some 7) v7).put (some 40) (x)).put (some 7) (x)) w2) :
    Code.wp Tryz.prog ((Tryz.f24.body.bind (findRegion 9)).getD .skip) Q a0 w := by
  conv => arg 2; whnf
  refine wp_region_tail 8 Lat (TE [Ent.val (.pointer (some ⟨lp, 0, none⟩)), Ent.val (.pointer (some ⟨lp, 0, none⟩)), Ent.val (.pointer (some ⟨lp, 0, none⟩)), Ent.val (.pointer (some ⟨p, 0, none⟩)), Ent.val (.pointer (some ⟨lp, 0, none⟩)), Ent.val (.pointer (some ⟨lp, 0, none⟩)), Ent.val (.pointer (some ⟨lp, 2, none⟩)), Ent.val (.int .i64 (v : Int))]) (by kernel_rfl) (by kernel_rfl) (by kernel_rfl) (by rw [hsz]; kernel_rfl) (by kernel_rfl) (by kernel_rfl) Lat.refl Lat.trans (TE_stable _) (Lat.draw w) ?hop ?hlast
  case hlast =>
    intro a w1 hL hS hT
    have k35 : a.tmps.getD 35 undef = .pointer (some ⟨p, 0, none⟩) := hT 3 _ (by omega) rfl
    have k39 : a.tmps.getD 39 undef = .int .i64 (v : Int) := hT 7 _ (by omega) rfl
    refine wpAny_one 8 _ rfl rfl (by kernel_rfl) ?_
    refine wp_call_r (f := 54) (args := #[.pointer (some ⟨p, 0, none⟩), .int .i64 (v : Int)]) (by simp [execOp, resolve, Act.eval, k35, k39, go_sem]) ?_
    refine (hcall w1 hL).mono ?_
    rintro e w2 ⟨x, rfl, hR⟩
    refine ⟨x, rfl, ?_⟩
    show wpAny Tryz.prog .any _ Q _ _ (a.put (some 40) (x)) w2
    obtain ⟨fr1, hfr1⟩ : ∃ y, a.put (some 40) (x) = y := ⟨_, rfl⟩
    rw [hfr1]
    have zfr1 : fr1.tmps.size = 42 := by rw [← hfr1, put_size]; exact (hS.size.trans hsz)
    have c1_35 : fr1.tmps.getD 35 undef = .pointer (some ⟨p, 0, none⟩) := by rw [← hfr1]; exact (put_slot _ 40 35 _ (by decide)).trans k35
    have c1_39 : fr1.tmps.getD 39 undef = .int .i64 (v : Int) := by rw [← hfr1]; exact (put_slot _ 40 39 _ (by decide)).trans k39
    have c1_40 : fr1.tmps.getD 40 undef = x := by rw [← hfr1]; exact put_same _ 40 _ (by rw [(hS.size.trans hsz)]; decide)
    refine wpAny_one 9 _ rfl rfl (by kernel_rfl) ?_
    refine wp_val (x) (w' := w2) (by simp only [Array.getD_eq_getD_getElem?] at c1_40; simp [execOp, Act.eval, c1_40, go_sem]) ?_
    show wpAny Tryz.prog .any _ Q _ _ (fr1.put (some 7) (x)) w2
    obtain ⟨fr2, hfr2⟩ : ∃ y, fr1.put (some 7) (x) = y := ⟨_, rfl⟩
    rw [hfr2]
    have zfr2 : fr2.tmps.size = 42 := by rw [← hfr2, put_size]; exact zfr1
    have c2_35 : fr2.tmps.getD 35 undef = .pointer (some ⟨p, 0, none⟩) := by rw [← hfr2]; exact (put_slot _ 7 35 _ (by decide)).trans c1_35
    have c2_39 : fr2.tmps.getD 39 undef = .int .i64 (v : Int) := by rw [← hfr2]; exact (put_slot _ 7 39 _ (by decide)).trans c1_39
    have c2_40 : fr2.tmps.getD 40 undef = x := by rw [← hfr2]; exact (put_slot _ 7 40 _ (by decide)).trans c1_40
    have c2_7 : fr2.tmps.getD 7 undef = x := by rw [← hfr2]; exact put_same _ 7 _ (by rw [zfr1]; decide)
    refine wpAny_nil (by kernel_rfl) ?_
    show Q .normal _ w2
    rw [← hfr2, ← hfr1]
    rw [same_puts hS]
    exact hQ (a.tmps.getD 32 undef) (a.tmps.getD 33 undef) (a.tmps.getD 34 undef) (a.tmps.getD 35 undef) (a.tmps.getD 36 undef) (a.tmps.getD 37 undef) (a.tmps.getD 38 undef) (a.tmps.getD 39 undef) (a.tmps.getD 40 undef) (a.tmps.getD 7 undef) x w2 hR
  case hop =>
    intro i o hlt hi
    rcases (show i = 0 ∨ i = 1 ∨ i = 2 ∨ i = 3 ∨ i = 4 ∨ i = 5 ∨ i = 6 ∨ i = 7 by omega) with rfl | rfl | rfl | rfl | rfl | rfl | rfl | rfl
    · obtain rfl := Option.some.inj hi
      clear hi hlt
      intro a w1 hL hS hD
      have e0 : a.tmps.getD 0 undef = .pointer (some ⟨lp, 0, none⟩) := (hS.slot 0 (by kernel_rfl)).trans s0
      refine step_yes rfl ?_
      exact ok_value Lat.refl (.pointer (some ⟨lp, 0, none⟩)) (by simp [execOp, Act.eval, e0, go_sem]) rfl
    · obtain rfl := Option.some.inj hi
      clear hi hlt
      intro a w1 hL hS hD
      have d0 : a.tmps.getD 32 undef = .pointer (some ⟨lp, 0, none⟩) := hD ⟨0, .data⟩ (by simp) rfl _ rfl
      refine step_yes rfl ?_
      exact ok_value Lat.refl (.pointer (some ⟨lp, 0, none⟩)) (by simp [execOp, Act.eval, d0, go_sem]) rfl
    · obtain rfl := Option.some.inj hi
      clear hi hlt
      intro a w1 hL hS hD
      have d1 : a.tmps.getD 33 undef = .pointer (some ⟨lp, 0, none⟩) := hD ⟨1, .data⟩ (by simp) rfl _ rfl
      refine step_yes rfl ?_
      exact ok_value Lat.refl (.pointer (some ⟨lp, 0, none⟩)) (by simp [execOp, Act.eval, d1, go_sem]) rfl
    · obtain rfl := Option.some.inj hi
      clear hi hlt
      intro a w1 hL hS hD
      have d2 : a.tmps.getD 34 undef = .pointer (some ⟨lp, 0, none⟩) := hD ⟨2, .data⟩ (by simp) rfl _ rfl
      refine step_yes rfl ?_
      exact ok_value Lat.refl (.pointer (some ⟨p, 0, none⟩)) (by simp [execOp, Act.eval, d2, hA w1 hL, go_sem]) rfl
    · obtain rfl := Option.some.inj hi
      clear hi hlt
      intro a w1 hL hS hD
      have e0 : a.tmps.getD 0 undef = .pointer (some ⟨lp, 0, none⟩) := (hS.slot 0 (by kernel_rfl)).trans s0
      refine step_yes rfl ?_
      exact ok_value Lat.refl (.pointer (some ⟨lp, 0, none⟩)) (by simp [execOp, Act.eval, e0, go_sem]) rfl
    · obtain rfl := Option.some.inj hi
      clear hi hlt
      intro a w1 hL hS hD
      have d4 : a.tmps.getD 36 undef = .pointer (some ⟨lp, 0, none⟩) := hD ⟨4, .data⟩ (by simp) rfl _ rfl
      refine step_yes rfl ?_
      exact ok_value Lat.refl (.pointer (some ⟨lp, 0, none⟩)) (by simp [execOp, Act.eval, d4, go_sem]) rfl
    · obtain rfl := Option.some.inj hi
      clear hi hlt
      intro a w1 hL hS hD
      have d5 : a.tmps.getD 37 undef = .pointer (some ⟨lp, 0, none⟩) := hD ⟨5, .data⟩ (by simp) rfl _ rfl
      refine step_yes rfl ?_
      exact ok_value Lat.refl (.pointer (some ⟨lp, 2, none⟩)) (by simp [execOp, Act.eval, d5, go_sem]) rfl
    · obtain rfl := Option.some.inj hi
      clear hi hlt
      intro a w1 hL hS hD
      have d6 : a.tmps.getD 38 undef = .pointer (some ⟨lp, 2, none⟩) := hD ⟨6, .data⟩ (by simp) rfl _ rfl
      refine step_yes rfl ?_
      exact ok_value Lat.refl (.int .i64 (v : Int)) (by simp [execOp, Act.eval, d6, hV w1 hL, go_sem]) rfl

theorem size85g : (Tryz.prog.info? 85).map (·.size) = some 4 := by kernel_rfl
set_option maxRecDepth 100000 in
set_option maxHeartbeats 2000000 in
theorem rcheck_r9 (lp p hb v g cp sl sn sc : Nat) (o : Int) (sa : Option Addr) (R : Value → World → Prop) (w : World) (a0 : Act) (Q : Exit → Act → World → Prop) (hsz : a0.tmps.size = 83)
    (s0 : a0.tmps.getD 0 undef = .pointer (some ⟨lp, 0, none⟩))
    (s7 : a0.tmps.getD 7 undef = .pointer (some ⟨hb, 0, none⟩))
    (hA : ∀ w1, Lat w w1 → w1.cell? ⟨lp, 0, none⟩ = some (.pointer (some ⟨p, 0, none⟩)))
    (hV : ∀ w1, Lat w w1 → w1.cell? ⟨lp, 2, none⟩ = some (.int .i64 (v : Int)))
    (hB : ∀ w1, Lat w w1 → Blk w1 hb 85 [.int .u64 (g : Int), .int .i64 (cp : Int), .int .i64 (sl : Int), .slice sa sn sc])
    (ho : IntKind.i64.wrap (1 - (v : Int)) = o)
    (hcall : ∀ w1, Lat w w1 → Calls Tryz.prog 59 #[.pointer (some ⟨p, 0, none⟩), .int .i64 o, .agg #[.int .u64 (g : Int), .int .i64 (cp : Int), .int .i64 (sl : Int), .slice sa sn sc]] w1 fun e w2 => ∃ x, e = .returned x ∧ R x w2)
    (hQ : ∀ (v46 v47 v48 v49 v50 v51 v52 v53 v54 v55 v56 v8 : Value) (x : Value) (w2 : World), R x w2 → Q .normal ((((((((((((((a0.put (some 46) v46).put (some 47) v47).put (some 48) v48).put (some 49) v49).put (some 50) v50).put (some 51) v51).put (some 52) v52).put (some 53) v53).put (some 54) v54).put (some 55) v55).put (some 56) v56).put (some 8) v8).put (some 56) (x)).put (some 8) (x)) w2) :
    Code.wp Tryz.prog ((Tryz.f25.body.bind (findRegion 9)).getD .skip) Q a0 w := by
  conv => arg 2; whnf
  refine wp_region_tail 10 Lat (TE [Ent.val (.pointer (some ⟨lp, 0, none⟩)), Ent.val (.pointer (some ⟨lp, 0, none⟩)), Ent.val (.pointer (some ⟨lp, 0, none⟩)), Ent.val (.pointer (some ⟨p, 0, none⟩)), Ent.val (.pointer (some ⟨lp, 0, none⟩)), Ent.val (.pointer (some ⟨lp, 0, none⟩)), Ent.val (.pointer (some ⟨lp, 2, none⟩)), Ent.val (.int .i64 (v : Int)), Ent.val (.int .i64 o), Ent.val (.agg #[.int .u64 (g : Int), .int .i64 (cp : Int), .int .i64 (sl : Int), .slice sa sn sc])]) (by kernel_rfl) (by kernel_rfl) (by kernel_rfl) (by rw [hsz]; kernel_rfl) (by kernel_rfl) (by kernel_rfl) Lat.refl Lat.trans (TE_stable _) (Lat.draw w) ?hop ?hlast
  case hlast =>
    intro a w1 hL hS hT
    have k49 : a.tmps.getD 49 undef = .pointer (some ⟨p, 0, none⟩) := hT 3 _ (by omega) rfl
    have k54 : a.tmps.getD 54 undef = .int .i64 o := hT 8 _ (by omega) rfl
    have k55 : a.tmps.getD 55 undef = .agg #[.int .u64 (g : Int), .int .i64 (cp : Int), .int .i64 (sl : Int), .slice sa sn sc] := hT 9 _ (by omega) rfl
    refine wpAny_one 10 _ rfl rfl (by kernel_rfl) ?_
    refine wp_call_r (f := 59) (args := #[.pointer (some ⟨p, 0, none⟩), .int .i64 o, .agg #[.int .u64 (g : Int), .int .i64 (cp : Int), .int .i64 (sl : Int), .slice sa sn sc]]) (by simp [execOp, resolve, Act.eval, k49, k54, k55, go_sem]) ?_
    refine (hcall w1 hL).mono ?_
    rintro e w2 ⟨x, rfl, hR⟩
    refine ⟨x, rfl, ?_⟩
    show wpAny Tryz.prog .any _ Q _ _ (a.put (some 56) (x)) w2
    obtain ⟨fr1, hfr1⟩ : ∃ y, a.put (some 56) (x) = y := ⟨_, rfl⟩
    rw [hfr1]
    have zfr1 : fr1.tmps.size = 83 := by rw [← hfr1, put_size]; exact (hS.size.trans hsz)
    have c1_49 : fr1.tmps.getD 49 undef = .pointer (some ⟨p, 0, none⟩) := by rw [← hfr1]; exact (put_slot _ 56 49 _ (by decide)).trans k49
    have c1_54 : fr1.tmps.getD 54 undef = .int .i64 o := by rw [← hfr1]; exact (put_slot _ 56 54 _ (by decide)).trans k54
    have c1_55 : fr1.tmps.getD 55 undef = .agg #[.int .u64 (g : Int), .int .i64 (cp : Int), .int .i64 (sl : Int), .slice sa sn sc] := by rw [← hfr1]; exact (put_slot _ 56 55 _ (by decide)).trans k55
    have c1_56 : fr1.tmps.getD 56 undef = x := by rw [← hfr1]; exact put_same _ 56 _ (by rw [(hS.size.trans hsz)]; decide)
    refine wpAny_one 11 _ rfl rfl (by kernel_rfl) ?_
    refine wp_val (x) (w' := w2) (by simp only [Array.getD_eq_getD_getElem?] at c1_56; simp [execOp, Act.eval, c1_56, go_sem]) ?_
    show wpAny Tryz.prog .any _ Q _ _ (fr1.put (some 8) (x)) w2
    obtain ⟨fr2, hfr2⟩ : ∃ y, fr1.put (some 8) (x) = y := ⟨_, rfl⟩
    rw [hfr2]
    have zfr2 : fr2.tmps.size = 83 := by rw [← hfr2, put_size]; exact zfr1
    have c2_49 : fr2.tmps.getD 49 undef = .pointer (some ⟨p, 0, none⟩) := by rw [← hfr2]; exact (put_slot _ 8 49 _ (by decide)).trans c1_49
    have c2_54 : fr2.tmps.getD 54 undef = .int .i64 o := by rw [← hfr2]; exact (put_slot _ 8 54 _ (by decide)).trans c1_54
    have c2_55 : fr2.tmps.getD 55 undef = .agg #[.int .u64 (g : Int), .int .i64 (cp : Int), .int .i64 (sl : Int), .slice sa sn sc] := by rw [← hfr2]; exact (put_slot _ 8 55 _ (by decide)).trans c1_55
    have c2_56 : fr2.tmps.getD 56 undef = x := by rw [← hfr2]; exact (put_slot _ 8 56 _ (by decide)).trans c1_56
    have c2_8 : fr2.tmps.getD 8 undef = x := by rw [← hfr2]; exact put_same _ 8 _ (by rw [zfr1]; decide)
    refine wpAny_nil (by kernel_rfl) ?_
    show Q .normal _ w2
    rw [← hfr2, ← hfr1]
    rw [same_puts hS]
    exact hQ (a.tmps.getD 46 undef) (a.tmps.getD 47 undef) (a.tmps.getD 48 undef) (a.tmps.getD 49 undef) (a.tmps.getD 50 undef) (a.tmps.getD 51 undef) (a.tmps.getD 52 undef) (a.tmps.getD 53 undef) (a.tmps.getD 54 undef) (a.tmps.getD 55 undef) (a.tmps.getD 56 undef) (a.tmps.getD 8 undef) x w2 hR
  case hop =>
    intro i o hlt hi
    rcases (show i = 0 ∨ i = 1 ∨ i = 2 ∨ i = 3 ∨ i = 4 ∨ i = 5 ∨ i = 6 ∨ i = 7 ∨ i = 8 ∨ i = 9 by omega) with rfl | rfl | rfl | rfl | rfl | rfl | rfl | rfl | rfl | rfl
    · obtain rfl := Option.some.inj hi
      clear hi hlt
      intro a w1 hL hS hD
      have e0 : a.tmps.getD 0 undef = .pointer (some ⟨lp, 0, none⟩) := (hS.slot 0 (by kernel_rfl)).trans s0
      refine step_yes rfl ?_
      exact ok_value Lat.refl (.pointer (some ⟨lp, 0, none⟩)) (by simp [execOp, Act.eval, e0, go_sem]) rfl
    · obtain rfl := Option.some.inj hi
      clear hi hlt
      intro a w1 hL hS hD
      have d0 : a.tmps.getD 46 undef = .pointer (some ⟨lp, 0, none⟩) := hD ⟨0, .data⟩ (by simp) rfl _ rfl
      refine step_yes rfl ?_
      exact ok_value Lat.refl (.pointer (some ⟨lp, 0, none⟩)) (by simp [execOp, Act.eval, d0, go_sem]) rfl
    · obtain rfl := Option.some.inj hi
      clear hi hlt
      intro a w1 hL hS hD
      have d1 : a.tmps.getD 47 undef = .pointer (some ⟨lp, 0, none⟩) := hD ⟨1, .data⟩ (by simp) rfl _ rfl
      refine step_yes rfl ?_
      exact ok_value Lat.refl (.pointer (some ⟨lp, 0, none⟩)) (by simp [execOp, Act.eval, d1, go_sem]) rfl
    · obtain rfl := Option.some.inj hi
      clear hi hlt
      intro a w1 hL hS hD
      have d2 : a.tmps.getD 48 undef = .pointer (some ⟨lp, 0, none⟩) := hD ⟨2, .data⟩ (by simp) rfl _ rfl
      refine step_yes rfl ?_
      exact ok_value Lat.refl (.pointer (some ⟨p, 0, none⟩)) (by simp [execOp, Act.eval, d2, hA w1 hL, go_sem]) rfl
    · obtain rfl := Option.some.inj hi
      clear hi hlt
      intro a w1 hL hS hD
      have e0 : a.tmps.getD 0 undef = .pointer (some ⟨lp, 0, none⟩) := (hS.slot 0 (by kernel_rfl)).trans s0
      refine step_yes rfl ?_
      exact ok_value Lat.refl (.pointer (some ⟨lp, 0, none⟩)) (by simp [execOp, Act.eval, e0, go_sem]) rfl
    · obtain rfl := Option.some.inj hi
      clear hi hlt
      intro a w1 hL hS hD
      have d4 : a.tmps.getD 50 undef = .pointer (some ⟨lp, 0, none⟩) := hD ⟨4, .data⟩ (by simp) rfl _ rfl
      refine step_yes rfl ?_
      exact ok_value Lat.refl (.pointer (some ⟨lp, 0, none⟩)) (by simp [execOp, Act.eval, d4, go_sem]) rfl
    · obtain rfl := Option.some.inj hi
      clear hi hlt
      intro a w1 hL hS hD
      have d5 : a.tmps.getD 51 undef = .pointer (some ⟨lp, 0, none⟩) := hD ⟨5, .data⟩ (by simp) rfl _ rfl
      refine step_yes rfl ?_
      exact ok_value Lat.refl (.pointer (some ⟨lp, 2, none⟩)) (by simp [execOp, Act.eval, d5, go_sem]) rfl
    · obtain rfl := Option.some.inj hi
      clear hi hlt
      intro a w1 hL hS hD
      have d6 : a.tmps.getD 52 undef = .pointer (some ⟨lp, 2, none⟩) := hD ⟨6, .data⟩ (by simp) rfl _ rfl
      refine step_yes rfl ?_
      exact ok_value Lat.refl (.int .i64 (v : Int)) (by simp [execOp, Act.eval, d6, hV w1 hL, go_sem]) rfl
    · obtain rfl := Option.some.inj hi
      clear hi hlt
      intro a w1 hL hS hD
      have d7 : a.tmps.getD 53 undef = .int .i64 (v : Int) := hD ⟨7, .data⟩ (by simp) rfl _ rfl
      refine step_yes rfl ?_
      exact ok_value Lat.refl (.int .i64 o) (by simp [execOp, Act.eval, d7, ho, go_sem]) rfl
    · obtain rfl := Option.some.inj hi
      clear hi hlt
      intro a w1 hL hS hD
      have e7 : a.tmps.getD 7 undef = .pointer (some ⟨hb, 0, none⟩) := (hS.slot 7 (by kernel_rfl)).trans s7
      refine step_yes rfl ?_
      refine wp_load_mid 85 (.tmp 7) rfl hb 0 e7 [.int .u64 (g : Int), .int .i64 (cp : Int), .int .i64 (sl : Int), .slice sa sn sc] _ (hB w1 hL).all Tryz.underlying85 rfl size85g ?_
      exact ⟨_, rfl, Lat.refl _, rfl⟩

set_option maxRecDepth 100000 in
set_option maxHeartbeats 2000000 in
theorem rcheck_r11 (lp p v : Nat) (R : Value → World → Prop) (w : World) (a0 : Act) (Q : Exit → Act → World → Prop) (hsz : a0.tmps.size = 83)
    (s0 : a0.tmps.getD 0 undef = .pointer (some ⟨lp, 0, none⟩))
    (hA : ∀ w1, Lat w w1 → w1.cell? ⟨lp, 0, none⟩ = some (.pointer (some ⟨p, 0, none⟩)))
    (hV : ∀ w1, Lat w w1 → w1.cell? ⟨lp, 2, none⟩ = some (.int .i64 (v : Int)))
    (hcall : ∀ w1, Lat w w1 → Calls Tryz.prog 52 #[.pointer (some ⟨p, 0, none⟩), .int .i64 (v : Int), .int .i64 0] w1 fun e w2 => ∃ x, e = .returned x ∧ R x w2)
    (hQ : ∀ (v59 v60 v61 v62 v63 v64 v65 v66 v67 v8 : Value) (x : Value) (w2 : World), R x w2 → Q .normal ((((((((((((a0.put (some 59) v59).put (some 60) v60).put (some 61) v61).put (some 62) v62).put (some 63) v63).put (some 64) v64).put (some 65) v65).put (some 66) v66).put (some 67) v67).put (some 8) v8).put (some 67) (x)).put (some 8) (x)) w2) :
    Code.wp Tryz.prog ((Tryz.f25.body.bind (findRegion 11)).getD .skip) Q a0 w := by
  conv => arg 2; whnf
  refine wp_region_tail 8 Lat (TE [Ent.val (.pointer (some ⟨lp, 0, none⟩)), Ent.val (.pointer (some ⟨lp, 0, none⟩)), Ent.val (.pointer (some ⟨lp, 0, none⟩)), Ent.val (.pointer (some ⟨p, 0, none⟩)), Ent.val (.pointer (some ⟨lp, 0, none⟩)), Ent.val (.pointer (some ⟨lp, 0, none⟩)), Ent.val (.pointer (some ⟨lp, 2, none⟩)), Ent.val (.int .i64 (v : Int))]) (by kernel_rfl) (by kernel_rfl) (by kernel_rfl) (by rw [hsz]; kernel_rfl) (by kernel_rfl) (by kernel_rfl) Lat.refl Lat.trans (TE_stable _) (Lat.draw w) ?hop ?hlast
  case hlast =>
    intro a w1 hL hS hT
    have k62 : a.tmps.getD 62 undef = .pointer (some ⟨p, 0, none⟩) := hT 3 _ (by omega) rfl
    have k66 : a.tmps.getD 66 undef = .int .i64 (v : Int) := hT 7 _ (by omega) rfl
    refine wpAny_one 8 _ rfl rfl (by kernel_rfl) ?_
    refine wp_call_r (f := 52) (args := #[.pointer (some ⟨p, 0, none⟩), .int .i64 (v : Int), .int .i64 0]) (by simp [execOp, resolve, Act.eval, k62, k66, go_sem]) ?_
    refine (hcall w1 hL).mono ?_
    rintro e w2 ⟨x, rfl, hR⟩
    refine ⟨x, rfl, ?_⟩
    show wpAny Tryz.prog .any _ Q _ _ (a.put (some 67) (x)) w2
    obtain ⟨fr1, hfr1⟩ : ∃ y, a.put (some 67) (x) = y := ⟨_, rfl⟩
    rw [hfr1]
    have zfr1 : fr1.tmps.size = 83 := by rw [← hfr1, put_size]; exact (hS.size.trans hsz)
    have c1_62 : fr1.tmps.getD 62 undef = .pointer (some ⟨p, 0, none⟩) := by rw [← hfr1]; exact (put_slot _ 67 62 _ (by decide)).trans k62
    have c1_66 : fr1.tmps.getD 66 undef = .int .i64 (v : Int) := by rw [← hfr1]; exact (put_slot _ 67 66 _ (by decide)).trans k66
    have c1_67 : fr1.tmps.getD 67 undef = x := by rw [← hfr1]; exact put_same _ 67 _ (by rw [(hS.size.trans hsz)]; decide)
    refine wpAny_one 9 _ rfl rfl (by kernel_rfl) ?_
    refine wp_val (x) (w' := w2) (by simp only [Array.getD_eq_getD_getElem?] at c1_67; simp [execOp, Act.eval, c1_67, go_sem]) ?_
    show wpAny Tryz.prog .any _ Q _ _ (fr1.put (some 8) (x)) w2
    obtain ⟨fr2, hfr2⟩ : ∃ y, fr1.put (some 8) (x) = y := ⟨_, rfl⟩
    rw [hfr2]
    have zfr2 : fr2.tmps.size = 83 := by rw [← hfr2, put_size]; exact zfr1
    have c2_62 : fr2.tmps.getD 62 undef = .pointer (some ⟨p, 0, none⟩) := by rw [← hfr2]; exact (put_slot _ 8 62 _ (by decide)).trans c1_62
    have c2_66 : fr2.tmps.getD 66 undef = .int .i64 (v : Int) := by rw [← hfr2]; exact (put_slot _ 8 66 _ (by decide)).trans c1_66
    have c2_67 : fr2.tmps.getD 67 undef = x := by rw [← hfr2]; exact (put_slot _ 8 67 _ (by decide)).trans c1_67
    have c2_8 : fr2.tmps.getD 8 undef = x := by rw [← hfr2]; exact put_same _ 8 _ (by rw [zfr1]; decide)
    refine wpAny_nil (by kernel_rfl) ?_
    show Q .normal _ w2
    rw [← hfr2, ← hfr1]
    rw [same_puts hS]
    exact hQ (a.tmps.getD 59 undef) (a.tmps.getD 60 undef) (a.tmps.getD 61 undef) (a.tmps.getD 62 undef) (a.tmps.getD 63 undef) (a.tmps.getD 64 undef) (a.tmps.getD 65 undef) (a.tmps.getD 66 undef) (a.tmps.getD 67 undef) (a.tmps.getD 8 undef) x w2 hR
  case hop =>
    intro i o hlt hi
    rcases (show i = 0 ∨ i = 1 ∨ i = 2 ∨ i = 3 ∨ i = 4 ∨ i = 5 ∨ i = 6 ∨ i = 7 by omega) with rfl | rfl | rfl | rfl | rfl | rfl | rfl | rfl
    · obtain rfl := Option.some.inj hi
      clear hi hlt
      intro a w1 hL hS hD
      have e0 : a.tmps.getD 0 undef = .pointer (some ⟨lp, 0, none⟩) := (hS.slot 0 (by kernel_rfl)).trans s0
      refine step_yes rfl ?_
      exact ok_value Lat.refl (.pointer (some ⟨lp, 0, none⟩)) (by simp [execOp, Act.eval, e0, go_sem]) rfl
    · obtain rfl := Option.some.inj hi
      clear hi hlt
      intro a w1 hL hS hD
      have d0 : a.tmps.getD 59 undef = .pointer (some ⟨lp, 0, none⟩) := hD ⟨0, .data⟩ (by simp) rfl _ rfl
      refine step_yes rfl ?_
      exact ok_value Lat.refl (.pointer (some ⟨lp, 0, none⟩)) (by simp [execOp, Act.eval, d0, go_sem]) rfl
    · obtain rfl := Option.some.inj hi
      clear hi hlt
      intro a w1 hL hS hD
      have d1 : a.tmps.getD 60 undef = .pointer (some ⟨lp, 0, none⟩) := hD ⟨1, .data⟩ (by simp) rfl _ rfl
      refine step_yes rfl ?_
      exact ok_value Lat.refl (.pointer (some ⟨lp, 0, none⟩)) (by simp [execOp, Act.eval, d1, go_sem]) rfl
    · obtain rfl := Option.some.inj hi
      clear hi hlt
      intro a w1 hL hS hD
      have d2 : a.tmps.getD 61 undef = .pointer (some ⟨lp, 0, none⟩) := hD ⟨2, .data⟩ (by simp) rfl _ rfl
      refine step_yes rfl ?_
      exact ok_value Lat.refl (.pointer (some ⟨p, 0, none⟩)) (by simp [execOp, Act.eval, d2, hA w1 hL, go_sem]) rfl
    · obtain rfl := Option.some.inj hi
      clear hi hlt
      intro a w1 hL hS hD
      have e0 : a.tmps.getD 0 undef = .pointer (some ⟨lp, 0, none⟩) := (hS.slot 0 (by kernel_rfl)).trans s0
      refine step_yes rfl ?_
      exact ok_value Lat.refl (.pointer (some ⟨lp, 0, none⟩)) (by simp [execOp, Act.eval, e0, go_sem]) rfl
    · obtain rfl := Option.some.inj hi
      clear hi hlt
      intro a w1 hL hS hD
      have d4 : a.tmps.getD 63 undef = .pointer (some ⟨lp, 0, none⟩) := hD ⟨4, .data⟩ (by simp) rfl _ rfl
      refine step_yes rfl ?_
      exact ok_value Lat.refl (.pointer (some ⟨lp, 0, none⟩)) (by simp [execOp, Act.eval, d4, go_sem]) rfl
    · obtain rfl := Option.some.inj hi
      clear hi hlt
      intro a w1 hL hS hD
      have d5 : a.tmps.getD 64 undef = .pointer (some ⟨lp, 0, none⟩) := hD ⟨5, .data⟩ (by simp) rfl _ rfl
      refine step_yes rfl ?_
      exact ok_value Lat.refl (.pointer (some ⟨lp, 2, none⟩)) (by simp [execOp, Act.eval, d5, go_sem]) rfl
    · obtain rfl := Option.some.inj hi
      clear hi hlt
      intro a w1 hL hS hD
      have d6 : a.tmps.getD 65 undef = .pointer (some ⟨lp, 2, none⟩) := hD ⟨6, .data⟩ (by simp) rfl _ rfl
      refine step_yes rfl ?_
      exact ok_value Lat.refl (.int .i64 (v : Int)) (by simp [execOp, Act.eval, d6, hV w1 hL, go_sem]) rfl


end Go.Proofs.YtnfjhdedcnbdbaaGreat
