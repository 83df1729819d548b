import Derived.Test.YthfapajpmcmfeaaRfA
namespace Go.Proofs.Ythfapajpmcmfeaa
open Go.RowKit
set_option linter.unusedVariables false

set_option maxRecDepth 100000 in
set_option maxHeartbeats 2000000 in
theorem getr_neg (q n c t : Nat) (k : Int) (ad : Option Addr) (w : World) (a0 : Act) (Q : Exit → Act → World → Prop) (hsz : a0.tmps.size = 59)
    (s0 : a0.tmps.getD 0 undef = .pointer (some ⟨q, 0, none⟩))
    (s1 : a0.tmps.getD 1 undef = .int .i64 k)
    (h9 : k < 0)
    (hQ : ∀ (v8 v9 v10 v11 v12 v13 v14 v15 v16 v17 v18 v19 v20 v21 v22 v23 v24 v25 v26 : Value) (w1 : World), Lat w w1 → Q .normal ((((((((((((((((((((a0.put (some 8) v8).put (some 9) v9).put (some 10) v10).put (some 11) v11).put (some 12) v12).put (some 13) v13).put (some 14) v14).put (some 15) v15).put (some 16) v16).put (some 17) v17).put (some 18) v18).put (some 19) v19).put (some 20) v20).put (some 21) v21).put (some 22) v22).put (some 23) v23).put (some 24) v24).put (some 25) v25).put (some 26) v26).put (some 27) (.bool true)) w1) :
    Code.wp Try.prog ((Try.f14.body.bind (findRegion 1)).getD .skip) Q a0 w := by
  conv => arg 2; whnf
  refine wp_region_inv Lat (TV [.int .i64 k, .bool true, .bool true, undef, undef, .bool true, .bool true, undef, undef, undef, undef, undef, undef, undef, undef, undef, undef, undef, undef, .bool true]) (by kernel_rfl) (by kernel_rfl) (by kernel_rfl) (by rw [hsz]; kernel_rfl) (by kernel_rfl) Lat.refl Lat.trans (TV.stable _) (Lat.draw w) ?hop ?hdone
  case hdone =>
    intro a w1 hL hS hT
    have k27 : a.tmps.getD 27 undef = .bool true := hT 19 _ rfl _ rfl
    have he := same_puts hS
    have hQ2 := hQ (a.tmps.getD 8 undef) (a.tmps.getD 9 undef) (a.tmps.getD 10 undef) (a.tmps.getD 11 undef) (a.tmps.getD 12 undef) (a.tmps.getD 13 undef) (a.tmps.getD 14 undef) (a.tmps.getD 15 undef) (a.tmps.getD 16 undef) (a.tmps.getD 17 undef) (a.tmps.getD 18 undef) (a.tmps.getD 19 undef) (a.tmps.getD 20 undef) (a.tmps.getD 21 undef) (a.tmps.getD 22 undef) (a.tmps.getD 23 undef) (a.tmps.getD 24 undef) (a.tmps.getD 25 undef) (a.tmps.getD 26 undef) w1 hL
    rw [← k27] at hQ2
    rw [he]
    exact hQ2
  case hop =>
    intro i o hi
    have hlt : i < 20 := (Array.getElem?_eq_some_iff.1 hi).1
    rcases (show i = 0 ∨ i = 1 ∨ i = 2 ∨ i = 3 ∨ i = 4 ∨ i = 5 ∨ i = 6 ∨ i = 7 ∨ i = 8 ∨ i = 9 ∨ i = 10 ∨ i = 11 ∨ i = 12 ∨ i = 13 ∨ i = 14 ∨ i = 15 ∨ i = 16 ∨ i = 17 ∨ i = 18 ∨ i = 19 by omega) with rfl | rfl | rfl | rfl | rfl | rfl | rfl | rfl | rfl | rfl | rfl | rfl | rfl | rfl | rfl | rfl | rfl | rfl | rfl | rfl
    · obtain rfl := Option.some.inj hi
      clear hi hlt
      intro a w1 hL hS hD
      have e1 : a.tmps.getD 1 undef = .int .i64 k := (hS.slot 1 (by kernel_rfl)).trans s1
      refine step_yes rfl ?_
      exact ok_value Lat.refl (.int .i64 k) (by simp [execOp, Act.eval, e1, go_sem]) (TV.mk rfl)
    · obtain rfl := Option.some.inj hi
      clear hi hlt
      intro a w1 hL hS hD
      have d0 : a.tmps.getD 8 undef = .int .i64 k := hD ⟨0, .data⟩ (by simp) rfl _ rfl _ rfl
      refine step_yes rfl ?_
      exact ok_value Lat.refl (.bool true) (by simp [execOp, Act.eval, d0, h9, go_sem]) (TV.mk rfl)
    · obtain rfl := Option.some.inj hi
      clear hi hlt
      intro a w1 hL hS hD
      have d1 : a.tmps.getD 9 undef = .bool true := hD ⟨1, .data⟩ (by simp) rfl _ rfl _ rfl
      refine step_yes rfl ?_
      exact ok_value Lat.refl (.bool true) (by simp [execOp, Act.eval, d1, go_sem]) (TV.mk rfl)
    · obtain rfl := Option.some.inj hi
      clear hi hlt
      intro a w1 hL hS hD
      have d2 : a.tmps.getD 10 undef = .bool true := hD ⟨2, .guard⟩ (by simp) rfl _ rfl _ rfl
      exact step_no (wanted_no rfl rfl rfl d2 rfl) (TV.mk rfl)
    · obtain rfl := Option.some.inj hi
      clear hi hlt
      intro a w1 hL hS hD
      have d2 : a.tmps.getD 10 undef = .bool true := hD ⟨2, .guard⟩ (by simp) rfl _ rfl _ rfl
      exact step_no (wanted_no rfl rfl rfl d2 rfl) (TV.mk rfl)
    · obtain rfl := Option.some.inj hi
      clear hi hlt
      intro a w1 hL hS hD
      have d2 : a.tmps.getD 10 undef = .bool true := hD ⟨2, .data⟩ (by simp) rfl _ rfl _ rfl
      have d4 : a.tmps.getD 12 undef = undef := hD ⟨4, .data⟩ (by simp) rfl _ rfl _ rfl
      refine step_yes rfl ?_
      exact ok_value Lat.refl (.bool true) (by simp [execOp, Act.eval, d2, d4, go_sem]) (TV.mk rfl)
    · obtain rfl := Option.some.inj hi
      clear hi hlt
      intro a w1 hL hS hD
      have d5 : a.tmps.getD 13 undef = .bool true := hD ⟨5, .data⟩ (by simp) rfl _ rfl _ rfl
      refine step_yes rfl ?_
      exact ok_value Lat.refl (.bool true) (by simp [execOp, Act.eval, d5, go_sem]) (TV.mk rfl)
    · obtain rfl := Option.some.inj hi
      clear hi hlt
      intro a w1 hL hS hD
      have d6 : a.tmps.getD 14 undef = .bool true := hD ⟨6, .guard⟩ (by simp) rfl _ rfl _ rfl
      exact step_no (wanted_no rfl rfl rfl d6 rfl) (TV.mk rfl)
    · obtain rfl := Option.some.inj hi
      clear hi hlt
      intro a w1 hL hS hD
      have d6 : a.tmps.getD 14 undef = .bool true := hD ⟨6, .guard⟩ (by simp) rfl _ rfl _ rfl
      exact step_no (wanted_no rfl rfl rfl d6 rfl) (TV.mk rfl)
    · obtain rfl := Option.some.inj hi
      clear hi hlt
      intro a w1 hL hS hD
      have d6 : a.tmps.getD 14 undef = .bool true := hD ⟨6, .guard⟩ (by simp) rfl _ rfl _ rfl
      exact step_no (wanted_no rfl rfl rfl d6 rfl) (TV.mk rfl)
    · obtain rfl := Option.some.inj hi
      clear hi hlt
      intro a w1 hL hS hD
      have d6 : a.tmps.getD 14 undef = .bool true := hD ⟨6, .guard⟩ (by simp) rfl _ rfl _ rfl
      exact step_no (wanted_no rfl rfl rfl d6 rfl) (TV.mk rfl)
    · obtain rfl := Option.some.inj hi
      clear hi hlt
      intro a w1 hL hS hD
      have d6 : a.tmps.getD 14 undef = .bool true := hD ⟨6, .guard⟩ (by simp) rfl _ rfl _ rfl
      exact step_no (wanted_no rfl rfl rfl d6 rfl) (TV.mk rfl)
    · obtain rfl := Option.some.inj hi
      clear hi hlt
      intro a w1 hL hS hD
      have d6 : a.tmps.getD 14 undef = .bool true := hD ⟨6, .guard⟩ (by simp) rfl _ rfl _ rfl
      exact step_no (wanted_no rfl rfl rfl d6 rfl) (TV.mk rfl)
    · obtain rfl := Option.some.inj hi
      clear hi hlt
      intro a w1 hL hS hD
      have d6 : a.tmps.getD 14 undef = .bool true := hD ⟨6, .guard⟩ (by simp) rfl _ rfl _ rfl
      exact step_no (wanted_no rfl rfl rfl d6 rfl) (TV.mk rfl)
    · obtain rfl := Option.some.inj hi
      clear hi hlt
      intro a w1 hL hS hD
      have d6 : a.tmps.getD 14 undef = .bool true := hD ⟨6, .guard⟩ (by simp) rfl _ rfl _ rfl
      exact step_no (wanted_no rfl rfl rfl d6 rfl) (TV.mk rfl)
    · obtain rfl := Option.some.inj hi
      clear hi hlt
      intro a w1 hL hS hD
      have d6 : a.tmps.getD 14 undef = .bool true := hD ⟨6, .guard⟩ (by simp) rfl _ rfl _ rfl
      exact step_no (wanted_no rfl rfl rfl d6 rfl) (TV.mk rfl)
    · obtain rfl := Option.some.inj hi
      clear hi hlt
      intro a w1 hL hS hD
      have d6 : a.tmps.getD 14 undef = .bool true := hD ⟨6, .guard⟩ (by simp) rfl _ rfl _ rfl
      exact step_no (wanted_no rfl rfl rfl d6 rfl) (TV.mk rfl)
    · obtain rfl := Option.some.inj hi
      clear hi hlt
      intro a w1 hL hS hD
      have d6 : a.tmps.getD 14 undef = .bool true := hD ⟨6, .guard⟩ (by simp) rfl _ rfl _ rfl
      exact step_no (wanted_no rfl rfl rfl d6 rfl) (TV.mk rfl)
    · obtain rfl := Option.some.inj hi
      clear hi hlt
      intro a w1 hL hS hD
      have d6 : a.tmps.getD 14 undef = .bool true := hD ⟨6, .guard⟩ (by simp) rfl _ rfl _ rfl
      exact step_no (wanted_no rfl rfl rfl d6 rfl) (TV.mk rfl)
    · obtain rfl := Option.some.inj hi
      clear hi hlt
      intro a w1 hL hS hD
      have d6 : a.tmps.getD 14 undef = .bool true := hD ⟨6, .data⟩ (by simp) rfl _ rfl _ rfl
      have d18 : a.tmps.getD 26 undef = undef := hD ⟨18, .data⟩ (by simp) rfl _ rfl _ rfl
      refine step_yes rfl ?_
      exact ok_value Lat.refl (.bool true) (by simp [execOp, Act.eval, d6, d18, go_sem]) (TV.mk rfl)

set_option maxRecDepth 100000 in
set_option maxHeartbeats 2000000 in
theorem getr_big (q n c t : Nat) (k : Int) (ad : Option Addr) (w : World) (a0 : Act) (Q : Exit → Act → World → Prop) (hsz : a0.tmps.size = 59)
    (s0 : a0.tmps.getD 0 undef = .pointer (some ⟨q, 0, none⟩))
    (s1 : a0.tmps.getD 1 undef = .int .i64 k)
    (h9 : ¬ k < 0)
    (h12 : 64 < k)
    (hQ : ∀ (v8 v9 v10 v11 v12 v13 v14 v15 v16 v17 v18 v19 v20 v21 v22 v23 v24 v25 v26 : Value) (w1 : World), Lat w w1 → Q .normal ((((((((((((((((((((a0.put (some 8) v8).put (some 9) v9).put (some 10) v10).put (some 11) v11).put (some 12) v12).put (some 13) v13).put (some 14) v14).put (some 15) v15).put (some 16) v16).put (some 17) v17).put (some 18) v18).put (some 19) v19).put (some 20) v20).put (some 21) v21).put (some 22) v22).put (some 23) v23).put (some 24) v24).put (some 25) v25).put (some 26) v26).put (some 27) (.bool true)) w1) :
    Code.wp Try.prog ((Try.f14.body.bind (findRegion 1)).getD .skip) Q a0 w := by
  conv => arg 2; whnf
  refine wp_region_inv Lat (TV [.int .i64 k, .bool false, .bool false, .int .i64 k, .bool true, .bool true, .bool true, undef, undef, undef, undef, undef, undef, undef, undef, undef, undef, undef, undef, .bool true]) (by kernel_rfl) (by kernel_rfl) (by kernel_rfl) (by rw [hsz]; kernel_rfl) (by kernel_rfl) Lat.refl Lat.trans (TV.stable _) (Lat.draw w) ?hop ?hdone
  case hdone =>
    intro a w1 hL hS hT
    have k27 : a.tmps.getD 27 undef = .bool true := hT 19 _ rfl _ rfl
    have he := same_puts hS
    have hQ2 := hQ (a.tmps.getD 8 undef) (a.tmps.getD 9 undef) (a.tmps.getD 10 undef) (a.tmps.getD 11 undef) (a.tmps.getD 12 undef) (a.tmps.getD 13 undef) (a.tmps.getD 14 undef) (a.tmps.getD 15 undef) (a.tmps.getD 16 undef) (a.tmps.getD 17 undef) (a.tmps.getD 18 undef) (a.tmps.getD 19 undef) (a.tmps.getD 20 undef) (a.tmps.getD 21 undef) (a.tmps.getD 22 undef) (a.tmps.getD 23 undef) (a.tmps.getD 24 undef) (a.tmps.getD 25 undef) (a.tmps.getD 26 undef) w1 hL
    rw [← k27] at hQ2
    rw [he]
    exact hQ2
  case hop =>
    intro i o hi
    have hlt : i < 20 := (Array.getElem?_eq_some_iff.1 hi).1
    rcases (show i = 0 ∨ i = 1 ∨ i = 2 ∨ i = 3 ∨ i = 4 ∨ i = 5 ∨ i = 6 ∨ i = 7 ∨ i = 8 ∨ i = 9 ∨ i = 10 ∨ i = 11 ∨ i = 12 ∨ i = 13 ∨ i = 14 ∨ i = 15 ∨ i = 16 ∨ i = 17 ∨ i = 18 ∨ i = 19 by omega) with rfl | rfl | rfl | rfl | rfl | rfl | rfl | rfl | rfl | rfl | rfl | rfl | rfl | rfl | rfl | rfl | rfl | rfl | rfl | rfl
    · obtain rfl := Option.some.inj hi
      clear hi hlt
      intro a w1 hL hS hD
      have e1 : a.tmps.getD 1 undef = .int .i64 k := (hS.slot 1 (by kernel_rfl)).trans s1
      refine step_yes rfl ?_
      exact ok_value Lat.refl (.int .i64 k) (by simp [execOp, Act.eval, e1, go_sem]) (TV.mk rfl)
    · obtain rfl := Option.some.inj hi
      clear hi hlt
      intro a w1 hL hS hD
      have d0 : a.tmps.getD 8 undef = .int .i64 k := hD ⟨0, .data⟩ (by simp) rfl _ rfl _ rfl
      refine step_yes rfl ?_
      exact ok_value Lat.refl (.bool false) (by simp [execOp, Act.eval, d0, h9, go_sem]) (TV.mk rfl)
    · obtain rfl := Option.some.inj hi
      clear hi hlt
      intro a w1 hL hS hD
      have d1 : a.tmps.getD 9 undef = .bool false := hD ⟨1, .data⟩ (by simp) rfl _ rfl _ rfl
      refine step_yes rfl ?_
      exact ok_value Lat.refl (.bool false) (by simp [execOp, Act.eval, d1, go_sem]) (TV.mk rfl)
    · obtain rfl := Option.some.inj hi
      clear hi hlt
      intro a w1 hL hS hD
      have d2 : a.tmps.getD 10 undef = .bool false := hD ⟨2, .guard⟩ (by simp) rfl _ rfl _ rfl
      have e1 : a.tmps.getD 1 undef = .int .i64 k := (hS.slot 1 (by kernel_rfl)).trans s1
      refine step_yes (wanted_yes rfl rfl rfl d2) ?_
      exact ok_value Lat.refl (.int .i64 k) (by simp [execOp, Act.eval, e1, go_sem]) (TV.mk rfl)
    · obtain rfl := Option.some.inj hi
      clear hi hlt
      intro a w1 hL hS hD
      have d2 : a.tmps.getD 10 undef = .bool false := hD ⟨2, .guard⟩ (by simp) rfl _ rfl _ rfl
      have d3 : a.tmps.getD 11 undef = .int .i64 k := hD ⟨3, .data⟩ (by simp) rfl _ rfl _ rfl
      refine step_yes (wanted_yes rfl rfl rfl d2) ?_
      exact ok_value Lat.refl (.bool true) (by simp [execOp, Act.eval, d3, h12, go_sem]) (TV.mk rfl)
    · obtain rfl := Option.some.inj hi
      clear hi hlt
      intro a w1 hL hS hD
      have d2 : a.tmps.getD 10 undef = .bool false := hD ⟨2, .data⟩ (by simp) rfl _ rfl _ rfl
      have d4 : a.tmps.getD 12 undef = .bool true := hD ⟨4, .data⟩ (by simp) rfl _ rfl _ rfl
      refine step_yes rfl ?_
      exact ok_value Lat.refl (.bool true) (by simp [execOp, Act.eval, d2, d4, go_sem]) (TV.mk rfl)
    · obtain rfl := Option.some.inj hi
      clear hi hlt
      intro a w1 hL hS hD
      have d5 : a.tmps.getD 13 undef = .bool true := hD ⟨5, .data⟩ (by simp) rfl _ rfl _ rfl
      refine step_yes rfl ?_
      exact ok_value Lat.refl (.bool true) (by simp [execOp, Act.eval, d5, go_sem]) (TV.mk rfl)
    · obtain rfl := Option.some.inj hi
      clear hi hlt
      intro a w1 hL hS hD
      have d6 : a.tmps.getD 14 undef = .bool true := hD ⟨6, .guard⟩ (by simp) rfl _ rfl _ rfl
      exact step_no (wanted_no rfl rfl rfl d6 rfl) (TV.mk rfl)
    · obtain rfl := Option.some.inj hi
      clear hi hlt
      intro a w1 hL hS hD
      have d6 : a.tmps.getD 14 undef = .bool true := hD ⟨6, .guard⟩ (by simp) rfl _ rfl _ rfl
      exact step_no (wanted_no rfl rfl rfl d6 rfl) (TV.mk rfl)
    · obtain rfl := Option.some.inj hi
      clear hi hlt
      intro a w1 hL hS hD
      have d6 : a.tmps.getD 14 undef = .bool true := hD ⟨6, .guard⟩ (by simp) rfl _ rfl _ rfl
      exact step_no (wanted_no rfl rfl rfl d6 rfl) (TV.mk rfl)
    · obtain rfl := Option.some.inj hi
      clear hi hlt
      intro a w1 hL hS hD
      have d6 : a.tmps.getD 14 undef = .bool true := hD ⟨6, .guard⟩ (by simp) rfl _ rfl _ rfl
      exact step_no (wanted_no rfl rfl rfl d6 rfl) (TV.mk rfl)
    · obtain rfl := Option.some.inj hi
      clear hi hlt
      intro a w1 hL hS hD
      have d6 : a.tmps.getD 14 undef = .bool true := hD ⟨6, .guard⟩ (by simp) rfl _ rfl _ rfl
      exact step_no (wanted_no rfl rfl rfl d6 rfl) (TV.mk rfl)
    · obtain rfl := Option.some.inj hi
      clear hi hlt
      intro a w1 hL hS hD
      have d6 : a.tmps.getD 14 undef = .bool true := hD ⟨6, .guard⟩ (by simp) rfl _ rfl _ rfl
      exact step_no (wanted_no rfl rfl rfl d6 rfl) (TV.mk rfl)
    · obtain rfl := Option.some.inj hi
      clear hi hlt
      intro a w1 hL hS hD
      have d6 : a.tmps.getD 14 undef = .bool true := hD ⟨6, .guard⟩ (by simp) rfl _ rfl _ rfl
      exact step_no (wanted_no rfl rfl rfl d6 rfl) (TV.mk rfl)
    · obtain rfl := Option.some.inj hi
      clear hi hlt
      intro a w1 hL hS hD
      have d6 : a.tmps.getD 14 undef = .bool true := hD ⟨6, .guard⟩ (by simp) rfl _ rfl _ rfl
      exact step_no (wanted_no rfl rfl rfl d6 rfl) (TV.mk rfl)
    · obtain rfl := Option.some.inj hi
      clear hi hlt
      intro a w1 hL hS hD
      have d6 : a.tmps.getD 14 undef = .bool true := hD ⟨6, .guard⟩ (by simp) rfl _ rfl _ rfl
      exact step_no (wanted_no rfl rfl rfl d6 rfl) (TV.mk rfl)
    · obtain rfl := Option.some.inj hi
      clear hi hlt
      intro a w1 hL hS hD
      have d6 : a.tmps.getD 14 undef = .bool true := hD ⟨6, .guard⟩ (by simp) rfl _ rfl _ rfl
      exact step_no (wanted_no rfl rfl rfl d6 rfl) (TV.mk rfl)
    · obtain rfl := Option.some.inj hi
      clear hi hlt
      intro a w1 hL hS hD
      have d6 : a.tmps.getD 14 undef = .bool true := hD ⟨6, .guard⟩ (by simp) rfl _ rfl _ rfl
      exact step_no (wanted_no rfl rfl rfl d6 rfl) (TV.mk rfl)
    · obtain rfl := Option.some.inj hi
      clear hi hlt
      intro a w1 hL hS hD
      have d6 : a.tmps.getD 14 undef = .bool true := hD ⟨6, .guard⟩ (by simp) rfl _ rfl _ rfl
      exact step_no (wanted_no rfl rfl rfl d6 rfl) (TV.mk rfl)
    · obtain rfl := Option.some.inj hi
      clear hi hlt
      intro a w1 hL hS hD
      have d6 : a.tmps.getD 14 undef = .bool true := hD ⟨6, .data⟩ (by simp) rfl _ rfl _ rfl
      have d18 : a.tmps.getD 26 undef = undef := hD ⟨18, .data⟩ (by simp) rfl _ rfl _ rfl
      refine step_yes rfl ?_
      exact ok_value Lat.refl (.bool true) (by simp [execOp, Act.eval, d6, d18, go_sem]) (TV.mk rfl)

set_option maxRecDepth 100000 in
set_option maxHeartbeats 2000000 in
theorem getr_few (q n c t : Nat) (k : Int) (ad : Option Addr) (w : World) (a0 : Act) (Q : Exit → Act → World → Prop) (hsz : a0.tmps.size = 59)
    (s0 : a0.tmps.getD 0 undef = .pointer (some ⟨q, 0, none⟩))
    (s1 : a0.tmps.getD 1 undef = .int .i64 k)
    (hc0 : ∀ w1, Lat w w1 → w1.cell? ⟨q, 0, none⟩ = some (.slice ad n c))
    (hc1 : ∀ w1, Lat w w1 → w1.cell? ⟨q, 1, none⟩ = some (.int .i64 (t : Int)))
    (h9 : ¬ k < 0)
    (h12 : ¬ 64 < k)
    (hw : IntKind.i64.wrap ((n : Int) - (t : Int)) = (n : Int) - (t : Int))
    (h26 : (n : Int) - (t : Int) < k)
    (hQ : ∀ (v8 v9 v10 v11 v12 v13 v14 v15 v16 v17 v18 v19 v20 v21 v22 v23 v24 v25 v26 : Value) (w1 : World), Lat w w1 → Q .normal ((((((((((((((((((((a0.put (some 8) v8).put (some 9) v9).put (some 10) v10).put (some 11) v11).put (some 12) v12).put (some 13) v13).put (some 14) v14).put (some 15) v15).put (some 16) v16).put (some 17) v17).put (some 18) v18).put (some 19) v19).put (some 20) v20).put (some 21) v21).put (some 22) v22).put (some 23) v23).put (some 24) v24).put (some 25) v25).put (some 26) v26).put (some 27) (.bool true)) w1) :
    Code.wp Try.prog ((Try.f14.body.bind (findRegion 1)).getD .skip) Q a0 w := by
  conv => arg 2; whnf
  refine wp_region_inv Lat (TV [.int .i64 k, .bool false, .bool false, .int .i64 k, .bool false, .bool false, .bool false, .int .i64 k, .pointer (some ⟨q, 0, none⟩), .pointer (some ⟨q, 0, none⟩), .pointer (some ⟨q, 0, none⟩), .slice ad n c, .int .i64 (n : Int), .pointer (some ⟨q, 0, none⟩), .pointer (some ⟨q, 0, none⟩), .pointer (some ⟨q, 1, none⟩), .int .i64 (t : Int), .int .i64 ((n : Int) - (t : Int)), .bool true, .bool true]) (by kernel_rfl) (by kernel_rfl) (by kernel_rfl) (by rw [hsz]; kernel_rfl) (by kernel_rfl) Lat.refl Lat.trans (TV.stable _) (Lat.draw w) ?hop ?hdone
  case hdone =>
    intro a w1 hL hS hT
    have k27 : a.tmps.getD 27 undef = .bool true := hT 19 _ rfl _ rfl
    have he := same_puts hS
    have hQ2 := hQ (a.tmps.getD 8 undef) (a.tmps.getD 9 undef) (a.tmps.getD 10 undef) (a.tmps.getD 11 undef) (a.tmps.getD 12 undef) (a.tmps.getD 13 undef) (a.tmps.getD 14 undef) (a.tmps.getD 15 undef) (a.tmps.getD 16 undef) (a.tmps.getD 17 undef) (a.tmps.getD 18 undef) (a.tmps.getD 19 undef) (a.tmps.getD 20 undef) (a.tmps.getD 21 undef) (a.tmps.getD 22 undef) (a.tmps.getD 23 undef) (a.tmps.getD 24 undef) (a.tmps.getD 25 undef) (a.tmps.getD 26 undef) w1 hL
    rw [← k27] at hQ2
    rw [he]
    exact hQ2
  case hop =>
    intro i o hi
    have hlt : i < 20 := (Array.getElem?_eq_some_iff.1 hi).1
    rcases (show i = 0 ∨ i = 1 ∨ i = 2 ∨ i = 3 ∨ i = 4 ∨ i = 5 ∨ i = 6 ∨ i = 7 ∨ i = 8 ∨ i = 9 ∨ i = 10 ∨ i = 11 ∨ i = 12 ∨ i = 13 ∨ i = 14 ∨ i = 15 ∨ i = 16 ∨ i = 17 ∨ i = 18 ∨ i = 19 by omega) with rfl | rfl | rfl | rfl | rfl | rfl | rfl | rfl | rfl | rfl | rfl | rfl | rfl | rfl | rfl | rfl | rfl | rfl | rfl | rfl
    · obtain rfl := Option.some.inj hi
      clear hi hlt
      intro a w1 hL hS hD
      have e1 : a.tmps.getD 1 undef = .int .i64 k := (hS.slot 1 (by kernel_rfl)).trans s1
      refine step_yes rfl ?_
      exact ok_value Lat.refl (.int .i64 k) (by simp [execOp, Act.eval, e1, go_sem]) (TV.mk rfl)
    · obtain rfl := Option.some.inj hi
      clear hi hlt
      intro a w1 hL hS hD
      have d0 : a.tmps.getD 8 undef = .int .i64 k := hD ⟨0, .data⟩ (by simp) rfl _ rfl _ rfl
      refine step_yes rfl ?_
      exact ok_value Lat.refl (.bool false) (by simp [execOp, Act.eval, d0, h9, go_sem]) (TV.mk rfl)
    · obtain rfl := Option.some.inj hi
      clear hi hlt
      intro a w1 hL hS hD
      have d1 : a.tmps.getD 9 undef = .bool false := hD ⟨1, .data⟩ (by simp) rfl _ rfl _ rfl
      refine step_yes rfl ?_
      exact ok_value Lat.refl (.bool false) (by simp [execOp, Act.eval, d1, go_sem]) (TV.mk rfl)
    · obtain rfl := Option.some.inj hi
      clear hi hlt
      intro a w1 hL hS hD
      have d2 : a.tmps.getD 10 undef = .bool false := hD ⟨2, .guard⟩ (by simp) rfl _ rfl _ rfl
      have e1 : a.tmps.getD 1 undef = .int .i64 k := (hS.slot 1 (by kernel_rfl)).trans s1
      refine step_yes (wanted_yes rfl rfl rfl d2) ?_
      exact ok_value Lat.refl (.int .i64 k) (by simp [execOp, Act.eval, e1, go_sem]) (TV.mk rfl)
    · obtain rfl := Option.some.inj hi
      clear hi hlt
      intro a w1 hL hS hD
      have d2 : a.tmps.getD 10 undef = .bool false := hD ⟨2, .guard⟩ (by simp) rfl _ rfl _ rfl
      have d3 : a.tmps.getD 11 undef = .int .i64 k := hD ⟨3, .data⟩ (by simp) rfl _ rfl _ rfl
      refine step_yes (wanted_yes rfl rfl rfl d2) ?_
      exact ok_value Lat.refl (.bool false) (by simp [execOp, Act.eval, d3, h12, go_sem]) (TV.mk rfl)
    · obtain rfl := Option.some.inj hi
      clear hi hlt
      intro a w1 hL hS hD
      have d2 : a.tmps.getD 10 undef = .bool false := hD ⟨2, .data⟩ (by simp) rfl _ rfl _ rfl
      have d4 : a.tmps.getD 12 undef = .bool false := hD ⟨4, .data⟩ (by simp) rfl _ rfl _ rfl
      refine step_yes rfl ?_
      exact ok_value Lat.refl (.bool false) (by simp [execOp, Act.eval, d2, d4, go_sem]) (TV.mk rfl)
    · obtain rfl := Option.some.inj hi
      clear hi hlt
      intro a w1 hL hS hD
      have d5 : a.tmps.getD 13 undef = .bool false := hD ⟨5, .data⟩ (by simp) rfl _ rfl _ rfl
      refine step_yes rfl ?_
      exact ok_value Lat.refl (.bool false) (by simp [execOp, Act.eval, d5, go_sem]) (TV.mk rfl)
    · obtain rfl := Option.some.inj hi
      clear hi hlt
      intro a w1 hL hS hD
      have d6 : a.tmps.getD 14 undef = .bool false := hD ⟨6, .guard⟩ (by simp) rfl _ rfl _ rfl
      have e1 : a.tmps.getD 1 undef = .int .i64 k := (hS.slot 1 (by kernel_rfl)).trans s1
      refine step_yes (wanted_yes rfl rfl rfl d6) ?_
      exact ok_value Lat.refl (.int .i64 k) (by simp [execOp, Act.eval, e1, go_sem]) (TV.mk rfl)
    · obtain rfl := Option.some.inj hi
      clear hi hlt
      intro a w1 hL hS hD
      have d6 : a.tmps.getD 14 undef = .bool false := hD ⟨6, .guard⟩ (by simp) rfl _ rfl _ rfl
      have e0 : a.tmps.getD 0 undef = .pointer (some ⟨q, 0, none⟩) := (hS.slot 0 (by kernel_rfl)).trans s0
      refine step_yes (wanted_yes rfl rfl rfl d6) ?_
      exact ok_value Lat.refl (.pointer (some ⟨q, 0, none⟩)) (by simp [execOp, Act.eval, e0, go_sem]) (TV.mk rfl)
    · obtain rfl := Option.some.inj hi
      clear hi hlt
      intro a w1 hL hS hD
      have d6 : a.tmps.getD 14 undef = .bool false := hD ⟨6, .guard⟩ (by simp) rfl _ rfl _ rfl
      have d8 : a.tmps.getD 16 undef = .pointer (some ⟨q, 0, none⟩) := hD ⟨8, .data⟩ (by simp) rfl _ rfl _ rfl
      refine step_yes (wanted_yes rfl rfl rfl d6) ?_
      exact ok_value Lat.refl (.pointer (some ⟨q, 0, none⟩)) (by simp [execOp, Act.eval, d8, go_sem]) (TV.mk rfl)
    · obtain rfl := Option.some.inj hi
      clear hi hlt
      intro a w1 hL hS hD
      have d6 : a.tmps.getD 14 undef = .bool false := hD ⟨6, .guard⟩ (by simp) rfl _ rfl _ rfl
      have d9 : a.tmps.getD 17 undef = .pointer (some ⟨q, 0, none⟩) := hD ⟨9, .data⟩ (by simp) rfl _ rfl _ rfl
      refine step_yes (wanted_yes rfl rfl rfl d6) ?_
      exact ok_value Lat.refl (.pointer (some ⟨q, 0, none⟩)) (by simp [execOp, Act.eval, d9, go_sem]) (TV.mk rfl)
    · obtain rfl := Option.some.inj hi
      clear hi hlt
      intro a w1 hL hS hD
      have d6 : a.tmps.getD 14 undef = .bool false := hD ⟨6, .guard⟩ (by simp) rfl _ rfl _ rfl
      have d10 : a.tmps.getD 18 undef = .pointer (some ⟨q, 0, none⟩) := hD ⟨10, .data⟩ (by simp) rfl _ rfl _ rfl
      refine step_yes (wanted_yes rfl rfl rfl d6) ?_
      exact ok_value Lat.refl (.slice ad n c) (by simp [execOp, Act.eval, d10, hc0 w1 hL, go_sem]) (TV.mk rfl)
    · obtain rfl := Option.some.inj hi
      clear hi hlt
      intro a w1 hL hS hD
      have d6 : a.tmps.getD 14 undef = .bool false := hD ⟨6, .guard⟩ (by simp) rfl _ rfl _ rfl
      have d11 : a.tmps.getD 19 undef = .slice ad n c := hD ⟨11, .data⟩ (by simp) rfl _ rfl _ rfl
      refine step_yes (wanted_yes rfl rfl rfl d6) ?_
      exact ok_value Lat.refl (.int .i64 (n : Int)) (by simp [execOp, Act.eval, d11, resolve, invoke, builtin, go_sem]) (TV.mk rfl)
    · obtain rfl := Option.some.inj hi
      clear hi hlt
      intro a w1 hL hS hD
      have d6 : a.tmps.getD 14 undef = .bool false := hD ⟨6, .guard⟩ (by simp) rfl _ rfl _ rfl
      have e0 : a.tmps.getD 0 undef = .pointer (some ⟨q, 0, none⟩) := (hS.slot 0 (by kernel_rfl)).trans s0
      refine step_yes (wanted_yes rfl rfl rfl d6) ?_
      exact ok_value Lat.refl (.pointer (some ⟨q, 0, none⟩)) (by simp [execOp, Act.eval, e0, go_sem]) (TV.mk rfl)
    · obtain rfl := Option.some.inj hi
      clear hi hlt
      intro a w1 hL hS hD
      have d6 : a.tmps.getD 14 undef = .bool false := hD ⟨6, .guard⟩ (by simp) rfl _ rfl _ rfl
      have d13 : a.tmps.getD 21 undef = .pointer (some ⟨q, 0, none⟩) := hD ⟨13, .data⟩ (by simp) rfl _ rfl _ rfl
      refine step_yes (wanted_yes rfl rfl rfl d6) ?_
      exact ok_value Lat.refl (.pointer (some ⟨q, 0, none⟩)) (by simp [execOp, Act.eval, d13, go_sem]) (TV.mk rfl)
    · obtain rfl := Option.some.inj hi
      clear hi hlt
      intro a w1 hL hS hD
      have d6 : a.tmps.getD 14 undef = .bool false := hD ⟨6, .guard⟩ (by simp) rfl _ rfl _ rfl
      have d14 : a.tmps.getD 22 undef = .pointer (some ⟨q, 0, none⟩) := hD ⟨14, .data⟩ (by simp) rfl _ rfl _ rfl
      refine step_yes (wanted_yes rfl rfl rfl d6) ?_
      exact ok_value Lat.refl (.pointer (some ⟨q, 1, none⟩)) (by simp [execOp, Act.eval, d14, go_sem]) (TV.mk rfl)
    · obtain rfl := Option.some.inj hi
      clear hi hlt
      intro a w1 hL hS hD
      have d6 : a.tmps.getD 14 undef = .bool false := hD ⟨6, .guard⟩ (by simp) rfl _ rfl _ rfl
      have d15 : a.tmps.getD 23 undef = .pointer (some ⟨q, 1, none⟩) := hD ⟨15, .data⟩ (by simp) rfl _ rfl _ rfl
      refine step_yes (wanted_yes rfl rfl rfl d6) ?_
      exact ok_value Lat.refl (.int .i64 (t : Int)) (by simp [execOp, Act.eval, d15, hc1 w1 hL, go_sem]) (TV.mk rfl)
    · obtain rfl := Option.some.inj hi
      clear hi hlt
      intro a w1 hL hS hD
      have d6 : a.tmps.getD 14 undef = .bool false := hD ⟨6, .guard⟩ (by simp) rfl _ rfl _ rfl
      have d12 : a.tmps.getD 20 undef = .int .i64 (n : Int) := hD ⟨12, .data⟩ (by simp) rfl _ rfl _ rfl
      have d16 : a.tmps.getD 24 undef = .int .i64 (t : Int) := hD ⟨16, .data⟩ (by simp) rfl _ rfl _ rfl
      refine step_yes (wanted_yes rfl rfl rfl d6) ?_
      exact ok_value Lat.refl (.int .i64 ((n : Int) - (t : Int))) (by simp [execOp, Act.eval, d12, d16, hw, go_sem]) (TV.mk rfl)
    · obtain rfl := Option.some.inj hi
      clear hi hlt
      intro a w1 hL hS hD
      have d6 : a.tmps.getD 14 undef = .bool false := hD ⟨6, .guard⟩ (by simp) rfl _ rfl _ rfl
      have d7 : a.tmps.getD 15 undef = .int .i64 k := hD ⟨7, .data⟩ (by simp) rfl _ rfl _ rfl
      have d17 : a.tmps.getD 25 undef = .int .i64 ((n : Int) - (t : Int)) := hD ⟨17, .data⟩ (by simp) rfl _ rfl _ rfl
      refine step_yes (wanted_yes rfl rfl rfl d6) ?_
      exact ok_value Lat.refl (.bool true) (by simp [execOp, Act.eval, d7, d17, h26, go_sem]) (TV.mk rfl)
    · obtain rfl := Option.some.inj hi
      clear hi hlt
      intro a w1 hL hS hD
      have d6 : a.tmps.getD 14 undef = .bool false := hD ⟨6, .data⟩ (by simp) rfl _ rfl _ rfl
      have d18 : a.tmps.getD 26 undef = .bool true := hD ⟨18, .data⟩ (by simp) rfl _ rfl _ rfl
      refine step_yes rfl ?_
      exact ok_value Lat.refl (.bool true) (by simp [execOp, Act.eval, d6, d18, go_sem]) (TV.mk rfl)

set_option maxRecDepth 100000 in
set_option maxHeartbeats 2000000 in
theorem getr_ok (q n c t : Nat) (k : Int) (ad : Option Addr) (w : World) (a0 : Act) (Q : Exit → Act → World → Prop) (hsz : a0.tmps.size = 59)
    (s0 : a0.tmps.getD 0 undef = .pointer (some ⟨q, 0, none⟩))
    (s1 : a0.tmps.getD 1 undef = .int .i64 k)
    (hc0 : ∀ w1, Lat w w1 → w1.cell? ⟨q, 0, none⟩ = some (.slice ad n c))
    (hc1 : ∀ w1, Lat w w1 → w1.cell? ⟨q, 1, none⟩ = some (.int .i64 (t : Int)))
    (h9 : ¬ k < 0)
    (h12 : ¬ 64 < k)
    (hw : IntKind.i64.wrap ((n : Int) - (t : Int)) = (n : Int) - (t : Int))
    (h26 : ¬ (n : Int) - (t : Int) < k)
    (hQ : ∀ (v8 v9 v10 v11 v12 v13 v14 v15 v16 v17 v18 v19 v20 v21 v22 v23 v24 v25 v26 : Value) (w1 : World), Lat w w1 → Q .normal ((((((((((((((((((((a0.put (some 8) v8).put (some 9) v9).put (some 10) v10).put (some 11) v11).put (some 12) v12).put (some 13) v13).put (some 14) v14).put (some 15) v15).put (some 16) v16).put (some 17) v17).put (some 18) v18).put (some 19) v19).put (some 20) v20).put (some 21) v21).put (some 22) v22).put (some 23) v23).put (some 24) v24).put (some 25) v25).put (some 26) v26).put (some 27) (.bool false)) w1) :
    Code.wp Try.prog ((Try.f14.body.bind (findRegion 1)).getD .skip) Q a0 w := by
  conv => arg 2; whnf
  refine wp_region_inv Lat (TV [.int .i64 k, .bool false, .bool false, .int .i64 k, .bool false, .bool false, .bool false, .int .i64 k, .pointer (some ⟨q, 0, none⟩), .pointer (some ⟨q, 0, none⟩), .pointer (some ⟨q, 0, none⟩), .slice ad n c, .int .i64 (n : Int), .pointer (some ⟨q, 0, none⟩), .pointer (some ⟨q, 0, none⟩), .pointer (some ⟨q, 1, none⟩), .int .i64 (t : Int), .int .i64 ((n : Int) - (t : Int)), .bool false, .bool false]) (by kernel_rfl) (by kernel_rfl) (by kernel_rfl) (by rw [hsz]; kernel_rfl) (by kernel_rfl) Lat.refl Lat.trans (TV.stable _) (Lat.draw w) ?hop ?hdone
  case hdone =>
    intro a w1 hL hS hT
    have k27 : a.tmps.getD 27 undef = .bool false := hT 19 _ rfl _ rfl
    have he := same_puts hS
    have hQ2 := hQ (a.tmps.getD 8 undef) (a.tmps.getD 9 undef) (a.tmps.getD 10 undef) (a.tmps.getD 11 undef) (a.tmps.getD 12 undef) (a.tmps.getD 13 undef) (a.tmps.getD 14 undef) (a.tmps.getD 15 undef) (a.tmps.getD 16 undef) (a.tmps.getD 17 undef) (a.tmps.getD 18 undef) (a.tmps.getD 19 undef) (a.tmps.getD 20 undef) (a.tmps.getD 21 undef) (a.tmps.getD 22 undef) (a.tmps.getD 23 undef) (a.tmps.getD 24 undef) (a.tmps.getD 25 undef) (a.tmps.getD 26 undef) w1 hL
    rw [← k27] at hQ2
    rw [he]
    exact hQ2
  case hop =>
    intro i o hi
    have hlt : i < 20 := (Array.getElem?_eq_some_iff.1 hi).1
    rcases (show i = 0 ∨ i = 1 ∨ i = 2 ∨ i = 3 ∨ i = 4 ∨ i = 5 ∨ i = 6 ∨ i = 7 ∨ i = 8 ∨ i = 9 ∨ i = 10 ∨ i = 11 ∨ i = 12 ∨ i = 13 ∨ i = 14 ∨ i = 15 ∨ i = 16 ∨ i = 17 ∨ i = 18 ∨ i = 19 by omega) with rfl | rfl | rfl | rfl | rfl | rfl | rfl | rfl | rfl | rfl | rfl | rfl | rfl | rfl | rfl | rfl | rfl | rfl | rfl | rfl
    · obtain rfl := Option.some.inj hi
      clear hi hlt
      intro a w1 hL hS hD
      have e1 : a.tmps.getD 1 undef = .int .i64 k := (hS.slot 1 (by kernel_rfl)).trans s1
      refine step_yes rfl ?_
      exact ok_value Lat.refl (.int .i64 k) (by simp [execOp, Act.eval, e1, go_sem]) (TV.mk rfl)
    · obtain rfl := Option.some.inj hi
      clear hi hlt
      intro a w1 hL hS hD
      have d0 : a.tmps.getD 8 undef = .int .i64 k := hD ⟨0, .data⟩ (by simp) rfl _ rfl _ rfl
      refine step_yes rfl ?_
      exact ok_value Lat.refl (.bool false) (by simp [execOp, Act.eval, d0, h9, go_sem]) (TV.mk rfl)
    · obtain rfl := Option.some.inj hi
      clear hi hlt
      intro a w1 hL hS hD
      have d1 : a.tmps.getD 9 undef = .bool false := hD ⟨1, .data⟩ (by simp) rfl _ rfl _ rfl
      refine step_yes rfl ?_
      exact ok_value Lat.refl (.bool false) (by simp [execOp, Act.eval, d1, go_sem]) (TV.mk rfl)
    · obtain rfl := Option.some.inj hi
      clear hi hlt
      intro a w1 hL hS hD
      have d2 : a.tmps.getD 10 undef = .bool false := hD ⟨2, .guard⟩ (by simp) rfl _ rfl _ rfl
      have e1 : a.tmps.getD 1 undef = .int .i64 k := (hS.slot 1 (by kernel_rfl)).trans s1
      refine step_yes (wanted_yes rfl rfl rfl d2) ?_
      exact ok_value Lat.refl (.int .i64 k) (by simp [execOp, Act.eval, e1, go_sem]) (TV.mk rfl)
    · obtain rfl := Option.some.inj hi
      clear hi hlt
      intro a w1 hL hS hD
      have d2 : a.tmps.getD 10 undef = .bool false := hD ⟨2, .guard⟩ (by simp) rfl _ rfl _ rfl
      have d3 : a.tmps.getD 11 undef = .int .i64 k := hD ⟨3, .data⟩ (by simp) rfl _ rfl _ rfl
      refine step_yes (wanted_yes rfl rfl rfl d2) ?_
      exact ok_value Lat.refl (.bool false) (by simp [execOp, Act.eval, d3, h12, go_sem]) (TV.mk rfl)
    · obtain rfl := Option.some.inj hi
      clear hi hlt
      intro a w1 hL hS hD
      have d2 : a.tmps.getD 10 undef = .bool false := hD ⟨2, .data⟩ (by simp) rfl _ rfl _ rfl
      have d4 : a.tmps.getD 12 undef = .bool false := hD ⟨4, .data⟩ (by simp) rfl _ rfl _ rfl
      refine step_yes rfl ?_
      exact ok_value Lat.refl (.bool false) (by simp [execOp, Act.eval, d2, d4, go_sem]) (TV.mk rfl)
    · obtain rfl := Option.some.inj hi
      clear hi hlt
      intro a w1 hL hS hD
      have d5 : a.tmps.getD 13 undef = .bool false := hD ⟨5, .data⟩ (by simp) rfl _ rfl _ rfl
      refine step_yes rfl ?_
      exact ok_value Lat.refl (.bool false) (by simp [execOp, Act.eval, d5, go_sem]) (TV.mk rfl)
    · obtain rfl := Option.some.inj hi
      clear hi hlt
      intro a w1 hL hS hD
      have d6 : a.tmps.getD 14 undef = .bool false := hD ⟨6, .guard⟩ (by simp) rfl _ rfl _ rfl
      have e1 : a.tmps.getD 1 undef = .int .i64 k := (hS.slot 1 (by kernel_rfl)).trans s1
      refine step_yes (wanted_yes rfl rfl rfl d6) ?_
      exact ok_value Lat.refl (.int .i64 k) (by simp [execOp, Act.eval, e1, go_sem]) (TV.mk rfl)
    · obtain rfl := Option.some.inj hi
      clear hi hlt
      intro a w1 hL hS hD
      have d6 : a.tmps.getD 14 undef = .bool false := hD ⟨6, .guard⟩ (by simp) rfl _ rfl _ rfl
      have e0 : a.tmps.getD 0 undef = .pointer (some ⟨q, 0, none⟩) := (hS.slot 0 (by kernel_rfl)).trans s0
      refine step_yes (wanted_yes rfl rfl rfl d6) ?_
      exact ok_value Lat.refl (.pointer (some ⟨q, 0, none⟩)) (by simp [execOp, Act.eval, e0, go_sem]) (TV.mk rfl)
    · obtain rfl := Option.some.inj hi
      clear hi hlt
      intro a w1 hL hS hD
      have d6 : a.tmps.getD 14 undef = .bool false := hD ⟨6, .guard⟩ (by simp) rfl _ rfl _ rfl
      have d8 : a.tmps.getD 16 undef = .pointer (some ⟨q, 0, none⟩) := hD ⟨8, .data⟩ (by simp) rfl _ rfl _ rfl
      refine step_yes (wanted_yes rfl rfl rfl d6) ?_
      exact ok_value Lat.refl (.pointer (some ⟨q, 0, none⟩)) (by simp [execOp, Act.eval, d8, go_sem]) (TV.mk rfl)
    · obtain rfl := Option.some.inj hi
      clear hi hlt
      intro a w1 hL hS hD
      have d6 : a.tmps.getD 14 undef = .bool false := hD ⟨6, .guard⟩ (by simp) rfl _ rfl _ rfl
      have d9 : a.tmps.getD 17 undef = .pointer (some ⟨q, 0, none⟩) := hD ⟨9, .data⟩ (by simp) rfl _ rfl _ rfl
      refine step_yes (wanted_yes rfl rfl rfl d6) ?_
      exact ok_value Lat.refl (.pointer (some ⟨q, 0, none⟩)) (by simp [execOp, Act.eval, d9, go_sem]) (TV.mk rfl)
    · obtain rfl := Option.some.inj hi
      clear hi hlt
      intro a w1 hL hS hD
      have d6 : a.tmps.getD 14 undef = .bool false := hD ⟨6, .guard⟩ (by simp) rfl _ rfl _ rfl
      have d10 : a.tmps.getD 18 undef = .pointer (some ⟨q, 0, none⟩) := hD ⟨10, .data⟩ (by simp) rfl _ rfl _ rfl
      refine step_yes (wanted_yes rfl rfl rfl d6) ?_
      exact ok_value Lat.refl (.slice ad n c) (by simp [execOp, Act.eval, d10, hc0 w1 hL, go_sem]) (TV.mk rfl)
    · obtain rfl := Option.some.inj hi
      clear hi hlt
      intro a w1 hL hS hD
      have d6 : a.tmps.getD 14 undef = .bool false := hD ⟨6, .guard⟩ (by simp) rfl _ rfl _ rfl
      have d11 : a.tmps.getD 19 undef = .slice ad n c := hD ⟨11, .data⟩ (by simp) rfl _ rfl _ rfl
      refine step_yes (wanted_yes rfl rfl rfl d6) ?_
      exact ok_value Lat.refl (.int .i64 (n : Int)) (by simp [execOp, Act.eval, d11, resolve, invoke, builtin, go_sem]) (TV.mk rfl)
    · obtain rfl := Option.some.inj hi
      clear hi hlt
      intro a w1 hL hS hD
      have d6 : a.tmps.getD 14 undef = .bool false := hD ⟨6, .guard⟩ (by simp) rfl _ rfl _ rfl
      have e0 : a.tmps.getD 0 undef = .pointer (some ⟨q, 0, none⟩) := (hS.slot 0 (by kernel_rfl)).trans s0
      refine step_yes (wanted_yes rfl rfl rfl d6) ?_
      exact ok_value Lat.refl (.pointer (some ⟨q, 0, none⟩)) (by simp [execOp, Act.eval, e0, go_sem]) (TV.mk rfl)
    · obtain rfl := Option.some.inj hi
      clear hi hlt
      intro a w1 hL hS hD
      have d6 : a.tmps.getD 14 undef = .bool false := hD ⟨6, .guard⟩ (by simp) rfl _ rfl _ rfl
      have d13 : a.tmps.getD 21 undef = .pointer (some ⟨q, 0, none⟩) := hD ⟨13, .data⟩ (by simp) rfl _ rfl _ rfl
      refine step_yes (wanted_yes rfl rfl rfl d6) ?_
      exact ok_value Lat.refl (.pointer (some ⟨q, 0, none⟩)) (by simp [execOp, Act.eval, d13, go_sem]) (TV.mk rfl)
    · obtain rfl := Option.some.inj hi
      clear hi hlt
      intro a w1 hL hS hD
      have d6 : a.tmps.getD 14 undef = .bool false := hD ⟨6, .guard⟩ (by simp) rfl _ rfl _ rfl
      have d14 : a.tmps.getD 22 undef = .pointer (some ⟨q, 0, none⟩) := hD ⟨14, .data⟩ (by simp) rfl _ rfl _ rfl
      refine step_yes (wanted_yes rfl rfl rfl d6) ?_
      exact ok_value Lat.refl (.pointer (some ⟨q, 1, none⟩)) (by simp [execOp, Act.eval, d14, go_sem]) (TV.mk rfl)
    · obtain rfl := Option.some.inj hi
      clear hi hlt
      intro a w1 hL hS hD
      have d6 : a.tmps.getD 14 undef = .bool false := hD ⟨6, .guard⟩ (by simp) rfl _ rfl _ rfl
      have d15 : a.tmps.getD 23 undef = .pointer (some ⟨q, 1, none⟩) := hD ⟨15, .data⟩ (by simp) rfl _ rfl _ rfl
      refine step_yes (wanted_yes rfl rfl rfl d6) ?_
      exact ok_value Lat.refl (.int .i64 (t : Int)) (by simp [execOp, Act.eval, d15, hc1 w1 hL, go_sem]) (TV.mk rfl)
    · obtain rfl := Option.some.inj hi
      clear hi hlt
      intro a w1 hL hS hD
      have d6 : a.tmps.getD 14 undef = .bool false := hD ⟨6, .guard⟩ (by simp) rfl _ rfl _ rfl
      have d12 : a.tmps.getD 20 undef = .int .i64 (n : Int) := hD ⟨12, .data⟩ (by simp) rfl _ rfl _ rfl
      have d16 : a.tmps.getD 24 undef = .int .i64 (t : Int) := hD ⟨16, .data⟩ (by simp) rfl _ rfl _ rfl
      refine step_yes (wanted_yes rfl rfl rfl d6) ?_
      exact ok_value Lat.refl (.int .i64 ((n : Int) - (t : Int))) (by simp [execOp, Act.eval, d12, d16, hw, go_sem]) (TV.mk rfl)
    · obtain rfl := Option.some.inj hi
      clear hi hlt
      intro a w1 hL hS hD
      have d6 : a.tmps.getD 14 undef = .bool false := hD ⟨6, .guard⟩ (by simp) rfl _ rfl _ rfl
      have d7 : a.tmps.getD 15 undef = .int .i64 k := hD ⟨7, .data⟩ (by simp) rfl _ rfl _ rfl
      have d17 : a.tmps.getD 25 undef = .int .i64 ((n : Int) - (t : Int)) := hD ⟨17, .data⟩ (by simp) rfl _ rfl _ rfl
      refine step_yes (wanted_yes rfl rfl rfl d6) ?_
      exact ok_value Lat.refl (.bool false) (by simp [execOp, Act.eval, d7, d17, h26, go_sem]) (TV.mk rfl)
    · obtain rfl := Option.some.inj hi
      clear hi hlt
      intro a w1 hL hS hD
      have d6 : a.tmps.getD 14 undef = .bool false := hD ⟨6, .data⟩ (by simp) rfl _ rfl _ rfl
      have d18 : a.tmps.getD 26 undef = .bool false := hD ⟨18, .data⟩ (by simp) rfl _ rfl _ rfl
      refine step_yes rfl ?_
      exact ok_value Lat.refl (.bool false) (by simp [execOp, Act.eval, d6, d18, go_sem]) (TV.mk rfl)

end Go.Proofs.Ythfapajpmcmfeaa
