/-
  The law's regions that draw their order.
-/
import Derived.Test.YtnfjhdedcnbdbaaGreatWrC
namespace Go.Proofs.YtnfjhdedcnbdbaaGreat
open Go.RowKit
set_option linter.unusedVariables false
set_option linter.unusedSimpArgs false

set_option maxRecDepth 100000 in
set_option maxHeartbeats 2000000 in
theorem files_r5 (wp p x : Nat) (f n l : Int) (w : World) (a0 : Act) (Q : Exit → Act → World → Prop) (hsz : a0.tmps.size = 108)
    (s0 : a0.tmps.getD 0 undef = .pointer (some ⟨wp, 0, none⟩))
    (s3 : a0.tmps.getD 3 undef = .int .i64 f)
    (s4 : a0.tmps.getD 4 undef = .int .i64 n)
    (hA : ∀ w1, Lat w w1 → w1.cell? ⟨wp, 0, none⟩ = some (.pointer (some ⟨p, 0, none⟩)))
    (hX : ∀ w1, Lat w w1 → w1.cell? ⟨wp, 2, none⟩ = some (.pointer (some ⟨x, 0, none⟩)))
    (k1 : ∀ w1, Lat w w1 → Calls Tryz.prog 17 #[.pointer (some ⟨p, 0, none⟩), .int .i64 f] w1 fun e w2 => e = .returned (.int .i64 n) ∧ Lat w1 w2)
    (k2 : ∀ w1, Lat w w1 → Calls Tryz.prog 67 #[.pointer (some ⟨p, 0, none⟩), .int .i64 f] w1 fun e w2 => e = .returned (.int .i64 l) ∧ Lat w1 w2)
    (k3 : ∀ w1, Lat w w1 → Calls Tryz.prog 68 #[.pointer (some ⟨x, 0, none⟩), .int .i64 f] w1 fun e w2 => e = .returned (.int .i64 l) ∧ Lat w1 w2)
    (hQ : ∀ (v27 v28 v29 v30 v31 v32 v33 v34 v35 v36 v37 v38 v39 v40 v41 v42 v43 v44 v45 v46 v47 v48 : Value) (w1 : World), Lat w w1 → Q .normal (((((((((((((((((((((((a0.put (some 27) v27).put (some 28) v28).put (some 29) v29).put (some 30) v30).put (some 31) v31).put (some 32) v32).put (some 33) v33).put (some 34) v34).put (some 35) v35).put (some 36) v36).put (some 37) v37).put (some 38) v38).put (some 39) v39).put (some 40) v40).put (some 41) v41).put (some 42) v42).put (some 43) v43).put (some 44) v44).put (some 45) v45).put (some 46) v46).put (some 47) v47).put (some 48) v48).put (some 49) (.bool false)) w1) :
    Code.wp Tryz.prog ((Tryz.f35.body.bind (findRegion 5)).getD .skip) Q a0 w := by
  conv => arg 2; whnf
  refine wp_region_inv Lat (TV [.pointer (some ⟨wp, 0, none⟩), .pointer (some ⟨wp, 0, none⟩), .pointer (some ⟨wp, 0, none⟩), .pointer (some ⟨p, 0, none⟩), .int .i64 f, .int .i64 n, .int .i64 n, .bool false, .bool false, .pointer (some ⟨wp, 0, none⟩), .pointer (some ⟨wp, 0, none⟩), .pointer (some ⟨wp, 0, none⟩), .pointer (some ⟨p, 0, none⟩), .int .i64 f, .int .i64 l, .pointer (some ⟨wp, 0, none⟩), .pointer (some ⟨wp, 0, none⟩), .pointer (some ⟨wp, 2, none⟩), .pointer (some ⟨x, 0, none⟩), .int .i64 f, .int .i64 l, .bool false, .bool false]) (by kernel_rfl) (by kernel_rfl) (by kernel_rfl) (by rw [hsz]; kernel_rfl) (by kernel_rfl) Lat.refl Lat.trans (TV.stable _) (Lat.draw w) ?hop ?hdone
  case hdone =>
    intro a w1 hL hS hT
    have k49 : a.tmps.getD 49 undef = .bool false := hT 22 _ rfl _ rfl
    have he := same_puts hS
    have hQ2 := hQ (a.tmps.getD 27 undef) (a.tmps.getD 28 undef) (a.tmps.getD 29 undef) (a.tmps.getD 30 undef) (a.tmps.getD 31 undef) (a.tmps.getD 32 undef) (a.tmps.getD 33 undef) (a.tmps.getD 34 undef) (a.tmps.getD 35 undef) (a.tmps.getD 36 undef) (a.tmps.getD 37 undef) (a.tmps.getD 38 undef) (a.tmps.getD 39 undef) (a.tmps.getD 40 undef) (a.tmps.getD 41 undef) (a.tmps.getD 42 undef) (a.tmps.getD 43 undef) (a.tmps.getD 44 undef) (a.tmps.getD 45 undef) (a.tmps.getD 46 undef) (a.tmps.getD 47 undef) (a.tmps.getD 48 undef) w1 hL
    rw [← k49] at hQ2
    rw [he]
    exact hQ2
  case hop =>
    intro i o hi
    have hlt : i < 23 := (Array.getElem?_eq_some_iff.1 hi).1
    rcases (show i = 0 ∨ i = 1 ∨ i = 2 ∨ i = 3 ∨ i = 4 ∨ i = 5 ∨ i = 6 ∨ i = 7 ∨ i = 8 ∨ i = 9 ∨ i = 10 ∨ i = 11 ∨ i = 12 ∨ i = 13 ∨ i = 14 ∨ i = 15 ∨ i = 16 ∨ i = 17 ∨ i = 18 ∨ i = 19 ∨ i = 20 ∨ i = 21 ∨ i = 22 by omega) with rfl | rfl | rfl | rfl | rfl | rfl | rfl | rfl | rfl | rfl | rfl | rfl | rfl | rfl | rfl | rfl | rfl | rfl | rfl | rfl | rfl | rfl | rfl
    · obtain rfl := Option.some.inj hi
      clear hi hlt
      intro a w1 hL hS hD
      have e0 : a.tmps.getD 0 undef = .pointer (some ⟨wp, 0, none⟩) := (hS.slot 0 (by kernel_rfl)).trans s0
      refine step_yes rfl ?_
      exact ok_value Lat.refl (.pointer (some ⟨wp, 0, none⟩)) (by simp [execOp, Act.eval, e0, go_sem]) (TV.mk rfl)
    · obtain rfl := Option.some.inj hi
      clear hi hlt
      intro a w1 hL hS hD
      have d0 : a.tmps.getD 27 undef = .pointer (some ⟨wp, 0, none⟩) := hD ⟨0, .data⟩ (by simp) rfl _ rfl _ rfl
      refine step_yes rfl ?_
      exact ok_value Lat.refl (.pointer (some ⟨wp, 0, none⟩)) (by simp [execOp, Act.eval, d0, go_sem]) (TV.mk rfl)
    · obtain rfl := Option.some.inj hi
      clear hi hlt
      intro a w1 hL hS hD
      have d1 : a.tmps.getD 28 undef = .pointer (some ⟨wp, 0, none⟩) := hD ⟨1, .data⟩ (by simp) rfl _ rfl _ rfl
      refine step_yes rfl ?_
      exact ok_value Lat.refl (.pointer (some ⟨wp, 0, none⟩)) (by simp [execOp, Act.eval, d1, go_sem]) (TV.mk rfl)
    · obtain rfl := Option.some.inj hi
      clear hi hlt
      intro a w1 hL hS hD
      have d2 : a.tmps.getD 29 undef = .pointer (some ⟨wp, 0, none⟩) := hD ⟨2, .data⟩ (by simp) rfl _ rfl _ rfl
      refine step_yes rfl ?_
      exact ok_value Lat.refl (.pointer (some ⟨p, 0, none⟩)) (by simp [execOp, Act.eval, d2, hA w1 hL, go_sem]) (TV.mk rfl)
    · obtain rfl := Option.some.inj hi
      clear hi hlt
      intro a w1 hL hS hD
      have e3 : a.tmps.getD 3 undef = .int .i64 f := (hS.slot 3 (by kernel_rfl)).trans s3
      refine step_yes rfl ?_
      exact ok_value Lat.refl (.int .i64 f) (by simp [execOp, Act.eval, e3, go_sem]) (TV.mk rfl)
    · obtain rfl := Option.some.inj hi
      clear hi hlt
      intro a w1 hL hS hD
      have d3 : a.tmps.getD 30 undef = .pointer (some ⟨p, 0, none⟩) := hD ⟨3, .data⟩ (by simp) rfl _ rfl _ rfl
      have d4 : a.tmps.getD 31 undef = .int .i64 f := hD ⟨4, .data⟩ (by simp) rfl _ rfl _ rfl
      refine step_yes rfl ?_
      refine ok_call (f := 17) (args := #[.pointer (some ⟨p, 0, none⟩), .int .i64 f]) (by simp [execOp, resolve, Act.eval, d3, d4, go_sem]) ?_
      refine (k1 w1 hL).mono ?_
      rintro e w2 ⟨rfl, hb⟩
      exact ⟨_, rfl, hb, TV.mk rfl⟩
    · obtain rfl := Option.some.inj hi
      clear hi hlt
      intro a w1 hL hS hD
      have e4 : a.tmps.getD 4 undef = .int .i64 n := (hS.slot 4 (by kernel_rfl)).trans s4
      refine step_yes rfl ?_
      exact ok_value Lat.refl (.int .i64 n) (by simp [execOp, Act.eval, e4, go_sem]) (TV.mk rfl)
    · obtain rfl := Option.some.inj hi
      clear hi hlt
      intro a w1 hL hS hD
      have d5 : a.tmps.getD 32 undef = .int .i64 n := hD ⟨5, .data⟩ (by simp) rfl _ rfl _ rfl
      have d6 : a.tmps.getD 33 undef = .int .i64 n := hD ⟨6, .data⟩ (by simp) rfl _ rfl _ rfl
      refine step_yes rfl ?_
      exact ok_value Lat.refl (.bool false) (by simp [execOp, Act.eval, d5, d6, go_sem]) (TV.mk rfl)
    · obtain rfl := Option.some.inj hi
      clear hi hlt
      intro a w1 hL hS hD
      have d7 : a.tmps.getD 34 undef = .bool false := hD ⟨7, .data⟩ (by simp) rfl _ rfl _ rfl
      refine step_yes rfl ?_
      exact ok_value Lat.refl (.bool false) (by simp [execOp, Act.eval, d7, go_sem]) (TV.mk rfl)
    · obtain rfl := Option.some.inj hi
      clear hi hlt
      intro a w1 hL hS hD
      have d8 : a.tmps.getD 35 undef = .bool false := hD ⟨8, .guard⟩ (by simp) rfl _ rfl _ rfl
      have e0 : a.tmps.getD 0 undef = .pointer (some ⟨wp, 0, none⟩) := (hS.slot 0 (by kernel_rfl)).trans s0
      refine step_yes (wanted_yes rfl rfl rfl d8) ?_
      exact ok_value Lat.refl (.pointer (some ⟨wp, 0, none⟩)) (by simp [execOp, Act.eval, e0, go_sem]) (TV.mk rfl)
    · obtain rfl := Option.some.inj hi
      clear hi hlt
      intro a w1 hL hS hD
      have d8 : a.tmps.getD 35 undef = .bool false := hD ⟨8, .guard⟩ (by simp) rfl _ rfl _ rfl
      have d9 : a.tmps.getD 36 undef = .pointer (some ⟨wp, 0, none⟩) := hD ⟨9, .data⟩ (by simp) rfl _ rfl _ rfl
      refine step_yes (wanted_yes rfl rfl rfl d8) ?_
      exact ok_value Lat.refl (.pointer (some ⟨wp, 0, none⟩)) (by simp [execOp, Act.eval, d9, go_sem]) (TV.mk rfl)
    · obtain rfl := Option.some.inj hi
      clear hi hlt
      intro a w1 hL hS hD
      have d8 : a.tmps.getD 35 undef = .bool false := hD ⟨8, .guard⟩ (by simp) rfl _ rfl _ rfl
      have d10 : a.tmps.getD 37 undef = .pointer (some ⟨wp, 0, none⟩) := hD ⟨10, .data⟩ (by simp) rfl _ rfl _ rfl
      refine step_yes (wanted_yes rfl rfl rfl d8) ?_
      exact ok_value Lat.refl (.pointer (some ⟨wp, 0, none⟩)) (by simp [execOp, Act.eval, d10, go_sem]) (TV.mk rfl)
    · obtain rfl := Option.some.inj hi
      clear hi hlt
      intro a w1 hL hS hD
      have d8 : a.tmps.getD 35 undef = .bool false := hD ⟨8, .guard⟩ (by simp) rfl _ rfl _ rfl
      have d11 : a.tmps.getD 38 undef = .pointer (some ⟨wp, 0, none⟩) := hD ⟨11, .data⟩ (by simp) rfl _ rfl _ rfl
      refine step_yes (wanted_yes rfl rfl rfl d8) ?_
      exact ok_value Lat.refl (.pointer (some ⟨p, 0, none⟩)) (by simp [execOp, Act.eval, d11, hA w1 hL, go_sem]) (TV.mk rfl)
    · obtain rfl := Option.some.inj hi
      clear hi hlt
      intro a w1 hL hS hD
      have d8 : a.tmps.getD 35 undef = .bool false := hD ⟨8, .guard⟩ (by simp) rfl _ rfl _ rfl
      have e3 : a.tmps.getD 3 undef = .int .i64 f := (hS.slot 3 (by kernel_rfl)).trans s3
      refine step_yes (wanted_yes rfl rfl rfl d8) ?_
      exact ok_value Lat.refl (.int .i64 f) (by simp [execOp, Act.eval, e3, go_sem]) (TV.mk rfl)
    · obtain rfl := Option.some.inj hi
      clear hi hlt
      intro a w1 hL hS hD
      have d8 : a.tmps.getD 35 undef = .bool false := hD ⟨8, .guard⟩ (by simp) rfl _ rfl _ rfl
      have d12 : a.tmps.getD 39 undef = .pointer (some ⟨p, 0, none⟩) := hD ⟨12, .data⟩ (by simp) rfl _ rfl _ rfl
      have d13 : a.tmps.getD 40 undef = .int .i64 f := hD ⟨13, .data⟩ (by simp) rfl _ rfl _ rfl
      refine step_yes (wanted_yes rfl rfl rfl d8) ?_
      refine ok_call (f := 67) (args := #[.pointer (some ⟨p, 0, none⟩), .int .i64 f]) (by simp [execOp, resolve, Act.eval, d12, d13, go_sem]) ?_
      refine (k2 w1 hL).mono ?_
      rintro e w2 ⟨rfl, hb⟩
      exact ⟨_, rfl, hb, TV.mk rfl⟩
    · obtain rfl := Option.some.inj hi
      clear hi hlt
      intro a w1 hL hS hD
      have d8 : a.tmps.getD 35 undef = .bool false := hD ⟨8, .guard⟩ (by simp) rfl _ rfl _ rfl
      have e0 : a.tmps.getD 0 undef = .pointer (some ⟨wp, 0, none⟩) := (hS.slot 0 (by kernel_rfl)).trans s0
      refine step_yes (wanted_yes rfl rfl rfl d8) ?_
      exact ok_value Lat.refl (.pointer (some ⟨wp, 0, none⟩)) (by simp [execOp, Act.eval, e0, go_sem]) (TV.mk rfl)
    · obtain rfl := Option.some.inj hi
      clear hi hlt
      intro a w1 hL hS hD
      have d8 : a.tmps.getD 35 undef = .bool false := hD ⟨8, .guard⟩ (by simp) rfl _ rfl _ rfl
      have d15 : a.tmps.getD 42 undef = .pointer (some ⟨wp, 0, none⟩) := hD ⟨15, .data⟩ (by simp) rfl _ rfl _ rfl
      refine step_yes (wanted_yes rfl rfl rfl d8) ?_
      exact ok_value Lat.refl (.pointer (some ⟨wp, 0, none⟩)) (by simp [execOp, Act.eval, d15, go_sem]) (TV.mk rfl)
    · obtain rfl := Option.some.inj hi
      clear hi hlt
      intro a w1 hL hS hD
      have d8 : a.tmps.getD 35 undef = .bool false := hD ⟨8, .guard⟩ (by simp) rfl _ rfl _ rfl
      have d16 : a.tmps.getD 43 undef = .pointer (some ⟨wp, 0, none⟩) := hD ⟨16, .data⟩ (by simp) rfl _ rfl _ rfl
      refine step_yes (wanted_yes rfl rfl rfl d8) ?_
      exact ok_value Lat.refl (.pointer (some ⟨wp, 2, none⟩)) (by simp [execOp, Act.eval, d16, go_sem]) (TV.mk rfl)
    · obtain rfl := Option.some.inj hi
      clear hi hlt
      intro a w1 hL hS hD
      have d8 : a.tmps.getD 35 undef = .bool false := hD ⟨8, .guard⟩ (by simp) rfl _ rfl _ rfl
      have d17 : a.tmps.getD 44 undef = .pointer (some ⟨wp, 2, none⟩) := hD ⟨17, .data⟩ (by simp) rfl _ rfl _ rfl
      refine step_yes (wanted_yes rfl rfl rfl d8) ?_
      exact ok_value Lat.refl (.pointer (some ⟨x, 0, none⟩)) (by simp [execOp, Act.eval, d17, hX w1 hL, go_sem]) (TV.mk rfl)
    · obtain rfl := Option.some.inj hi
      clear hi hlt
      intro a w1 hL hS hD
      have d8 : a.tmps.getD 35 undef = .bool false := hD ⟨8, .guard⟩ (by simp) rfl _ rfl _ rfl
      have e3 : a.tmps.getD 3 undef = .int .i64 f := (hS.slot 3 (by kernel_rfl)).trans s3
      refine step_yes (wanted_yes rfl rfl rfl d8) ?_
      exact ok_value Lat.refl (.int .i64 f) (by simp [execOp, Act.eval, e3, go_sem]) (TV.mk rfl)
    · obtain rfl := Option.some.inj hi
      clear hi hlt
      intro a w1 hL hS hD
      have d8 : a.tmps.getD 35 undef = .bool false := hD ⟨8, .guard⟩ (by simp) rfl _ rfl _ rfl
      have d18 : a.tmps.getD 45 undef = .pointer (some ⟨x, 0, none⟩) := hD ⟨18, .data⟩ (by simp) rfl _ rfl _ rfl
      have d19 : a.tmps.getD 46 undef = .int .i64 f := hD ⟨19, .data⟩ (by simp) rfl _ rfl _ rfl
      refine step_yes (wanted_yes rfl rfl rfl d8) ?_
      refine ok_call (f := 68) (args := #[.pointer (some ⟨x, 0, none⟩), .int .i64 f]) (by simp [execOp, resolve, Act.eval, d18, d19, go_sem]) ?_
      refine (k3 w1 hL).mono ?_
      rintro e w2 ⟨rfl, hb⟩
      exact ⟨_, rfl, hb, TV.mk rfl⟩
    · obtain rfl := Option.some.inj hi
      clear hi hlt
      intro a w1 hL hS hD
      have d8 : a.tmps.getD 35 undef = .bool false := hD ⟨8, .guard⟩ (by simp) rfl _ rfl _ rfl
      have d14 : a.tmps.getD 41 undef = .int .i64 l := hD ⟨14, .data⟩ (by simp) rfl _ rfl _ rfl
      have d20 : a.tmps.getD 47 undef = .int .i64 l := hD ⟨20, .data⟩ (by simp) rfl _ rfl _ rfl
      refine step_yes (wanted_yes rfl rfl rfl d8) ?_
      exact ok_value Lat.refl (.bool false) (by simp [execOp, Act.eval, d14, d20, go_sem]) (TV.mk rfl)
    · obtain rfl := Option.some.inj hi
      clear hi hlt
      intro a w1 hL hS hD
      have d8 : a.tmps.getD 35 undef = .bool false := hD ⟨8, .data⟩ (by simp) rfl _ rfl _ rfl
      have d21 : a.tmps.getD 48 undef = .bool false := hD ⟨21, .data⟩ (by simp) rfl _ rfl _ rfl
      refine step_yes rfl ?_
      exact ok_value Lat.refl (.bool false) (by simp [execOp, Act.eval, d8, d21, go_sem]) (TV.mk rfl)

set_option maxRecDepth 100000 in
set_option maxHeartbeats 2000000 in
theorem files_r11 (wp p x : Nat) (on : Bool) (fa : Int) (w : World) (a0 : Act) (Q : Exit → Act → World → Prop) (hsz : a0.tmps.size = 108)
    (s0 : a0.tmps.getD 0 undef = .pointer (some ⟨wp, 0, none⟩))
    (hA : ∀ w1, Lat w w1 → w1.cell? ⟨wp, 0, none⟩ = some (.pointer (some ⟨p, 0, none⟩)))
    (hX : ∀ w1, Lat w w1 → w1.cell? ⟨wp, 2, none⟩ = some (.pointer (some ⟨x, 0, none⟩)))
    (k1 : ∀ w1, Lat w w1 → Calls Tryz.prog 71 #[.pointer (some ⟨p, 0, none⟩)] w1 fun e w2 => e = .returned (.bool on) ∧ Lat w1 w2)
    (k2 : ∀ w1, Lat w w1 → Calls Tryz.prog 39 #[.pointer (some ⟨p, 0, none⟩)] w1 fun e w2 => e = .returned (.int .i64 fa) ∧ Lat w1 w2)
    (h1 : ∀ w1, Lat w w1 → w1.cell? ⟨x, 1, none⟩ = some (.bool on))
    (h2 : ∀ w1, Lat w w1 → w1.cell? ⟨x, 2, none⟩ = some (.int .i64 fa))
    (hQ : ∀ (v80 v81 v82 v83 v84 v85 v86 v87 v88 v89 v90 v91 v92 v93 v94 v95 v96 v97 v98 v99 v100 v101 v102 v103 v104 v105 v106 v107 : Value) (w1 : World), Lat w w1 → Q .normal (((((((((((((((((((((((((((((a0.put (some 80) v80).put (some 81) v81).put (some 82) v82).put (some 83) v83).put (some 84) v84).put (some 85) v85).put (some 86) v86).put (some 87) v87).put (some 88) v88).put (some 89) v89).put (some 90) v90).put (some 91) v91).put (some 92) v92).put (some 93) v93).put (some 94) v94).put (some 95) v95).put (some 96) v96).put (some 97) v97).put (some 98) v98).put (some 99) v99).put (some 100) v100).put (some 101) v101).put (some 102) v102).put (some 103) v103).put (some 104) v104).put (some 105) v105).put (some 106) v106).put (some 107) v107).put (some 2) (.bool true)) w1) :
    Code.wp Tryz.prog ((Tryz.f35.body.bind (findRegion 11)).getD .skip) Q a0 w := by
  conv => arg 2; whnf
  refine wp_region_inv Lat (TV [.pointer (some ⟨wp, 0, none⟩), .pointer (some ⟨wp, 0, none⟩), .pointer (some ⟨wp, 0, none⟩), .pointer (some ⟨p, 0, none⟩), .bool on, .pointer (some ⟨wp, 0, none⟩), .pointer (some ⟨wp, 0, none⟩), .pointer (some ⟨wp, 2, none⟩), .pointer (some ⟨x, 0, none⟩), .pointer (some ⟨x, 0, none⟩), .pointer (some ⟨x, 1, none⟩), .bool on, .bool true, .bool true, .pointer (some ⟨wp, 0, none⟩), .pointer (some ⟨wp, 0, none⟩), .pointer (some ⟨wp, 0, none⟩), .pointer (some ⟨p, 0, none⟩), .int .i64 fa, .pointer (some ⟨wp, 0, none⟩), .pointer (some ⟨wp, 0, none⟩), .pointer (some ⟨wp, 2, none⟩), .pointer (some ⟨x, 0, none⟩), .pointer (some ⟨x, 0, none⟩), .pointer (some ⟨x, 2, none⟩), .int .i64 fa, .bool true, .bool true, .bool true]) (by kernel_rfl) (by kernel_rfl) (by kernel_rfl) (by rw [hsz]; kernel_rfl) (by kernel_rfl) Lat.refl Lat.trans (TV.stable _) (Lat.draw w) ?hop ?hdone
  case hdone =>
    intro a w1 hL hS hT
    have k2 : a.tmps.getD 2 undef = .bool true := hT 28 _ rfl _ rfl
    have he := same_puts hS
    have hQ2 := hQ (a.tmps.getD 80 undef) (a.tmps.getD 81 undef) (a.tmps.getD 82 undef) (a.tmps.getD 83 undef) (a.tmps.getD 84 undef) (a.tmps.getD 85 undef) (a.tmps.getD 86 undef) (a.tmps.getD 87 undef) (a.tmps.getD 88 undef) (a.tmps.getD 89 undef) (a.tmps.getD 90 undef) (a.tmps.getD 91 undef) (a.tmps.getD 92 undef) (a.tmps.getD 93 undef) (a.tmps.getD 94 undef) (a.tmps.getD 95 undef) (a.tmps.getD 96 undef) (a.tmps.getD 97 undef) (a.tmps.getD 98 undef) (a.tmps.getD 99 undef) (a.tmps.getD 100 undef) (a.tmps.getD 101 undef) (a.tmps.getD 102 undef) (a.tmps.getD 103 undef) (a.tmps.getD 104 undef) (a.tmps.getD 105 undef) (a.tmps.getD 106 undef) (a.tmps.getD 107 undef) w1 hL
    rw [← k2] at hQ2
    rw [he]
    exact hQ2
  case hop =>
    intro i o hi
    have hlt : i < 29 := (Array.getElem?_eq_some_iff.1 hi).1
    rcases (show i = 0 ∨ i = 1 ∨ i = 2 ∨ i = 3 ∨ i = 4 ∨ i = 5 ∨ i = 6 ∨ i = 7 ∨ i = 8 ∨ i = 9 ∨ i = 10 ∨ i = 11 ∨ i = 12 ∨ i = 13 ∨ i = 14 ∨ i = 15 ∨ i = 16 ∨ i = 17 ∨ i = 18 ∨ i = 19 ∨ i = 20 ∨ i = 21 ∨ i = 22 ∨ i = 23 ∨ i = 24 ∨ i = 25 ∨ i = 26 ∨ i = 27 ∨ i = 28 by omega) with rfl | rfl | rfl | rfl | rfl | rfl | rfl | rfl | rfl | rfl | rfl | rfl | rfl | rfl | rfl | rfl | rfl | rfl | rfl | rfl | rfl | rfl | rfl | rfl | rfl | rfl | rfl | rfl | rfl
    · obtain rfl := Option.some.inj hi
      clear hi hlt
      intro a w1 hL hS hD
      have e0 : a.tmps.getD 0 undef = .pointer (some ⟨wp, 0, none⟩) := (hS.slot 0 (by kernel_rfl)).trans s0
      refine step_yes rfl ?_
      exact ok_value Lat.refl (.pointer (some ⟨wp, 0, none⟩)) (by simp [execOp, Act.eval, e0, go_sem]) (TV.mk rfl)
    · obtain rfl := Option.some.inj hi
      clear hi hlt
      intro a w1 hL hS hD
      have d0 : a.tmps.getD 80 undef = .pointer (some ⟨wp, 0, none⟩) := hD ⟨0, .data⟩ (by simp) rfl _ rfl _ rfl
      refine step_yes rfl ?_
      exact ok_value Lat.refl (.pointer (some ⟨wp, 0, none⟩)) (by simp [execOp, Act.eval, d0, go_sem]) (TV.mk rfl)
    · obtain rfl := Option.some.inj hi
      clear hi hlt
      intro a w1 hL hS hD
      have d1 : a.tmps.getD 81 undef = .pointer (some ⟨wp, 0, none⟩) := hD ⟨1, .data⟩ (by simp) rfl _ rfl _ rfl
      refine step_yes rfl ?_
      exact ok_value Lat.refl (.pointer (some ⟨wp, 0, none⟩)) (by simp [execOp, Act.eval, d1, go_sem]) (TV.mk rfl)
    · obtain rfl := Option.some.inj hi
      clear hi hlt
      intro a w1 hL hS hD
      have d2 : a.tmps.getD 82 undef = .pointer (some ⟨wp, 0, none⟩) := hD ⟨2, .data⟩ (by simp) rfl _ rfl _ rfl
      refine step_yes rfl ?_
      exact ok_value Lat.refl (.pointer (some ⟨p, 0, none⟩)) (by simp [execOp, Act.eval, d2, hA w1 hL, go_sem]) (TV.mk rfl)
    · obtain rfl := Option.some.inj hi
      clear hi hlt
      intro a w1 hL hS hD
      have d3 : a.tmps.getD 83 undef = .pointer (some ⟨p, 0, none⟩) := hD ⟨3, .data⟩ (by simp) rfl _ rfl _ rfl
      refine step_yes rfl ?_
      refine ok_call (f := 71) (args := #[.pointer (some ⟨p, 0, none⟩)]) (by simp [execOp, resolve, Act.eval, d3, go_sem]) ?_
      refine (k1 w1 hL).mono ?_
      rintro e w2 ⟨rfl, hb⟩
      exact ⟨_, rfl, hb, TV.mk rfl⟩
    · obtain rfl := Option.some.inj hi
      clear hi hlt
      intro a w1 hL hS hD
      have e0 : a.tmps.getD 0 undef = .pointer (some ⟨wp, 0, none⟩) := (hS.slot 0 (by kernel_rfl)).trans s0
      refine step_yes rfl ?_
      exact ok_value Lat.refl (.pointer (some ⟨wp, 0, none⟩)) (by simp [execOp, Act.eval, e0, go_sem]) (TV.mk rfl)
    · obtain rfl := Option.some.inj hi
      clear hi hlt
      intro a w1 hL hS hD
      have d5 : a.tmps.getD 85 undef = .pointer (some ⟨wp, 0, none⟩) := hD ⟨5, .data⟩ (by simp) rfl _ rfl _ rfl
      refine step_yes rfl ?_
      exact ok_value Lat.refl (.pointer (some ⟨wp, 0, none⟩)) (by simp [execOp, Act.eval, d5, go_sem]) (TV.mk rfl)
    · obtain rfl := Option.some.inj hi
      clear hi hlt
      intro a w1 hL hS hD
      have d6 : a.tmps.getD 86 undef = .pointer (some ⟨wp, 0, none⟩) := hD ⟨6, .data⟩ (by simp) rfl _ rfl _ rfl
      refine step_yes rfl ?_
      exact ok_value Lat.refl (.pointer (some ⟨wp, 2, none⟩)) (by simp [execOp, Act.eval, d6, go_sem]) (TV.mk rfl)
    · obtain rfl := Option.some.inj hi
      clear hi hlt
      intro a w1 hL hS hD
      have d7 : a.tmps.getD 87 undef = .pointer (some ⟨wp, 2, none⟩) := hD ⟨7, .data⟩ (by simp) rfl _ rfl _ rfl
      refine step_yes rfl ?_
      exact ok_value Lat.refl (.pointer (some ⟨x, 0, none⟩)) (by simp [execOp, Act.eval, d7, hX w1 hL, go_sem]) (TV.mk rfl)
    · obtain rfl := Option.some.inj hi
      clear hi hlt
      intro a w1 hL hS hD
      have d8 : a.tmps.getD 88 undef = .pointer (some ⟨x, 0, none⟩) := hD ⟨8, .data⟩ (by simp) rfl _ rfl _ rfl
      refine step_yes rfl ?_
      exact ok_value Lat.refl (.pointer (some ⟨x, 0, none⟩)) (by simp [execOp, Act.eval, d8, go_sem]) (TV.mk rfl)
    · obtain rfl := Option.some.inj hi
      clear hi hlt
      intro a w1 hL hS hD
      have d9 : a.tmps.getD 89 undef = .pointer (some ⟨x, 0, none⟩) := hD ⟨9, .data⟩ (by simp) rfl _ rfl _ rfl
      refine step_yes rfl ?_
      exact ok_value Lat.refl (.pointer (some ⟨x, 1, none⟩)) (by simp [execOp, Act.eval, d9, go_sem]) (TV.mk rfl)
    · obtain rfl := Option.some.inj hi
      clear hi hlt
      intro a w1 hL hS hD
      have d10 : a.tmps.getD 90 undef = .pointer (some ⟨x, 1, none⟩) := hD ⟨10, .data⟩ (by simp) rfl _ rfl _ rfl
      refine step_yes rfl ?_
      exact ok_value Lat.refl (.bool on) (by simp [execOp, Act.eval, d10, h1 w1 hL, go_sem]) (TV.mk rfl)
    · obtain rfl := Option.some.inj hi
      clear hi hlt
      intro a w1 hL hS hD
      have d4 : a.tmps.getD 84 undef = .bool on := hD ⟨4, .data⟩ (by simp) rfl _ rfl _ rfl
      have d11 : a.tmps.getD 91 undef = .bool on := hD ⟨11, .data⟩ (by simp) rfl _ rfl _ rfl
      refine step_yes rfl ?_
      exact ok_value Lat.refl (.bool true) (by simp [execOp, Act.eval, d4, d11, go_sem]) (TV.mk rfl)
    · obtain rfl := Option.some.inj hi
      clear hi hlt
      intro a w1 hL hS hD
      have d12 : a.tmps.getD 92 undef = .bool true := hD ⟨12, .data⟩ (by simp) rfl _ rfl _ rfl
      refine step_yes rfl ?_
      exact ok_value Lat.refl (.bool true) (by simp [execOp, Act.eval, d12, go_sem]) (TV.mk rfl)
    · obtain rfl := Option.some.inj hi
      clear hi hlt
      intro a w1 hL hS hD
      have d13 : a.tmps.getD 93 undef = .bool true := hD ⟨13, .guard⟩ (by simp) rfl _ rfl _ rfl
      have e0 : a.tmps.getD 0 undef = .pointer (some ⟨wp, 0, none⟩) := (hS.slot 0 (by kernel_rfl)).trans s0
      refine step_yes (wanted_yes rfl rfl rfl d13) ?_
      exact ok_value Lat.refl (.pointer (some ⟨wp, 0, none⟩)) (by simp [execOp, Act.eval, e0, go_sem]) (TV.mk rfl)
    · obtain rfl := Option.some.inj hi
      clear hi hlt
      intro a w1 hL hS hD
      have d13 : a.tmps.getD 93 undef = .bool true := hD ⟨13, .guard⟩ (by simp) rfl _ rfl _ rfl
      have d14 : a.tmps.getD 94 undef = .pointer (some ⟨wp, 0, none⟩) := hD ⟨14, .data⟩ (by simp) rfl _ rfl _ rfl
      refine step_yes (wanted_yes rfl rfl rfl d13) ?_
      exact ok_value Lat.refl (.pointer (some ⟨wp, 0, none⟩)) (by simp [execOp, Act.eval, d14, go_sem]) (TV.mk rfl)
    · obtain rfl := Option.some.inj hi
      clear hi hlt
      intro a w1 hL hS hD
      have d13 : a.tmps.getD 93 undef = .bool true := hD ⟨13, .guard⟩ (by simp) rfl _ rfl _ rfl
      have d15 : a.tmps.getD 95 undef = .pointer (some ⟨wp, 0, none⟩) := hD ⟨15, .data⟩ (by simp) rfl _ rfl _ rfl
      refine step_yes (wanted_yes rfl rfl rfl d13) ?_
      exact ok_value Lat.refl (.pointer (some ⟨wp, 0, none⟩)) (by simp [execOp, Act.eval, d15, go_sem]) (TV.mk rfl)
    · obtain rfl := Option.some.inj hi
      clear hi hlt
      intro a w1 hL hS hD
      have d13 : a.tmps.getD 93 undef = .bool true := hD ⟨13, .guard⟩ (by simp) rfl _ rfl _ rfl
      have d16 : a.tmps.getD 96 undef = .pointer (some ⟨wp, 0, none⟩) := hD ⟨16, .data⟩ (by simp) rfl _ rfl _ rfl
      refine step_yes (wanted_yes rfl rfl rfl d13) ?_
      exact ok_value Lat.refl (.pointer (some ⟨p, 0, none⟩)) (by simp [execOp, Act.eval, d16, hA w1 hL, go_sem]) (TV.mk rfl)
    · obtain rfl := Option.some.inj hi
      clear hi hlt
      intro a w1 hL hS hD
      have d13 : a.tmps.getD 93 undef = .bool true := hD ⟨13, .guard⟩ (by simp) rfl _ rfl _ rfl
      have d17 : a.tmps.getD 97 undef = .pointer (some ⟨p, 0, none⟩) := hD ⟨17, .data⟩ (by simp) rfl _ rfl _ rfl
      refine step_yes (wanted_yes rfl rfl rfl d13) ?_
      refine ok_call (f := 39) (args := #[.pointer (some ⟨p, 0, none⟩)]) (by simp [execOp, resolve, Act.eval, d17, go_sem]) ?_
      refine (k2 w1 hL).mono ?_
      rintro e w2 ⟨rfl, hb⟩
      exact ⟨_, rfl, hb, TV.mk rfl⟩
    · obtain rfl := Option.some.inj hi
      clear hi hlt
      intro a w1 hL hS hD
      have d13 : a.tmps.getD 93 undef = .bool true := hD ⟨13, .guard⟩ (by simp) rfl _ rfl _ rfl
      have e0 : a.tmps.getD 0 undef = .pointer (some ⟨wp, 0, none⟩) := (hS.slot 0 (by kernel_rfl)).trans s0
      refine step_yes (wanted_yes rfl rfl rfl d13) ?_
      exact ok_value Lat.refl (.pointer (some ⟨wp, 0, none⟩)) (by simp [execOp, Act.eval, e0, go_sem]) (TV.mk rfl)
    · obtain rfl := Option.some.inj hi
      clear hi hlt
      intro a w1 hL hS hD
      have d13 : a.tmps.getD 93 undef = .bool true := hD ⟨13, .guard⟩ (by simp) rfl _ rfl _ rfl
      have d19 : a.tmps.getD 99 undef = .pointer (some ⟨wp, 0, none⟩) := hD ⟨19, .data⟩ (by simp) rfl _ rfl _ rfl
      refine step_yes (wanted_yes rfl rfl rfl d13) ?_
      exact ok_value Lat.refl (.pointer (some ⟨wp, 0, none⟩)) (by simp [execOp, Act.eval, d19, go_sem]) (TV.mk rfl)
    · obtain rfl := Option.some.inj hi
      clear hi hlt
      intro a w1 hL hS hD
      have d13 : a.tmps.getD 93 undef = .bool true := hD ⟨13, .guard⟩ (by simp) rfl _ rfl _ rfl
      have d20 : a.tmps.getD 100 undef = .pointer (some ⟨wp, 0, none⟩) := hD ⟨20, .data⟩ (by simp) rfl _ rfl _ rfl
      refine step_yes (wanted_yes rfl rfl rfl d13) ?_
      exact ok_value Lat.refl (.pointer (some ⟨wp, 2, none⟩)) (by simp [execOp, Act.eval, d20, go_sem]) (TV.mk rfl)
    · obtain rfl := Option.some.inj hi
      clear hi hlt
      intro a w1 hL hS hD
      have d13 : a.tmps.getD 93 undef = .bool true := hD ⟨13, .guard⟩ (by simp) rfl _ rfl _ rfl
      have d21 : a.tmps.getD 101 undef = .pointer (some ⟨wp, 2, none⟩) := hD ⟨21, .data⟩ (by simp) rfl _ rfl _ rfl
      refine step_yes (wanted_yes rfl rfl rfl d13) ?_
      exact ok_value Lat.refl (.pointer (some ⟨x, 0, none⟩)) (by simp [execOp, Act.eval, d21, hX w1 hL, go_sem]) (TV.mk rfl)
    · obtain rfl := Option.some.inj hi
      clear hi hlt
      intro a w1 hL hS hD
      have d13 : a.tmps.getD 93 undef = .bool true := hD ⟨13, .guard⟩ (by simp) rfl _ rfl _ rfl
      have d22 : a.tmps.getD 102 undef = .pointer (some ⟨x, 0, none⟩) := hD ⟨22, .data⟩ (by simp) rfl _ rfl _ rfl
      refine step_yes (wanted_yes rfl rfl rfl d13) ?_
      exact ok_value Lat.refl (.pointer (some ⟨x, 0, none⟩)) (by simp [execOp, Act.eval, d22, go_sem]) (TV.mk rfl)
    · obtain rfl := Option.some.inj hi
      clear hi hlt
      intro a w1 hL hS hD
      have d13 : a.tmps.getD 93 undef = .bool true := hD ⟨13, .guard⟩ (by simp) rfl _ rfl _ rfl
      have d23 : a.tmps.getD 103 undef = .pointer (some ⟨x, 0, none⟩) := hD ⟨23, .data⟩ (by simp) rfl _ rfl _ rfl
      refine step_yes (wanted_yes rfl rfl rfl d13) ?_
      exact ok_value Lat.refl (.pointer (some ⟨x, 2, none⟩)) (by simp [execOp, Act.eval, d23, go_sem]) (TV.mk rfl)
    · obtain rfl := Option.some.inj hi
      clear hi hlt
      intro a w1 hL hS hD
      have d13 : a.tmps.getD 93 undef = .bool true := hD ⟨13, .guard⟩ (by simp) rfl _ rfl _ rfl
      have d24 : a.tmps.getD 104 undef = .pointer (some ⟨x, 2, none⟩) := hD ⟨24, .data⟩ (by simp) rfl _ rfl _ rfl
      refine step_yes (wanted_yes rfl rfl rfl d13) ?_
      exact ok_value Lat.refl (.int .i64 fa) (by simp [execOp, Act.eval, d24, h2 w1 hL, go_sem]) (TV.mk rfl)
    · obtain rfl := Option.some.inj hi
      clear hi hlt
      intro a w1 hL hS hD
      have d13 : a.tmps.getD 93 undef = .bool true := hD ⟨13, .guard⟩ (by simp) rfl _ rfl _ rfl
      have d18 : a.tmps.getD 98 undef = .int .i64 fa := hD ⟨18, .data⟩ (by simp) rfl _ rfl _ rfl
      have d25 : a.tmps.getD 105 undef = .int .i64 fa := hD ⟨25, .data⟩ (by simp) rfl _ rfl _ rfl
      refine step_yes (wanted_yes rfl rfl rfl d13) ?_
      exact ok_value Lat.refl (.bool true) (by simp [execOp, Act.eval, d18, d25, go_sem]) (TV.mk rfl)
    · obtain rfl := Option.some.inj hi
      clear hi hlt
      intro a w1 hL hS hD
      have d13 : a.tmps.getD 93 undef = .bool true := hD ⟨13, .data⟩ (by simp) rfl _ rfl _ rfl
      have d26 : a.tmps.getD 106 undef = .bool true := hD ⟨26, .data⟩ (by simp) rfl _ rfl _ rfl
      refine step_yes rfl ?_
      exact ok_value Lat.refl (.bool true) (by simp [execOp, Act.eval, d13, d26, go_sem]) (TV.mk rfl)
    · obtain rfl := Option.some.inj hi
      clear hi hlt
      intro a w1 hL hS hD
      have d27 : a.tmps.getD 107 undef = .bool true := hD ⟨27, .data⟩ (by simp) rfl _ rfl _ rfl
      refine step_yes rfl ?_
      exact ok_value Lat.refl (.bool true) (by simp [execOp, Act.eval, d27, go_sem]) (TV.mk rfl)

set_option maxRecDepth 100000 in
set_option maxHeartbeats 2000000 in
theorem opens_r8 (ga gb m ca cb i n1 c1 n2 c2 : Nat) (a1 a2 : Option Addr) (S : ByteArray) (w : World) (a0 : Act) (Q : Exit → Act → World → Prop) (hsz : a0.tmps.size = 125)
    (s5 : a0.tmps.getD 5 undef = .slice (some ⟨ga, 0, none⟩) m ca)
    (s9 : a0.tmps.getD 9 undef = .slice (some ⟨gb, 0, none⟩) m cb)
    (s11 : a0.tmps.getD 11 undef = .int .i64 (i : Int))
    (hi : i < m)
    (h1 : ∀ w1, Lat w w1 → w1.cell? ⟨ga, i, none⟩ = some (.slice a1 n1 c1))
    (h2 : ∀ w1, Lat w w1 → w1.cell? ⟨gb, i, none⟩ = some (.slice a2 n2 c2))
    (e1 : ∀ w1, Lat w w1 → (convert 28 9 (.slice a1 n1 c1)).run Tryz.prog w1 = .ok (.string S) w1)
    (e2 : ∀ w1, Lat w w1 → (convert 28 9 (.slice a2 n2 c2)).run Tryz.prog w1 = .ok (.string S) w1)
    (hQ : ∀ (v65 v66 v67 v68 v69 v70 v71 v72 v73 v74 : Value) (w1 : World), Lat w w1 → Q .normal (((((((((((a0.put (some 65) v65).put (some 66) v66).put (some 67) v67).put (some 68) v68).put (some 69) v69).put (some 70) v70).put (some 71) v71).put (some 72) v72).put (some 73) v73).put (some 74) v74).put (some 75) (.bool false)) w1) :
    Code.wp Tryz.prog ((Tryz.f23.body.bind (findRegion 8)).getD .skip) Q a0 w := by
  conv => arg 2; whnf
  refine wp_region_inv Lat (TV [.slice (some ⟨ga, 0, none⟩) m ca, .int .i64 (i : Int), .pointer (some ⟨ga, i, none⟩), .slice a1 n1 c1, .string S, .slice (some ⟨gb, 0, none⟩) m cb, .int .i64 (i : Int), .pointer (some ⟨gb, i, none⟩), .slice a2 n2 c2, .string S, .bool false]) (by kernel_rfl) (by kernel_rfl) (by kernel_rfl) (by rw [hsz]; kernel_rfl) (by kernel_rfl) Lat.refl Lat.trans (TV.stable _) (Lat.draw w) ?hop ?hdone
  case hdone =>
    intro a w1 hL hS hT
    have k75 : a.tmps.getD 75 undef = .bool false := hT 10 _ rfl _ rfl
    have he := same_puts hS
    have hQ2 := hQ (a.tmps.getD 65 undef) (a.tmps.getD 66 undef) (a.tmps.getD 67 undef) (a.tmps.getD 68 undef) (a.tmps.getD 69 undef) (a.tmps.getD 70 undef) (a.tmps.getD 71 undef) (a.tmps.getD 72 undef) (a.tmps.getD 73 undef) (a.tmps.getD 74 undef) w1 hL
    rw [← k75] at hQ2
    rw [he]
    exact hQ2
  case hop =>
    intro i o hi
    have hlt : i < 11 := (Array.getElem?_eq_some_iff.1 hi).1
    rcases (show i = 0 ∨ i = 1 ∨ i = 2 ∨ i = 3 ∨ i = 4 ∨ i = 5 ∨ i = 6 ∨ i = 7 ∨ i = 8 ∨ i = 9 ∨ i = 10 by omega) with rfl | rfl | rfl | rfl | rfl | rfl | rfl | rfl | rfl | rfl | rfl
    · obtain rfl := Option.some.inj hi
      clear hi hlt
      intro a w1 hL hS hD
      have e5 : a.tmps.getD 5 undef = .slice (some ⟨ga, 0, none⟩) m ca := (hS.slot 5 (by kernel_rfl)).trans s5
      refine step_yes rfl ?_
      exact ok_value Lat.refl (.slice (some ⟨ga, 0, none⟩) m ca) (by simp [execOp, Act.eval, e5, go_sem]) (TV.mk rfl)
    · obtain rfl := Option.some.inj hi
      clear hi hlt
      intro a w1 hL hS hD
      have e11 : a.tmps.getD 11 undef = .int .i64 (i : Int) := (hS.slot 11 (by kernel_rfl)).trans s11
      refine step_yes rfl ?_
      exact ok_value Lat.refl (.int .i64 (i : Int)) (by simp [execOp, Act.eval, e11, go_sem]) (TV.mk rfl)
    · obtain rfl := Option.some.inj hi
      clear hi hlt
      intro a w1 hL hS hD
      have d0 : a.tmps.getD 65 undef = .slice (some ⟨ga, 0, none⟩) m ca := hD ⟨0, .data⟩ (by simp) rfl _ rfl _ rfl
      have d1 : a.tmps.getD 66 undef = .int .i64 (i : Int) := hD ⟨1, .data⟩ (by simp) rfl _ rfl _ rfl
      refine step_yes rfl ?_
      exact ok_value Lat.refl (.pointer (some ⟨ga, i, none⟩)) (by simp [execOp, Act.eval, d0, d1, hi, go_sem]) (TV.mk rfl)
    · obtain rfl := Option.some.inj hi
      clear hi hlt
      intro a w1 hL hS hD
      have d2 : a.tmps.getD 67 undef = .pointer (some ⟨ga, i, none⟩) := hD ⟨2, .data⟩ (by simp) rfl _ rfl _ rfl
      refine step_yes rfl ?_
      exact ok_value Lat.refl (.slice a1 n1 c1) (by simp [execOp, Act.eval, d2, h1 w1 hL, go_sem]) (TV.mk rfl)
    · obtain rfl := Option.some.inj hi
      clear hi hlt
      intro a w1 hL hS hD
      have d3 : a.tmps.getD 68 undef = .slice a1 n1 c1 := hD ⟨3, .data⟩ (by simp) rfl _ rfl _ rfl
      refine step_yes rfl ?_
      exact ok_value Lat.refl (.string S) (by simp [execOp, Act.eval, d3, e1 w1 hL, go_sem]) (TV.mk rfl)
    · obtain rfl := Option.some.inj hi
      clear hi hlt
      intro a w1 hL hS hD
      have e9 : a.tmps.getD 9 undef = .slice (some ⟨gb, 0, none⟩) m cb := (hS.slot 9 (by kernel_rfl)).trans s9
      refine step_yes rfl ?_
      exact ok_value Lat.refl (.slice (some ⟨gb, 0, none⟩) m cb) (by simp [execOp, Act.eval, e9, go_sem]) (TV.mk rfl)
    · obtain rfl := Option.some.inj hi
      clear hi hlt
      intro a w1 hL hS hD
      have e11 : a.tmps.getD 11 undef = .int .i64 (i : Int) := (hS.slot 11 (by kernel_rfl)).trans s11
      refine step_yes rfl ?_
      exact ok_value Lat.refl (.int .i64 (i : Int)) (by simp [execOp, Act.eval, e11, go_sem]) (TV.mk rfl)
    · obtain rfl := Option.some.inj hi
      clear hi hlt
      intro a w1 hL hS hD
      have d5 : a.tmps.getD 70 undef = .slice (some ⟨gb, 0, none⟩) m cb := hD ⟨5, .data⟩ (by simp) rfl _ rfl _ rfl
      have d6 : a.tmps.getD 71 undef = .int .i64 (i : Int) := hD ⟨6, .data⟩ (by simp) rfl _ rfl _ rfl
      refine step_yes rfl ?_
      exact ok_value Lat.refl (.pointer (some ⟨gb, i, none⟩)) (by simp [execOp, Act.eval, d5, d6, hi, go_sem]) (TV.mk rfl)
    · obtain rfl := Option.some.inj hi
      clear hi hlt
      intro a w1 hL hS hD
      have d7 : a.tmps.getD 72 undef = .pointer (some ⟨gb, i, none⟩) := hD ⟨7, .data⟩ (by simp) rfl _ rfl _ rfl
      refine step_yes rfl ?_
      exact ok_value Lat.refl (.slice a2 n2 c2) (by simp [execOp, Act.eval, d7, h2 w1 hL, go_sem]) (TV.mk rfl)
    · obtain rfl := Option.some.inj hi
      clear hi hlt
      intro a w1 hL hS hD
      have d8 : a.tmps.getD 73 undef = .slice a2 n2 c2 := hD ⟨8, .data⟩ (by simp) rfl _ rfl _ rfl
      refine step_yes rfl ?_
      exact ok_value Lat.refl (.string S) (by simp [execOp, Act.eval, d8, e2 w1 hL, go_sem]) (TV.mk rfl)
    · obtain rfl := Option.some.inj hi
      clear hi hlt
      intro a w1 hL hS hD
      have d4 : a.tmps.getD 69 undef = .string S := hD ⟨4, .data⟩ (by simp) rfl _ rfl _ rfl
      have d9 : a.tmps.getD 74 undef = .string S := hD ⟨9, .data⟩ (by simp) rfl _ rfl _ rfl
      refine step_yes rfl ?_
      exact ok_value Lat.refl (.bool false) (by simp [execOp, Act.eval, d4, d9, go_sem]) (TV.mk rfl)

set_option maxRecDepth 100000 in
set_option maxHeartbeats 2000000 in
theorem opens_r17 (ga gb m ca cb i n1 c1 n2 c2 : Nat) (a1 a2 : Option Addr) (S : ByteArray) (w : World) (a0 : Act) (Q : Exit → Act → World → Prop) (hsz : a0.tmps.size = 125)
    (s5 : a0.tmps.getD 5 undef = .slice (some ⟨ga, 0, none⟩) m ca)
    (s9 : a0.tmps.getD 9 undef = .slice (some ⟨gb, 0, none⟩) m cb)
    (s13 : a0.tmps.getD 13 undef = .int .i64 (i : Int))
    (hi : i < m)
    (h1 : ∀ w1, Lat w w1 → w1.cell? ⟨ga, i, none⟩ = some (.slice a1 n1 c1))
    (h2 : ∀ w1, Lat w w1 → w1.cell? ⟨gb, i, none⟩ = some (.slice a2 n2 c2))
    (e1 : ∀ w1, Lat w w1 → (convert 28 9 (.slice a1 n1 c1)).run Tryz.prog w1 = .ok (.string S) w1)
    (e2 : ∀ w1, Lat w w1 → (convert 28 9 (.slice a2 n2 c2)).run Tryz.prog w1 = .ok (.string S) w1)
    (hQ : ∀ (v91 v92 v93 v94 v95 v96 v97 v98 v99 v100 : Value) (w1 : World), Lat w w1 → Q .normal (((((((((((a0.put (some 91) v91).put (some 92) v92).put (some 93) v93).put (some 94) v94).put (some 95) v95).put (some 96) v96).put (some 97) v97).put (some 98) v98).put (some 99) v99).put (some 100) v100).put (some 101) (.bool false)) w1) :
    Code.wp Tryz.prog ((Tryz.f23.body.bind (findRegion 17)).getD .skip) Q a0 w := by
  conv => arg 2; whnf
  refine wp_region_inv Lat (TV [.slice (some ⟨ga, 0, none⟩) m ca, .int .i64 (i : Int), .pointer (some ⟨ga, i, none⟩), .slice a1 n1 c1, .string S, .slice (some ⟨gb, 0, none⟩) m cb, .int .i64 (i : Int), .pointer (some ⟨gb, i, none⟩), .slice a2 n2 c2, .string S, .bool false]) (by kernel_rfl) (by kernel_rfl) (by kernel_rfl) (by rw [hsz]; kernel_rfl) (by kernel_rfl) Lat.refl Lat.trans (TV.stable _) (Lat.draw w) ?hop ?hdone
  case hdone =>
    intro a w1 hL hS hT
    have k101 : a.tmps.getD 101 undef = .bool false := hT 10 _ rfl _ rfl
    have he := same_puts hS
    have hQ2 := hQ (a.tmps.getD 91 undef) (a.tmps.getD 92 undef) (a.tmps.getD 93 undef) (a.tmps.getD 94 undef) (a.tmps.getD 95 undef) (a.tmps.getD 96 undef) (a.tmps.getD 97 undef) (a.tmps.getD 98 undef) (a.tmps.getD 99 undef) (a.tmps.getD 100 undef) w1 hL
    rw [← k101] at hQ2
    rw [he]
    exact hQ2
  case hop =>
    intro i o hi
    have hlt : i < 11 := (Array.getElem?_eq_some_iff.1 hi).1
    rcases (show i = 0 ∨ i = 1 ∨ i = 2 ∨ i = 3 ∨ i = 4 ∨ i = 5 ∨ i = 6 ∨ i = 7 ∨ i = 8 ∨ i = 9 ∨ i = 10 by omega) with rfl | rfl | rfl | rfl | rfl | rfl | rfl | rfl | rfl | rfl | rfl
    · obtain rfl := Option.some.inj hi
      clear hi hlt
      intro a w1 hL hS hD
      have e5 : a.tmps.getD 5 undef = .slice (some ⟨ga, 0, none⟩) m ca := (hS.slot 5 (by kernel_rfl)).trans s5
      refine step_yes rfl ?_
      exact ok_value Lat.refl (.slice (some ⟨ga, 0, none⟩) m ca) (by simp [execOp, Act.eval, e5, go_sem]) (TV.mk rfl)
    · obtain rfl := Option.some.inj hi
      clear hi hlt
      intro a w1 hL hS hD
      have e13 : a.tmps.getD 13 undef = .int .i64 (i : Int) := (hS.slot 13 (by kernel_rfl)).trans s13
      refine step_yes rfl ?_
      exact ok_value Lat.refl (.int .i64 (i : Int)) (by simp [execOp, Act.eval, e13, go_sem]) (TV.mk rfl)
    · obtain rfl := Option.some.inj hi
      clear hi hlt
      intro a w1 hL hS hD
      have d0 : a.tmps.getD 91 undef = .slice (some ⟨ga, 0, none⟩) m ca := hD ⟨0, .data⟩ (by simp) rfl _ rfl _ rfl
      have d1 : a.tmps.getD 92 undef = .int .i64 (i : Int) := hD ⟨1, .data⟩ (by simp) rfl _ rfl _ rfl
      refine step_yes rfl ?_
      exact ok_value Lat.refl (.pointer (some ⟨ga, i, none⟩)) (by simp [execOp, Act.eval, d0, d1, hi, go_sem]) (TV.mk rfl)
    · obtain rfl := Option.some.inj hi
      clear hi hlt
      intro a w1 hL hS hD
      have d2 : a.tmps.getD 93 undef = .pointer (some ⟨ga, i, none⟩) := hD ⟨2, .data⟩ (by simp) rfl _ rfl _ rfl
      refine step_yes rfl ?_
      exact ok_value Lat.refl (.slice a1 n1 c1) (by simp [execOp, Act.eval, d2, h1 w1 hL, go_sem]) (TV.mk rfl)
    · obtain rfl := Option.some.inj hi
      clear hi hlt
      intro a w1 hL hS hD
      have d3 : a.tmps.getD 94 undef = .slice a1 n1 c1 := hD ⟨3, .data⟩ (by simp) rfl _ rfl _ rfl
      refine step_yes rfl ?_
      exact ok_value Lat.refl (.string S) (by simp [execOp, Act.eval, d3, e1 w1 hL, go_sem]) (TV.mk rfl)
    · obtain rfl := Option.some.inj hi
      clear hi hlt
      intro a w1 hL hS hD
      have e9 : a.tmps.getD 9 undef = .slice (some ⟨gb, 0, none⟩) m cb := (hS.slot 9 (by kernel_rfl)).trans s9
      refine step_yes rfl ?_
      exact ok_value Lat.refl (.slice (some ⟨gb, 0, none⟩) m cb) (by simp [execOp, Act.eval, e9, go_sem]) (TV.mk rfl)
    · obtain rfl := Option.some.inj hi
      clear hi hlt
      intro a w1 hL hS hD
      have e13 : a.tmps.getD 13 undef = .int .i64 (i : Int) := (hS.slot 13 (by kernel_rfl)).trans s13
      refine step_yes rfl ?_
      exact ok_value Lat.refl (.int .i64 (i : Int)) (by simp [execOp, Act.eval, e13, go_sem]) (TV.mk rfl)
    · obtain rfl := Option.some.inj hi
      clear hi hlt
      intro a w1 hL hS hD
      have d5 : a.tmps.getD 96 undef = .slice (some ⟨gb, 0, none⟩) m cb := hD ⟨5, .data⟩ (by simp) rfl _ rfl _ rfl
      have d6 : a.tmps.getD 97 undef = .int .i64 (i : Int) := hD ⟨6, .data⟩ (by simp) rfl _ rfl _ rfl
      refine step_yes rfl ?_
      exact ok_value Lat.refl (.pointer (some ⟨gb, i, none⟩)) (by simp [execOp, Act.eval, d5, d6, hi, go_sem]) (TV.mk rfl)
    · obtain rfl := Option.some.inj hi
      clear hi hlt
      intro a w1 hL hS hD
      have d7 : a.tmps.getD 98 undef = .pointer (some ⟨gb, i, none⟩) := hD ⟨7, .data⟩ (by simp) rfl _ rfl _ rfl
      refine step_yes rfl ?_
      exact ok_value Lat.refl (.slice a2 n2 c2) (by simp [execOp, Act.eval, d7, h2 w1 hL, go_sem]) (TV.mk rfl)
    · obtain rfl := Option.some.inj hi
      clear hi hlt
      intro a w1 hL hS hD
      have d8 : a.tmps.getD 99 undef = .slice a2 n2 c2 := hD ⟨8, .data⟩ (by simp) rfl _ rfl _ rfl
      refine step_yes rfl ?_
      exact ok_value Lat.refl (.string S) (by simp [execOp, Act.eval, d8, e2 w1 hL, go_sem]) (TV.mk rfl)
    · obtain rfl := Option.some.inj hi
      clear hi hlt
      intro a w1 hL hS hD
      have d4 : a.tmps.getD 95 undef = .string S := hD ⟨4, .data⟩ (by simp) rfl _ rfl _ rfl
      have d9 : a.tmps.getD 100 undef = .string S := hD ⟨9, .data⟩ (by simp) rfl _ rfl _ rfl
      refine step_yes rfl ?_
      exact ok_value Lat.refl (.bool false) (by simp [execOp, Act.eval, d4, d9, go_sem]) (TV.mk rfl)


end Go.Proofs.YtnfjhdedcnbdbaaGreat
