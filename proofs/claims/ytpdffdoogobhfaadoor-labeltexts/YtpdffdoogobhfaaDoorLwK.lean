/-
  owned: its region that compares.
-/
import Derived.Test.YtpdffdoogobhfaaDoorLwG
import Derived.Test.YtpdffdoogobhfaaDoorLwA
import Derived.Test.YtpdffdoogobhfaaDoorAnyW
namespace Go.Proofs.YtpdffdoogobhfaaDoor
open Go Go.RowKit
set_option linter.unusedVariables false
set_option linter.unusedSimpArgs false

set_option maxRecDepth 100000 in
set_option maxHeartbeats 2000000 in
theorem owned_in (h p cp g g2 m c2 n c i k : Nat) (ad : Option Addr) (x : Lb) (w : World) (a0 : Act) (Q : Exit → Act → World → Prop) (hsz : a0.tmps.size = 103)
    (s0 : a0.tmps.getD 0 undef = .slice (some ⟨h, 0, none⟩) 3 3)
    (s5 : a0.tmps.getD 5 undef = .slice (some ⟨p, 0, none⟩) 3 cp)
    (s9 : a0.tmps.getD 9 undef = .int .i64 (i : Int))
    (s10 : a0.tmps.getD 10 undef = .int .i64 (k : Int))
    (hi : (i : Int) < 3) (hiN : i < 3) (hm : (k : Int) < (m : Int)) (hmN : k < m)
    (hk : (k : Int) < (n : Int)) (hkN : k < n) (c4 : ∀ w1, Lat w w1 → w1.cell? ⟨g, k * 2, none⟩ = some (.string x.n)) (c5 : ∀ w1, Lat w w1 → w1.cell? ⟨g, k * 2 + 1, none⟩ = some (.string x.v))
    (c0 : ∀ w1, Lat w w1 → w1.cell? ⟨p, i, none⟩ = some (.slice (some ⟨g2, 0, none⟩) m c2)) (c1 : ∀ w1, Lat w w1 → w1.cell? ⟨g2, k * 2, none⟩ = some (.string x.n)) (c2' : ∀ w1, Lat w w1 → w1.cell? ⟨g2, k * 2 + 1, none⟩ = some (.string x.v)) (c3 : ∀ w1, Lat w w1 → w1.cell? ⟨h, i, none⟩ = some (.slice (some ⟨g, 0, none⟩) n c))
    (hq : ∀ w, (binOp .neq 35 (.agg #[.string x.n, .string x.v]) (.agg #[.string x.n, .string x.v])).run Tryd.prog w = .ok (.bool false) w)
    (hcall : ∀ w1, Lat w w1 → Calls Tryd.prog 26 #[.int .i64 (i : Int)] w1 fun e w' => e = .returned (.agg #[.string x.n, .string x.v]) ∧ Below w1.heap.size w1 w')
    (hQ : ∀ (v72 v73 v74 v75 v76 v77 v78 v79 v80 v81 v82 v83 v84 v85 v86 v87 v88 v89 v90 v91 v92 v93 v94 v95 v96 v97 v98 v99 v100 v101 : Value) (w1 : World), Lat w w1 → Q .normal (((((((((((((((((((((((((((((((a0.put (some 72) v72).put (some 73) v73).put (some 74) v74).put (some 75) v75).put (some 76) v76).put (some 77) v77).put (some 78) v78).put (some 79) v79).put (some 80) v80).put (some 81) v81).put (some 82) v82).put (some 83) v83).put (some 84) v84).put (some 85) v85).put (some 86) v86).put (some 87) v87).put (some 88) v88).put (some 89) v89).put (some 90) v90).put (some 91) v91).put (some 92) v92).put (some 93) v93).put (some 94) v94).put (some 95) v95).put (some 96) v96).put (some 97) v97).put (some 98) v98).put (some 99) v99).put (some 100) v100).put (some 101) v101).put (some 102) (.bool false)) w1) :
    Code.wp Tryd.prog ((Tryd.f13.body.bind (findRegion 24)).getD .skip) Q a0 w := by
  conv => arg 2; whnf
  refine wp_region_inv Lat (TV [.slice (some ⟨p, 0, none⟩) 3 cp, .int .i64 (i : Int), .pointer (some ⟨p, i, none⟩), .slice (some ⟨g2, 0, none⟩) m c2, .int .i64 (k : Int), .pointer (some ⟨g2, k * 2, none⟩), .agg #[.string x.n, .string x.v], .int .i64 (i : Int), .agg #[.string x.n, .string x.v], .bool false, .bool false, .int .i64 (k : Int), .slice (some ⟨h, 0, none⟩) 3 3, .int .i64 (i : Int), .pointer (some ⟨h, i, none⟩), .slice (some ⟨g, 0, none⟩) n c, .int .i64 (n : Int), .bool true, .bool true, .slice (some ⟨h, 0, none⟩) 3 3, .int .i64 (i : Int), .pointer (some ⟨h, i, none⟩), .slice (some ⟨g, 0, none⟩) n c, .int .i64 (k : Int), .pointer (some ⟨g, k * 2, none⟩), .agg #[.string x.n, .string x.v], .int .i64 (i : Int), .agg #[.string x.n, .string x.v], .bool false, .bool false, .bool false]) (by kernel_rfl) (by kernel_rfl) (by kernel_rfl) (by rw [hsz]; kernel_rfl) (by kernel_rfl) Lat.refl Lat.trans (TV.stable _) (Lat.draw w) ?hop ?hdone
  case hdone =>
    intro a w1 hL hS hT
    have k102 : a.tmps.getD 102 undef = .bool false := hT 30 _ rfl _ rfl
    have he := same_puts hS
    have hQ2 := hQ (a.tmps.getD 72 undef) (a.tmps.getD 73 undef) (a.tmps.getD 74 undef) (a.tmps.getD 75 undef) (a.tmps.getD 76 undef) (a.tmps.getD 77 undef) (a.tmps.getD 78 undef) (a.tmps.getD 79 undef) (a.tmps.getD 80 undef) (a.tmps.getD 81 undef) (a.tmps.getD 82 undef) (a.tmps.getD 83 undef) (a.tmps.getD 84 undef) (a.tmps.getD 85 undef) (a.tmps.getD 86 undef) (a.tmps.getD 87 undef) (a.tmps.getD 88 undef) (a.tmps.getD 89 undef) (a.tmps.getD 90 undef) (a.tmps.getD 91 undef) (a.tmps.getD 92 undef) (a.tmps.getD 93 undef) (a.tmps.getD 94 undef) (a.tmps.getD 95 undef) (a.tmps.getD 96 undef) (a.tmps.getD 97 undef) (a.tmps.getD 98 undef) (a.tmps.getD 99 undef) (a.tmps.getD 100 undef) (a.tmps.getD 101 undef) w1 hL
    rw [← k102] at hQ2
    rw [he]
    exact hQ2
  case hop =>
    intro i o hi
    have hlt : i < 31 := (Array.getElem?_eq_some_iff.1 hi).1
    rcases (show i = 0 ∨ i = 1 ∨ i = 2 ∨ i = 3 ∨ i = 4 ∨ i = 5 ∨ i = 6 ∨ i = 7 ∨ i = 8 ∨ i = 9 ∨ i = 10 ∨ i = 11 ∨ i = 12 ∨ i = 13 ∨ i = 14 ∨ i = 15 ∨ i = 16 ∨ i = 17 ∨ i = 18 ∨ i = 19 ∨ i = 20 ∨ i = 21 ∨ i = 22 ∨ i = 23 ∨ i = 24 ∨ i = 25 ∨ i = 26 ∨ i = 27 ∨ i = 28 ∨ i = 29 ∨ i = 30 by omega) with rfl | rfl | rfl | rfl | rfl | rfl | rfl | rfl | rfl | rfl | rfl | rfl | rfl | rfl | rfl | rfl | rfl | rfl | rfl | rfl | rfl | rfl | rfl | rfl | rfl | rfl | rfl | rfl | rfl | rfl | rfl
    · obtain rfl := Option.some.inj hi
      clear hi hlt
      intro a w1 hL hS hD
      have e5 : a.tmps.getD 5 undef = .slice (some ⟨p, 0, none⟩) 3 cp := (hS.slot 5 (by kernel_rfl)).trans s5
      refine step_yes rfl ?_
      exact ok_value Lat.refl (.slice (some ⟨p, 0, none⟩) 3 cp) (by simp [execOp, Act.eval, e5, go_sem]) (TV.mk rfl)
    · obtain rfl := Option.some.inj hi
      clear hi hlt
      intro a w1 hL hS hD
      have e9 : a.tmps.getD 9 undef = .int .i64 (i : Int) := (hS.slot 9 (by kernel_rfl)).trans s9
      refine step_yes rfl ?_
      exact ok_value Lat.refl (.int .i64 (i : Int)) (by simp [execOp, Act.eval, e9, go_sem]) (TV.mk rfl)
    · obtain rfl := Option.some.inj hi
      clear hi hlt
      intro a w1 hL hS hD
      have d0 : a.tmps.getD 72 undef = .slice (some ⟨p, 0, none⟩) 3 cp := hD ⟨0, .data⟩ (by simp) rfl _ rfl _ rfl
      have d1 : a.tmps.getD 73 undef = .int .i64 (i : Int) := hD ⟨1, .data⟩ (by simp) rfl _ rfl _ rfl
      refine step_yes rfl ?_
      exact ok_value Lat.refl (.pointer (some ⟨p, i, none⟩)) (by simp [execOp, Act.eval, d0, d1, hi, hiN, go_sem]) (TV.mk rfl)
    · obtain rfl := Option.some.inj hi
      clear hi hlt
      intro a w1 hL hS hD
      have d2 : a.tmps.getD 74 undef = .pointer (some ⟨p, i, none⟩) := hD ⟨2, .data⟩ (by simp) rfl _ rfl _ rfl
      refine step_yes rfl ?_
      exact ok_value Lat.refl (.slice (some ⟨g2, 0, none⟩) m c2) (by simp [execOp, Act.eval, d2, c0 w1 hL, go_sem]) (TV.mk rfl)
    · obtain rfl := Option.some.inj hi
      clear hi hlt
      intro a w1 hL hS hD
      have e10 : a.tmps.getD 10 undef = .int .i64 (k : Int) := (hS.slot 10 (by kernel_rfl)).trans s10
      refine step_yes rfl ?_
      exact ok_value Lat.refl (.int .i64 (k : Int)) (by simp [execOp, Act.eval, e10, go_sem]) (TV.mk rfl)
    · obtain rfl := Option.some.inj hi
      clear hi hlt
      intro a w1 hL hS hD
      have d3 : a.tmps.getD 75 undef = .slice (some ⟨g2, 0, none⟩) m c2 := hD ⟨3, .data⟩ (by simp) rfl _ rfl _ rfl
      have d4 : a.tmps.getD 76 undef = .int .i64 (k : Int) := hD ⟨4, .data⟩ (by simp) rfl _ rfl _ rfl
      refine step_yes rfl ?_
      exact ok_value Lat.refl (.pointer (some ⟨g2, k * 2, none⟩)) (by simp [execOp, Act.eval, d3, d4, hm, hmN, go_sem]) (TV.mk rfl)
    · obtain rfl := Option.some.inj hi
      clear hi hlt
      intro a w1 hL hS hD
      have d5 : a.tmps.getD 77 undef = .pointer (some ⟨g2, k * 2, none⟩) := hD ⟨5, .data⟩ (by simp) rfl _ rfl _ rfl
      refine step_yes rfl ?_
      exact ok_value Lat.refl (.agg #[.string x.n, .string x.v]) (by simp [execOp, Act.eval, d5, c1 w1 hL, c2' w1 hL, go_sem]) (TV.mk rfl)
    · obtain rfl := Option.some.inj hi
      clear hi hlt
      intro a w1 hL hS hD
      have e9 : a.tmps.getD 9 undef = .int .i64 (i : Int) := (hS.slot 9 (by kernel_rfl)).trans s9
      refine step_yes rfl ?_
      exact ok_value Lat.refl (.int .i64 (i : Int)) (by simp [execOp, Act.eval, e9, go_sem]) (TV.mk rfl)
    · obtain rfl := Option.some.inj hi
      clear hi hlt
      intro a w1 hL hS hD
      have d7 : a.tmps.getD 79 undef = .int .i64 (i : Int) := hD ⟨7, .data⟩ (by simp) rfl _ rfl _ rfl
      refine step_yes rfl ?_
      refine ok_call (f := 26) (args := #[.int .i64 (i : Int)]) (by simp [execOp, resolve, Act.eval, d7, go_sem]) ?_
      refine (hcall w1 hL).mono ?_
      rintro e w' ⟨rfl, hb⟩
      exact ⟨_, rfl, hb, TV.mk rfl⟩
    · obtain rfl := Option.some.inj hi
      clear hi hlt
      intro a w1 hL hS hD
      have d6 : a.tmps.getD 78 undef = .agg #[.string x.n, .string x.v] := hD ⟨6, .data⟩ (by simp) rfl _ rfl _ rfl
      have d8 : a.tmps.getD 80 undef = .agg #[.string x.n, .string x.v] := hD ⟨8, .data⟩ (by simp) rfl _ rfl _ rfl
      refine step_yes rfl ?_
      exact ok_value Lat.refl (.bool false) (by simp [execOp, Act.eval, d6, d8, hq w1, go_sem]) (TV.mk rfl)
    · obtain rfl := Option.some.inj hi
      clear hi hlt
      intro a w1 hL hS hD
      have d9 : a.tmps.getD 81 undef = .bool false := hD ⟨9, .data⟩ (by simp) rfl _ rfl _ rfl
      refine step_yes rfl ?_
      exact ok_value Lat.refl (.bool false) (by simp [execOp, Act.eval, d9, go_sem]) (TV.mk rfl)
    · obtain rfl := Option.some.inj hi
      clear hi hlt
      intro a w1 hL hS hD
      have d10 : a.tmps.getD 82 undef = .bool false := hD ⟨10, .guard⟩ (by simp) rfl _ rfl _ rfl
      have e10 : a.tmps.getD 10 undef = .int .i64 (k : Int) := (hS.slot 10 (by kernel_rfl)).trans s10
      refine step_yes (wanted_yes rfl rfl rfl d10) ?_
      exact ok_value Lat.refl (.int .i64 (k : Int)) (by simp [execOp, Act.eval, e10, go_sem]) (TV.mk rfl)
    · obtain rfl := Option.some.inj hi
      clear hi hlt
      intro a w1 hL hS hD
      have d10 : a.tmps.getD 82 undef = .bool false := hD ⟨10, .guard⟩ (by simp) rfl _ rfl _ rfl
      have e0 : a.tmps.getD 0 undef = .slice (some ⟨h, 0, none⟩) 3 3 := (hS.slot 0 (by kernel_rfl)).trans s0
      refine step_yes (wanted_yes rfl rfl rfl d10) ?_
      exact ok_value Lat.refl (.slice (some ⟨h, 0, none⟩) 3 3) (by simp [execOp, Act.eval, e0, go_sem]) (TV.mk rfl)
    · obtain rfl := Option.some.inj hi
      clear hi hlt
      intro a w1 hL hS hD
      have d10 : a.tmps.getD 82 undef = .bool false := hD ⟨10, .guard⟩ (by simp) rfl _ rfl _ rfl
      have e9 : a.tmps.getD 9 undef = .int .i64 (i : Int) := (hS.slot 9 (by kernel_rfl)).trans s9
      refine step_yes (wanted_yes rfl rfl rfl d10) ?_
      exact ok_value Lat.refl (.int .i64 (i : Int)) (by simp [execOp, Act.eval, e9, go_sem]) (TV.mk rfl)
    · obtain rfl := Option.some.inj hi
      clear hi hlt
      intro a w1 hL hS hD
      have d10 : a.tmps.getD 82 undef = .bool false := hD ⟨10, .guard⟩ (by simp) rfl _ rfl _ rfl
      have d12 : a.tmps.getD 84 undef = .slice (some ⟨h, 0, none⟩) 3 3 := hD ⟨12, .data⟩ (by simp) rfl _ rfl _ rfl
      have d13 : a.tmps.getD 85 undef = .int .i64 (i : Int) := hD ⟨13, .data⟩ (by simp) rfl _ rfl _ rfl
      refine step_yes (wanted_yes rfl rfl rfl d10) ?_
      exact ok_value Lat.refl (.pointer (some ⟨h, i, none⟩)) (by simp [execOp, Act.eval, d12, d13, hi, hiN, go_sem]) (TV.mk rfl)
    · obtain rfl := Option.some.inj hi
      clear hi hlt
      intro a w1 hL hS hD
      have d10 : a.tmps.getD 82 undef = .bool false := hD ⟨10, .guard⟩ (by simp) rfl _ rfl _ rfl
      have d14 : a.tmps.getD 86 undef = .pointer (some ⟨h, i, none⟩) := hD ⟨14, .data⟩ (by simp) rfl _ rfl _ rfl
      refine step_yes (wanted_yes rfl rfl rfl d10) ?_
      exact ok_value Lat.refl (.slice (some ⟨g, 0, none⟩) n c) (by simp [execOp, Act.eval, d14, c3 w1 hL, go_sem]) (TV.mk rfl)
    · obtain rfl := Option.some.inj hi
      clear hi hlt
      intro a w1 hL hS hD
      have d10 : a.tmps.getD 82 undef = .bool false := hD ⟨10, .guard⟩ (by simp) rfl _ rfl _ rfl
      have d15 : a.tmps.getD 87 undef = .slice (some ⟨g, 0, none⟩) n c := hD ⟨15, .data⟩ (by simp) rfl _ rfl _ rfl
      refine step_yes (wanted_yes rfl rfl rfl d10) ?_
      exact ok_value Lat.refl (.int .i64 (n : Int)) (by simp [execOp, Act.eval, d15, go_sem]) (TV.mk rfl)
    · obtain rfl := Option.some.inj hi
      clear hi hlt
      intro a w1 hL hS hD
      have d10 : a.tmps.getD 82 undef = .bool false := hD ⟨10, .guard⟩ (by simp) rfl _ rfl _ rfl
      have d11 : a.tmps.getD 83 undef = .int .i64 (k : Int) := hD ⟨11, .data⟩ (by simp) rfl _ rfl _ rfl
      have d16 : a.tmps.getD 88 undef = .int .i64 (n : Int) := hD ⟨16, .data⟩ (by simp) rfl _ rfl _ rfl
      refine step_yes (wanted_yes rfl rfl rfl d10) ?_
      exact ok_value Lat.refl (.bool true) (by simp [execOp, Act.eval, d11, d16, hk, go_sem]) (TV.mk rfl)
    · obtain rfl := Option.some.inj hi
      clear hi hlt
      intro a w1 hL hS hD
      have d10 : a.tmps.getD 82 undef = .bool false := hD ⟨10, .guard⟩ (by simp) rfl _ rfl _ rfl
      have d17 : a.tmps.getD 89 undef = .bool true := hD ⟨17, .data⟩ (by simp) rfl _ rfl _ rfl
      refine step_yes (wanted_yes rfl rfl rfl d10) ?_
      exact ok_value Lat.refl (.bool true) (by simp [execOp, Act.eval, d17, go_sem]) (TV.mk rfl)
    · obtain rfl := Option.some.inj hi
      clear hi hlt
      intro a w1 hL hS hD
      have d18 : a.tmps.getD 90 undef = .bool true := hD ⟨18, .guard⟩ (by simp) rfl _ rfl _ rfl
      have e0 : a.tmps.getD 0 undef = .slice (some ⟨h, 0, none⟩) 3 3 := (hS.slot 0 (by kernel_rfl)).trans s0
      refine step_yes (wanted_yes rfl rfl rfl d18) ?_
      exact ok_value Lat.refl (.slice (some ⟨h, 0, none⟩) 3 3) (by simp [execOp, Act.eval, e0, go_sem]) (TV.mk rfl)
    · obtain rfl := Option.some.inj hi
      clear hi hlt
      intro a w1 hL hS hD
      have d18 : a.tmps.getD 90 undef = .bool true := hD ⟨18, .guard⟩ (by simp) rfl _ rfl _ rfl
      have e9 : a.tmps.getD 9 undef = .int .i64 (i : Int) := (hS.slot 9 (by kernel_rfl)).trans s9
      refine step_yes (wanted_yes rfl rfl rfl d18) ?_
      exact ok_value Lat.refl (.int .i64 (i : Int)) (by simp [execOp, Act.eval, e9, go_sem]) (TV.mk rfl)
    · obtain rfl := Option.some.inj hi
      clear hi hlt
      intro a w1 hL hS hD
      have d18 : a.tmps.getD 90 undef = .bool true := hD ⟨18, .guard⟩ (by simp) rfl _ rfl _ rfl
      have d19 : a.tmps.getD 91 undef = .slice (some ⟨h, 0, none⟩) 3 3 := hD ⟨19, .data⟩ (by simp) rfl _ rfl _ rfl
      have d20 : a.tmps.getD 92 undef = .int .i64 (i : Int) := hD ⟨20, .data⟩ (by simp) rfl _ rfl _ rfl
      refine step_yes (wanted_yes rfl rfl rfl d18) ?_
      exact ok_value Lat.refl (.pointer (some ⟨h, i, none⟩)) (by simp [execOp, Act.eval, d19, d20, hi, hiN, go_sem]) (TV.mk rfl)
    · obtain rfl := Option.some.inj hi
      clear hi hlt
      intro a w1 hL hS hD
      have d18 : a.tmps.getD 90 undef = .bool true := hD ⟨18, .guard⟩ (by simp) rfl _ rfl _ rfl
      have d21 : a.tmps.getD 93 undef = .pointer (some ⟨h, i, none⟩) := hD ⟨21, .data⟩ (by simp) rfl _ rfl _ rfl
      refine step_yes (wanted_yes rfl rfl rfl d18) ?_
      exact ok_value Lat.refl (.slice (some ⟨g, 0, none⟩) n c) (by simp [execOp, Act.eval, d21, c3 w1 hL, go_sem]) (TV.mk rfl)
    · obtain rfl := Option.some.inj hi
      clear hi hlt
      intro a w1 hL hS hD
      have d18 : a.tmps.getD 90 undef = .bool true := hD ⟨18, .guard⟩ (by simp) rfl _ rfl _ rfl
      have e10 : a.tmps.getD 10 undef = .int .i64 (k : Int) := (hS.slot 10 (by kernel_rfl)).trans s10
      refine step_yes (wanted_yes rfl rfl rfl d18) ?_
      exact ok_value Lat.refl (.int .i64 (k : Int)) (by simp [execOp, Act.eval, e10, go_sem]) (TV.mk rfl)
    · obtain rfl := Option.some.inj hi
      clear hi hlt
      intro a w1 hL hS hD
      have d18 : a.tmps.getD 90 undef = .bool true := hD ⟨18, .guard⟩ (by simp) rfl _ rfl _ rfl
      have d22 : a.tmps.getD 94 undef = .slice (some ⟨g, 0, none⟩) n c := hD ⟨22, .data⟩ (by simp) rfl _ rfl _ rfl
      have d23 : a.tmps.getD 95 undef = .int .i64 (k : Int) := hD ⟨23, .data⟩ (by simp) rfl _ rfl _ rfl
      refine step_yes (wanted_yes rfl rfl rfl d18) ?_
      exact ok_value Lat.refl (.pointer (some ⟨g, k * 2, none⟩)) (by simp [execOp, Act.eval, d22, d23, hk, hkN, go_sem]) (TV.mk rfl)
    · obtain rfl := Option.some.inj hi
      clear hi hlt
      intro a w1 hL hS hD
      have d18 : a.tmps.getD 90 undef = .bool true := hD ⟨18, .guard⟩ (by simp) rfl _ rfl _ rfl
      have d24 : a.tmps.getD 96 undef = .pointer (some ⟨g, k * 2, none⟩) := hD ⟨24, .data⟩ (by simp) rfl _ rfl _ rfl
      refine step_yes (wanted_yes rfl rfl rfl d18) ?_
      exact ok_value Lat.refl (.agg #[.string x.n, .string x.v]) (by simp [execOp, Act.eval, d24, c4 w1 hL, c5 w1 hL, go_sem]) (TV.mk rfl)
    · obtain rfl := Option.some.inj hi
      clear hi hlt
      intro a w1 hL hS hD
      have d18 : a.tmps.getD 90 undef = .bool true := hD ⟨18, .guard⟩ (by simp) rfl _ rfl _ rfl
      have e9 : a.tmps.getD 9 undef = .int .i64 (i : Int) := (hS.slot 9 (by kernel_rfl)).trans s9
      refine step_yes (wanted_yes rfl rfl rfl d18) ?_
      exact ok_value Lat.refl (.int .i64 (i : Int)) (by simp [execOp, Act.eval, e9, go_sem]) (TV.mk rfl)
    · obtain rfl := Option.some.inj hi
      clear hi hlt
      intro a w1 hL hS hD
      have d18 : a.tmps.getD 90 undef = .bool true := hD ⟨18, .guard⟩ (by simp) rfl _ rfl _ rfl
      have d26 : a.tmps.getD 98 undef = .int .i64 (i : Int) := hD ⟨26, .data⟩ (by simp) rfl _ rfl _ rfl
      refine step_yes (wanted_yes rfl rfl rfl d18) ?_
      refine ok_call (f := 26) (args := #[.int .i64 (i : Int)]) (by simp [execOp, resolve, Act.eval, d26, go_sem]) ?_
      refine (hcall w1 hL).mono ?_
      rintro e w' ⟨rfl, hb⟩
      exact ⟨_, rfl, hb, TV.mk rfl⟩
    · obtain rfl := Option.some.inj hi
      clear hi hlt
      intro a w1 hL hS hD
      have d18 : a.tmps.getD 90 undef = .bool true := hD ⟨18, .guard⟩ (by simp) rfl _ rfl _ rfl
      have d25 : a.tmps.getD 97 undef = .agg #[.string x.n, .string x.v] := hD ⟨25, .data⟩ (by simp) rfl _ rfl _ rfl
      have d27 : a.tmps.getD 99 undef = .agg #[.string x.n, .string x.v] := hD ⟨27, .data⟩ (by simp) rfl _ rfl _ rfl
      refine step_yes (wanted_yes rfl rfl rfl d18) ?_
      exact ok_value Lat.refl (.bool false) (by simp [execOp, Act.eval, d25, d27, hq w1, go_sem]) (TV.mk rfl)
    · obtain rfl := Option.some.inj hi
      clear hi hlt
      intro a w1 hL hS hD
      have d10 : a.tmps.getD 82 undef = .bool false := hD ⟨10, .guard⟩ (by simp) rfl _ rfl _ rfl
      have d18 : a.tmps.getD 90 undef = .bool true := hD ⟨18, .data⟩ (by simp) rfl _ rfl _ rfl
      have d28 : a.tmps.getD 100 undef = .bool false := hD ⟨28, .data⟩ (by simp) rfl _ rfl _ rfl
      refine step_yes (wanted_yes rfl rfl rfl d10) ?_
      exact ok_value Lat.refl (.bool false) (by simp [execOp, Act.eval, d18, d28, go_sem]) (TV.mk rfl)
    · obtain rfl := Option.some.inj hi
      clear hi hlt
      intro a w1 hL hS hD
      have d10 : a.tmps.getD 82 undef = .bool false := hD ⟨10, .data⟩ (by simp) rfl _ rfl _ rfl
      have d29 : a.tmps.getD 101 undef = .bool false := hD ⟨29, .data⟩ (by simp) rfl _ rfl _ rfl
      refine step_yes rfl ?_
      exact ok_value Lat.refl (.bool false) (by simp [execOp, Act.eval, d10, d29, go_sem]) (TV.mk rfl)

set_option maxRecDepth 100000 in
set_option maxHeartbeats 2000000 in
theorem owned_out (h p cp g g2 m c2 n c i k : Nat) (ad : Option Addr) (x : Lb) (w : World) (a0 : Act) (Q : Exit → Act → World → Prop) (hsz : a0.tmps.size = 103)
    (s0 : a0.tmps.getD 0 undef = .slice (some ⟨h, 0, none⟩) 3 3)
    (s5 : a0.tmps.getD 5 undef = .slice (some ⟨p, 0, none⟩) 3 cp)
    (s9 : a0.tmps.getD 9 undef = .int .i64 (i : Int))
    (s10 : a0.tmps.getD 10 undef = .int .i64 (k : Int))
    (hi : (i : Int) < 3) (hiN : i < 3) (hm : (k : Int) < (m : Int)) (hmN : k < m)
    (hk : ¬ (k : Int) < (n : Int))
    (c0 : ∀ w1, Lat w w1 → w1.cell? ⟨p, i, none⟩ = some (.slice (some ⟨g2, 0, none⟩) m c2)) (c1 : ∀ w1, Lat w w1 → w1.cell? ⟨g2, k * 2, none⟩ = some (.string x.n)) (c2' : ∀ w1, Lat w w1 → w1.cell? ⟨g2, k * 2 + 1, none⟩ = some (.string x.v)) (c3 : ∀ w1, Lat w w1 → w1.cell? ⟨h, i, none⟩ = some (.slice ad n c))
    (hq : ∀ w, (binOp .neq 35 (.agg #[.string x.n, .string x.v]) (.agg #[.string x.n, .string x.v])).run Tryd.prog w = .ok (.bool false) w)
    (hcall : ∀ w1, Lat w w1 → Calls Tryd.prog 26 #[.int .i64 (i : Int)] w1 fun e w' => e = .returned (.agg #[.string x.n, .string x.v]) ∧ Below w1.heap.size w1 w')
    (hQ : ∀ (v72 v73 v74 v75 v76 v77 v78 v79 v80 v81 v82 v83 v84 v85 v86 v87 v88 v89 v90 v91 v92 v93 v94 v95 v96 v97 v98 v99 v100 v101 : Value) (w1 : World), Lat w w1 → Q .normal (((((((((((((((((((((((((((((((a0.put (some 72) v72).put (some 73) v73).put (some 74) v74).put (some 75) v75).put (some 76) v76).put (some 77) v77).put (some 78) v78).put (some 79) v79).put (some 80) v80).put (some 81) v81).put (some 82) v82).put (some 83) v83).put (some 84) v84).put (some 85) v85).put (some 86) v86).put (some 87) v87).put (some 88) v88).put (some 89) v89).put (some 90) v90).put (some 91) v91).put (some 92) v92).put (some 93) v93).put (some 94) v94).put (some 95) v95).put (some 96) v96).put (some 97) v97).put (some 98) v98).put (some 99) v99).put (some 100) v100).put (some 101) v101).put (some 102) (.bool false)) w1) :
    Code.wp Tryd.prog ((Tryd.f13.body.bind (findRegion 24)).getD .skip) Q a0 w := by
  conv => arg 2; whnf
  refine wp_region_inv Lat (TV [.slice (some ⟨p, 0, none⟩) 3 cp, .int .i64 (i : Int), .pointer (some ⟨p, i, none⟩), .slice (some ⟨g2, 0, none⟩) m c2, .int .i64 (k : Int), .pointer (some ⟨g2, k * 2, none⟩), .agg #[.string x.n, .string x.v], .int .i64 (i : Int), .agg #[.string x.n, .string x.v], .bool false, .bool false, .int .i64 (k : Int), .slice (some ⟨h, 0, none⟩) 3 3, .int .i64 (i : Int), .pointer (some ⟨h, i, none⟩), .slice ad n c, .int .i64 (n : Int), .bool false, .bool false, undef, undef, undef, undef, undef, undef, undef, undef, undef, undef, .bool false, .bool false]) (by kernel_rfl) (by kernel_rfl) (by kernel_rfl) (by rw [hsz]; kernel_rfl) (by kernel_rfl) Lat.refl Lat.trans (TV.stable _) (Lat.draw w) ?hop ?hdone
  case hdone =>
    intro a w1 hL hS hT
    have k102 : a.tmps.getD 102 undef = .bool false := hT 30 _ rfl _ rfl
    have he := same_puts hS
    have hQ2 := hQ (a.tmps.getD 72 undef) (a.tmps.getD 73 undef) (a.tmps.getD 74 undef) (a.tmps.getD 75 undef) (a.tmps.getD 76 undef) (a.tmps.getD 77 undef) (a.tmps.getD 78 undef) (a.tmps.getD 79 undef) (a.tmps.getD 80 undef) (a.tmps.getD 81 undef) (a.tmps.getD 82 undef) (a.tmps.getD 83 undef) (a.tmps.getD 84 undef) (a.tmps.getD 85 undef) (a.tmps.getD 86 undef) (a.tmps.getD 87 undef) (a.tmps.getD 88 undef) (a.tmps.getD 89 undef) (a.tmps.getD 90 undef) (a.tmps.getD 91 undef) (a.tmps.getD 92 undef) (a.tmps.getD 93 undef) (a.tmps.getD 94 undef) (a.tmps.getD 95 undef) (a.tmps.getD 96 undef) (a.tmps.getD 97 undef) (a.tmps.getD 98 undef) (a.tmps.getD 99 undef) (a.tmps.getD 100 undef) (a.tmps.getD 101 undef) w1 hL
    rw [← k102] at hQ2
    rw [he]
    exact hQ2
  case hop =>
    intro i o hi
    have hlt : i < 31 := (Array.getElem?_eq_some_iff.1 hi).1
    rcases (show i = 0 ∨ i = 1 ∨ i = 2 ∨ i = 3 ∨ i = 4 ∨ i = 5 ∨ i = 6 ∨ i = 7 ∨ i = 8 ∨ i = 9 ∨ i = 10 ∨ i = 11 ∨ i = 12 ∨ i = 13 ∨ i = 14 ∨ i = 15 ∨ i = 16 ∨ i = 17 ∨ i = 18 ∨ i = 19 ∨ i = 20 ∨ i = 21 ∨ i = 22 ∨ i = 23 ∨ i = 24 ∨ i = 25 ∨ i = 26 ∨ i = 27 ∨ i = 28 ∨ i = 29 ∨ i = 30 by omega) with rfl | rfl | rfl | rfl | rfl | rfl | rfl | rfl | rfl | rfl | rfl | rfl | rfl | rfl | rfl | rfl | rfl | rfl | rfl | rfl | rfl | rfl | rfl | rfl | rfl | rfl | rfl | rfl | rfl | rfl | rfl
    · obtain rfl := Option.some.inj hi
      clear hi hlt
      intro a w1 hL hS hD
      have e5 : a.tmps.getD 5 undef = .slice (some ⟨p, 0, none⟩) 3 cp := (hS.slot 5 (by kernel_rfl)).trans s5
      refine step_yes rfl ?_
      exact ok_value Lat.refl (.slice (some ⟨p, 0, none⟩) 3 cp) (by simp [execOp, Act.eval, e5, go_sem]) (TV.mk rfl)
    · obtain rfl := Option.some.inj hi
      clear hi hlt
      intro a w1 hL hS hD
      have e9 : a.tmps.getD 9 undef = .int .i64 (i : Int) := (hS.slot 9 (by kernel_rfl)).trans s9
      refine step_yes rfl ?_
      exact ok_value Lat.refl (.int .i64 (i : Int)) (by simp [execOp, Act.eval, e9, go_sem]) (TV.mk rfl)
    · obtain rfl := Option.some.inj hi
      clear hi hlt
      intro a w1 hL hS hD
      have d0 : a.tmps.getD 72 undef = .slice (some ⟨p, 0, none⟩) 3 cp := hD ⟨0, .data⟩ (by simp) rfl _ rfl _ rfl
      have d1 : a.tmps.getD 73 undef = .int .i64 (i : Int) := hD ⟨1, .data⟩ (by simp) rfl _ rfl _ rfl
      refine step_yes rfl ?_
      exact ok_value Lat.refl (.pointer (some ⟨p, i, none⟩)) (by simp [execOp, Act.eval, d0, d1, hi, hiN, go_sem]) (TV.mk rfl)
    · obtain rfl := Option.some.inj hi
      clear hi hlt
      intro a w1 hL hS hD
      have d2 : a.tmps.getD 74 undef = .pointer (some ⟨p, i, none⟩) := hD ⟨2, .data⟩ (by simp) rfl _ rfl _ rfl
      refine step_yes rfl ?_
      exact ok_value Lat.refl (.slice (some ⟨g2, 0, none⟩) m c2) (by simp [execOp, Act.eval, d2, c0 w1 hL, go_sem]) (TV.mk rfl)
    · obtain rfl := Option.some.inj hi
      clear hi hlt
      intro a w1 hL hS hD
      have e10 : a.tmps.getD 10 undef = .int .i64 (k : Int) := (hS.slot 10 (by kernel_rfl)).trans s10
      refine step_yes rfl ?_
      exact ok_value Lat.refl (.int .i64 (k : Int)) (by simp [execOp, Act.eval, e10, go_sem]) (TV.mk rfl)
    · obtain rfl := Option.some.inj hi
      clear hi hlt
      intro a w1 hL hS hD
      have d3 : a.tmps.getD 75 undef = .slice (some ⟨g2, 0, none⟩) m c2 := hD ⟨3, .data⟩ (by simp) rfl _ rfl _ rfl
      have d4 : a.tmps.getD 76 undef = .int .i64 (k : Int) := hD ⟨4, .data⟩ (by simp) rfl _ rfl _ rfl
      refine step_yes rfl ?_
      exact ok_value Lat.refl (.pointer (some ⟨g2, k * 2, none⟩)) (by simp [execOp, Act.eval, d3, d4, hm, hmN, go_sem]) (TV.mk rfl)
    · obtain rfl := Option.some.inj hi
      clear hi hlt
      intro a w1 hL hS hD
      have d5 : a.tmps.getD 77 undef = .pointer (some ⟨g2, k * 2, none⟩) := hD ⟨5, .data⟩ (by simp) rfl _ rfl _ rfl
      refine step_yes rfl ?_
      exact ok_value Lat.refl (.agg #[.string x.n, .string x.v]) (by simp [execOp, Act.eval, d5, c1 w1 hL, c2' w1 hL, go_sem]) (TV.mk rfl)
    · obtain rfl := Option.some.inj hi
      clear hi hlt
      intro a w1 hL hS hD
      have e9 : a.tmps.getD 9 undef = .int .i64 (i : Int) := (hS.slot 9 (by kernel_rfl)).trans s9
      refine step_yes rfl ?_
      exact ok_value Lat.refl (.int .i64 (i : Int)) (by simp [execOp, Act.eval, e9, go_sem]) (TV.mk rfl)
    · obtain rfl := Option.some.inj hi
      clear hi hlt
      intro a w1 hL hS hD
      have d7 : a.tmps.getD 79 undef = .int .i64 (i : Int) := hD ⟨7, .data⟩ (by simp) rfl _ rfl _ rfl
      refine step_yes rfl ?_
      refine ok_call (f := 26) (args := #[.int .i64 (i : Int)]) (by simp [execOp, resolve, Act.eval, d7, go_sem]) ?_
      refine (hcall w1 hL).mono ?_
      rintro e w' ⟨rfl, hb⟩
      exact ⟨_, rfl, hb, TV.mk rfl⟩
    · obtain rfl := Option.some.inj hi
      clear hi hlt
      intro a w1 hL hS hD
      have d6 : a.tmps.getD 78 undef = .agg #[.string x.n, .string x.v] := hD ⟨6, .data⟩ (by simp) rfl _ rfl _ rfl
      have d8 : a.tmps.getD 80 undef = .agg #[.string x.n, .string x.v] := hD ⟨8, .data⟩ (by simp) rfl _ rfl _ rfl
      refine step_yes rfl ?_
      exact ok_value Lat.refl (.bool false) (by simp [execOp, Act.eval, d6, d8, hq w1, go_sem]) (TV.mk rfl)
    · obtain rfl := Option.some.inj hi
      clear hi hlt
      intro a w1 hL hS hD
      have d9 : a.tmps.getD 81 undef = .bool false := hD ⟨9, .data⟩ (by simp) rfl _ rfl _ rfl
      refine step_yes rfl ?_
      exact ok_value Lat.refl (.bool false) (by simp [execOp, Act.eval, d9, go_sem]) (TV.mk rfl)
    · obtain rfl := Option.some.inj hi
      clear hi hlt
      intro a w1 hL hS hD
      have d10 : a.tmps.getD 82 undef = .bool false := hD ⟨10, .guard⟩ (by simp) rfl _ rfl _ rfl
      have e10 : a.tmps.getD 10 undef = .int .i64 (k : Int) := (hS.slot 10 (by kernel_rfl)).trans s10
      refine step_yes (wanted_yes rfl rfl rfl d10) ?_
      exact ok_value Lat.refl (.int .i64 (k : Int)) (by simp [execOp, Act.eval, e10, go_sem]) (TV.mk rfl)
    · obtain rfl := Option.some.inj hi
      clear hi hlt
      intro a w1 hL hS hD
      have d10 : a.tmps.getD 82 undef = .bool false := hD ⟨10, .guard⟩ (by simp) rfl _ rfl _ rfl
      have e0 : a.tmps.getD 0 undef = .slice (some ⟨h, 0, none⟩) 3 3 := (hS.slot 0 (by kernel_rfl)).trans s0
      refine step_yes (wanted_yes rfl rfl rfl d10) ?_
      exact ok_value Lat.refl (.slice (some ⟨h, 0, none⟩) 3 3) (by simp [execOp, Act.eval, e0, go_sem]) (TV.mk rfl)
    · obtain rfl := Option.some.inj hi
      clear hi hlt
      intro a w1 hL hS hD
      have d10 : a.tmps.getD 82 undef = .bool false := hD ⟨10, .guard⟩ (by simp) rfl _ rfl _ rfl
      have e9 : a.tmps.getD 9 undef = .int .i64 (i : Int) := (hS.slot 9 (by kernel_rfl)).trans s9
      refine step_yes (wanted_yes rfl rfl rfl d10) ?_
      exact ok_value Lat.refl (.int .i64 (i : Int)) (by simp [execOp, Act.eval, e9, go_sem]) (TV.mk rfl)
    · obtain rfl := Option.some.inj hi
      clear hi hlt
      intro a w1 hL hS hD
      have d10 : a.tmps.getD 82 undef = .bool false := hD ⟨10, .guard⟩ (by simp) rfl _ rfl _ rfl
      have d12 : a.tmps.getD 84 undef = .slice (some ⟨h, 0, none⟩) 3 3 := hD ⟨12, .data⟩ (by simp) rfl _ rfl _ rfl
      have d13 : a.tmps.getD 85 undef = .int .i64 (i : Int) := hD ⟨13, .data⟩ (by simp) rfl _ rfl _ rfl
      refine step_yes (wanted_yes rfl rfl rfl d10) ?_
      exact ok_value Lat.refl (.pointer (some ⟨h, i, none⟩)) (by simp [execOp, Act.eval, d12, d13, hi, hiN, go_sem]) (TV.mk rfl)
    · obtain rfl := Option.some.inj hi
      clear hi hlt
      intro a w1 hL hS hD
      have d10 : a.tmps.getD 82 undef = .bool false := hD ⟨10, .guard⟩ (by simp) rfl _ rfl _ rfl
      have d14 : a.tmps.getD 86 undef = .pointer (some ⟨h, i, none⟩) := hD ⟨14, .data⟩ (by simp) rfl _ rfl _ rfl
      refine step_yes (wanted_yes rfl rfl rfl d10) ?_
      exact ok_value Lat.refl (.slice ad n c) (by simp [execOp, Act.eval, d14, c3 w1 hL, go_sem]) (TV.mk rfl)
    · obtain rfl := Option.some.inj hi
      clear hi hlt
      intro a w1 hL hS hD
      have d10 : a.tmps.getD 82 undef = .bool false := hD ⟨10, .guard⟩ (by simp) rfl _ rfl _ rfl
      have d15 : a.tmps.getD 87 undef = .slice ad n c := hD ⟨15, .data⟩ (by simp) rfl _ rfl _ rfl
      refine step_yes (wanted_yes rfl rfl rfl d10) ?_
      exact ok_value Lat.refl (.int .i64 (n : Int)) (by simp [execOp, Act.eval, d15, go_sem]) (TV.mk rfl)
    · obtain rfl := Option.some.inj hi
      clear hi hlt
      intro a w1 hL hS hD
      have d10 : a.tmps.getD 82 undef = .bool false := hD ⟨10, .guard⟩ (by simp) rfl _ rfl _ rfl
      have d11 : a.tmps.getD 83 undef = .int .i64 (k : Int) := hD ⟨11, .data⟩ (by simp) rfl _ rfl _ rfl
      have d16 : a.tmps.getD 88 undef = .int .i64 (n : Int) := hD ⟨16, .data⟩ (by simp) rfl _ rfl _ rfl
      refine step_yes (wanted_yes rfl rfl rfl d10) ?_
      exact ok_value Lat.refl (.bool false) (by simp [execOp, Act.eval, d11, d16, hk, go_sem]) (TV.mk rfl)
    · obtain rfl := Option.some.inj hi
      clear hi hlt
      intro a w1 hL hS hD
      have d10 : a.tmps.getD 82 undef = .bool false := hD ⟨10, .guard⟩ (by simp) rfl _ rfl _ rfl
      have d17 : a.tmps.getD 89 undef = .bool false := hD ⟨17, .data⟩ (by simp) rfl _ rfl _ rfl
      refine step_yes (wanted_yes rfl rfl rfl d10) ?_
      exact ok_value Lat.refl (.bool false) (by simp [execOp, Act.eval, d17, go_sem]) (TV.mk rfl)
    · obtain rfl := Option.some.inj hi
      clear hi hlt
      intro a w1 hL hS hD
      have d18 : a.tmps.getD 90 undef = .bool false := hD ⟨18, .guard⟩ (by simp) rfl _ rfl _ rfl
      exact step_no (wanted_no rfl rfl rfl d18 rfl) (TV.mk rfl)
    · obtain rfl := Option.some.inj hi
      clear hi hlt
      intro a w1 hL hS hD
      have d18 : a.tmps.getD 90 undef = .bool false := hD ⟨18, .guard⟩ (by simp) rfl _ rfl _ rfl
      exact step_no (wanted_no rfl rfl rfl d18 rfl) (TV.mk rfl)
    · obtain rfl := Option.some.inj hi
      clear hi hlt
      intro a w1 hL hS hD
      have d18 : a.tmps.getD 90 undef = .bool false := hD ⟨18, .guard⟩ (by simp) rfl _ rfl _ rfl
      exact step_no (wanted_no rfl rfl rfl d18 rfl) (TV.mk rfl)
    · obtain rfl := Option.some.inj hi
      clear hi hlt
      intro a w1 hL hS hD
      have d18 : a.tmps.getD 90 undef = .bool false := hD ⟨18, .guard⟩ (by simp) rfl _ rfl _ rfl
      exact step_no (wanted_no rfl rfl rfl d18 rfl) (TV.mk rfl)
    · obtain rfl := Option.some.inj hi
      clear hi hlt
      intro a w1 hL hS hD
      have d18 : a.tmps.getD 90 undef = .bool false := hD ⟨18, .guard⟩ (by simp) rfl _ rfl _ rfl
      exact step_no (wanted_no rfl rfl rfl d18 rfl) (TV.mk rfl)
    · obtain rfl := Option.some.inj hi
      clear hi hlt
      intro a w1 hL hS hD
      have d18 : a.tmps.getD 90 undef = .bool false := hD ⟨18, .guard⟩ (by simp) rfl _ rfl _ rfl
      exact step_no (wanted_no rfl rfl rfl d18 rfl) (TV.mk rfl)
    · obtain rfl := Option.some.inj hi
      clear hi hlt
      intro a w1 hL hS hD
      have d18 : a.tmps.getD 90 undef = .bool false := hD ⟨18, .guard⟩ (by simp) rfl _ rfl _ rfl
      exact step_no (wanted_no rfl rfl rfl d18 rfl) (TV.mk rfl)
    · obtain rfl := Option.some.inj hi
      clear hi hlt
      intro a w1 hL hS hD
      have d18 : a.tmps.getD 90 undef = .bool false := hD ⟨18, .guard⟩ (by simp) rfl _ rfl _ rfl
      exact step_no (wanted_no rfl rfl rfl d18 rfl) (TV.mk rfl)
    · obtain rfl := Option.some.inj hi
      clear hi hlt
      intro a w1 hL hS hD
      have d18 : a.tmps.getD 90 undef = .bool false := hD ⟨18, .guard⟩ (by simp) rfl _ rfl _ rfl
      exact step_no (wanted_no rfl rfl rfl d18 rfl) (TV.mk rfl)
    · obtain rfl := Option.some.inj hi
      clear hi hlt
      intro a w1 hL hS hD
      have d18 : a.tmps.getD 90 undef = .bool false := hD ⟨18, .guard⟩ (by simp) rfl _ rfl _ rfl
      exact step_no (wanted_no rfl rfl rfl d18 rfl) (TV.mk rfl)
    · obtain rfl := Option.some.inj hi
      clear hi hlt
      intro a w1 hL hS hD
      have d10 : a.tmps.getD 82 undef = .bool false := hD ⟨10, .guard⟩ (by simp) rfl _ rfl _ rfl
      have d18 : a.tmps.getD 90 undef = .bool false := hD ⟨18, .data⟩ (by simp) rfl _ rfl _ rfl
      have d28 : a.tmps.getD 100 undef = undef := hD ⟨28, .data⟩ (by simp) rfl _ rfl _ rfl
      refine step_yes (wanted_yes rfl rfl rfl d10) ?_
      exact ok_value Lat.refl (.bool false) (by simp [execOp, Act.eval, d18, d28, go_sem]) (TV.mk rfl)
    · obtain rfl := Option.some.inj hi
      clear hi hlt
      intro a w1 hL hS hD
      have d10 : a.tmps.getD 82 undef = .bool false := hD ⟨10, .data⟩ (by simp) rfl _ rfl _ rfl
      have d29 : a.tmps.getD 101 undef = .bool false := hD ⟨29, .data⟩ (by simp) rfl _ rfl _ rfl
      refine step_yes rfl ?_
      exact ok_value Lat.refl (.bool false) (by simp [execOp, Act.eval, d10, d29, go_sem]) (TV.mk rfl)


end Go.Proofs.YtpdffdoogobhfaaDoor
