import Derived.Test.YtfieglepljmmkaaShaB
import Derived.Test.YtfieglepljmmkaaAnyM
namespace Go.Proofs.Ytfieglepljmmkaa
open Go.RowKit
set_option linter.unusedVariables false

set_option maxRecDepth 100000 in
set_option maxHeartbeats 4000000 in
theorem block_r17 (gs gk gv i : Nat) (xa xb xc xd xe xf xg xh ki wi : BitVec 32) (w : World) (a0 : Act) (Q : Exit → Act → World → Prop) (hsz : a0.tmps.size = 201)
    (s11 : a0.tmps.getD 11 undef = .pointer (some ⟨gs, 0, none⟩))
    (s10 : a0.tmps.getD 10 undef = .slice (some ⟨gk, 0, none⟩) 64 64)
    (s12 : a0.tmps.getD 12 undef = .int .i64 (i : Int))
    (s5 : a0.tmps.getD 5 undef = .pointer (some ⟨gv, 0, none⟩))
    (hi64 : (i : Int) < 64) (hi0 : (0 : Int) ≤ (i : Int)) (hck : ∀ w1, Lat w w1 → w1.cell? ⟨gk, i, none⟩ = some (.int .u32 (N ki))) (hcv : ∀ w1, Lat w w1 → w1.cell? ⟨gv, i, none⟩ = some (.int .u32 (N wi)))
    (hc0 : ∀ w1, Lat w w1 → w1.cell? ⟨gs, 0, none⟩ = some (.int .u32 (N xa))) (hc1 : ∀ w1, Lat w w1 → w1.cell? ⟨gs, 1, none⟩ = some (.int .u32 (N xb))) (hc2 : ∀ w1, Lat w w1 → w1.cell? ⟨gs, 2, none⟩ = some (.int .u32 (N xc))) (hc3 : ∀ w1, Lat w w1 → w1.cell? ⟨gs, 3, none⟩ = some (.int .u32 (N xd))) (hc4 : ∀ w1, Lat w w1 → w1.cell? ⟨gs, 4, none⟩ = some (.int .u32 (N xe))) (hc5 : ∀ w1, Lat w w1 → w1.cell? ⟨gs, 5, none⟩ = some (.int .u32 (N xf))) (hc6 : ∀ w1, Lat w w1 → w1.cell? ⟨gs, 6, none⟩ = some (.int .u32 (N xg))) (hc7 : ∀ w1, Lat w w1 → w1.cell? ⟨gs, 7, none⟩ = some (.int .u32 (N xh)))
    (hQ : ∀ (v102 v103 v104 v105 v106 v107 v108 v109 v110 v111 v112 v113 v114 v115 v116 v117 v118 v119 v120 v121 v122 v123 v124 v125 v126 v127 v128 v129 v130 v131 v132 v133 v134 v135 v136 v137 : Value) (w1 : World), Lat w w1 → Q .normal (((((((((((((((((((((((((((((((((((((a0.put (some 102) v102).put (some 103) v103).put (some 104) v104).put (some 105) v105).put (some 106) v106).put (some 107) v107).put (some 108) v108).put (some 109) v109).put (some 110) v110).put (some 111) v111).put (some 112) v112).put (some 113) v113).put (some 114) v114).put (some 115) v115).put (some 116) v116).put (some 117) v117).put (some 118) v118).put (some 119) v119).put (some 120) v120).put (some 121) v121).put (some 122) v122).put (some 123) v123).put (some 124) v124).put (some 125) v125).put (some 126) v126).put (some 127) v127).put (some 128) v128).put (some 129) v129).put (some 130) v130).put (some 131) v131).put (some 132) v132).put (some 133) v133).put (some 134) v134).put (some 135) v135).put (some 136) v136).put (some 137) v137).put (some 13) (.int .u32 (N ((((xh + (((rotr xe 6) ^^^ (rotr xe 11)) ^^^ (rotr xe 25))) + ((xe &&& xf) ^^^ ((~~~xe) &&& xg))) + ki) + wi)))) w1) :
    Code.wp Try.prog ((Try.f26.body.bind (findRegion 17)).getD .skip) Q a0 w := by
  conv => arg 2; whnf
  refine wp_region_inv Lat (TV [.pointer (some ⟨gs, 7, none⟩), .int .u32 (N xh), .pointer (some ⟨gs, 4, none⟩), .int .u32 (N xe), .int .u32 (N (rotr xe 6)), .pointer (some ⟨gs, 4, none⟩), .int .u32 (N xe), .int .u32 (N (rotr xe 11)), .int .u32 (N ((rotr xe 6) ^^^ (rotr xe 11))), .pointer (some ⟨gs, 4, none⟩), .int .u32 (N xe), .int .u32 (N (rotr xe 25)), .int .u32 (N (((rotr xe 6) ^^^ (rotr xe 11)) ^^^ (rotr xe 25))), .int .u32 (N (xh + (((rotr xe 6) ^^^ (rotr xe 11)) ^^^ (rotr xe 25)))), .pointer (some ⟨gs, 4, none⟩), .int .u32 (N xe), .pointer (some ⟨gs, 5, none⟩), .int .u32 (N xf), .int .u32 (N (xe &&& xf)), .pointer (some ⟨gs, 4, none⟩), .int .u32 (N xe), .int .u32 (N (~~~xe)), .pointer (some ⟨gs, 6, none⟩), .int .u32 (N xg), .int .u32 (N ((~~~xe) &&& xg)), .int .u32 (N ((xe &&& xf) ^^^ ((~~~xe) &&& xg))), .int .u32 (N ((xh + (((rotr xe 6) ^^^ (rotr xe 11)) ^^^ (rotr xe 25))) + ((xe &&& xf) ^^^ ((~~~xe) &&& xg)))), .slice (some ⟨gk, 0, none⟩) 64 64, .int .i64 (i : Int), .pointer (some ⟨gk, i, none⟩), .int .u32 (N ki), .int .u32 (N (((xh + (((rotr xe 6) ^^^ (rotr xe 11)) ^^^ (rotr xe 25))) + ((xe &&& xf) ^^^ ((~~~xe) &&& xg))) + ki)), .int .i64 (i : Int), .pointer (some ⟨gv, i, none⟩), .int .u32 (N wi), .int .u32 (N ((((xh + (((rotr xe 6) ^^^ (rotr xe 11)) ^^^ (rotr xe 25))) + ((xe &&& xf) ^^^ ((~~~xe) &&& xg))) + ki) + wi)), .int .u32 (N ((((xh + (((rotr xe 6) ^^^ (rotr xe 11)) ^^^ (rotr xe 25))) + ((xe &&& xf) ^^^ ((~~~xe) &&& xg))) + ki) + wi))]) (by kernel_rfl) (by kernel_rfl) (by kernel_rfl) (by rw [hsz]; kernel_rfl) (by kernel_rfl) Lat.refl Lat.trans (TV.stable _) (Lat.draw w) ?hop ?hdone
  case hdone =>
    intro a w1 hL hS hT
    have he := same_puts hS
    have dl : a.tmps.getD 13 undef = .int .u32 (N ((((xh + (((rotr xe 6) ^^^ (rotr xe 11)) ^^^ (rotr xe 25))) + ((xe &&& xf) ^^^ ((~~~xe) &&& xg))) + ki) + wi)) := hT 36 _ rfl _ rfl
    have := hQ (a.tmps.getD 102 undef) (a.tmps.getD 103 undef) (a.tmps.getD 104 undef) (a.tmps.getD 105 undef) (a.tmps.getD 106 undef) (a.tmps.getD 107 undef) (a.tmps.getD 108 undef) (a.tmps.getD 109 undef) (a.tmps.getD 110 undef) (a.tmps.getD 111 undef) (a.tmps.getD 112 undef) (a.tmps.getD 113 undef) (a.tmps.getD 114 undef) (a.tmps.getD 115 undef) (a.tmps.getD 116 undef) (a.tmps.getD 117 undef) (a.tmps.getD 118 undef) (a.tmps.getD 119 undef) (a.tmps.getD 120 undef) (a.tmps.getD 121 undef) (a.tmps.getD 122 undef) (a.tmps.getD 123 undef) (a.tmps.getD 124 undef) (a.tmps.getD 125 undef) (a.tmps.getD 126 undef) (a.tmps.getD 127 undef) (a.tmps.getD 128 undef) (a.tmps.getD 129 undef) (a.tmps.getD 130 undef) (a.tmps.getD 131 undef) (a.tmps.getD 132 undef) (a.tmps.getD 133 undef) (a.tmps.getD 134 undef) (a.tmps.getD 135 undef) (a.tmps.getD 136 undef) (a.tmps.getD 137 undef) w1 hL
    rw [← dl] at this
    rw [he]
    exact this
  case hop =>
    intro i o hi
    have hlt : i < 37 := (Array.getElem?_eq_some_iff.1 hi).1
    rcases (show i = 0 ∨ i = 1 ∨ i = 2 ∨ i = 3 ∨ i = 4 ∨ i = 5 ∨ i = 6 ∨ i = 7 ∨ i = 8 ∨ i = 9 ∨ i = 10 ∨ i = 11 ∨ i = 12 ∨ i = 13 ∨ i = 14 ∨ i = 15 ∨ i = 16 ∨ i = 17 ∨ i = 18 ∨ i = 19 ∨ i = 20 ∨ i = 21 ∨ i = 22 ∨ i = 23 ∨ i = 24 ∨ i = 25 ∨ i = 26 ∨ i = 27 ∨ i = 28 ∨ i = 29 ∨ i = 30 ∨ i = 31 ∨ i = 32 ∨ i = 33 ∨ i = 34 ∨ i = 35 ∨ i = 36 by omega) with rfl | rfl | rfl | rfl | rfl | rfl | rfl | rfl | rfl | rfl | rfl | rfl | rfl | rfl | rfl | rfl | rfl | rfl | rfl | rfl | rfl | rfl | rfl | rfl | rfl | rfl | rfl | rfl | rfl | rfl | rfl | rfl | rfl | rfl | rfl | rfl | rfl
    · obtain rfl := Option.some.inj hi
      clear hi hlt
      intro a w1 hL hS hD
      have e11 : a.tmps.getD 11 undef = .pointer (some ⟨gs, 0, none⟩) := (hS.slot 11 (by kernel_rfl)).trans s11
      refine step_yes rfl ?_
      exact ok_value Lat.refl (.pointer (some ⟨gs, 7, none⟩)) (by simp [execOp, Act.eval, e11, go_sem]) (TV.mk rfl)
    · obtain rfl := Option.some.inj hi
      clear hi hlt
      intro a w1 hL hS hD
      have d0 : a.tmps.getD 102 undef = .pointer (some ⟨gs, 7, none⟩) := hD ⟨0, .data⟩ (by simp) rfl _ rfl _ rfl
      refine step_yes rfl ?_
      have hc := hc7 w1 hL
      exact ok_value Lat.refl (.int .u32 (N xh)) (by simp [execOp, Act.eval, d0, hc, go_sem]) (TV.mk rfl)
    · obtain rfl := Option.some.inj hi
      clear hi hlt
      intro a w1 hL hS hD
      have e11 : a.tmps.getD 11 undef = .pointer (some ⟨gs, 0, none⟩) := (hS.slot 11 (by kernel_rfl)).trans s11
      refine step_yes rfl ?_
      exact ok_value Lat.refl (.pointer (some ⟨gs, 4, none⟩)) (by simp [execOp, Act.eval, e11, go_sem]) (TV.mk rfl)
    · obtain rfl := Option.some.inj hi
      clear hi hlt
      intro a w1 hL hS hD
      have d2 : a.tmps.getD 104 undef = .pointer (some ⟨gs, 4, none⟩) := hD ⟨2, .data⟩ (by simp) rfl _ rfl _ rfl
      refine step_yes rfl ?_
      have hc := hc4 w1 hL
      exact ok_value Lat.refl (.int .u32 (N xe)) (by simp [execOp, Act.eval, d2, hc, go_sem]) (TV.mk rfl)
    · obtain rfl := Option.some.inj hi
      clear hi hlt
      intro a w1 hL hS hD
      have d3 : a.tmps.getD 105 undef = .int .u32 (N xe) := hD ⟨3, .data⟩ (by simp) rfl _ rfl _ rfl
      refine step_yes rfl ?_
      refine ok_call (f := 35) (args := #[.int .u32 (N xe), .int .i64 6]) (by simp [execOp, resolve, Act.eval, d3, go_sem]) ?_
      refine (rot_6 xe w1).mono ?_
      rintro e w2 ⟨rfl, nd, rfl⟩
      exact ⟨_, rfl, below_drewN (Below.refl _ _) nd, TV.mk rfl⟩
    · obtain rfl := Option.some.inj hi
      clear hi hlt
      intro a w1 hL hS hD
      have e11 : a.tmps.getD 11 undef = .pointer (some ⟨gs, 0, none⟩) := (hS.slot 11 (by kernel_rfl)).trans s11
      refine step_yes rfl ?_
      exact ok_value Lat.refl (.pointer (some ⟨gs, 4, none⟩)) (by simp [execOp, Act.eval, e11, go_sem]) (TV.mk rfl)
    · obtain rfl := Option.some.inj hi
      clear hi hlt
      intro a w1 hL hS hD
      have d5 : a.tmps.getD 107 undef = .pointer (some ⟨gs, 4, none⟩) := hD ⟨5, .data⟩ (by simp) rfl _ rfl _ rfl
      refine step_yes rfl ?_
      have hc := hc4 w1 hL
      exact ok_value Lat.refl (.int .u32 (N xe)) (by simp [execOp, Act.eval, d5, hc, go_sem]) (TV.mk rfl)
    · obtain rfl := Option.some.inj hi
      clear hi hlt
      intro a w1 hL hS hD
      have d6 : a.tmps.getD 108 undef = .int .u32 (N xe) := hD ⟨6, .data⟩ (by simp) rfl _ rfl _ rfl
      refine step_yes rfl ?_
      refine ok_call (f := 35) (args := #[.int .u32 (N xe), .int .i64 11]) (by simp [execOp, resolve, Act.eval, d6, go_sem]) ?_
      refine (rot_11 xe w1).mono ?_
      rintro e w2 ⟨rfl, nd, rfl⟩
      exact ⟨_, rfl, below_drewN (Below.refl _ _) nd, TV.mk rfl⟩
    · obtain rfl := Option.some.inj hi
      clear hi hlt
      intro a w1 hL hS hD
      have d4 : a.tmps.getD 106 undef = .int .u32 (N (rotr xe 6)) := hD ⟨4, .data⟩ (by simp) rfl _ rfl _ rfl
      have d7 : a.tmps.getD 109 undef = .int .u32 (N (rotr xe 11)) := hD ⟨7, .data⟩ (by simp) rfl _ rfl _ rfl
      refine step_yes rfl ?_
      exact ok_value Lat.refl (.int .u32 (N ((rotr xe 6) ^^^ (rotr xe 11)))) (by simp [execOp, Act.eval, d4, d7, N_xor, go_sem]) (TV.mk rfl)
    · obtain rfl := Option.some.inj hi
      clear hi hlt
      intro a w1 hL hS hD
      have e11 : a.tmps.getD 11 undef = .pointer (some ⟨gs, 0, none⟩) := (hS.slot 11 (by kernel_rfl)).trans s11
      refine step_yes rfl ?_
      exact ok_value Lat.refl (.pointer (some ⟨gs, 4, none⟩)) (by simp [execOp, Act.eval, e11, go_sem]) (TV.mk rfl)
    · obtain rfl := Option.some.inj hi
      clear hi hlt
      intro a w1 hL hS hD
      have d9 : a.tmps.getD 111 undef = .pointer (some ⟨gs, 4, none⟩) := hD ⟨9, .data⟩ (by simp) rfl _ rfl _ rfl
      refine step_yes rfl ?_
      have hc := hc4 w1 hL
      exact ok_value Lat.refl (.int .u32 (N xe)) (by simp [execOp, Act.eval, d9, hc, go_sem]) (TV.mk rfl)
    · obtain rfl := Option.some.inj hi
      clear hi hlt
      intro a w1 hL hS hD
      have d10 : a.tmps.getD 112 undef = .int .u32 (N xe) := hD ⟨10, .data⟩ (by simp) rfl _ rfl _ rfl
      refine step_yes rfl ?_
      refine ok_call (f := 35) (args := #[.int .u32 (N xe), .int .i64 25]) (by simp [execOp, resolve, Act.eval, d10, go_sem]) ?_
      refine (rot_25 xe w1).mono ?_
      rintro e w2 ⟨rfl, nd, rfl⟩
      exact ⟨_, rfl, below_drewN (Below.refl _ _) nd, TV.mk rfl⟩
    · obtain rfl := Option.some.inj hi
      clear hi hlt
      intro a w1 hL hS hD
      have d8 : a.tmps.getD 110 undef = .int .u32 (N ((rotr xe 6) ^^^ (rotr xe 11))) := hD ⟨8, .data⟩ (by simp) rfl _ rfl _ rfl
      have d11 : a.tmps.getD 113 undef = .int .u32 (N (rotr xe 25)) := hD ⟨11, .data⟩ (by simp) rfl _ rfl _ rfl
      refine step_yes rfl ?_
      exact ok_value Lat.refl (.int .u32 (N (((rotr xe 6) ^^^ (rotr xe 11)) ^^^ (rotr xe 25)))) (by simp [execOp, Act.eval, d8, d11, N_xor, go_sem]) (TV.mk rfl)
    · obtain rfl := Option.some.inj hi
      clear hi hlt
      intro a w1 hL hS hD
      have d1 : a.tmps.getD 103 undef = .int .u32 (N xh) := hD ⟨1, .data⟩ (by simp) rfl _ rfl _ rfl
      have d12 : a.tmps.getD 114 undef = .int .u32 (N (((rotr xe 6) ^^^ (rotr xe 11)) ^^^ (rotr xe 25))) := hD ⟨12, .data⟩ (by simp) rfl _ rfl _ rfl
      refine step_yes rfl ?_
      exact ok_value Lat.refl (.int .u32 (N (xh + (((rotr xe 6) ^^^ (rotr xe 11)) ^^^ (rotr xe 25))))) (by simp [execOp, Act.eval, d1, d12, N_add, go_sem]) (TV.mk rfl)
    · obtain rfl := Option.some.inj hi
      clear hi hlt
      intro a w1 hL hS hD
      have e11 : a.tmps.getD 11 undef = .pointer (some ⟨gs, 0, none⟩) := (hS.slot 11 (by kernel_rfl)).trans s11
      refine step_yes rfl ?_
      exact ok_value Lat.refl (.pointer (some ⟨gs, 4, none⟩)) (by simp [execOp, Act.eval, e11, go_sem]) (TV.mk rfl)
    · obtain rfl := Option.some.inj hi
      clear hi hlt
      intro a w1 hL hS hD
      have d14 : a.tmps.getD 116 undef = .pointer (some ⟨gs, 4, none⟩) := hD ⟨14, .data⟩ (by simp) rfl _ rfl _ rfl
      refine step_yes rfl ?_
      have hc := hc4 w1 hL
      exact ok_value Lat.refl (.int .u32 (N xe)) (by simp [execOp, Act.eval, d14, hc, go_sem]) (TV.mk rfl)
    · obtain rfl := Option.some.inj hi
      clear hi hlt
      intro a w1 hL hS hD
      have e11 : a.tmps.getD 11 undef = .pointer (some ⟨gs, 0, none⟩) := (hS.slot 11 (by kernel_rfl)).trans s11
      refine step_yes rfl ?_
      exact ok_value Lat.refl (.pointer (some ⟨gs, 5, none⟩)) (by simp [execOp, Act.eval, e11, go_sem]) (TV.mk rfl)
    · obtain rfl := Option.some.inj hi
      clear hi hlt
      intro a w1 hL hS hD
      have d16 : a.tmps.getD 118 undef = .pointer (some ⟨gs, 5, none⟩) := hD ⟨16, .data⟩ (by simp) rfl _ rfl _ rfl
      refine step_yes rfl ?_
      have hc := hc5 w1 hL
      exact ok_value Lat.refl (.int .u32 (N xf)) (by simp [execOp, Act.eval, d16, hc, go_sem]) (TV.mk rfl)
    · obtain rfl := Option.some.inj hi
      clear hi hlt
      intro a w1 hL hS hD
      have d15 : a.tmps.getD 117 undef = .int .u32 (N xe) := hD ⟨15, .data⟩ (by simp) rfl _ rfl _ rfl
      have d17 : a.tmps.getD 119 undef = .int .u32 (N xf) := hD ⟨17, .data⟩ (by simp) rfl _ rfl _ rfl
      refine step_yes rfl ?_
      exact ok_value Lat.refl (.int .u32 (N (xe &&& xf))) (by simp [execOp, Act.eval, d15, d17, N_and, go_sem]) (TV.mk rfl)
    · obtain rfl := Option.some.inj hi
      clear hi hlt
      intro a w1 hL hS hD
      have e11 : a.tmps.getD 11 undef = .pointer (some ⟨gs, 0, none⟩) := (hS.slot 11 (by kernel_rfl)).trans s11
      refine step_yes rfl ?_
      exact ok_value Lat.refl (.pointer (some ⟨gs, 4, none⟩)) (by simp [execOp, Act.eval, e11, go_sem]) (TV.mk rfl)
    · obtain rfl := Option.some.inj hi
      clear hi hlt
      intro a w1 hL hS hD
      have d19 : a.tmps.getD 121 undef = .pointer (some ⟨gs, 4, none⟩) := hD ⟨19, .data⟩ (by simp) rfl _ rfl _ rfl
      refine step_yes rfl ?_
      have hc := hc4 w1 hL
      exact ok_value Lat.refl (.int .u32 (N xe)) (by simp [execOp, Act.eval, d19, hc, go_sem]) (TV.mk rfl)
    · obtain rfl := Option.some.inj hi
      clear hi hlt
      intro a w1 hL hS hD
      have d20 : a.tmps.getD 122 undef = .int .u32 (N xe) := hD ⟨20, .data⟩ (by simp) rfl _ rfl _ rfl
      refine step_yes rfl ?_
      exact ok_value Lat.refl (.int .u32 (N (~~~xe))) (by simp [execOp, Act.eval, d20, go_sem]; exact N_not xe) (TV.mk rfl)
    · obtain rfl := Option.some.inj hi
      clear hi hlt
      intro a w1 hL hS hD
      have e11 : a.tmps.getD 11 undef = .pointer (some ⟨gs, 0, none⟩) := (hS.slot 11 (by kernel_rfl)).trans s11
      refine step_yes rfl ?_
      exact ok_value Lat.refl (.pointer (some ⟨gs, 6, none⟩)) (by simp [execOp, Act.eval, e11, go_sem]) (TV.mk rfl)
    · obtain rfl := Option.some.inj hi
      clear hi hlt
      intro a w1 hL hS hD
      have d22 : a.tmps.getD 124 undef = .pointer (some ⟨gs, 6, none⟩) := hD ⟨22, .data⟩ (by simp) rfl _ rfl _ rfl
      refine step_yes rfl ?_
      have hc := hc6 w1 hL
      exact ok_value Lat.refl (.int .u32 (N xg)) (by simp [execOp, Act.eval, d22, hc, go_sem]) (TV.mk rfl)
    · obtain rfl := Option.some.inj hi
      clear hi hlt
      intro a w1 hL hS hD
      have d21 : a.tmps.getD 123 undef = .int .u32 (N (~~~xe)) := hD ⟨21, .data⟩ (by simp) rfl _ rfl _ rfl
      have d23 : a.tmps.getD 125 undef = .int .u32 (N xg) := hD ⟨23, .data⟩ (by simp) rfl _ rfl _ rfl
      refine step_yes rfl ?_
      exact ok_value Lat.refl (.int .u32 (N ((~~~xe) &&& xg))) (by simp [execOp, Act.eval, d21, d23, N_and, go_sem]) (TV.mk rfl)
    · obtain rfl := Option.some.inj hi
      clear hi hlt
      intro a w1 hL hS hD
      have d18 : a.tmps.getD 120 undef = .int .u32 (N (xe &&& xf)) := hD ⟨18, .data⟩ (by simp) rfl _ rfl _ rfl
      have d24 : a.tmps.getD 126 undef = .int .u32 (N ((~~~xe) &&& xg)) := hD ⟨24, .data⟩ (by simp) rfl _ rfl _ rfl
      refine step_yes rfl ?_
      exact ok_value Lat.refl (.int .u32 (N ((xe &&& xf) ^^^ ((~~~xe) &&& xg)))) (by simp [execOp, Act.eval, d18, d24, N_xor, go_sem]) (TV.mk rfl)
    · obtain rfl := Option.some.inj hi
      clear hi hlt
      intro a w1 hL hS hD
      have d13 : a.tmps.getD 115 undef = .int .u32 (N (xh + (((rotr xe 6) ^^^ (rotr xe 11)) ^^^ (rotr xe 25)))) := hD ⟨13, .data⟩ (by simp) rfl _ rfl _ rfl
      have d25 : a.tmps.getD 127 undef = .int .u32 (N ((xe &&& xf) ^^^ ((~~~xe) &&& xg))) := hD ⟨25, .data⟩ (by simp) rfl _ rfl _ rfl
      refine step_yes rfl ?_
      exact ok_value Lat.refl (.int .u32 (N ((xh + (((rotr xe 6) ^^^ (rotr xe 11)) ^^^ (rotr xe 25))) + ((xe &&& xf) ^^^ ((~~~xe) &&& xg))))) (by simp [execOp, Act.eval, d13, d25, N_add, go_sem]) (TV.mk rfl)
    · obtain rfl := Option.some.inj hi
      clear hi hlt
      intro a w1 hL hS hD
      have e10 : a.tmps.getD 10 undef = .slice (some ⟨gk, 0, none⟩) 64 64 := (hS.slot 10 (by kernel_rfl)).trans s10
      refine step_yes rfl ?_
      exact ok_value Lat.refl (.slice (some ⟨gk, 0, none⟩) 64 64) (by simp [execOp, Act.eval, e10, go_sem]) (TV.mk rfl)
    · obtain rfl := Option.some.inj hi
      clear hi hlt
      intro a w1 hL hS hD
      have e12 : a.tmps.getD 12 undef = .int .i64 (i : Int) := (hS.slot 12 (by kernel_rfl)).trans s12
      refine step_yes rfl ?_
      exact ok_value Lat.refl (.int .i64 (i : Int)) (by simp [execOp, Act.eval, e12, go_sem]) (TV.mk rfl)
    · obtain rfl := Option.some.inj hi
      clear hi hlt
      intro a w1 hL hS hD
      have d27 : a.tmps.getD 129 undef = .slice (some ⟨gk, 0, none⟩) 64 64 := hD ⟨27, .data⟩ (by simp) rfl _ rfl _ rfl
      have d28 : a.tmps.getD 130 undef = .int .i64 (i : Int) := hD ⟨28, .data⟩ (by simp) rfl _ rfl _ rfl
      refine step_yes rfl ?_
      exact ok_value Lat.refl (.pointer (some ⟨gk, i, none⟩)) (by simp [execOp, Act.eval, d27, d28, hi64, hi0, go_sem]) (TV.mk rfl)
    · obtain rfl := Option.some.inj hi
      clear hi hlt
      intro a w1 hL hS hD
      have d29 : a.tmps.getD 131 undef = .pointer (some ⟨gk, i, none⟩) := hD ⟨29, .data⟩ (by simp) rfl _ rfl _ rfl
      refine step_yes rfl ?_
      have hc := hck w1 hL
      exact ok_value Lat.refl (.int .u32 (N ki)) (by simp [execOp, Act.eval, d29, hc, go_sem]) (TV.mk rfl)
    · obtain rfl := Option.some.inj hi
      clear hi hlt
      intro a w1 hL hS hD
      have d26 : a.tmps.getD 128 undef = .int .u32 (N ((xh + (((rotr xe 6) ^^^ (rotr xe 11)) ^^^ (rotr xe 25))) + ((xe &&& xf) ^^^ ((~~~xe) &&& xg)))) := hD ⟨26, .data⟩ (by simp) rfl _ rfl _ rfl
      have d30 : a.tmps.getD 132 undef = .int .u32 (N ki) := hD ⟨30, .data⟩ (by simp) rfl _ rfl _ rfl
      refine step_yes rfl ?_
      exact ok_value Lat.refl (.int .u32 (N (((xh + (((rotr xe 6) ^^^ (rotr xe 11)) ^^^ (rotr xe 25))) + ((xe &&& xf) ^^^ ((~~~xe) &&& xg))) + ki))) (by simp [execOp, Act.eval, d26, d30, N_add, go_sem]) (TV.mk rfl)
    · obtain rfl := Option.some.inj hi
      clear hi hlt
      intro a w1 hL hS hD
      have e12 : a.tmps.getD 12 undef = .int .i64 (i : Int) := (hS.slot 12 (by kernel_rfl)).trans s12
      refine step_yes rfl ?_
      exact ok_value Lat.refl (.int .i64 (i : Int)) (by simp [execOp, Act.eval, e12, go_sem]) (TV.mk rfl)
    · obtain rfl := Option.some.inj hi
      clear hi hlt
      intro a w1 hL hS hD
      have e5 : a.tmps.getD 5 undef = .pointer (some ⟨gv, 0, none⟩) := (hS.slot 5 (by kernel_rfl)).trans s5
      have d32 : a.tmps.getD 134 undef = .int .i64 (i : Int) := hD ⟨32, .data⟩ (by simp) rfl _ rfl _ rfl
      refine step_yes rfl ?_
      exact ok_value Lat.refl (.pointer (some ⟨gv, i, none⟩)) (by simp [execOp, Act.eval, e5, d32, hi64, hi0, go_sem]) (TV.mk rfl)
    · obtain rfl := Option.some.inj hi
      clear hi hlt
      intro a w1 hL hS hD
      have d33 : a.tmps.getD 135 undef = .pointer (some ⟨gv, i, none⟩) := hD ⟨33, .data⟩ (by simp) rfl _ rfl _ rfl
      refine step_yes rfl ?_
      have hc := hcv w1 hL
      exact ok_value Lat.refl (.int .u32 (N wi)) (by simp [execOp, Act.eval, d33, hc, go_sem]) (TV.mk rfl)
    · obtain rfl := Option.some.inj hi
      clear hi hlt
      intro a w1 hL hS hD
      have d31 : a.tmps.getD 133 undef = .int .u32 (N (((xh + (((rotr xe 6) ^^^ (rotr xe 11)) ^^^ (rotr xe 25))) + ((xe &&& xf) ^^^ ((~~~xe) &&& xg))) + ki)) := hD ⟨31, .data⟩ (by simp) rfl _ rfl _ rfl
      have d34 : a.tmps.getD 136 undef = .int .u32 (N wi) := hD ⟨34, .data⟩ (by simp) rfl _ rfl _ rfl
      refine step_yes rfl ?_
      exact ok_value Lat.refl (.int .u32 (N ((((xh + (((rotr xe 6) ^^^ (rotr xe 11)) ^^^ (rotr xe 25))) + ((xe &&& xf) ^^^ ((~~~xe) &&& xg))) + ki) + wi))) (by simp [execOp, Act.eval, d31, d34, N_add, go_sem]) (TV.mk rfl)
    · obtain rfl := Option.some.inj hi
      clear hi hlt
      intro a w1 hL hS hD
      have d35 : a.tmps.getD 137 undef = .int .u32 (N ((((xh + (((rotr xe 6) ^^^ (rotr xe 11)) ^^^ (rotr xe 25))) + ((xe &&& xf) ^^^ ((~~~xe) &&& xg))) + ki) + wi)) := hD ⟨35, .data⟩ (by simp) rfl _ rfl _ rfl
      refine step_yes rfl ?_
      exact ok_value Lat.refl (.int .u32 (N ((((xh + (((rotr xe 6) ^^^ (rotr xe 11)) ^^^ (rotr xe 25))) + ((xe &&& xf) ^^^ ((~~~xe) &&& xg))) + ki) + wi))) (by simp [execOp, Act.eval, d35, go_sem]) (TV.mk rfl)

end Go.Proofs.Ytfieglepljmmkaa
