import Derived.Test.YtfieglepljmmkaaShaB
import Derived.Test.YtfieglepljmmkaaAnyM
namespace Go.Proofs.Ytfieglepljmmkaa
open Go.RowKit
set_option linter.unusedVariables false

set_option maxRecDepth 100000 in
set_option maxHeartbeats 4000000 in
theorem block_r11 (gv i i7 i16 : Nat) (x y xa xd : BitVec 32) (w : World) (a0 : Act) (Q : Exit → Act → World → Prop) (hsz : a0.tmps.size = 201)
    (s7 : a0.tmps.getD 7 undef = .int .i64 (i : Int))
    (s8 : a0.tmps.getD 8 undef = .int .u32 (N x))
    (s9 : a0.tmps.getD 9 undef = .int .u32 (N y))
    (s5 : a0.tmps.getD 5 undef = .pointer (some ⟨gv, 0, none⟩))
    (h7 : (i : Int) - 7 = (i7 : Int)) (hw7 : IntKind.i64.wrap (i7 : Int) = (i7 : Int)) (h16 : (i : Int) - 16 = (i16 : Int)) (hw16 : IntKind.i64.wrap (i16 : Int) = (i16 : Int)) (hb7 : (i7 : Int) < 64) (hn7 : (0 : Int) ≤ (i7 : Int)) (hb16 : (i16 : Int) < 64) (hn16 : (0 : Int) ≤ (i16 : Int)) (hi64 : (i : Int) < 64) (hi0 : (0 : Int) ≤ (i : Int))
    (hc7 : ∀ w1, Lat w w1 → w1.cell? ⟨gv, i7, none⟩ = some (.int .u32 (N xa))) (hc16 : ∀ w1, Lat w w1 → w1.cell? ⟨gv, i16, none⟩ = some (.int .u32 (N xd)))
    (hcw : ∀ w1, Lat w w1 → ∃ v, w1.cell? ⟨gv, i, none⟩ = some v) (hfr : ∀ w1, Lat w w1 → w1.frozen? ⟨gv, i, none⟩ = false)
    (hQ : ∀ (v67 v68 v69 v70 v71 v72 v73 v74 v75 v76 v77 v78 v79 v80 v81 v82 v83 v84 v85 v86 v87 v88 v89 v90 v91 v92 v93 v94 v95 : Value) (w1 : World), Lat w w1 → Q .normal (((((((((((((((((((((((((((((a0.put (some 67) v67).put (some 68) v68).put (some 69) v69).put (some 70) v70).put (some 71) v71).put (some 72) v72).put (some 73) v73).put (some 74) v74).put (some 75) v75).put (some 76) v76).put (some 77) v77).put (some 78) v78).put (some 79) v79).put (some 80) v80).put (some 81) v81).put (some 82) v82).put (some 83) v83).put (some 84) v84).put (some 85) v85).put (some 86) v86).put (some 87) v87).put (some 88) v88).put (some 89) v89).put (some 90) v90).put (some 91) v91).put (some 92) v92).put (some 93) v93).put (some 94) v94).put (some 95) v95) (w1.setCell ⟨gv, i, none⟩ (.int .u32 (N ((((((rotr x 17) ^^^ (rotr x 19)) ^^^ (x >>> 10)) + xa) + (((rotr y 7) ^^^ (rotr y 18)) ^^^ (y >>> 3))) + xd))))) :
    Code.wp Try.prog ((Try.f26.body.bind (findRegion 11)).getD .skip) Q a0 w := by
  conv => arg 2; whnf
  refine wp_region_last 29 Lat (TV [.int .i64 (i : Int), .int .u32 (N x), .int .u32 (N (rotr x 17)), .int .u32 (N x), .int .u32 (N (rotr x 19)), .int .u32 (N ((rotr x 17) ^^^ (rotr x 19))), .int .u32 (N x), .int .u32 (N (x >>> 10)), .int .u32 (N (((rotr x 17) ^^^ (rotr x 19)) ^^^ (x >>> 10))), .int .i64 (i : Int), .int .i64 (i7 : Int), .pointer (some ⟨gv, i7, none⟩), .int .u32 (N xa), .int .u32 (N ((((rotr x 17) ^^^ (rotr x 19)) ^^^ (x >>> 10)) + xa)), .int .u32 (N y), .int .u32 (N (rotr y 7)), .int .u32 (N y), .int .u32 (N (rotr y 18)), .int .u32 (N ((rotr y 7) ^^^ (rotr y 18))), .int .u32 (N y), .int .u32 (N (y >>> 3)), .int .u32 (N (((rotr y 7) ^^^ (rotr y 18)) ^^^ (y >>> 3))), .int .u32 (N (((((rotr x 17) ^^^ (rotr x 19)) ^^^ (x >>> 10)) + xa) + (((rotr y 7) ^^^ (rotr y 18)) ^^^ (y >>> 3)))), .int .i64 (i : Int), .int .i64 (i16 : Int), .pointer (some ⟨gv, i16, none⟩), .int .u32 (N xd), .int .u32 (N ((((((rotr x 17) ^^^ (rotr x 19)) ^^^ (x >>> 10)) + xa) + (((rotr y 7) ^^^ (rotr y 18)) ^^^ (y >>> 3))) + xd)), .pointer (some ⟨gv, i, none⟩)]) (by kernel_rfl) (by kernel_rfl) (by kernel_rfl) (by rw [hsz]; kernel_rfl) (by kernel_rfl) (by kernel_rfl) Lat.refl Lat.trans (TV.stable _) (Lat.draw w) ?hop ?hlast
  case hlast =>
    intro o a w1 ho hL hS hT
    obtain rfl := Option.some.inj ho
    have dp : a.tmps.getD 95 undef = .pointer (some ⟨gv, i, none⟩) := hT 28 _ (by omega) rfl _ rfl
    have dv : a.tmps.getD 94 undef = .int .u32 (N ((((((rotr x 17) ^^^ (rotr x 19)) ^^^ (x >>> 10)) + xa) + (((rotr y 7) ^^^ (rotr y 18)) ^^^ (y >>> 3))) + xd)) := hT 27 _ (by omega) rfl _ rfl
    obtain ⟨vv, hc⟩ := hcw w1 hL
    have hf := hfr w1 hL
    have he := same_puts hS
    have := hQ (a.tmps.getD 67 undef) (a.tmps.getD 68 undef) (a.tmps.getD 69 undef) (a.tmps.getD 70 undef) (a.tmps.getD 71 undef) (a.tmps.getD 72 undef) (a.tmps.getD 73 undef) (a.tmps.getD 74 undef) (a.tmps.getD 75 undef) (a.tmps.getD 76 undef) (a.tmps.getD 77 undef) (a.tmps.getD 78 undef) (a.tmps.getD 79 undef) (a.tmps.getD 80 undef) (a.tmps.getD 81 undef) (a.tmps.getD 82 undef) (a.tmps.getD 83 undef) (a.tmps.getD 84 undef) (a.tmps.getD 85 undef) (a.tmps.getD 86 undef) (a.tmps.getD 87 undef) (a.tmps.getD 88 undef) (a.tmps.getD 89 undef) (a.tmps.getD 90 undef) (a.tmps.getD 91 undef) (a.tmps.getD 92 undef) (a.tmps.getD 93 undef) (a.tmps.getD 94 undef) (a.tmps.getD 95 undef) w1 hL
    have hq : Q .normal a (w1.setCell ⟨gv, i, none⟩ (.int .u32 (N ((((((rotr x 17) ^^^ (rotr x 19)) ^^^ (x >>> 10)) + xa) + (((rotr y 7) ^^^ (rotr y 18)) ^^^ (y >>> 3))) + xd)))) := by
      rw [he]
      exact this
    unfold Oper.wp
    simp [execOp, Act.eval, dp, dv, hc, hf, go_sem]
    exact hq
  case hop =>
    intro i o hlt hi
    rcases (show i = 0 ∨ i = 1 ∨ i = 2 ∨ i = 3 ∨ i = 4 ∨ i = 5 ∨ i = 6 ∨ i = 7 ∨ i = 8 ∨ i = 9 ∨ i = 10 ∨ i = 11 ∨ i = 12 ∨ i = 13 ∨ i = 14 ∨ i = 15 ∨ i = 16 ∨ i = 17 ∨ i = 18 ∨ i = 19 ∨ i = 20 ∨ i = 21 ∨ i = 22 ∨ i = 23 ∨ i = 24 ∨ i = 25 ∨ i = 26 ∨ i = 27 ∨ i = 28 by omega) with rfl | rfl | rfl | rfl | rfl | rfl | rfl | rfl | rfl | rfl | rfl | rfl | rfl | rfl | rfl | rfl | rfl | rfl | rfl | rfl | rfl | rfl | rfl | rfl | rfl | rfl | rfl | rfl | rfl
    · obtain rfl := Option.some.inj hi
      clear hi hlt
      intro a w1 hL hS hD
      have e7 : a.tmps.getD 7 undef = .int .i64 (i : Int) := (hS.slot 7 (by kernel_rfl)).trans s7
      refine step_yes rfl ?_
      exact ok_value Lat.refl (.int .i64 (i : Int)) (by simp [execOp, Act.eval, e7, go_sem]) (TV.mk rfl)
    · obtain rfl := Option.some.inj hi
      clear hi hlt
      intro a w1 hL hS hD
      have e8 : a.tmps.getD 8 undef = .int .u32 (N x) := (hS.slot 8 (by kernel_rfl)).trans s8
      refine step_yes rfl ?_
      exact ok_value Lat.refl (.int .u32 (N x)) (by simp [execOp, Act.eval, e8, go_sem]) (TV.mk rfl)
    · obtain rfl := Option.some.inj hi
      clear hi hlt
      intro a w1 hL hS hD
      have d1 : a.tmps.getD 68 undef = .int .u32 (N x) := hD ⟨1, .data⟩ (by simp) rfl _ rfl _ rfl
      refine step_yes rfl ?_
      refine ok_call (f := 35) (args := #[.int .u32 (N x), .int .i64 17]) (by simp [execOp, resolve, Act.eval, d1, go_sem]) ?_
      refine (rot_17 x w1).mono ?_
      rintro e w2 ⟨rfl, nd, rfl⟩
      exact ⟨_, rfl, below_drewN (Below.refl _ _) nd, TV.mk rfl⟩
    · obtain rfl := Option.some.inj hi
      clear hi hlt
      intro a w1 hL hS hD
      have e8 : a.tmps.getD 8 undef = .int .u32 (N x) := (hS.slot 8 (by kernel_rfl)).trans s8
      refine step_yes rfl ?_
      exact ok_value Lat.refl (.int .u32 (N x)) (by simp [execOp, Act.eval, e8, go_sem]) (TV.mk rfl)
    · obtain rfl := Option.some.inj hi
      clear hi hlt
      intro a w1 hL hS hD
      have d3 : a.tmps.getD 70 undef = .int .u32 (N x) := hD ⟨3, .data⟩ (by simp) rfl _ rfl _ rfl
      refine step_yes rfl ?_
      refine ok_call (f := 35) (args := #[.int .u32 (N x), .int .i64 19]) (by simp [execOp, resolve, Act.eval, d3, go_sem]) ?_
      refine (rot_19 x w1).mono ?_
      rintro e w2 ⟨rfl, nd, rfl⟩
      exact ⟨_, rfl, below_drewN (Below.refl _ _) nd, TV.mk rfl⟩
    · obtain rfl := Option.some.inj hi
      clear hi hlt
      intro a w1 hL hS hD
      have d2 : a.tmps.getD 69 undef = .int .u32 (N (rotr x 17)) := hD ⟨2, .data⟩ (by simp) rfl _ rfl _ rfl
      have d4 : a.tmps.getD 71 undef = .int .u32 (N (rotr x 19)) := hD ⟨4, .data⟩ (by simp) rfl _ rfl _ rfl
      refine step_yes rfl ?_
      exact ok_value Lat.refl (.int .u32 (N ((rotr x 17) ^^^ (rotr x 19)))) (by simp [execOp, Act.eval, d2, d4, N_xor, go_sem]) (TV.mk rfl)
    · obtain rfl := Option.some.inj hi
      clear hi hlt
      intro a w1 hL hS hD
      have e8 : a.tmps.getD 8 undef = .int .u32 (N x) := (hS.slot 8 (by kernel_rfl)).trans s8
      refine step_yes rfl ?_
      exact ok_value Lat.refl (.int .u32 (N x)) (by simp [execOp, Act.eval, e8, go_sem]) (TV.mk rfl)
    · obtain rfl := Option.some.inj hi
      clear hi hlt
      intro a w1 hL hS hD
      have d6 : a.tmps.getD 73 undef = .int .u32 (N x) := hD ⟨6, .data⟩ (by simp) rfl _ rfl _ rfl
      refine step_yes rfl ?_
      exact ok_value Lat.refl (.int .u32 (N (x >>> 10))) (by simp [execOp, Act.eval, d6, shr_10, go_sem]) (TV.mk rfl)
    · obtain rfl := Option.some.inj hi
      clear hi hlt
      intro a w1 hL hS hD
      have d5 : a.tmps.getD 72 undef = .int .u32 (N ((rotr x 17) ^^^ (rotr x 19))) := hD ⟨5, .data⟩ (by simp) rfl _ rfl _ rfl
      have d7 : a.tmps.getD 74 undef = .int .u32 (N (x >>> 10)) := hD ⟨7, .data⟩ (by simp) rfl _ rfl _ rfl
      refine step_yes rfl ?_
      exact ok_value Lat.refl (.int .u32 (N (((rotr x 17) ^^^ (rotr x 19)) ^^^ (x >>> 10)))) (by simp [execOp, Act.eval, d5, d7, N_xor, go_sem]) (TV.mk rfl)
    · obtain rfl := Option.some.inj hi
      clear hi hlt
      intro a w1 hL hS hD
      have e7 : a.tmps.getD 7 undef = .int .i64 (i : Int) := (hS.slot 7 (by kernel_rfl)).trans s7
      refine step_yes rfl ?_
      exact ok_value Lat.refl (.int .i64 (i : Int)) (by simp [execOp, Act.eval, e7, go_sem]) (TV.mk rfl)
    · obtain rfl := Option.some.inj hi
      clear hi hlt
      intro a w1 hL hS hD
      have d9 : a.tmps.getD 76 undef = .int .i64 (i : Int) := hD ⟨9, .data⟩ (by simp) rfl _ rfl _ rfl
      refine step_yes rfl ?_
      exact ok_value Lat.refl (.int .i64 (i7 : Int)) (by simp [execOp, Act.eval, d9, h7, hw7, go_sem]) (TV.mk rfl)
    · obtain rfl := Option.some.inj hi
      clear hi hlt
      intro a w1 hL hS hD
      have e5 : a.tmps.getD 5 undef = .pointer (some ⟨gv, 0, none⟩) := (hS.slot 5 (by kernel_rfl)).trans s5
      have d10 : a.tmps.getD 77 undef = .int .i64 (i7 : Int) := hD ⟨10, .data⟩ (by simp) rfl _ rfl _ rfl
      refine step_yes rfl ?_
      exact ok_value Lat.refl (.pointer (some ⟨gv, i7, none⟩)) (by simp [execOp, Act.eval, e5, d10, hb7, hn7, go_sem]) (TV.mk rfl)
    · obtain rfl := Option.some.inj hi
      clear hi hlt
      intro a w1 hL hS hD
      have d11 : a.tmps.getD 78 undef = .pointer (some ⟨gv, i7, none⟩) := hD ⟨11, .data⟩ (by simp) rfl _ rfl _ rfl
      refine step_yes rfl ?_
      have hc := hc7 w1 hL
      exact ok_value Lat.refl (.int .u32 (N xa)) (by simp [execOp, Act.eval, d11, hc, go_sem]) (TV.mk rfl)
    · obtain rfl := Option.some.inj hi
      clear hi hlt
      intro a w1 hL hS hD
      have d8 : a.tmps.getD 75 undef = .int .u32 (N (((rotr x 17) ^^^ (rotr x 19)) ^^^ (x >>> 10))) := hD ⟨8, .data⟩ (by simp) rfl _ rfl _ rfl
      have d12 : a.tmps.getD 79 undef = .int .u32 (N xa) := hD ⟨12, .data⟩ (by simp) rfl _ rfl _ rfl
      refine step_yes rfl ?_
      exact ok_value Lat.refl (.int .u32 (N ((((rotr x 17) ^^^ (rotr x 19)) ^^^ (x >>> 10)) + xa))) (by simp [execOp, Act.eval, d8, d12, N_add, go_sem]) (TV.mk rfl)
    · obtain rfl := Option.some.inj hi
      clear hi hlt
      intro a w1 hL hS hD
      have e9 : a.tmps.getD 9 undef = .int .u32 (N y) := (hS.slot 9 (by kernel_rfl)).trans s9
      refine step_yes rfl ?_
      exact ok_value Lat.refl (.int .u32 (N y)) (by simp [execOp, Act.eval, e9, go_sem]) (TV.mk rfl)
    · obtain rfl := Option.some.inj hi
      clear hi hlt
      intro a w1 hL hS hD
      have d14 : a.tmps.getD 81 undef = .int .u32 (N y) := hD ⟨14, .data⟩ (by simp) rfl _ rfl _ rfl
      refine step_yes rfl ?_
      refine ok_call (f := 35) (args := #[.int .u32 (N y), .int .i64 7]) (by simp [execOp, resolve, Act.eval, d14, go_sem]) ?_
      refine (rot_7 y w1).mono ?_
      rintro e w2 ⟨rfl, nd, rfl⟩
      exact ⟨_, rfl, below_drewN (Below.refl _ _) nd, TV.mk rfl⟩
    · obtain rfl := Option.some.inj hi
      clear hi hlt
      intro a w1 hL hS hD
      have e9 : a.tmps.getD 9 undef = .int .u32 (N y) := (hS.slot 9 (by kernel_rfl)).trans s9
      refine step_yes rfl ?_
      exact ok_value Lat.refl (.int .u32 (N y)) (by simp [execOp, Act.eval, e9, go_sem]) (TV.mk rfl)
    · obtain rfl := Option.some.inj hi
      clear hi hlt
      intro a w1 hL hS hD
      have d16 : a.tmps.getD 83 undef = .int .u32 (N y) := hD ⟨16, .data⟩ (by simp) rfl _ rfl _ rfl
      refine step_yes rfl ?_
      refine ok_call (f := 35) (args := #[.int .u32 (N y), .int .i64 18]) (by simp [execOp, resolve, Act.eval, d16, go_sem]) ?_
      refine (rot_18 y w1).mono ?_
      rintro e w2 ⟨rfl, nd, rfl⟩
      exact ⟨_, rfl, below_drewN (Below.refl _ _) nd, TV.mk rfl⟩
    · obtain rfl := Option.some.inj hi
      clear hi hlt
      intro a w1 hL hS hD
      have d15 : a.tmps.getD 82 undef = .int .u32 (N (rotr y 7)) := hD ⟨15, .data⟩ (by simp) rfl _ rfl _ rfl
      have d17 : a.tmps.getD 84 undef = .int .u32 (N (rotr y 18)) := hD ⟨17, .data⟩ (by simp) rfl _ rfl _ rfl
      refine step_yes rfl ?_
      exact ok_value Lat.refl (.int .u32 (N ((rotr y 7) ^^^ (rotr y 18)))) (by simp [execOp, Act.eval, d15, d17, N_xor, go_sem]) (TV.mk rfl)
    · obtain rfl := Option.some.inj hi
      clear hi hlt
      intro a w1 hL hS hD
      have e9 : a.tmps.getD 9 undef = .int .u32 (N y) := (hS.slot 9 (by kernel_rfl)).trans s9
      refine step_yes rfl ?_
      exact ok_value Lat.refl (.int .u32 (N y)) (by simp [execOp, Act.eval, e9, go_sem]) (TV.mk rfl)
    · obtain rfl := Option.some.inj hi
      clear hi hlt
      intro a w1 hL hS hD
      have d19 : a.tmps.getD 86 undef = .int .u32 (N y) := hD ⟨19, .data⟩ (by simp) rfl _ rfl _ rfl
      refine step_yes rfl ?_
      exact ok_value Lat.refl (.int .u32 (N (y >>> 3))) (by simp [execOp, Act.eval, d19, shr_3, go_sem]) (TV.mk rfl)
    · obtain rfl := Option.some.inj hi
      clear hi hlt
      intro a w1 hL hS hD
      have d18 : a.tmps.getD 85 undef = .int .u32 (N ((rotr y 7) ^^^ (rotr y 18))) := hD ⟨18, .data⟩ (by simp) rfl _ rfl _ rfl
      have d20 : a.tmps.getD 87 undef = .int .u32 (N (y >>> 3)) := hD ⟨20, .data⟩ (by simp) rfl _ rfl _ rfl
      refine step_yes rfl ?_
      exact ok_value Lat.refl (.int .u32 (N (((rotr y 7) ^^^ (rotr y 18)) ^^^ (y >>> 3)))) (by simp [execOp, Act.eval, d18, d20, N_xor, go_sem]) (TV.mk rfl)
    · obtain rfl := Option.some.inj hi
      clear hi hlt
      intro a w1 hL hS hD
      have d13 : a.tmps.getD 80 undef = .int .u32 (N ((((rotr x 17) ^^^ (rotr x 19)) ^^^ (x >>> 10)) + xa)) := hD ⟨13, .data⟩ (by simp) rfl _ rfl _ rfl
      have d21 : a.tmps.getD 88 undef = .int .u32 (N (((rotr y 7) ^^^ (rotr y 18)) ^^^ (y >>> 3))) := hD ⟨21, .data⟩ (by simp) rfl _ rfl _ rfl
      refine step_yes rfl ?_
      exact ok_value Lat.refl (.int .u32 (N (((((rotr x 17) ^^^ (rotr x 19)) ^^^ (x >>> 10)) + xa) + (((rotr y 7) ^^^ (rotr y 18)) ^^^ (y >>> 3))))) (by simp [execOp, Act.eval, d13, d21, N_add, go_sem]) (TV.mk rfl)
    · obtain rfl := Option.some.inj hi
      clear hi hlt
      intro a w1 hL hS hD
      have e7 : a.tmps.getD 7 undef = .int .i64 (i : Int) := (hS.slot 7 (by kernel_rfl)).trans s7
      refine step_yes rfl ?_
      exact ok_value Lat.refl (.int .i64 (i : Int)) (by simp [execOp, Act.eval, e7, go_sem]) (TV.mk rfl)
    · obtain rfl := Option.some.inj hi
      clear hi hlt
      intro a w1 hL hS hD
      have d23 : a.tmps.getD 90 undef = .int .i64 (i : Int) := hD ⟨23, .data⟩ (by simp) rfl _ rfl _ rfl
      refine step_yes rfl ?_
      exact ok_value Lat.refl (.int .i64 (i16 : Int)) (by simp [execOp, Act.eval, d23, h16, hw16, go_sem]) (TV.mk rfl)
    · obtain rfl := Option.some.inj hi
      clear hi hlt
      intro a w1 hL hS hD
      have e5 : a.tmps.getD 5 undef = .pointer (some ⟨gv, 0, none⟩) := (hS.slot 5 (by kernel_rfl)).trans s5
      have d24 : a.tmps.getD 91 undef = .int .i64 (i16 : Int) := hD ⟨24, .data⟩ (by simp) rfl _ rfl _ rfl
      refine step_yes rfl ?_
      exact ok_value Lat.refl (.pointer (some ⟨gv, i16, none⟩)) (by simp [execOp, Act.eval, e5, d24, hb16, hn16, go_sem]) (TV.mk rfl)
    · obtain rfl := Option.some.inj hi
      clear hi hlt
      intro a w1 hL hS hD
      have d25 : a.tmps.getD 92 undef = .pointer (some ⟨gv, i16, none⟩) := hD ⟨25, .data⟩ (by simp) rfl _ rfl _ rfl
      refine step_yes rfl ?_
      have hc := hc16 w1 hL
      exact ok_value Lat.refl (.int .u32 (N xd)) (by simp [execOp, Act.eval, d25, hc, go_sem]) (TV.mk rfl)
    · obtain rfl := Option.some.inj hi
      clear hi hlt
      intro a w1 hL hS hD
      have d22 : a.tmps.getD 89 undef = .int .u32 (N (((((rotr x 17) ^^^ (rotr x 19)) ^^^ (x >>> 10)) + xa) + (((rotr y 7) ^^^ (rotr y 18)) ^^^ (y >>> 3)))) := hD ⟨22, .data⟩ (by simp) rfl _ rfl _ rfl
      have d26 : a.tmps.getD 93 undef = .int .u32 (N xd) := hD ⟨26, .data⟩ (by simp) rfl _ rfl _ rfl
      refine step_yes rfl ?_
      exact ok_value Lat.refl (.int .u32 (N ((((((rotr x 17) ^^^ (rotr x 19)) ^^^ (x >>> 10)) + xa) + (((rotr y 7) ^^^ (rotr y 18)) ^^^ (y >>> 3))) + xd))) (by simp [execOp, Act.eval, d22, d26, N_add, go_sem]) (TV.mk rfl)
    · obtain rfl := Option.some.inj hi
      clear hi hlt
      intro a w1 hL hS hD
      have e5 : a.tmps.getD 5 undef = .pointer (some ⟨gv, 0, none⟩) := (hS.slot 5 (by kernel_rfl)).trans s5
      have d0 : a.tmps.getD 67 undef = .int .i64 (i : Int) := hD ⟨0, .data⟩ (by simp) rfl _ rfl _ rfl
      refine step_yes rfl ?_
      exact ok_value Lat.refl (.pointer (some ⟨gv, i, none⟩)) (by simp [execOp, Act.eval, e5, d0, hi64, hi0, go_sem]) (TV.mk rfl)

end Go.Proofs.Ytfieglepljmmkaa
