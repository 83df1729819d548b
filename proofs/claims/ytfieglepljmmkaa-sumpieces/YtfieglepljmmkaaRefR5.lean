import Derived.Test.YtfieglepljmmkaaShaB
import Derived.Test.YtfieglepljmmkaaAnyM
namespace Go.Proofs.Ytfieglepljmmkaa
open Go.RowKit
set_option linter.unusedVariables false

set_option maxRecDepth 100000 in
set_option maxHeartbeats 4000000 in
theorem block_r5 (b off c gv i j j1 j2 j3 : Nat) (p q r s A1 A2 X : Int) (w : World) (a0 : Act) (Q : Exit → Act → World → Prop) (hsz : a0.tmps.size = 201)
    (s6 : a0.tmps.getD 6 undef = .int .i64 (i : Int))
    (s1 : a0.tmps.getD 1 undef = .slice (some ⟨b, off, none⟩) 64 c)
    (s5 : a0.tmps.getD 5 undef = .pointer (some ⟨gv, 0, none⟩))
    (hj : 4 * (i : Int) = (j : Int)) (hw0 : IntKind.i64.wrap (j : Int) = (j : Int)) (hj1 : (j : Int) + 1 = (j1 : Int)) (hw1 : IntKind.i64.wrap (j1 : Int) = (j1 : Int)) (hj2 : (j : Int) + 2 = (j2 : Int)) (hw2 : IntKind.i64.wrap (j2 : Int) = (j2 : Int)) (hj3 : (j : Int) + 3 = (j3 : Int)) (hw3 : IntKind.i64.wrap (j3 : Int) = (j3 : Int))
    (hb0 : (j : Int) < 64) (hn0 : (0 : Int) ≤ (j : Int)) (hb1 : (j1 : Int) < 64) (hn1 : (0 : Int) ≤ (j1 : Int)) (hb2 : (j2 : Int) < 64) (hn2 : (0 : Int) ≤ (j2 : Int)) (hb3 : (j3 : Int) < 64) (hn3 : (0 : Int) ≤ (j3 : Int)) (hi16 : (i : Int) < 64) (hi0 : (0 : Int) ≤ (i : Int))
    (hk0 : IntKind.u32.wrap p = p) (hk1 : IntKind.u32.wrap q = q) (hk2 : IntKind.u32.wrap r = r) (hk3 : IntKind.u32.wrap s = s) (hs0 : IntKind.u32.wrap (p * 16777216) = p * 16777216) (hs1 : IntKind.u32.wrap (q * 65536) = q * 65536) (hs2 : IntKind.u32.wrap (r * 256) = r * 256)
    (hA1 : bits .or .u32 (p * 16777216) (q * 65536) = A1) (hA2 : bits .or .u32 A1 (r * 256) = A2) (hX : bits .or .u32 A2 s = X)
    (hc0 : ∀ w1, Lat w w1 → w1.cell? ⟨b, off + j, none⟩ = some (.int .u8 p)) (hc1 : ∀ w1, Lat w w1 → w1.cell? ⟨b, off + j1, none⟩ = some (.int .u8 q)) (hc2 : ∀ w1, Lat w w1 → w1.cell? ⟨b, off + j2, none⟩ = some (.int .u8 r)) (hc3 : ∀ w1, Lat w w1 → w1.cell? ⟨b, off + j3, none⟩ = some (.int .u8 s))
    (hcw : ∀ w1, Lat w w1 → ∃ v, w1.cell? ⟨gv, i, none⟩ = some v) (hfr : ∀ w1, Lat w w1 → w1.frozen? ⟨gv, i, none⟩ = false)
    (hQ : ∀ (v20 v21 v22 v23 v24 v25 v26 v27 v28 v29 v30 v31 v32 v33 v34 v35 v36 v37 v38 v39 v40 v41 v42 v43 v44 v45 v46 v47 v48 v49 v50 v51 v52 v53 v54 : Value) (w1 : World), Lat w w1 → Q .normal (((((((((((((((((((((((((((((((((((a0.put (some 20) v20).put (some 21) v21).put (some 22) v22).put (some 23) v23).put (some 24) v24).put (some 25) v25).put (some 26) v26).put (some 27) v27).put (some 28) v28).put (some 29) v29).put (some 30) v30).put (some 31) v31).put (some 32) v32).put (some 33) v33).put (some 34) v34).put (some 35) v35).put (some 36) v36).put (some 37) v37).put (some 38) v38).put (some 39) v39).put (some 40) v40).put (some 41) v41).put (some 42) v42).put (some 43) v43).put (some 44) v44).put (some 45) v45).put (some 46) v46).put (some 47) v47).put (some 48) v48).put (some 49) v49).put (some 50) v50).put (some 51) v51).put (some 52) v52).put (some 53) v53).put (some 54) v54) (w1.setCell ⟨gv, i, none⟩ (.int .u32 X))) :
    Code.wp Try.prog ((Try.f26.body.bind (findRegion 5)).getD .skip) Q a0 w := by
  conv => arg 2; whnf
  refine wp_region_last 35 Lat (TV [.int .i64 (i : Int), .slice (some ⟨b, off, none⟩) 64 c, .int .i64 (i : Int), .int .i64 (j : Int), .pointer (some ⟨b, off + j, none⟩), .int .u8 p, .int .u32 p, .int .u32 (p * 16777216), .slice (some ⟨b, off, none⟩) 64 c, .int .i64 (i : Int), .int .i64 (j : Int), .int .i64 (j1 : Int), .pointer (some ⟨b, off + j1, none⟩), .int .u8 q, .int .u32 q, .int .u32 (q * 65536), .int .u32 A1, .slice (some ⟨b, off, none⟩) 64 c, .int .i64 (i : Int), .int .i64 (j : Int), .int .i64 (j2 : Int), .pointer (some ⟨b, off + j2, none⟩), .int .u8 r, .int .u32 r, .int .u32 (r * 256), .int .u32 A2, .slice (some ⟨b, off, none⟩) 64 c, .int .i64 (i : Int), .int .i64 (j : Int), .int .i64 (j3 : Int), .pointer (some ⟨b, off + j3, none⟩), .int .u8 s, .int .u32 s, .int .u32 X, .pointer (some ⟨gv, i, none⟩)]) (by kernel_rfl) (by kernel_rfl) (by kernel_rfl) (by rw [hsz]; kernel_rfl) (by kernel_rfl) (by kernel_rfl) Lat.refl Lat.trans (TV.stable _) (Lat.draw w) ?hop ?hlast
  case hlast =>
    intro o a w1 ho hL hS hT
    obtain rfl := Option.some.inj ho
    have dp : a.tmps.getD 54 undef = .pointer (some ⟨gv, i, none⟩) := hT 34 _ (by omega) rfl _ rfl
    have dv : a.tmps.getD 53 undef = .int .u32 X := hT 33 _ (by omega) rfl _ rfl
    obtain ⟨vv, hc⟩ := hcw w1 hL
    have hf := hfr w1 hL
    have he := same_puts hS
    have := hQ (a.tmps.getD 20 undef) (a.tmps.getD 21 undef) (a.tmps.getD 22 undef) (a.tmps.getD 23 undef) (a.tmps.getD 24 undef) (a.tmps.getD 25 undef) (a.tmps.getD 26 undef) (a.tmps.getD 27 undef) (a.tmps.getD 28 undef) (a.tmps.getD 29 undef) (a.tmps.getD 30 undef) (a.tmps.getD 31 undef) (a.tmps.getD 32 undef) (a.tmps.getD 33 undef) (a.tmps.getD 34 undef) (a.tmps.getD 35 undef) (a.tmps.getD 36 undef) (a.tmps.getD 37 undef) (a.tmps.getD 38 undef) (a.tmps.getD 39 undef) (a.tmps.getD 40 undef) (a.tmps.getD 41 undef) (a.tmps.getD 42 undef) (a.tmps.getD 43 undef) (a.tmps.getD 44 undef) (a.tmps.getD 45 undef) (a.tmps.getD 46 undef) (a.tmps.getD 47 undef) (a.tmps.getD 48 undef) (a.tmps.getD 49 undef) (a.tmps.getD 50 undef) (a.tmps.getD 51 undef) (a.tmps.getD 52 undef) (a.tmps.getD 53 undef) (a.tmps.getD 54 undef) w1 hL
    have hq : Q .normal a (w1.setCell ⟨gv, i, none⟩ (.int .u32 X)) := by
      rw [he]
      exact this
    unfold Oper.wp
    simp [execOp, Act.eval, dp, dv, hc, hf, go_sem]
    exact hq
  case hop =>
    intro i o hlt hi
    rcases (show i = 0 ∨ i = 1 ∨ i = 2 ∨ i = 3 ∨ i = 4 ∨ i = 5 ∨ i = 6 ∨ i = 7 ∨ i = 8 ∨ i = 9 ∨ i = 10 ∨ i = 11 ∨ i = 12 ∨ i = 13 ∨ i = 14 ∨ i = 15 ∨ i = 16 ∨ i = 17 ∨ i = 18 ∨ i = 19 ∨ i = 20 ∨ i = 21 ∨ i = 22 ∨ i = 23 ∨ i = 24 ∨ i = 25 ∨ i = 26 ∨ i = 27 ∨ i = 28 ∨ i = 29 ∨ i = 30 ∨ i = 31 ∨ i = 32 ∨ i = 33 ∨ i = 34 by omega) with rfl | rfl | rfl | rfl | rfl | rfl | rfl | rfl | rfl | rfl | rfl | rfl | rfl | rfl | rfl | rfl | rfl | rfl | rfl | rfl | rfl | rfl | rfl | rfl | rfl | rfl | rfl | rfl | rfl | rfl | rfl | rfl | rfl | rfl | rfl
    · obtain rfl := Option.some.inj hi
      clear hi hlt
      intro a w1 hL hS hD
      have e6 : a.tmps.getD 6 undef = .int .i64 (i : Int) := (hS.slot 6 (by kernel_rfl)).trans s6
      refine step_yes rfl ?_
      exact ok_value Lat.refl (.int .i64 (i : Int)) (by simp [execOp, Act.eval, e6, go_sem]) (TV.mk rfl)
    · obtain rfl := Option.some.inj hi
      clear hi hlt
      intro a w1 hL hS hD
      have e1 : a.tmps.getD 1 undef = .slice (some ⟨b, off, none⟩) 64 c := (hS.slot 1 (by kernel_rfl)).trans s1
      refine step_yes rfl ?_
      exact ok_value Lat.refl (.slice (some ⟨b, off, none⟩) 64 c) (by simp [execOp, Act.eval, e1, go_sem]) (TV.mk rfl)
    · obtain rfl := Option.some.inj hi
      clear hi hlt
      intro a w1 hL hS hD
      have e6 : a.tmps.getD 6 undef = .int .i64 (i : Int) := (hS.slot 6 (by kernel_rfl)).trans s6
      refine step_yes rfl ?_
      exact ok_value Lat.refl (.int .i64 (i : Int)) (by simp [execOp, Act.eval, e6, go_sem]) (TV.mk rfl)
    · obtain rfl := Option.some.inj hi
      clear hi hlt
      intro a w1 hL hS hD
      have d2 : a.tmps.getD 22 undef = .int .i64 (i : Int) := hD ⟨2, .data⟩ (by simp) rfl _ rfl _ rfl
      refine step_yes rfl ?_
      exact ok_value Lat.refl (.int .i64 (j : Int)) (by simp [execOp, Act.eval, d2, hj, hw0, go_sem]) (TV.mk rfl)
    · obtain rfl := Option.some.inj hi
      clear hi hlt
      intro a w1 hL hS hD
      have d1 : a.tmps.getD 21 undef = .slice (some ⟨b, off, none⟩) 64 c := hD ⟨1, .data⟩ (by simp) rfl _ rfl _ rfl
      have d3 : a.tmps.getD 23 undef = .int .i64 (j : Int) := hD ⟨3, .data⟩ (by simp) rfl _ rfl _ rfl
      refine step_yes rfl ?_
      exact ok_value Lat.refl (.pointer (some ⟨b, off + j, none⟩)) (by simp [execOp, Act.eval, d1, d3, hb0, hn0, go_sem]) (TV.mk rfl)
    · obtain rfl := Option.some.inj hi
      clear hi hlt
      intro a w1 hL hS hD
      have d4 : a.tmps.getD 24 undef = .pointer (some ⟨b, off + j, none⟩) := hD ⟨4, .data⟩ (by simp) rfl _ rfl _ rfl
      refine step_yes rfl ?_
      have hc := hc0 w1 hL
      exact ok_value Lat.refl (.int .u8 p) (by simp [execOp, Act.eval, d4, hc, go_sem]) (TV.mk rfl)
    · obtain rfl := Option.some.inj hi
      clear hi hlt
      intro a w1 hL hS hD
      have d5 : a.tmps.getD 25 undef = .int .u8 p := hD ⟨5, .data⟩ (by simp) rfl _ rfl _ rfl
      refine step_yes rfl ?_
      exact ok_value Lat.refl (.int .u32 p) (by simp [execOp, Act.eval, d5, hk0, go_sem]) (TV.mk rfl)
    · obtain rfl := Option.some.inj hi
      clear hi hlt
      intro a w1 hL hS hD
      have d6 : a.tmps.getD 26 undef = .int .u32 p := hD ⟨6, .data⟩ (by simp) rfl _ rfl _ rfl
      refine step_yes rfl ?_
      exact ok_value Lat.refl (.int .u32 (p * 16777216)) (by simp [execOp, Act.eval, d6, hs0, go_sem]) (TV.mk rfl)
    · obtain rfl := Option.some.inj hi
      clear hi hlt
      intro a w1 hL hS hD
      have e1 : a.tmps.getD 1 undef = .slice (some ⟨b, off, none⟩) 64 c := (hS.slot 1 (by kernel_rfl)).trans s1
      refine step_yes rfl ?_
      exact ok_value Lat.refl (.slice (some ⟨b, off, none⟩) 64 c) (by simp [execOp, Act.eval, e1, go_sem]) (TV.mk rfl)
    · obtain rfl := Option.some.inj hi
      clear hi hlt
      intro a w1 hL hS hD
      have e6 : a.tmps.getD 6 undef = .int .i64 (i : Int) := (hS.slot 6 (by kernel_rfl)).trans s6
      refine step_yes rfl ?_
      exact ok_value Lat.refl (.int .i64 (i : Int)) (by simp [execOp, Act.eval, e6, go_sem]) (TV.mk rfl)
    · obtain rfl := Option.some.inj hi
      clear hi hlt
      intro a w1 hL hS hD
      have d9 : a.tmps.getD 29 undef = .int .i64 (i : Int) := hD ⟨9, .data⟩ (by simp) rfl _ rfl _ rfl
      refine step_yes rfl ?_
      exact ok_value Lat.refl (.int .i64 (j : Int)) (by simp [execOp, Act.eval, d9, hj, hw0, go_sem]) (TV.mk rfl)
    · obtain rfl := Option.some.inj hi
      clear hi hlt
      intro a w1 hL hS hD
      have d10 : a.tmps.getD 30 undef = .int .i64 (j : Int) := hD ⟨10, .data⟩ (by simp) rfl _ rfl _ rfl
      refine step_yes rfl ?_
      exact ok_value Lat.refl (.int .i64 (j1 : Int)) (by simp [execOp, Act.eval, d10, hj1, hw1, go_sem]) (TV.mk rfl)
    · obtain rfl := Option.some.inj hi
      clear hi hlt
      intro a w1 hL hS hD
      have d8 : a.tmps.getD 28 undef = .slice (some ⟨b, off, none⟩) 64 c := hD ⟨8, .data⟩ (by simp) rfl _ rfl _ rfl
      have d11 : a.tmps.getD 31 undef = .int .i64 (j1 : Int) := hD ⟨11, .data⟩ (by simp) rfl _ rfl _ rfl
      refine step_yes rfl ?_
      exact ok_value Lat.refl (.pointer (some ⟨b, off + j1, none⟩)) (by simp [execOp, Act.eval, d8, d11, hb1, hn1, go_sem]) (TV.mk rfl)
    · obtain rfl := Option.some.inj hi
      clear hi hlt
      intro a w1 hL hS hD
      have d12 : a.tmps.getD 32 undef = .pointer (some ⟨b, off + j1, none⟩) := hD ⟨12, .data⟩ (by simp) rfl _ rfl _ rfl
      refine step_yes rfl ?_
      have hc := hc1 w1 hL
      exact ok_value Lat.refl (.int .u8 q) (by simp [execOp, Act.eval, d12, hc, go_sem]) (TV.mk rfl)
    · obtain rfl := Option.some.inj hi
      clear hi hlt
      intro a w1 hL hS hD
      have d13 : a.tmps.getD 33 undef = .int .u8 q := hD ⟨13, .data⟩ (by simp) rfl _ rfl _ rfl
      refine step_yes rfl ?_
      exact ok_value Lat.refl (.int .u32 q) (by simp [execOp, Act.eval, d13, hk1, go_sem]) (TV.mk rfl)
    · obtain rfl := Option.some.inj hi
      clear hi hlt
      intro a w1 hL hS hD
      have d14 : a.tmps.getD 34 undef = .int .u32 q := hD ⟨14, .data⟩ (by simp) rfl _ rfl _ rfl
      refine step_yes rfl ?_
      exact ok_value Lat.refl (.int .u32 (q * 65536)) (by simp [execOp, Act.eval, d14, hs1, go_sem]) (TV.mk rfl)
    · obtain rfl := Option.some.inj hi
      clear hi hlt
      intro a w1 hL hS hD
      have d7 : a.tmps.getD 27 undef = .int .u32 (p * 16777216) := hD ⟨7, .data⟩ (by simp) rfl _ rfl _ rfl
      have d15 : a.tmps.getD 35 undef = .int .u32 (q * 65536) := hD ⟨15, .data⟩ (by simp) rfl _ rfl _ rfl
      refine step_yes rfl ?_
      exact ok_value Lat.refl (.int .u32 A1) (by simp [execOp, Act.eval, d7, d15, hA1, go_sem]) (TV.mk rfl)
    · obtain rfl := Option.some.inj hi
      clear hi hlt
      intro a w1 hL hS hD
      have e1 : a.tmps.getD 1 undef = .slice (some ⟨b, off, none⟩) 64 c := (hS.slot 1 (by kernel_rfl)).trans s1
      refine step_yes rfl ?_
      exact ok_value Lat.refl (.slice (some ⟨b, off, none⟩) 64 c) (by simp [execOp, Act.eval, e1, go_sem]) (TV.mk rfl)
    · obtain rfl := Option.some.inj hi
      clear hi hlt
      intro a w1 hL hS hD
      have e6 : a.tmps.getD 6 undef = .int .i64 (i : Int) := (hS.slot 6 (by kernel_rfl)).trans s6
      refine step_yes rfl ?_
      exact ok_value Lat.refl (.int .i64 (i : Int)) (by simp [execOp, Act.eval, e6, go_sem]) (TV.mk rfl)
    · obtain rfl := Option.some.inj hi
      clear hi hlt
      intro a w1 hL hS hD
      have d18 : a.tmps.getD 38 undef = .int .i64 (i : Int) := hD ⟨18, .data⟩ (by simp) rfl _ rfl _ rfl
      refine step_yes rfl ?_
      exact ok_value Lat.refl (.int .i64 (j : Int)) (by simp [execOp, Act.eval, d18, hj, hw0, go_sem]) (TV.mk rfl)
    · obtain rfl := Option.some.inj hi
      clear hi hlt
      intro a w1 hL hS hD
      have d19 : a.tmps.getD 39 undef = .int .i64 (j : Int) := hD ⟨19, .data⟩ (by simp) rfl _ rfl _ rfl
      refine step_yes rfl ?_
      exact ok_value Lat.refl (.int .i64 (j2 : Int)) (by simp [execOp, Act.eval, d19, hj2, hw2, go_sem]) (TV.mk rfl)
    · obtain rfl := Option.some.inj hi
      clear hi hlt
      intro a w1 hL hS hD
      have d17 : a.tmps.getD 37 undef = .slice (some ⟨b, off, none⟩) 64 c := hD ⟨17, .data⟩ (by simp) rfl _ rfl _ rfl
      have d20 : a.tmps.getD 40 undef = .int .i64 (j2 : Int) := hD ⟨20, .data⟩ (by simp) rfl _ rfl _ rfl
      refine step_yes rfl ?_
      exact ok_value Lat.refl (.pointer (some ⟨b, off + j2, none⟩)) (by simp [execOp, Act.eval, d17, d20, hb2, hn2, go_sem]) (TV.mk rfl)
    · obtain rfl := Option.some.inj hi
      clear hi hlt
      intro a w1 hL hS hD
      have d21 : a.tmps.getD 41 undef = .pointer (some ⟨b, off + j2, none⟩) := hD ⟨21, .data⟩ (by simp) rfl _ rfl _ rfl
      refine step_yes rfl ?_
      have hc := hc2 w1 hL
      exact ok_value Lat.refl (.int .u8 r) (by simp [execOp, Act.eval, d21, hc, go_sem]) (TV.mk rfl)
    · obtain rfl := Option.some.inj hi
      clear hi hlt
      intro a w1 hL hS hD
      have d22 : a.tmps.getD 42 undef = .int .u8 r := hD ⟨22, .data⟩ (by simp) rfl _ rfl _ rfl
      refine step_yes rfl ?_
      exact ok_value Lat.refl (.int .u32 r) (by simp [execOp, Act.eval, d22, hk2, go_sem]) (TV.mk rfl)
    · obtain rfl := Option.some.inj hi
      clear hi hlt
      intro a w1 hL hS hD
      have d23 : a.tmps.getD 43 undef = .int .u32 r := hD ⟨23, .data⟩ (by simp) rfl _ rfl _ rfl
      refine step_yes rfl ?_
      exact ok_value Lat.refl (.int .u32 (r * 256)) (by simp [execOp, Act.eval, d23, hs2, go_sem]) (TV.mk rfl)
    · obtain rfl := Option.some.inj hi
      clear hi hlt
      intro a w1 hL hS hD
      have d16 : a.tmps.getD 36 undef = .int .u32 A1 := hD ⟨16, .data⟩ (by simp) rfl _ rfl _ rfl
      have d24 : a.tmps.getD 44 undef = .int .u32 (r * 256) := hD ⟨24, .data⟩ (by simp) rfl _ rfl _ rfl
      refine step_yes rfl ?_
      exact ok_value Lat.refl (.int .u32 A2) (by simp [execOp, Act.eval, d16, d24, hA2, go_sem]) (TV.mk rfl)
    · obtain rfl := Option.some.inj hi
      clear hi hlt
      intro a w1 hL hS hD
      have e1 : a.tmps.getD 1 undef = .slice (some ⟨b, off, none⟩) 64 c := (hS.slot 1 (by kernel_rfl)).trans s1
      refine step_yes rfl ?_
      exact ok_value Lat.refl (.slice (some ⟨b, off, none⟩) 64 c) (by simp [execOp, Act.eval, e1, go_sem]) (TV.mk rfl)
    · obtain rfl := Option.some.inj hi
      clear hi hlt
      intro a w1 hL hS hD
      have e6 : a.tmps.getD 6 undef = .int .i64 (i : Int) := (hS.slot 6 (by kernel_rfl)).trans s6
      refine step_yes rfl ?_
      exact ok_value Lat.refl (.int .i64 (i : Int)) (by simp [execOp, Act.eval, e6, go_sem]) (TV.mk rfl)
    · obtain rfl := Option.some.inj hi
      clear hi hlt
      intro a w1 hL hS hD
      have d27 : a.tmps.getD 47 undef = .int .i64 (i : Int) := hD ⟨27, .data⟩ (by simp) rfl _ rfl _ rfl
      refine step_yes rfl ?_
      exact ok_value Lat.refl (.int .i64 (j : Int)) (by simp [execOp, Act.eval, d27, hj, hw0, go_sem]) (TV.mk rfl)
    · obtain rfl := Option.some.inj hi
      clear hi hlt
      intro a w1 hL hS hD
      have d28 : a.tmps.getD 48 undef = .int .i64 (j : Int) := hD ⟨28, .data⟩ (by simp) rfl _ rfl _ rfl
      refine step_yes rfl ?_
      exact ok_value Lat.refl (.int .i64 (j3 : Int)) (by simp [execOp, Act.eval, d28, hj3, hw3, go_sem]) (TV.mk rfl)
    · obtain rfl := Option.some.inj hi
      clear hi hlt
      intro a w1 hL hS hD
      have d26 : a.tmps.getD 46 undef = .slice (some ⟨b, off, none⟩) 64 c := hD ⟨26, .data⟩ (by simp) rfl _ rfl _ rfl
      have d29 : a.tmps.getD 49 undef = .int .i64 (j3 : Int) := hD ⟨29, .data⟩ (by simp) rfl _ rfl _ rfl
      refine step_yes rfl ?_
      exact ok_value Lat.refl (.pointer (some ⟨b, off + j3, none⟩)) (by simp [execOp, Act.eval, d26, d29, hb3, hn3, go_sem]) (TV.mk rfl)
    · obtain rfl := Option.some.inj hi
      clear hi hlt
      intro a w1 hL hS hD
      have d30 : a.tmps.getD 50 undef = .pointer (some ⟨b, off + j3, none⟩) := hD ⟨30, .data⟩ (by simp) rfl _ rfl _ rfl
      refine step_yes rfl ?_
      have hc := hc3 w1 hL
      exact ok_value Lat.refl (.int .u8 s) (by simp [execOp, Act.eval, d30, hc, go_sem]) (TV.mk rfl)
    · obtain rfl := Option.some.inj hi
      clear hi hlt
      intro a w1 hL hS hD
      have d31 : a.tmps.getD 51 undef = .int .u8 s := hD ⟨31, .data⟩ (by simp) rfl _ rfl _ rfl
      refine step_yes rfl ?_
      exact ok_value Lat.refl (.int .u32 s) (by simp [execOp, Act.eval, d31, hk3, go_sem]) (TV.mk rfl)
    · obtain rfl := Option.some.inj hi
      clear hi hlt
      intro a w1 hL hS hD
      have d25 : a.tmps.getD 45 undef = .int .u32 A2 := hD ⟨25, .data⟩ (by simp) rfl _ rfl _ rfl
      have d32 : a.tmps.getD 52 undef = .int .u32 s := hD ⟨32, .data⟩ (by simp) rfl _ rfl _ rfl
      refine step_yes rfl ?_
      exact ok_value Lat.refl (.int .u32 X) (by simp [execOp, Act.eval, d25, d32, hX, go_sem]) (TV.mk rfl)
    · obtain rfl := Option.some.inj hi
      clear hi hlt
      intro a w1 hL hS hD
      have e5 : a.tmps.getD 5 undef = .pointer (some ⟨gv, 0, none⟩) := (hS.slot 5 (by kernel_rfl)).trans s5
      have d0 : a.tmps.getD 20 undef = .int .i64 (i : Int) := hD ⟨0, .data⟩ (by simp) rfl _ rfl _ rfl
      refine step_yes rfl ?_
      exact ok_value Lat.refl (.pointer (some ⟨gv, i, none⟩)) (by simp [execOp, Act.eval, e5, d0, hi16, hi0, go_sem]) (TV.mk rfl)

end Go.Proofs.Ytfieglepljmmkaa
