import Derived.Test.YtnfjhdedcnbdbaaGreatStill
import Derived.Test.YtnfjhdedcnbdbaaGreatAnyW
/-
  WalPlays: looks.
-/
namespace Go.Proofs.YtnfjhdedcnbdbaaGreat
open Go.RowKit
set_option linter.unusedVariables false
set_option linter.unusedSimpArgs false

set_option maxRecDepth 100000 in
set_option maxHeartbeats 2000000 in
theorem looks_r3 (wp lp mp : Nat) (n y c s g z : Int) (f : Bool) (w : World) (a0 : Act) (Q : Exit → Act → World → Prop) (hsz : a0.tmps.size = 87)
    (s0 : a0.tmps.getD 0 undef = .pointer (some ⟨wp, 0, none⟩))
    (s1 : a0.tmps.getD 1 undef = .int .i64 n)
    (hA : ∀ w1, Lat w w1 → w1.cell? ⟨wp, 1, none⟩ = some (.pointer (some ⟨lp, 0, none⟩)))
    (hM : ∀ w1, Lat w w1 → w1.cell? ⟨wp, 3, none⟩ = some (.pointer (some ⟨mp, 0, none⟩)))
    (k10 : ∀ w1, Lat w w1 → Calls Tryz.prog 10 #[.pointer (some ⟨lp, 0, none⟩)] w1 fun e w2 => e = .returned (.int .i64 y) ∧ Lat w1 w2)
    (k72 : ∀ w1, Lat w w1 → Calls Tryz.prog 72 #[.pointer (some ⟨mp, 0, none⟩)] w1 fun e w2 => e = .returned (.int .i64 y) ∧ Lat w1 w2)
    (k16 : ∀ w1, Lat w w1 → Calls Tryz.prog 16 #[.pointer (some ⟨lp, 0, none⟩)] w1 fun e w2 => e = .returned (.int .i64 c) ∧ Lat w1 w2)
    (k73 : ∀ w1, Lat w w1 → Calls Tryz.prog 73 #[.pointer (some ⟨mp, 0, none⟩)] w1 fun e w2 => e = .returned (.int .i64 c) ∧ Lat w1 w2)
    (k15 : ∀ w1, Lat w w1 → Calls Tryz.prog 15 #[.pointer (some ⟨lp, 0, none⟩)] w1 fun e w2 => e = .returned (.int .i64 s) ∧ Lat w1 w2)
    (k74 : ∀ w1, Lat w w1 → Calls Tryz.prog 74 #[.pointer (some ⟨mp, 0, none⟩)] w1 fun e w2 => e = .returned (.int .i64 s) ∧ Lat w1 w2)
    (k14 : ∀ w1, Lat w w1 → Calls Tryz.prog 14 #[.pointer (some ⟨lp, 0, none⟩)] w1 fun e w2 => e = .returned (.int .u64 g) ∧ Lat w1 w2)
    (k75 : ∀ w1, Lat w w1 → Calls Tryz.prog 75 #[.pointer (some ⟨mp, 0, none⟩)] w1 fun e w2 => e = .returned (.int .u64 g) ∧ Lat w1 w2)
    (k12 : ∀ w1, Lat w w1 → Calls Tryz.prog 12 #[.pointer (some ⟨lp, 0, none⟩), .int .i64 n] w1 fun e w2 => e = .returned (.bool f) ∧ Lat w1 w2)
    (k57 : ∀ w1, Lat w w1 → Calls Tryz.prog 57 #[.pointer (some ⟨mp, 0, none⟩), .int .i64 n] w1 fun e w2 => e = .returned (.bool f) ∧ Lat w1 w2)
    (k18 : ∀ w1, Lat w w1 → Calls Tryz.prog 18 #[.int .i64 n] w1 fun e w2 => e = .returned (.int .i64 z) ∧ Lat w1 w2)
    (k76 : ∀ w1, Lat w w1 → Calls Tryz.prog 76 #[.int .i64 n] w1 fun e w2 => e = .returned (.int .i64 z) ∧ Lat w1 w2)
    (hQ : ∀ (v15 v16 v17 v18 v19 v20 v21 v22 v23 v24 v25 v26 v27 v28 v29 v30 v31 v32 v33 v34 v35 v36 v37 v38 v39 v40 v41 v42 v43 v44 v45 v46 v47 v48 v49 v50 v51 v52 v53 v54 v55 v56 v57 v58 v59 v60 v61 v62 v63 v64 v65 v66 v67 v68 v69 v70 v71 v72 v73 v74 v75 v76 v77 v78 v79 v80 v81 v82 v83 v84 v85 v86 : Value) (w1 : World), Lat w w1 → Q .normal (((((((((((((((((((((((((((((((((((((((((((((((((((((((((((((((((((((((((a0.put (some 15) v15).put (some 16) v16).put (some 17) v17).put (some 18) v18).put (some 19) v19).put (some 20) v20).put (some 21) v21).put (some 22) v22).put (some 23) v23).put (some 24) v24).put (some 25) v25).put (some 26) v26).put (some 27) v27).put (some 28) v28).put (some 29) v29).put (some 30) v30).put (some 31) v31).put (some 32) v32).put (some 33) v33).put (some 34) v34).put (some 35) v35).put (some 36) v36).put (some 37) v37).put (some 38) v38).put (some 39) v39).put (some 40) v40).put (some 41) v41).put (some 42) v42).put (some 43) v43).put (some 44) v44).put (some 45) v45).put (some 46) v46).put (some 47) v47).put (some 48) v48).put (some 49) v49).put (some 50) v50).put (some 51) v51).put (some 52) v52).put (some 53) v53).put (some 54) v54).put (some 55) v55).put (some 56) v56).put (some 57) v57).put (some 58) v58).put (some 59) v59).put (some 60) v60).put (some 61) v61).put (some 62) v62).put (some 63) v63).put (some 64) v64).put (some 65) v65).put (some 66) v66).put (some 67) v67).put (some 68) v68).put (some 69) v69).put (some 70) v70).put (some 71) v71).put (some 72) v72).put (some 73) v73).put (some 74) v74).put (some 75) v75).put (some 76) v76).put (some 77) v77).put (some 78) v78).put (some 79) v79).put (some 80) v80).put (some 81) v81).put (some 82) v82).put (some 83) v83).put (some 84) v84).put (some 85) v85).put (some 86) v86).put (some 4) (.bool true)) w1) :
    Code.wp Tryz.prog ((Tryz.f36.body.bind (findRegion 3)).getD .skip) Q a0 w := by
  conv => arg 2; whnf
  refine wp_region_inv Lat (TV [.pointer (some ⟨wp, 0, none⟩), .pointer (some ⟨wp, 0, none⟩), .pointer (some ⟨wp, 1, none⟩), .pointer (some ⟨lp, 0, none⟩), .int .i64 y, .pointer (some ⟨wp, 0, none⟩), .pointer (some ⟨wp, 0, none⟩), .pointer (some ⟨wp, 3, none⟩), .pointer (some ⟨mp, 0, none⟩), .int .i64 y, .bool true, .bool true, .pointer (some ⟨wp, 0, none⟩), .pointer (some ⟨wp, 0, none⟩), .pointer (some ⟨wp, 1, none⟩), .pointer (some ⟨lp, 0, none⟩), .int .i64 c, .pointer (some ⟨wp, 0, none⟩), .pointer (some ⟨wp, 0, none⟩), .pointer (some ⟨wp, 3, none⟩), .pointer (some ⟨mp, 0, none⟩), .int .i64 c, .bool true, .bool true, .bool true, .pointer (some ⟨wp, 0, none⟩), .pointer (some ⟨wp, 0, none⟩), .pointer (some ⟨wp, 1, none⟩), .pointer (some ⟨lp, 0, none⟩), .int .i64 s, .pointer (some ⟨wp, 0, none⟩), .pointer (some ⟨wp, 0, none⟩), .pointer (some ⟨wp, 3, none⟩), .pointer (some ⟨mp, 0, none⟩), .int .i64 s, .bool true, .bool true, .bool true, .pointer (some ⟨wp, 0, none⟩), .pointer (some ⟨wp, 0, none⟩), .pointer (some ⟨wp, 1, none⟩), .pointer (some ⟨lp, 0, none⟩), .int .u64 g, .pointer (some ⟨wp, 0, none⟩), .pointer (some ⟨wp, 0, none⟩), .pointer (some ⟨wp, 3, none⟩), .pointer (some ⟨mp, 0, none⟩), .int .u64 g, .bool true, .bool true, .bool true, .pointer (some ⟨wp, 0, none⟩), .pointer (some ⟨wp, 0, none⟩), .pointer (some ⟨wp, 1, none⟩), .pointer (some ⟨lp, 0, none⟩), .int .i64 n, .bool f, .pointer (some ⟨wp, 0, none⟩), .pointer (some ⟨wp, 0, none⟩), .pointer (some ⟨wp, 3, none⟩), .pointer (some ⟨mp, 0, none⟩), .int .i64 n, .bool f, .bool true, .bool true, .bool true, .int .i64 n, .int .i64 z, .int .i64 n, .int .i64 z, .bool true, .bool true, .bool true]) (by kernel_rfl) (by kernel_rfl) (by kernel_rfl) (by rw [hsz]; kernel_rfl) (by kernel_rfl) Lat.refl Lat.trans (TV.stable _) (Lat.draw w) ?hop ?hdone
  case hdone =>
    intro a w1 hL hS hT
    have k4 : a.tmps.getD 4 undef = .bool true := hT 72 _ rfl _ rfl
    have he := same_puts hS
    have hQ2 := hQ (a.tmps.getD 15 undef) (a.tmps.getD 16 undef) (a.tmps.getD 17 undef) (a.tmps.getD 18 undef) (a.tmps.getD 19 undef) (a.tmps.getD 20 undef) (a.tmps.getD 21 undef) (a.tmps.getD 22 undef) (a.tmps.getD 23 undef) (a.tmps.getD 24 undef) (a.tmps.getD 25 undef) (a.tmps.getD 26 undef) (a.tmps.getD 27 undef) (a.tmps.getD 28 undef) (a.tmps.getD 29 undef) (a.tmps.getD 30 undef) (a.tmps.getD 31 undef) (a.tmps.getD 32 undef) (a.tmps.getD 33 undef) (a.tmps.getD 34 undef) (a.tmps.getD 35 undef) (a.tmps.getD 36 undef) (a.tmps.getD 37 undef) (a.tmps.getD 38 undef) (a.tmps.getD 39 undef) (a.tmps.getD 40 undef) (a.tmps.getD 41 undef) (a.tmps.getD 42 undef) (a.tmps.getD 43 undef) (a.tmps.getD 44 undef) (a.tmps.getD 45 undef) (a.tmps.getD 46 undef) (a.tmps.getD 47 undef) (a.tmps.getD 48 undef) (a.tmps.getD 49 undef) (a.tmps.getD 50 undef) (a.tmps.getD 51 undef) (a.tmps.getD 52 undef) (a.tmps.getD 53 undef) (a.tmps.getD 54 undef) (a.tmps.getD 55 undef) (a.tmps.getD 56 undef) (a.tmps.getD 57 undef) (a.tmps.getD 58 undef) (a.tmps.getD 59 undef) (a.tmps.getD 60 undef) (a.tmps.getD 61 undef) (a.tmps.getD 62 undef) (a.tmps.getD 63 undef) (a.tmps.getD 64 undef) (a.tmps.getD 65 undef) (a.tmps.getD 66 undef) (a.tmps.getD 67 undef) (a.tmps.getD 68 undef) (a.tmps.getD 69 undef) (a.tmps.getD 70 undef) (a.tmps.getD 71 undef) (a.tmps.getD 72 undef) (a.tmps.getD 73 undef) (a.tmps.getD 74 undef) (a.tmps.getD 75 undef) (a.tmps.getD 76 undef) (a.tmps.getD 77 undef) (a.tmps.getD 78 undef) (a.tmps.getD 79 undef) (a.tmps.getD 80 undef) (a.tmps.getD 81 undef) (a.tmps.getD 82 undef) (a.tmps.getD 83 undef) (a.tmps.getD 84 undef) (a.tmps.getD 85 undef) (a.tmps.getD 86 undef) w1 hL
    rw [← k4] at hQ2
    rw [he]
    exact hQ2
  case hop =>
    intro i o hi
    have hlt : i < 73 := (Array.getElem?_eq_some_iff.1 hi).1
    rcases (show i = 0 ∨ i = 1 ∨ i = 2 ∨ i = 3 ∨ i = 4 ∨ i = 5 ∨ i = 6 ∨ i = 7 ∨ i = 8 ∨ i = 9 ∨ i = 10 ∨ i = 11 ∨ i = 12 ∨ i = 13 ∨ i = 14 ∨ i = 15 ∨ i = 16 ∨ i = 17 ∨ i = 18 ∨ i = 19 ∨ i = 20 ∨ i = 21 ∨ i = 22 ∨ i = 23 ∨ i = 24 ∨ i = 25 ∨ i = 26 ∨ i = 27 ∨ i = 28 ∨ i = 29 ∨ i = 30 ∨ i = 31 ∨ i = 32 ∨ i = 33 ∨ i = 34 ∨ i = 35 ∨ i = 36 ∨ i = 37 ∨ i = 38 ∨ i = 39 ∨ i = 40 ∨ i = 41 ∨ i = 42 ∨ i = 43 ∨ i = 44 ∨ i = 45 ∨ i = 46 ∨ i = 47 ∨ i = 48 ∨ i = 49 ∨ i = 50 ∨ i = 51 ∨ i = 52 ∨ i = 53 ∨ i = 54 ∨ i = 55 ∨ i = 56 ∨ i = 57 ∨ i = 58 ∨ i = 59 ∨ i = 60 ∨ i = 61 ∨ i = 62 ∨ i = 63 ∨ i = 64 ∨ i = 65 ∨ i = 66 ∨ i = 67 ∨ i = 68 ∨ i = 69 ∨ i = 70 ∨ i = 71 ∨ i = 72 by omega) with rfl | rfl | rfl | rfl | rfl | rfl | rfl | rfl | rfl | rfl | rfl | rfl | rfl | rfl | rfl | rfl | rfl | rfl | rfl | rfl | rfl | rfl | rfl | rfl | rfl | rfl | rfl | rfl | rfl | rfl | rfl | rfl | rfl | rfl | rfl | rfl | rfl | rfl | rfl | rfl | rfl | rfl | rfl | rfl | rfl | rfl | rfl | rfl | rfl | rfl | rfl | rfl | rfl | rfl | rfl | rfl | rfl | rfl | rfl | rfl | rfl | rfl | rfl | rfl | rfl | rfl | rfl | rfl | rfl | rfl | rfl | rfl | rfl
    · obtain rfl := Option.some.inj hi
      clear hi hlt
      intro a w1 hL hS hD
      have e0 : a.tmps.getD 0 undef = .pointer (some ⟨wp, 0, none⟩) := (hS.slot 0 (by kernel_rfl)).trans s0
      refine step_yes rfl ?_
      exact ok_value Lat.refl (.pointer (some ⟨wp, 0, none⟩)) (by simp [execOp, Act.eval, e0, go_sem]) (TV.mk rfl)
    · obtain rfl := Option.some.inj hi
      clear hi hlt
      intro a w1 hL hS hD
      have d0 : a.tmps.getD 15 undef = .pointer (some ⟨wp, 0, none⟩) := hD ⟨0, .data⟩ (by simp) rfl _ rfl _ rfl
      refine step_yes rfl ?_
      exact ok_value Lat.refl (.pointer (some ⟨wp, 0, none⟩)) (by simp [execOp, Act.eval, d0, go_sem]) (TV.mk rfl)
    · obtain rfl := Option.some.inj hi
      clear hi hlt
      intro a w1 hL hS hD
      have d1 : a.tmps.getD 16 undef = .pointer (some ⟨wp, 0, none⟩) := hD ⟨1, .data⟩ (by simp) rfl _ rfl _ rfl
      refine step_yes rfl ?_
      exact ok_value Lat.refl (.pointer (some ⟨wp, 1, none⟩)) (by simp [execOp, Act.eval, d1, go_sem]) (TV.mk rfl)
    · obtain rfl := Option.some.inj hi
      clear hi hlt
      intro a w1 hL hS hD
      have d2 : a.tmps.getD 17 undef = .pointer (some ⟨wp, 1, none⟩) := hD ⟨2, .data⟩ (by simp) rfl _ rfl _ rfl
      refine step_yes rfl ?_
      exact ok_value Lat.refl (.pointer (some ⟨lp, 0, none⟩)) (by simp [execOp, Act.eval, d2, hA w1 hL, go_sem]) (TV.mk rfl)
    · obtain rfl := Option.some.inj hi
      clear hi hlt
      intro a w1 hL hS hD
      have d3 : a.tmps.getD 18 undef = .pointer (some ⟨lp, 0, none⟩) := hD ⟨3, .data⟩ (by simp) rfl _ rfl _ rfl
      refine step_yes rfl ?_
      refine ok_call (f := 10) (args := #[.pointer (some ⟨lp, 0, none⟩)]) (by simp [execOp, resolve, Act.eval, d3, go_sem]) ?_
      refine (k10 w1 hL).mono ?_
      rintro e w2 ⟨rfl, hb⟩
      exact ⟨_, rfl, hb, TV.mk rfl⟩
    · obtain rfl := Option.some.inj hi
      clear hi hlt
      intro a w1 hL hS hD
      have e0 : a.tmps.getD 0 undef = .pointer (some ⟨wp, 0, none⟩) := (hS.slot 0 (by kernel_rfl)).trans s0
      refine step_yes rfl ?_
      exact ok_value Lat.refl (.pointer (some ⟨wp, 0, none⟩)) (by simp [execOp, Act.eval, e0, go_sem]) (TV.mk rfl)
    · obtain rfl := Option.some.inj hi
      clear hi hlt
      intro a w1 hL hS hD
      have d5 : a.tmps.getD 20 undef = .pointer (some ⟨wp, 0, none⟩) := hD ⟨5, .data⟩ (by simp) rfl _ rfl _ rfl
      refine step_yes rfl ?_
      exact ok_value Lat.refl (.pointer (some ⟨wp, 0, none⟩)) (by simp [execOp, Act.eval, d5, go_sem]) (TV.mk rfl)
    · obtain rfl := Option.some.inj hi
      clear hi hlt
      intro a w1 hL hS hD
      have d6 : a.tmps.getD 21 undef = .pointer (some ⟨wp, 0, none⟩) := hD ⟨6, .data⟩ (by simp) rfl _ rfl _ rfl
      refine step_yes rfl ?_
      exact ok_value Lat.refl (.pointer (some ⟨wp, 3, none⟩)) (by simp [execOp, Act.eval, d6, go_sem]) (TV.mk rfl)
    · obtain rfl := Option.some.inj hi
      clear hi hlt
      intro a w1 hL hS hD
      have d7 : a.tmps.getD 22 undef = .pointer (some ⟨wp, 3, none⟩) := hD ⟨7, .data⟩ (by simp) rfl _ rfl _ rfl
      refine step_yes rfl ?_
      exact ok_value Lat.refl (.pointer (some ⟨mp, 0, none⟩)) (by simp [execOp, Act.eval, d7, hM w1 hL, go_sem]) (TV.mk rfl)
    · obtain rfl := Option.some.inj hi
      clear hi hlt
      intro a w1 hL hS hD
      have d8 : a.tmps.getD 23 undef = .pointer (some ⟨mp, 0, none⟩) := hD ⟨8, .data⟩ (by simp) rfl _ rfl _ rfl
      refine step_yes rfl ?_
      refine ok_call (f := 72) (args := #[.pointer (some ⟨mp, 0, none⟩)]) (by simp [execOp, resolve, Act.eval, d8, go_sem]) ?_
      refine (k72 w1 hL).mono ?_
      rintro e w2 ⟨rfl, hb⟩
      exact ⟨_, rfl, hb, TV.mk rfl⟩
    · obtain rfl := Option.some.inj hi
      clear hi hlt
      intro a w1 hL hS hD
      have d4 : a.tmps.getD 19 undef = .int .i64 y := hD ⟨4, .data⟩ (by simp) rfl _ rfl _ rfl
      have d9 : a.tmps.getD 24 undef = .int .i64 y := hD ⟨9, .data⟩ (by simp) rfl _ rfl _ rfl
      refine step_yes rfl ?_
      exact ok_value Lat.refl (.bool true) (by simp [execOp, Act.eval, d4, d9, go_sem]) (TV.mk rfl)
    · obtain rfl := Option.some.inj hi
      clear hi hlt
      intro a w1 hL hS hD
      have d10 : a.tmps.getD 25 undef = .bool true := hD ⟨10, .data⟩ (by simp) rfl _ rfl _ rfl
      refine step_yes rfl ?_
      exact ok_value Lat.refl (.bool true) (by simp [execOp, Act.eval, d10, go_sem]) (TV.mk rfl)
    · obtain rfl := Option.some.inj hi
      clear hi hlt
      intro a w1 hL hS hD
      have d11 : a.tmps.getD 26 undef = .bool true := hD ⟨11, .guard⟩ (by simp) rfl _ rfl _ rfl
      have e0 : a.tmps.getD 0 undef = .pointer (some ⟨wp, 0, none⟩) := (hS.slot 0 (by kernel_rfl)).trans s0
      refine step_yes (wanted_yes rfl rfl rfl d11) ?_
      exact ok_value Lat.refl (.pointer (some ⟨wp, 0, none⟩)) (by simp [execOp, Act.eval, e0, go_sem]) (TV.mk rfl)
    · obtain rfl := Option.some.inj hi
      clear hi hlt
      intro a w1 hL hS hD
      have d11 : a.tmps.getD 26 undef = .bool true := hD ⟨11, .guard⟩ (by simp) rfl _ rfl _ rfl
      have d12 : a.tmps.getD 27 undef = .pointer (some ⟨wp, 0, none⟩) := hD ⟨12, .data⟩ (by simp) rfl _ rfl _ rfl
      refine step_yes (wanted_yes rfl rfl rfl d11) ?_
      exact ok_value Lat.refl (.pointer (some ⟨wp, 0, none⟩)) (by simp [execOp, Act.eval, d12, go_sem]) (TV.mk rfl)
    · obtain rfl := Option.some.inj hi
      clear hi hlt
      intro a w1 hL hS hD
      have d11 : a.tmps.getD 26 undef = .bool true := hD ⟨11, .guard⟩ (by simp) rfl _ rfl _ rfl
      have d13 : a.tmps.getD 28 undef = .pointer (some ⟨wp, 0, none⟩) := hD ⟨13, .data⟩ (by simp) rfl _ rfl _ rfl
      refine step_yes (wanted_yes rfl rfl rfl d11) ?_
      exact ok_value Lat.refl (.pointer (some ⟨wp, 1, none⟩)) (by simp [execOp, Act.eval, d13, go_sem]) (TV.mk rfl)
    · obtain rfl := Option.some.inj hi
      clear hi hlt
      intro a w1 hL hS hD
      have d11 : a.tmps.getD 26 undef = .bool true := hD ⟨11, .guard⟩ (by simp) rfl _ rfl _ rfl
      have d14 : a.tmps.getD 29 undef = .pointer (some ⟨wp, 1, none⟩) := hD ⟨14, .data⟩ (by simp) rfl _ rfl _ rfl
      refine step_yes (wanted_yes rfl rfl rfl d11) ?_
      exact ok_value Lat.refl (.pointer (some ⟨lp, 0, none⟩)) (by simp [execOp, Act.eval, d14, hA w1 hL, go_sem]) (TV.mk rfl)
    · obtain rfl := Option.some.inj hi
      clear hi hlt
      intro a w1 hL hS hD
      have d11 : a.tmps.getD 26 undef = .bool true := hD ⟨11, .guard⟩ (by simp) rfl _ rfl _ rfl
      have d15 : a.tmps.getD 30 undef = .pointer (some ⟨lp, 0, none⟩) := hD ⟨15, .data⟩ (by simp) rfl _ rfl _ rfl
      refine step_yes (wanted_yes rfl rfl rfl d11) ?_
      refine ok_call (f := 16) (args := #[.pointer (some ⟨lp, 0, none⟩)]) (by simp [execOp, resolve, Act.eval, d15, go_sem]) ?_
      refine (k16 w1 hL).mono ?_
      rintro e w2 ⟨rfl, hb⟩
      exact ⟨_, rfl, hb, TV.mk rfl⟩
    · obtain rfl := Option.some.inj hi
      clear hi hlt
      intro a w1 hL hS hD
      have d11 : a.tmps.getD 26 undef = .bool true := hD ⟨11, .guard⟩ (by simp) rfl _ rfl _ rfl
      have e0 : a.tmps.getD 0 undef = .pointer (some ⟨wp, 0, none⟩) := (hS.slot 0 (by kernel_rfl)).trans s0
      refine step_yes (wanted_yes rfl rfl rfl d11) ?_
      exact ok_value Lat.refl (.pointer (some ⟨wp, 0, none⟩)) (by simp [execOp, Act.eval, e0, go_sem]) (TV.mk rfl)
    · obtain rfl := Option.some.inj hi
      clear hi hlt
      intro a w1 hL hS hD
      have d11 : a.tmps.getD 26 undef = .bool true := hD ⟨11, .guard⟩ (by simp) rfl _ rfl _ rfl
      have d17 : a.tmps.getD 32 undef = .pointer (some ⟨wp, 0, none⟩) := hD ⟨17, .data⟩ (by simp) rfl _ rfl _ rfl
      refine step_yes (wanted_yes rfl rfl rfl d11) ?_
      exact ok_value Lat.refl (.pointer (some ⟨wp, 0, none⟩)) (by simp [execOp, Act.eval, d17, go_sem]) (TV.mk rfl)
    · obtain rfl := Option.some.inj hi
      clear hi hlt
      intro a w1 hL hS hD
      have d11 : a.tmps.getD 26 undef = .bool true := hD ⟨11, .guard⟩ (by simp) rfl _ rfl _ rfl
      have d18 : a.tmps.getD 33 undef = .pointer (some ⟨wp, 0, none⟩) := hD ⟨18, .data⟩ (by simp) rfl _ rfl _ rfl
      refine step_yes (wanted_yes rfl rfl rfl d11) ?_
      exact ok_value Lat.refl (.pointer (some ⟨wp, 3, none⟩)) (by simp [execOp, Act.eval, d18, go_sem]) (TV.mk rfl)
    · obtain rfl := Option.some.inj hi
      clear hi hlt
      intro a w1 hL hS hD
      have d11 : a.tmps.getD 26 undef = .bool true := hD ⟨11, .guard⟩ (by simp) rfl _ rfl _ rfl
      have d19 : a.tmps.getD 34 undef = .pointer (some ⟨wp, 3, none⟩) := hD ⟨19, .data⟩ (by simp) rfl _ rfl _ rfl
      refine step_yes (wanted_yes rfl rfl rfl d11) ?_
      exact ok_value Lat.refl (.pointer (some ⟨mp, 0, none⟩)) (by simp [execOp, Act.eval, d19, hM w1 hL, go_sem]) (TV.mk rfl)
    · obtain rfl := Option.some.inj hi
      clear hi hlt
      intro a w1 hL hS hD
      have d11 : a.tmps.getD 26 undef = .bool true := hD ⟨11, .guard⟩ (by simp) rfl _ rfl _ rfl
      have d20 : a.tmps.getD 35 undef = .pointer (some ⟨mp, 0, none⟩) := hD ⟨20, .data⟩ (by simp) rfl _ rfl _ rfl
      refine step_yes (wanted_yes rfl rfl rfl d11) ?_
      refine ok_call (f := 73) (args := #[.pointer (some ⟨mp, 0, none⟩)]) (by simp [execOp, resolve, Act.eval, d20, go_sem]) ?_
      refine (k73 w1 hL).mono ?_
      rintro e w2 ⟨rfl, hb⟩
      exact ⟨_, rfl, hb, TV.mk rfl⟩
    · obtain rfl := Option.some.inj hi
      clear hi hlt
      intro a w1 hL hS hD
      have d11 : a.tmps.getD 26 undef = .bool true := hD ⟨11, .guard⟩ (by simp) rfl _ rfl _ rfl
      have d16 : a.tmps.getD 31 undef = .int .i64 c := hD ⟨16, .data⟩ (by simp) rfl _ rfl _ rfl
      have d21 : a.tmps.getD 36 undef = .int .i64 c := hD ⟨21, .data⟩ (by simp) rfl _ rfl _ rfl
      refine step_yes (wanted_yes rfl rfl rfl d11) ?_
      exact ok_value Lat.refl (.bool true) (by simp [execOp, Act.eval, d16, d21, go_sem]) (TV.mk rfl)
    · obtain rfl := Option.some.inj hi
      clear hi hlt
      intro a w1 hL hS hD
      have d11 : a.tmps.getD 26 undef = .bool true := hD ⟨11, .data⟩ (by simp) rfl _ rfl _ rfl
      have d22 : a.tmps.getD 37 undef = .bool true := hD ⟨22, .data⟩ (by simp) rfl _ rfl _ rfl
      refine step_yes rfl ?_
      exact ok_value Lat.refl (.bool true) (by simp [execOp, Act.eval, d11, d22, go_sem]) (TV.mk rfl)
    · obtain rfl := Option.some.inj hi
      clear hi hlt
      intro a w1 hL hS hD
      have d23 : a.tmps.getD 38 undef = .bool true := hD ⟨23, .data⟩ (by simp) rfl _ rfl _ rfl
      refine step_yes rfl ?_
      exact ok_value Lat.refl (.bool true) (by simp [execOp, Act.eval, d23, go_sem]) (TV.mk rfl)
    · obtain rfl := Option.some.inj hi
      clear hi hlt
      intro a w1 hL hS hD
      have d24 : a.tmps.getD 39 undef = .bool true := hD ⟨24, .guard⟩ (by simp) rfl _ rfl _ rfl
      have e0 : a.tmps.getD 0 undef = .pointer (some ⟨wp, 0, none⟩) := (hS.slot 0 (by kernel_rfl)).trans s0
      refine step_yes (wanted_yes rfl rfl rfl d24) ?_
      exact ok_value Lat.refl (.pointer (some ⟨wp, 0, none⟩)) (by simp [execOp, Act.eval, e0, go_sem]) (TV.mk rfl)
    · obtain rfl := Option.some.inj hi
      clear hi hlt
      intro a w1 hL hS hD
      have d24 : a.tmps.getD 39 undef = .bool true := hD ⟨24, .guard⟩ (by simp) rfl _ rfl _ rfl
      have d25 : a.tmps.getD 40 undef = .pointer (some ⟨wp, 0, none⟩) := hD ⟨25, .data⟩ (by simp) rfl _ rfl _ rfl
      refine step_yes (wanted_yes rfl rfl rfl d24) ?_
      exact ok_value Lat.refl (.pointer (some ⟨wp, 0, none⟩)) (by simp [execOp, Act.eval, d25, go_sem]) (TV.mk rfl)
    · obtain rfl := Option.some.inj hi
      clear hi hlt
      intro a w1 hL hS hD
      have d24 : a.tmps.getD 39 undef = .bool true := hD ⟨24, .guard⟩ (by simp) rfl _ rfl _ rfl
      have d26 : a.tmps.getD 41 undef = .pointer (some ⟨wp, 0, none⟩) := hD ⟨26, .data⟩ (by simp) rfl _ rfl _ rfl
      refine step_yes (wanted_yes rfl rfl rfl d24) ?_
      exact ok_value Lat.refl (.pointer (some ⟨wp, 1, none⟩)) (by simp [execOp, Act.eval, d26, go_sem]) (TV.mk rfl)
    · obtain rfl := Option.some.inj hi
      clear hi hlt
      intro a w1 hL hS hD
      have d24 : a.tmps.getD 39 undef = .bool true := hD ⟨24, .guard⟩ (by simp) rfl _ rfl _ rfl
      have d27 : a.tmps.getD 42 undef = .pointer (some ⟨wp, 1, none⟩) := hD ⟨27, .data⟩ (by simp) rfl _ rfl _ rfl
      refine step_yes (wanted_yes rfl rfl rfl d24) ?_
      exact ok_value Lat.refl (.pointer (some ⟨lp, 0, none⟩)) (by simp [execOp, Act.eval, d27, hA w1 hL, go_sem]) (TV.mk rfl)
    · obtain rfl := Option.some.inj hi
      clear hi hlt
      intro a w1 hL hS hD
      have d24 : a.tmps.getD 39 undef = .bool true := hD ⟨24, .guard⟩ (by simp) rfl _ rfl _ rfl
      have d28 : a.tmps.getD 43 undef = .pointer (some ⟨lp, 0, none⟩) := hD ⟨28, .data⟩ (by simp) rfl _ rfl _ rfl
      refine step_yes (wanted_yes rfl rfl rfl d24) ?_
      refine ok_call (f := 15) (args := #[.pointer (some ⟨lp, 0, none⟩)]) (by simp [execOp, resolve, Act.eval, d28, go_sem]) ?_
      refine (k15 w1 hL).mono ?_
      rintro e w2 ⟨rfl, hb⟩
      exact ⟨_, rfl, hb, TV.mk rfl⟩
    · obtain rfl := Option.some.inj hi
      clear hi hlt
      intro a w1 hL hS hD
      have d24 : a.tmps.getD 39 undef = .bool true := hD ⟨24, .guard⟩ (by simp) rfl _ rfl _ rfl
      have e0 : a.tmps.getD 0 undef = .pointer (some ⟨wp, 0, none⟩) := (hS.slot 0 (by kernel_rfl)).trans s0
      refine step_yes (wanted_yes rfl rfl rfl d24) ?_
      exact ok_value Lat.refl (.pointer (some ⟨wp, 0, none⟩)) (by simp [execOp, Act.eval, e0, go_sem]) (TV.mk rfl)
    · obtain rfl := Option.some.inj hi
      clear hi hlt
      intro a w1 hL hS hD
      have d24 : a.tmps.getD 39 undef = .bool true := hD ⟨24, .guard⟩ (by simp) rfl _ rfl _ rfl
      have d30 : a.tmps.getD 45 undef = .pointer (some ⟨wp, 0, none⟩) := hD ⟨30, .data⟩ (by simp) rfl _ rfl _ rfl
      refine step_yes (wanted_yes rfl rfl rfl d24) ?_
      exact ok_value Lat.refl (.pointer (some ⟨wp, 0, none⟩)) (by simp [execOp, Act.eval, d30, go_sem]) (TV.mk rfl)
    · obtain rfl := Option.some.inj hi
      clear hi hlt
      intro a w1 hL hS hD
      have d24 : a.tmps.getD 39 undef = .bool true := hD ⟨24, .guard⟩ (by simp) rfl _ rfl _ rfl
      have d31 : a.tmps.getD 46 undef = .pointer (some ⟨wp, 0, none⟩) := hD ⟨31, .data⟩ (by simp) rfl _ rfl _ rfl
      refine step_yes (wanted_yes rfl rfl rfl d24) ?_
      exact ok_value Lat.refl (.pointer (some ⟨wp, 3, none⟩)) (by simp [execOp, Act.eval, d31, go_sem]) (TV.mk rfl)
    · obtain rfl := Option.some.inj hi
      clear hi hlt
      intro a w1 hL hS hD
      have d24 : a.tmps.getD 39 undef = .bool true := hD ⟨24, .guard⟩ (by simp) rfl _ rfl _ rfl
      have d32 : a.tmps.getD 47 undef = .pointer (some ⟨wp, 3, none⟩) := hD ⟨32, .data⟩ (by simp) rfl _ rfl _ rfl
      refine step_yes (wanted_yes rfl rfl rfl d24) ?_
      exact ok_value Lat.refl (.pointer (some ⟨mp, 0, none⟩)) (by simp [execOp, Act.eval, d32, hM w1 hL, go_sem]) (TV.mk rfl)
    · obtain rfl := Option.some.inj hi
      clear hi hlt
      intro a w1 hL hS hD
      have d24 : a.tmps.getD 39 undef = .bool true := hD ⟨24, .guard⟩ (by simp) rfl _ rfl _ rfl
      have d33 : a.tmps.getD 48 undef = .pointer (some ⟨mp, 0, none⟩) := hD ⟨33, .data⟩ (by simp) rfl _ rfl _ rfl
      refine step_yes (wanted_yes rfl rfl rfl d24) ?_
      refine ok_call (f := 74) (args := #[.pointer (some ⟨mp, 0, none⟩)]) (by simp [execOp, resolve, Act.eval, d33, go_sem]) ?_
      refine (k74 w1 hL).mono ?_
      rintro e w2 ⟨rfl, hb⟩
      exact ⟨_, rfl, hb, TV.mk rfl⟩
    · obtain rfl := Option.some.inj hi
      clear hi hlt
      intro a w1 hL hS hD
      have d24 : a.tmps.getD 39 undef = .bool true := hD ⟨24, .guard⟩ (by simp) rfl _ rfl _ rfl
      have d29 : a.tmps.getD 44 undef = .int .i64 s := hD ⟨29, .data⟩ (by simp) rfl _ rfl _ rfl
      have d34 : a.tmps.getD 49 undef = .int .i64 s := hD ⟨34, .data⟩ (by simp) rfl _ rfl _ rfl
      refine step_yes (wanted_yes rfl rfl rfl d24) ?_
      exact ok_value Lat.refl (.bool true) (by simp [execOp, Act.eval, d29, d34, go_sem]) (TV.mk rfl)
    · obtain rfl := Option.some.inj hi
      clear hi hlt
      intro a w1 hL hS hD
      have d24 : a.tmps.getD 39 undef = .bool true := hD ⟨24, .data⟩ (by simp) rfl _ rfl _ rfl
      have d35 : a.tmps.getD 50 undef = .bool true := hD ⟨35, .data⟩ (by simp) rfl _ rfl _ rfl
      refine step_yes rfl ?_
      exact ok_value Lat.refl (.bool true) (by simp [execOp, Act.eval, d24, d35, go_sem]) (TV.mk rfl)
    · obtain rfl := Option.some.inj hi
      clear hi hlt
      intro a w1 hL hS hD
      have d36 : a.tmps.getD 51 undef = .bool true := hD ⟨36, .data⟩ (by simp) rfl _ rfl _ rfl
      refine step_yes rfl ?_
      exact ok_value Lat.refl (.bool true) (by simp [execOp, Act.eval, d36, go_sem]) (TV.mk rfl)
    · obtain rfl := Option.some.inj hi
      clear hi hlt
      intro a w1 hL hS hD
      have d37 : a.tmps.getD 52 undef = .bool true := hD ⟨37, .guard⟩ (by simp) rfl _ rfl _ rfl
      have e0 : a.tmps.getD 0 undef = .pointer (some ⟨wp, 0, none⟩) := (hS.slot 0 (by kernel_rfl)).trans s0
      refine step_yes (wanted_yes rfl rfl rfl d37) ?_
      exact ok_value Lat.refl (.pointer (some ⟨wp, 0, none⟩)) (by simp [execOp, Act.eval, e0, go_sem]) (TV.mk rfl)
    · obtain rfl := Option.some.inj hi
      clear hi hlt
      intro a w1 hL hS hD
      have d37 : a.tmps.getD 52 undef = .bool true := hD ⟨37, .guard⟩ (by simp) rfl _ rfl _ rfl
      have d38 : a.tmps.getD 53 undef = .pointer (some ⟨wp, 0, none⟩) := hD ⟨38, .data⟩ (by simp) rfl _ rfl _ rfl
      refine step_yes (wanted_yes rfl rfl rfl d37) ?_
      exact ok_value Lat.refl (.pointer (some ⟨wp, 0, none⟩)) (by simp [execOp, Act.eval, d38, go_sem]) (TV.mk rfl)
    · obtain rfl := Option.some.inj hi
      clear hi hlt
      intro a w1 hL hS hD
      have d37 : a.tmps.getD 52 undef = .bool true := hD ⟨37, .guard⟩ (by simp) rfl _ rfl _ rfl
      have d39 : a.tmps.getD 54 undef = .pointer (some ⟨wp, 0, none⟩) := hD ⟨39, .data⟩ (by simp) rfl _ rfl _ rfl
      refine step_yes (wanted_yes rfl rfl rfl d37) ?_
      exact ok_value Lat.refl (.pointer (some ⟨wp, 1, none⟩)) (by simp [execOp, Act.eval, d39, go_sem]) (TV.mk rfl)
    · obtain rfl := Option.some.inj hi
      clear hi hlt
      intro a w1 hL hS hD
      have d37 : a.tmps.getD 52 undef = .bool true := hD ⟨37, .guard⟩ (by simp) rfl _ rfl _ rfl
      have d40 : a.tmps.getD 55 undef = .pointer (some ⟨wp, 1, none⟩) := hD ⟨40, .data⟩ (by simp) rfl _ rfl _ rfl
      refine step_yes (wanted_yes rfl rfl rfl d37) ?_
      exact ok_value Lat.refl (.pointer (some ⟨lp, 0, none⟩)) (by simp [execOp, Act.eval, d40, hA w1 hL, go_sem]) (TV.mk rfl)
    · obtain rfl := Option.some.inj hi
      clear hi hlt
      intro a w1 hL hS hD
      have d37 : a.tmps.getD 52 undef = .bool true := hD ⟨37, .guard⟩ (by simp) rfl _ rfl _ rfl
      have d41 : a.tmps.getD 56 undef = .pointer (some ⟨lp, 0, none⟩) := hD ⟨41, .data⟩ (by simp) rfl _ rfl _ rfl
      refine step_yes (wanted_yes rfl rfl rfl d37) ?_
      refine ok_call (f := 14) (args := #[.pointer (some ⟨lp, 0, none⟩)]) (by simp [execOp, resolve, Act.eval, d41, go_sem]) ?_
      refine (k14 w1 hL).mono ?_
      rintro e w2 ⟨rfl, hb⟩
      exact ⟨_, rfl, hb, TV.mk rfl⟩
    · obtain rfl := Option.some.inj hi
      clear hi hlt
      intro a w1 hL hS hD
      have d37 : a.tmps.getD 52 undef = .bool true := hD ⟨37, .guard⟩ (by simp) rfl _ rfl _ rfl
      have e0 : a.tmps.getD 0 undef = .pointer (some ⟨wp, 0, none⟩) := (hS.slot 0 (by kernel_rfl)).trans s0
      refine step_yes (wanted_yes rfl rfl rfl d37) ?_
      exact ok_value Lat.refl (.pointer (some ⟨wp, 0, none⟩)) (by simp [execOp, Act.eval, e0, go_sem]) (TV.mk rfl)
    · obtain rfl := Option.some.inj hi
      clear hi hlt
      intro a w1 hL hS hD
      have d37 : a.tmps.getD 52 undef = .bool true := hD ⟨37, .guard⟩ (by simp) rfl _ rfl _ rfl
      have d43 : a.tmps.getD 58 undef = .pointer (some ⟨wp, 0, none⟩) := hD ⟨43, .data⟩ (by simp) rfl _ rfl _ rfl
      refine step_yes (wanted_yes rfl rfl rfl d37) ?_
      exact ok_value Lat.refl (.pointer (some ⟨wp, 0, none⟩)) (by simp [execOp, Act.eval, d43, go_sem]) (TV.mk rfl)
    · obtain rfl := Option.some.inj hi
      clear hi hlt
      intro a w1 hL hS hD
      have d37 : a.tmps.getD 52 undef = .bool true := hD ⟨37, .guard⟩ (by simp) rfl _ rfl _ rfl
      have d44 : a.tmps.getD 59 undef = .pointer (some ⟨wp, 0, none⟩) := hD ⟨44, .data⟩ (by simp) rfl _ rfl _ rfl
      refine step_yes (wanted_yes rfl rfl rfl d37) ?_
      exact ok_value Lat.refl (.pointer (some ⟨wp, 3, none⟩)) (by simp [execOp, Act.eval, d44, go_sem]) (TV.mk rfl)
    · obtain rfl := Option.some.inj hi
      clear hi hlt
      intro a w1 hL hS hD
      have d37 : a.tmps.getD 52 undef = .bool true := hD ⟨37, .guard⟩ (by simp) rfl _ rfl _ rfl
      have d45 : a.tmps.getD 60 undef = .pointer (some ⟨wp, 3, none⟩) := hD ⟨45, .data⟩ (by simp) rfl _ rfl _ rfl
      refine step_yes (wanted_yes rfl rfl rfl d37) ?_
      exact ok_value Lat.refl (.pointer (some ⟨mp, 0, none⟩)) (by simp [execOp, Act.eval, d45, hM w1 hL, go_sem]) (TV.mk rfl)
    · obtain rfl := Option.some.inj hi
      clear hi hlt
      intro a w1 hL hS hD
      have d37 : a.tmps.getD 52 undef = .bool true := hD ⟨37, .guard⟩ (by simp) rfl _ rfl _ rfl
      have d46 : a.tmps.getD 61 undef = .pointer (some ⟨mp, 0, none⟩) := hD ⟨46, .data⟩ (by simp) rfl _ rfl _ rfl
      refine step_yes (wanted_yes rfl rfl rfl d37) ?_
      refine ok_call (f := 75) (args := #[.pointer (some ⟨mp, 0, none⟩)]) (by simp [execOp, resolve, Act.eval, d46, go_sem]) ?_
      refine (k75 w1 hL).mono ?_
      rintro e w2 ⟨rfl, hb⟩
      exact ⟨_, rfl, hb, TV.mk rfl⟩
    · obtain rfl := Option.some.inj hi
      clear hi hlt
      intro a w1 hL hS hD
      have d37 : a.tmps.getD 52 undef = .bool true := hD ⟨37, .guard⟩ (by simp) rfl _ rfl _ rfl
      have d42 : a.tmps.getD 57 undef = .int .u64 g := hD ⟨42, .data⟩ (by simp) rfl _ rfl _ rfl
      have d47 : a.tmps.getD 62 undef = .int .u64 g := hD ⟨47, .data⟩ (by simp) rfl _ rfl _ rfl
      refine step_yes (wanted_yes rfl rfl rfl d37) ?_
      exact ok_value Lat.refl (.bool true) (by simp [execOp, Act.eval, d42, d47, go_sem]) (TV.mk rfl)
    · obtain rfl := Option.some.inj hi
      clear hi hlt
      intro a w1 hL hS hD
      have d37 : a.tmps.getD 52 undef = .bool true := hD ⟨37, .data⟩ (by simp) rfl _ rfl _ rfl
      have d48 : a.tmps.getD 63 undef = .bool true := hD ⟨48, .data⟩ (by simp) rfl _ rfl _ rfl
      refine step_yes rfl ?_
      exact ok_value Lat.refl (.bool true) (by simp [execOp, Act.eval, d37, d48, go_sem]) (TV.mk rfl)
    · obtain rfl := Option.some.inj hi
      clear hi hlt
      intro a w1 hL hS hD
      have d49 : a.tmps.getD 64 undef = .bool true := hD ⟨49, .data⟩ (by simp) rfl _ rfl _ rfl
      refine step_yes rfl ?_
      exact ok_value Lat.refl (.bool true) (by simp [execOp, Act.eval, d49, go_sem]) (TV.mk rfl)
    · obtain rfl := Option.some.inj hi
      clear hi hlt
      intro a w1 hL hS hD
      have d50 : a.tmps.getD 65 undef = .bool true := hD ⟨50, .guard⟩ (by simp) rfl _ rfl _ rfl
      have e0 : a.tmps.getD 0 undef = .pointer (some ⟨wp, 0, none⟩) := (hS.slot 0 (by kernel_rfl)).trans s0
      refine step_yes (wanted_yes rfl rfl rfl d50) ?_
      exact ok_value Lat.refl (.pointer (some ⟨wp, 0, none⟩)) (by simp [execOp, Act.eval, e0, go_sem]) (TV.mk rfl)
    · obtain rfl := Option.some.inj hi
      clear hi hlt
      intro a w1 hL hS hD
      have d50 : a.tmps.getD 65 undef = .bool true := hD ⟨50, .guard⟩ (by simp) rfl _ rfl _ rfl
      have d51 : a.tmps.getD 66 undef = .pointer (some ⟨wp, 0, none⟩) := hD ⟨51, .data⟩ (by simp) rfl _ rfl _ rfl
      refine step_yes (wanted_yes rfl rfl rfl d50) ?_
      exact ok_value Lat.refl (.pointer (some ⟨wp, 0, none⟩)) (by simp [execOp, Act.eval, d51, go_sem]) (TV.mk rfl)
    · obtain rfl := Option.some.inj hi
      clear hi hlt
      intro a w1 hL hS hD
      have d50 : a.tmps.getD 65 undef = .bool true := hD ⟨50, .guard⟩ (by simp) rfl _ rfl _ rfl
      have d52 : a.tmps.getD 67 undef = .pointer (some ⟨wp, 0, none⟩) := hD ⟨52, .data⟩ (by simp) rfl _ rfl _ rfl
      refine step_yes (wanted_yes rfl rfl rfl d50) ?_
      exact ok_value Lat.refl (.pointer (some ⟨wp, 1, none⟩)) (by simp [execOp, Act.eval, d52, go_sem]) (TV.mk rfl)
    · obtain rfl := Option.some.inj hi
      clear hi hlt
      intro a w1 hL hS hD
      have d50 : a.tmps.getD 65 undef = .bool true := hD ⟨50, .guard⟩ (by simp) rfl _ rfl _ rfl
      have d53 : a.tmps.getD 68 undef = .pointer (some ⟨wp, 1, none⟩) := hD ⟨53, .data⟩ (by simp) rfl _ rfl _ rfl
      refine step_yes (wanted_yes rfl rfl rfl d50) ?_
      exact ok_value Lat.refl (.pointer (some ⟨lp, 0, none⟩)) (by simp [execOp, Act.eval, d53, hA w1 hL, go_sem]) (TV.mk rfl)
    · obtain rfl := Option.some.inj hi
      clear hi hlt
      intro a w1 hL hS hD
      have d50 : a.tmps.getD 65 undef = .bool true := hD ⟨50, .guard⟩ (by simp) rfl _ rfl _ rfl
      have e1 : a.tmps.getD 1 undef = .int .i64 n := (hS.slot 1 (by kernel_rfl)).trans s1
      refine step_yes (wanted_yes rfl rfl rfl d50) ?_
      exact ok_value Lat.refl (.int .i64 n) (by simp [execOp, Act.eval, e1, go_sem]) (TV.mk rfl)
    · obtain rfl := Option.some.inj hi
      clear hi hlt
      intro a w1 hL hS hD
      have d50 : a.tmps.getD 65 undef = .bool true := hD ⟨50, .guard⟩ (by simp) rfl _ rfl _ rfl
      have d54 : a.tmps.getD 69 undef = .pointer (some ⟨lp, 0, none⟩) := hD ⟨54, .data⟩ (by simp) rfl _ rfl _ rfl
      have d55 : a.tmps.getD 70 undef = .int .i64 n := hD ⟨55, .data⟩ (by simp) rfl _ rfl _ rfl
      refine step_yes (wanted_yes rfl rfl rfl d50) ?_
      refine ok_call (f := 12) (args := #[.pointer (some ⟨lp, 0, none⟩), .int .i64 n]) (by simp [execOp, resolve, Act.eval, d54, d55, go_sem]) ?_
      refine (k12 w1 hL).mono ?_
      rintro e w2 ⟨rfl, hb⟩
      exact ⟨_, rfl, hb, TV.mk rfl⟩
    · obtain rfl := Option.some.inj hi
      clear hi hlt
      intro a w1 hL hS hD
      have d50 : a.tmps.getD 65 undef = .bool true := hD ⟨50, .guard⟩ (by simp) rfl _ rfl _ rfl
      have e0 : a.tmps.getD 0 undef = .pointer (some ⟨wp, 0, none⟩) := (hS.slot 0 (by kernel_rfl)).trans s0
      refine step_yes (wanted_yes rfl rfl rfl d50) ?_
      exact ok_value Lat.refl (.pointer (some ⟨wp, 0, none⟩)) (by simp [execOp, Act.eval, e0, go_sem]) (TV.mk rfl)
    · obtain rfl := Option.some.inj hi
      clear hi hlt
      intro a w1 hL hS hD
      have d50 : a.tmps.getD 65 undef = .bool true := hD ⟨50, .guard⟩ (by simp) rfl _ rfl _ rfl
      have d57 : a.tmps.getD 72 undef = .pointer (some ⟨wp, 0, none⟩) := hD ⟨57, .data⟩ (by simp) rfl _ rfl _ rfl
      refine step_yes (wanted_yes rfl rfl rfl d50) ?_
      exact ok_value Lat.refl (.pointer (some ⟨wp, 0, none⟩)) (by simp [execOp, Act.eval, d57, go_sem]) (TV.mk rfl)
    · obtain rfl := Option.some.inj hi
      clear hi hlt
      intro a w1 hL hS hD
      have d50 : a.tmps.getD 65 undef = .bool true := hD ⟨50, .guard⟩ (by simp) rfl _ rfl _ rfl
      have d58 : a.tmps.getD 73 undef = .pointer (some ⟨wp, 0, none⟩) := hD ⟨58, .data⟩ (by simp) rfl _ rfl _ rfl
      refine step_yes (wanted_yes rfl rfl rfl d50) ?_
      exact ok_value Lat.refl (.pointer (some ⟨wp, 3, none⟩)) (by simp [execOp, Act.eval, d58, go_sem]) (TV.mk rfl)
    · obtain rfl := Option.some.inj hi
      clear hi hlt
      intro a w1 hL hS hD
      have d50 : a.tmps.getD 65 undef = .bool true := hD ⟨50, .guard⟩ (by simp) rfl _ rfl _ rfl
      have d59 : a.tmps.getD 74 undef = .pointer (some ⟨wp, 3, none⟩) := hD ⟨59, .data⟩ (by simp) rfl _ rfl _ rfl
      refine step_yes (wanted_yes rfl rfl rfl d50) ?_
      exact ok_value Lat.refl (.pointer (some ⟨mp, 0, none⟩)) (by simp [execOp, Act.eval, d59, hM w1 hL, go_sem]) (TV.mk rfl)
    · obtain rfl := Option.some.inj hi
      clear hi hlt
      intro a w1 hL hS hD
      have d50 : a.tmps.getD 65 undef = .bool true := hD ⟨50, .guard⟩ (by simp) rfl _ rfl _ rfl
      have e1 : a.tmps.getD 1 undef = .int .i64 n := (hS.slot 1 (by kernel_rfl)).trans s1
      refine step_yes (wanted_yes rfl rfl rfl d50) ?_
      exact ok_value Lat.refl (.int .i64 n) (by simp [execOp, Act.eval, e1, go_sem]) (TV.mk rfl)
    · obtain rfl := Option.some.inj hi
      clear hi hlt
      intro a w1 hL hS hD
      have d50 : a.tmps.getD 65 undef = .bool true := hD ⟨50, .guard⟩ (by simp) rfl _ rfl _ rfl
      have d60 : a.tmps.getD 75 undef = .pointer (some ⟨mp, 0, none⟩) := hD ⟨60, .data⟩ (by simp) rfl _ rfl _ rfl
      have d61 : a.tmps.getD 76 undef = .int .i64 n := hD ⟨61, .data⟩ (by simp) rfl _ rfl _ rfl
      refine step_yes (wanted_yes rfl rfl rfl d50) ?_
      refine ok_call (f := 57) (args := #[.pointer (some ⟨mp, 0, none⟩), .int .i64 n]) (by simp [execOp, resolve, Act.eval, d60, d61, go_sem]) ?_
      refine (k57 w1 hL).mono ?_
      rintro e w2 ⟨rfl, hb⟩
      exact ⟨_, rfl, hb, TV.mk rfl⟩
    · obtain rfl := Option.some.inj hi
      clear hi hlt
      intro a w1 hL hS hD
      have d50 : a.tmps.getD 65 undef = .bool true := hD ⟨50, .guard⟩ (by simp) rfl _ rfl _ rfl
      have d56 : a.tmps.getD 71 undef = .bool f := hD ⟨56, .data⟩ (by simp) rfl _ rfl _ rfl
      have d62 : a.tmps.getD 77 undef = .bool f := hD ⟨62, .data⟩ (by simp) rfl _ rfl _ rfl
      refine step_yes (wanted_yes rfl rfl rfl d50) ?_
      exact ok_value Lat.refl (.bool true) (by simp [execOp, Act.eval, d56, d62, go_sem]) (TV.mk rfl)
    · obtain rfl := Option.some.inj hi
      clear hi hlt
      intro a w1 hL hS hD
      have d50 : a.tmps.getD 65 undef = .bool true := hD ⟨50, .data⟩ (by simp) rfl _ rfl _ rfl
      have d63 : a.tmps.getD 78 undef = .bool true := hD ⟨63, .data⟩ (by simp) rfl _ rfl _ rfl
      refine step_yes rfl ?_
      exact ok_value Lat.refl (.bool true) (by simp [execOp, Act.eval, d50, d63, go_sem]) (TV.mk rfl)
    · obtain rfl := Option.some.inj hi
      clear hi hlt
      intro a w1 hL hS hD
      have d64 : a.tmps.getD 79 undef = .bool true := hD ⟨64, .data⟩ (by simp) rfl _ rfl _ rfl
      refine step_yes rfl ?_
      exact ok_value Lat.refl (.bool true) (by simp [execOp, Act.eval, d64, go_sem]) (TV.mk rfl)
    · obtain rfl := Option.some.inj hi
      clear hi hlt
      intro a w1 hL hS hD
      have d65 : a.tmps.getD 80 undef = .bool true := hD ⟨65, .guard⟩ (by simp) rfl _ rfl _ rfl
      have e1 : a.tmps.getD 1 undef = .int .i64 n := (hS.slot 1 (by kernel_rfl)).trans s1
      refine step_yes (wanted_yes rfl rfl rfl d65) ?_
      exact ok_value Lat.refl (.int .i64 n) (by simp [execOp, Act.eval, e1, go_sem]) (TV.mk rfl)
    · obtain rfl := Option.some.inj hi
      clear hi hlt
      intro a w1 hL hS hD
      have d65 : a.tmps.getD 80 undef = .bool true := hD ⟨65, .guard⟩ (by simp) rfl _ rfl _ rfl
      have d66 : a.tmps.getD 81 undef = .int .i64 n := hD ⟨66, .data⟩ (by simp) rfl _ rfl _ rfl
      refine step_yes (wanted_yes rfl rfl rfl d65) ?_
      refine ok_call (f := 18) (args := #[.int .i64 n]) (by simp [execOp, resolve, Act.eval, d66, go_sem]) ?_
      refine (k18 w1 hL).mono ?_
      rintro e w2 ⟨rfl, hb⟩
      exact ⟨_, rfl, hb, TV.mk rfl⟩
    · obtain rfl := Option.some.inj hi
      clear hi hlt
      intro a w1 hL hS hD
      have d65 : a.tmps.getD 80 undef = .bool true := hD ⟨65, .guard⟩ (by simp) rfl _ rfl _ rfl
      have e1 : a.tmps.getD 1 undef = .int .i64 n := (hS.slot 1 (by kernel_rfl)).trans s1
      refine step_yes (wanted_yes rfl rfl rfl d65) ?_
      exact ok_value Lat.refl (.int .i64 n) (by simp [execOp, Act.eval, e1, go_sem]) (TV.mk rfl)
    · obtain rfl := Option.some.inj hi
      clear hi hlt
      intro a w1 hL hS hD
      have d65 : a.tmps.getD 80 undef = .bool true := hD ⟨65, .guard⟩ (by simp) rfl _ rfl _ rfl
      have d68 : a.tmps.getD 83 undef = .int .i64 n := hD ⟨68, .data⟩ (by simp) rfl _ rfl _ rfl
      refine step_yes (wanted_yes rfl rfl rfl d65) ?_
      refine ok_call (f := 76) (args := #[.int .i64 n]) (by simp [execOp, resolve, Act.eval, d68, go_sem]) ?_
      refine (k76 w1 hL).mono ?_
      rintro e w2 ⟨rfl, hb⟩
      exact ⟨_, rfl, hb, TV.mk rfl⟩
    · obtain rfl := Option.some.inj hi
      clear hi hlt
      intro a w1 hL hS hD
      have d65 : a.tmps.getD 80 undef = .bool true := hD ⟨65, .guard⟩ (by simp) rfl _ rfl _ rfl
      have d67 : a.tmps.getD 82 undef = .int .i64 z := hD ⟨67, .data⟩ (by simp) rfl _ rfl _ rfl
      have d69 : a.tmps.getD 84 undef = .int .i64 z := hD ⟨69, .data⟩ (by simp) rfl _ rfl _ rfl
      refine step_yes (wanted_yes rfl rfl rfl d65) ?_
      exact ok_value Lat.refl (.bool true) (by simp [execOp, Act.eval, d67, d69, go_sem]) (TV.mk rfl)
    · obtain rfl := Option.some.inj hi
      clear hi hlt
      intro a w1 hL hS hD
      have d65 : a.tmps.getD 80 undef = .bool true := hD ⟨65, .data⟩ (by simp) rfl _ rfl _ rfl
      have d70 : a.tmps.getD 85 undef = .bool true := hD ⟨70, .data⟩ (by simp) rfl _ rfl _ rfl
      refine step_yes rfl ?_
      exact ok_value Lat.refl (.bool true) (by simp [execOp, Act.eval, d65, d70, go_sem]) (TV.mk rfl)
    · obtain rfl := Option.some.inj hi
      clear hi hlt
      intro a w1 hL hS hD
      have d71 : a.tmps.getD 86 undef = .bool true := hD ⟨71, .data⟩ (by simp) rfl _ rfl _ rfl
      refine step_yes rfl ?_
      exact ok_value Lat.refl (.bool true) (by simp [execOp, Act.eval, d71, go_sem]) (TV.mk rfl)


end Go.Proofs.YtnfjhdedcnbdbaaGreat

/-
  WalPlays: Open, and the two logs that come out.
-/
namespace Go.Proofs.YtnfjhdedcnbdbaaGreat
open Go.RowKit
set_option linter.unusedVariables false
set_option linter.unusedSimpArgs false

/-- Two logs of one meaning, or none. -/
def LL (B : Nat) (A : World) (p x : Nat) : Option (Nat × Nat × Lw) → Option Addr → Option Addr → Prop
  | none, lo, mo => lo = none ∧ mo = none
  | some (lp, mp, l), lo, mo => lo = some ⟨lp, 0, none⟩ ∧ mo = some ⟨mp, 0, none⟩ ∧ Lg 73 A lp p l ∧ (∃ sv, Lq A mp x l sv) ∧ l.fine ∧ B ≤ lp ∧ B ≤ mp
theorem OpenR.log {w w' : World} {p : Nat} {F : Nat → Prop} {S : St} {lo : Option Addr} {a b c : Value} (h : OpenR w p F S (.returned (.tuple #[.pointer lo, a, b, c])) w') : (lo = none ∧ ∃ er, S.opens.1 = .error er) ∨ ∃ f lp, S.opens.1 = .ok f ∧ lo = some ⟨lp, 0, none⟩ ∧ Lg 73 w' lp p ⟨S.falls, f.live, f.h⟩ ∧ w.heap.size ≤ lp ∧ (⟨S.falls, f.live, f.h⟩ : Lw).fine := by
  obtain ⟨F', h1, h2, h3, hc⟩ := h
  rcases hc with ⟨er, he, _, e⟩ | ⟨f, lp, x, r, sv, rv, he, _, hfn, _, hlg, hlp, _, _, _, _, e⟩
  · simp at e
    exact .inl ⟨e.1, er, he⟩
  · simp at e
    exact .inr ⟨f, lp, he, e.1, hlg, hlp, hfn⟩
theorem OpenQ.log {w w' : World} {p : Nat} {F : Nat → Prop} {S : St} {lo : Option Addr} {a b c : Value} (h : OpenQ w p F S (.returned (.tuple #[.pointer lo, a, b, c])) w') : (lo = none ∧ ∃ er, S.opens.1 = .error er) ∨ ∃ f lp sv, S.opens.1 = .ok f ∧ lo = some ⟨lp, 0, none⟩ ∧ Lq w' lp p ⟨S.falls, f.live, f.h⟩ sv ∧ w.heap.size ≤ lp := by
  obtain ⟨F', h1, h2, h3, hc⟩ := h
  rcases hc with ⟨er, he, _, e⟩ | ⟨f, lp, r, sv, rv, he, _, hlg, hlp, _, _, _, _, _, _, e⟩
  · simp at e
    exact .inl ⟨e.1, er, he⟩
  · simp at e
    exact .inr ⟨f, lp, sv, he, e.1, hlg, hlp⟩

set_option maxRecDepth 100000 in
set_option maxHeartbeats 4000000 in
theorem opensL (wp p x : Nat) (F G : Nat → Prop) (S : St) (lv mv : Value) (w : World) (h : WW w wp p x F G S lv mv) (hf : S.falls ≤ 1099511627776) (hfl : ∀ i, (S.file i).length ≤ 1048576) :
    Calls Tryz.prog 23 #[.pointer (some ⟨wp, 0, none⟩)] w fun e w' => e = .returned (.bool true) ∧ ∃ F' G' lo mo ll, WW w' wp p x F' G' S.opens.2 (.pointer lo) (.pointer mo) ∧ LL w.heap.size w' p x ll lo mo ∧ Chg (fun i => F i ∨ G i ∨ i = wp) w w' ∧ New w F F' ∧ New w G G' := by
  have H := hidden h
  have HF := hidden hf
  have HFL := hidden hfl
  have HBY : Hid (∀ i, Byte (S.file i)) := fun i => (file_len h.d i).2
  have HTB := hidden (tell_byte HBY.out)
  have a0 : w.cell? ⟨wp, 0, none⟩ = some (.pointer (some ⟨p, 0, none⟩)) := h.b.cell 0
  clear h hf hfl
  go_enter Tryz.func23, Tryz.ntmps23
  go_wp2_with fail
  refine open_walk p F S w H.out.d HF.out _ ?_
  intro e w1 hO
  obtain ⟨F1, k1, c1, n1, lo, sa, sc, ra, rc, r, rfl, hlo, hout, how⟩ := hO.out HBY.out
  have HLGR := hidden hO.log
  have HK1 := hidden k1
  have HC1 := hidden c1
  have HN1 := hidden n1
  have HOUT1 := hidden hout
  have HOW := hidden how
  have HLO := hidden hlo
  clear hO k1 c1 n1 hout how hlo a0
  have HB1 := hidden (HC1.out.blk H.out.b H.out.nf.1)
  have HX1 := hidden (H.out.r.chg HC1.out (fun i hi hF => H.out.ap i hF hi))
  have a2 : w1.cell? ⟨wp, 2, none⟩ = some (.pointer (some ⟨x, 0, none⟩)) := HB1.out.cell 2
  go_wp2_with fail
  refine ropen_walk x G S w1 HX1.out HF.out HFL.out _ ?_
  intro e w2 hO
  obtain ⟨G2, k1, c1, n1, mo, ta, tc, qa, qc, r2, rfl, hmo, hout, hg1, hg2, hg3⟩ := hO.out HBY.out
  have HLGQ := hidden hO.log
  have HK2 := hidden k1
  have HC2 := hidden c1
  have HN2 := hidden n1
  have HOUTQ := hidden hout
  have HMO := hidden hmo
  have HG1 := hidden hg1
  have HG2 := hidden hg2
  have HG3 := hidden hg3
  clear hO k1 c1 n1 hout hmo a2 hg1 hg2 hg3
  have HGL : Hid (∀ i, G i → i < w.heap.size) := H.out.r.lt
  have HOWG : Hid (∀ g, OW sa (tS S.opens.1).length r g → ¬ G g) := fun g hg k => by
    have := HGL.out g k
    have := (HOW.out g hg).1
    omega
  have HRVG : Hid (∀ g, (Value.slice ra r.length rc).ownBlock = some g → ¬ G g) := fun g hg k => by
    have ht := owns_tg HOUT1.out.rr g hg
    rcases HX1.out.tg g k with q | q | q | q <;> exact absurd (ht.one q) (by decide)
  have HOUT := hidden (HOUT1.out.chg HC2.out HOWG.out HRVG.out)
  have HB2 := hidden (HC2.out.blk HB1.out H.out.nf.2)
  have HD2 : Hid (Dk 64 79 w2 p F1 S.opens.2) := HK1.out.chg HC2.out (fun i hi k => by
    rcases HN1.out i hi with f | f
    · exact H.out.ap i f k
    · have := HGL.out i k; omega)
  have HOW2 : Hid (∀ g, OW sa (tS S.opens.1).length r g → w.heap.size ≤ g ∧ g < w1.heap.size ∧ ¬ F1 g ∧ ¬ G2 g ∧ g ≠ wp) := fun g hg => by
    obtain ⟨q1, q2, q3⟩ := HOW.out g hg
    refine ⟨q1, q2, q3, fun k => ?_, fun k => ?_⟩
    · rcases HN2.out g k with f | f
      · have := HGL.out g f; omega
      · omega
    · have := H.out.b.lt
      omega
  have HAP2 : Hid (∀ i, F1 i → ¬ G2 i) := fun i hi k => by
    rcases HN2.out i k with f | f
    · rcases HN1.out i hi with q | q
      · exact H.out.ap i q f
      · have := HGL.out i f; omega
    · have := HK1.out.lt i hi; omega
  have HSB := hidden HTB.out.1
  have HRB := hidden HTB.out.2
  have hcv1 := convS (cap := sc) HOUT.out.ss
  have hcv2 := convS (cap := tc) HOUTQ.out.ss
  have hp1 := nilL lo _ HLO.out
  have hp2 := nilM mo _ HMO.out
  have hrl := HOUT.out.rl
  have hql := HOUTQ.out.rl
  have HSBD : Hid ((tS S.opens.1).length ≤ 16777216 ∧ (tR S.opens.1).length ≤ 16777216 ∧ ∀ r ∈ tR S.opens.1, r.length ≤ 16777216) := tell_len HBY.out (fun i => by have := HFL.out i; omega)
  generalize tS S.opens.1 = st at *
  generalize tR S.opens.1 = recs at *
  generalize tE S.opens.1 = er at *
  generalize tN S.opens.1 = bn at *
  obtain ⟨sn, hsn⟩ : ∃ sn, st.length = sn := ⟨_, rfl⟩
  obtain ⟨m, hm⟩ : ∃ m, recs.length = m := ⟨_, rfl⟩
  rw [hsn] at HOUT HOUTQ HOW2 hcv1 hcv2 HG3 HSBD ⊢
  rw [hm] at hrl hql HSBD ⊢
  have hsb1 := HSBD.out.1
  have hsb2 := HSBD.out.2.1
  have HRLN := hidden HSBD.out.2.2
  have HSN := hidden hsn
  have HOWT : Hid (∀ g, OW sa sn r g → Tg w2 g 5) := by
    rintro g (⟨z, hz, hp, rfl⟩ | ⟨y, hy, hg⟩)
    · exact HOUT.out.tg z hz hp
    · exact owns_tg (HOUT.out.rx y hy).2 g hg
  have HRL := hidden hrl
  have HQL := hidden hql
  clear hsn hm hrl hql HLO HMO HOUT1 HOW HOWG HRVG HTB HSBD
  go_wp2_with fail
  go_loopw [2, 11] (fun v2 v11 wr => v2 = .bool false ∧ ∃ i : Nat, i ≤ m ∧ v11 = .int .i64 (i : Int) ∧ Below w2.heap.size w2 wr) (fun v2 v11 _ => m - (intOf v11).toNat)
  case atStart => exact ⟨rfl, 0, Nat.zero_le _, rfl, Below.refl _ _⟩
  case round =>
    obtain ⟨rfl, i, hi, rfl, hbel⟩ := hrel
    have HL : Hid (Lat w2 wr) := hbel
    clear hbel
    by_cases hlt : i < m
    · have hlt' : (i : Int) < (m : Int) := by omega
      obtain ⟨y, hy⟩ : ∃ y, r[i]? = some y := ⟨_, List.getElem?_eq_getElem (by have := HRL.out; omega)⟩
      obtain ⟨y2, hy2⟩ : ∃ y2, r2[i]? = some y2 := ⟨_, List.getElem?_eq_getElem (by have := HQL.out; omega)⟩
      obtain ⟨⟨a1, c1, hv1⟩, ho1⟩ := HOUT.out.rx y (List.mem_of_getElem? hy)
      obtain ⟨⟨a2, c2, hv2⟩, ho2⟩ := HOUTQ.out.rx y2 (List.mem_of_getElem? hy2)
      have hyy : y.2.2 = y2.2.2 := by
        have q1 : recs[i]? = some y.2.2 := by rw [HOUT.out.eq, List.getElem?_map, hy]; rfl
        have q2 : recs[i]? = some y2.2.2 := by rw [HOUTQ.out.eq, List.getElem?_map, hy2]; rfl
        rw [q1] at q2
        exact Option.some.inj q2
      have hbb : Byte y.2.2 := HRB.out _ (by rw [HOUT.out.eq]; exact List.mem_map.2 ⟨y, List.mem_of_getElem? hy, rfl⟩)
      obtain ⟨ga, hga⟩ := owns_addr (by have q := HOUT.out.rr; rw [← HRL.out] at q; exact q) (by omega : 0 < m)
      obtain ⟨gb, hgb⟩ := owns_addr (by have q := HOUTQ.out.rr; rw [← HQL.out] at q; exact q) (by omega : 0 < m)
      have z1 : w2.cell? ⟨ga, i, none⟩ = some (.slice a1 y.2.2.length c1) := by
        have q := HOUT.out.rr
        rw [hga] at q
        exact owns_cell q i _ (by rw [List.getElem?_map, hy]; simp [hv1])
      have z2 : w2.cell? ⟨gb, i, none⟩ = some (.slice a2 y2.2.2.length c2) := by
        have q := HOUTQ.out.rr
        rw [hgb] at q
        exact owns_cell q i _ (by rw [List.getElem?_map, hy2]; simp [hv2])
      rw [hv1] at ho1
      rw [hv2] at ho2
      have cg : ∀ {w3 : World}, Lat wr w3 → Chg (fun _ => False) w2 w3 := fun h => Chg.of_below (Lat.trans _ _ _ HL.out h)
      go_wp2_with fail
      refine opens_r8 ga gb m rc qc i y.2.2.length c1 y2.2.2.length c2 a1 a2 (strOfNums y.2.2) wr _ _ (by rfl) (by show Value.slice ra m rc = _; rw [hga]) (by show Value.slice qa m qc = _; rw [hgb]) (by rfl) hlt (fun w3 hL => (cg hL).cellS z1 (fun h => h)) (fun w3 hL => (cg hL).cellS z2 (fun h => h)) (fun w3 hL => convS (sl_of_owns ((cg hL).owns ho1 (fun _ _ h => h)) hbb)) (fun w3 hL => by rw [hyy]; exact convS (sl_of_owns ((cg hL).owns ho2 (fun _ _ h => h)) (hyy ▸ hbb))) ?_
      intros
      rename_i w3 hL3
      simp only [Act.put, List.setIfInBounds_toArray, List.set_cons_succ, List.set_cons_zero]
      have HL3 := hidden (Lat.trans _ _ _ HL.out hL3)
      clear z1 z2 ho1 ho2 hv1 hv2 hyy hbb hga hgb hy hy2 hL3
      go_wp2_with fail
      exact ⟨⟨rfl, i + 1, by omega, by simp, HL3.out⟩, by simp [intOf]; omega⟩
    · have hlt' : ¬ (i : Int) < (m : Int) := by omega
      rename World => wa
      go_wp2_with fail
      go_loopw [12] (fun v12 wr => ∃ i : Nat, i ≤ sn ∧ v12 = .int .i64 (i : Int) ∧ Chg (fun g => ∃ z, sa = some z ∧ 0 < sn ∧ z.block = g) w2 wr ∧ Wrt wr sa sn) (fun v12 _ => sn - (intOf v12).toNat)
      case atStart => exact ⟨0, Nat.zero_le _, rfl, Chg.of_below HL.out, HOUT.out.sw.chg (Chg.of_below (F := fun _ => False) HL.out) (fun _ _ _ h => h)⟩
      case round =>
        obtain ⟨k, hk, rfl, hch, hwr⟩ := hrel
        have HCH := hidden hch
        have HWR := hidden hwr
        clear hch hwr
        by_cases hks : k < sn
        · obtain ⟨g, off, u, hsa, hcell, hfrz⟩ := HWR.out k hks
          subst hsa
          have hks' : (k : Int) < (sn : Int) := by omega
          go_wp2_with fail
          refine ⟨⟨k + 1, by omega, by simp, HCH.out.trans (Chg.set _ _ _) (fun i _ h => ⟨_, rfl, by omega, h.symm⟩), HWR.out.set _ _ _⟩, by simp [intOf]; omega⟩
        · have hks' : ¬ (k : Int) < (sn : Int) := by omega
          rename World => wb
          go_wp2_with fail
          go_loopw [2, 13, 14] (fun v2 v13 v14 wr => v2 = .bool false ∧ ∃ i : Nat, i ≤ m ∧ v13 = .int .i64 (i : Int) ∧ Chg (OW sa sn r) w2 wr ∧ ∀ j y, i ≤ j → r[j]? = some y → RowX 0 wr y) (fun v2 v13 v14 _ => m - (intOf v13).toNat)
          case atStart =>
            refine ⟨rfl, 0, Nat.zero_le _, rfl, HCH.out.mono (fun i _ h => .inl h), fun j y _ hy => (HOUT.out.rx y (List.mem_of_getElem? hy)).chg HCH.out ?_⟩
            rintro g hg ⟨z, hz, hp, rfl⟩
            exact HOUT.out.sap y (List.mem_of_getElem? hy) z hz hp hg
          case round =>
            obtain ⟨rfl, i, hi, rfl, hch, hrw⟩ := hrel
            have HC3 := hidden hch
            have HRW := hidden hrw
            clear hch hrw
            by_cases hlt : i < m
            · have hlt' : (i : Int) < (m : Int) := by omega
              obtain ⟨y, hy⟩ : ∃ y, r[i]? = some y := ⟨_, List.getElem?_eq_getElem (by have := HRL.out; omega)⟩
              obtain ⟨y2, hy2⟩ : ∃ y2, r2[i]? = some y2 := ⟨_, List.getElem?_eq_getElem (by have := HQL.out; omega)⟩
              obtain ⟨⟨a1, c1, hv1⟩, ho1⟩ := HRW.out i y (Nat.le_refl _) hy
              have HY := hidden hy
              have HV1 := hidden hv1
              obtain ⟨⟨a2, c2, hv2⟩, ho2⟩ := (HOUTQ.out.rx y2 (List.mem_of_getElem? hy2)).chg HC3.out (fun g hg k => by
                have q1 := HG1.out y2 (List.mem_of_getElem? hy2) g hg
                have q2 := (HOW2.out g k).2.1
                omega)
              have hyy : y.2.2 = y2.2.2 := by
                have q1 : recs[i]? = some y.2.2 := by rw [HOUT.out.eq, List.getElem?_map, hy]; rfl
                have q2 : recs[i]? = some y2.2.2 := by rw [HOUTQ.out.eq, List.getElem?_map, hy2]; rfl
                rw [q1] at q2
                exact Option.some.inj q2
              have hbb : Byte y.2.2 := HRB.out _ (by rw [HOUT.out.eq]; exact List.mem_map.2 ⟨y, List.mem_of_getElem? hy, rfl⟩)
              obtain ⟨ga, hga⟩ := owns_addr (by have q := HOUT.out.rr; rw [← HRL.out] at q; exact q) (by omega : 0 < m)
              obtain ⟨gb, hgb⟩ := owns_addr (by have q := HOUTQ.out.rr; rw [← HQL.out] at q; exact q) (by omega : 0 < m)
              subst hga hgb
              have HTA : Hid (Tg w2 ga 28) := owns_tg HOUT.out.rr ga rfl
              have HNA : Hid (¬ OW sa sn r ga) := fun k => absurd ((HOWT.out ga k).one HTA.out) (by decide)
              have z1 : wr.cell? ⟨ga, i, none⟩ = some (.slice a1 y.2.2.length c1) := by
                have q := HC3.out.owns HOUT.out.rr (fun g hg k => by cases hg; exact HNA.out k)
                exact owns_cell q i _ (by rw [List.getElem?_map, hy]; simp [hv1])
              have z2 : wr.cell? ⟨gb, i, none⟩ = some (.slice a2 y2.2.2.length c2) := by
                have q := HC3.out.owns HOUTQ.out.rr (fun g hg k => by
                  have q1 := HG2.out g hg
                  have q2 := (HOW2.out g k).2.1
                  omega)
                exact owns_cell q i _ (by rw [List.getElem?_map, hy2]; simp [hv2])
              rw [hv1] at ho1
              rw [hv2] at ho2
              have cg : ∀ {w3 : World}, Lat wr w3 → Chg (fun _ => False) wr w3 := fun h => Chg.of_below h
              go_wp2_with fail
              refine opens_r17 ga gb m rc qc i y.2.2.length c1 y2.2.2.length c2 a1 a2 (strOfNums y.2.2) wr _ _ (by rfl) (by rfl) (by rfl) (by rfl) hlt (fun w3 hL => (cg hL).cellS z1 (fun h => h)) (fun w3 hL => (cg hL).cellS z2 (fun h => h)) (fun w3 hL => convS (sl_of_owns ((cg hL).owns ho1 (fun _ _ h => h)) hbb)) (fun w3 hL => by rw [hyy]; exact convS (sl_of_owns ((cg hL).owns ho2 (fun _ _ h => h)) (hyy ▸ hbb))) ?_
              intros
              rename_i w3 hL3
              simp only [Act.put, List.setIfInBounds_toArray, List.set_cons_succ, List.set_cons_zero]
              have HL3 := hidden hL3
              have HWR3 := hidden (Wrt.row ((cg hL3).owns ho1 (fun _ _ h => h)))
              have hq1 : Tg wr ga 28 := owns_tg (HC3.out.owns HOUT.out.rr (fun g hg k => by cases hg; exact HNA.out k)) ga rfl
              have HYT : Hid (y.2.1.ownBlock ≠ some ga) := fun k => absurd ((owns_tg ho1 ga (by rw [← hv1]; exact k)).one hq1) (by decide)
              have HZ : Hid (∀ w', Chg (fun g => y.2.1.ownBlock = some g) w3 w' → w'.cell? ⟨ga, i, none⟩ = some (.slice a1 y.2.2.length c1)) := fun w' h => h.cellS ((cg hL3).cellS z1 (fun h => h)) HYT.out
              have HLN : Hid (y.2.2.length ≤ 16777216) := HRLN.out _ (by rw [HOUT.out.eq]; exact List.mem_map.2 ⟨y, List.mem_of_getElem? HY.out, rfl⟩)
              obtain ⟨n1, hn1⟩ : ∃ n1, y.2.2.length = n1 := ⟨_, rfl⟩
              rw [hn1] at HWR3 HZ HV1 HLN
              have hnb := HLN.out
              clear z1 z2 ho1 ho2 hv1 hv2 hyy hbb hy hy2 hL3 cg hq1 hn1
              go_wp2_with fail
              go_loopw [14] (fun v14 wr' => ∃ k : Nat, k ≤ n1 ∧ v14 = .int .i64 (k : Int) ∧ Chg (fun g => y.2.1.ownBlock = some g) w3 wr' ∧ Wrt wr' a1 n1) (fun v14 _ => n1 - (intOf v14).toNat)
              case atStart => exact ⟨0, Nat.zero_le _, rfl, Chg.refl _ _, HWR3.out⟩
              case round =>
                obtain ⟨k, hk, rfl, hch, hwr⟩ := hrel
                rename World => wc
                have HCH4 := hidden hch
                have HWR4 := hidden hwr
                clear hch hwr
                have z1 := HZ.out _ HCH4.out
                by_cases hkn : k < n1
                · obtain ⟨g, off, u, hsa, hcell, hfrz⟩ := HWR4.out k hkn
                  have hkn' : (k : Int) < (n1 : Int) := by omega
                  subst hsa
                  go_wp2_with fail
                  exact ⟨⟨k + 1, by omega, by simp, HCH4.out.trans (Chg.set _ _ _) (fun i _ h => by rw [HV1.out, h]; rfl), HWR4.out.set _ _ _⟩, by simp [intOf]; omega⟩
                · have hkn' : ¬ (k : Int) < (n1 : Int) := by omega
                  go_wp2_with fail
                  refine ⟨⟨rfl, i + 1, by omega, by simp, (HC3.out.trans (Chg.of_below (F := fun _ => False) HL3.out) (fun _ _ h => h.elim)).trans HCH4.out (fun g _ h => .inr ⟨y, List.mem_of_getElem? HY.out, h⟩), fun j y' hj hy' => ?_⟩, by simp [intOf]; omega⟩
                  refine ((HRW.out j y' (by omega) hy').chg (Chg.of_below (F := fun _ => False) HL3.out) (fun _ _ h => h)).chg HCH4.out (fun g hg k => ?_)
                  exact List.pairwise_iff_getElem.1 HOUT.out.ap i j (List.getElem?_eq_some_iff.1 HY.out).1 (List.getElem?_eq_some_iff.1 hy').1 (by omega) g (by rw [(List.getElem?_eq_some_iff.1 HY.out).2]; exact k) (by rw [(List.getElem?_eq_some_iff.1 hy').2]; exact hg)
            · have hlt' : ¬ (i : Int) < (m : Int) := by omega
              have HB3 := hidden (HC3.out.blk HB2.out (fun k => (HOW2.out _ k).2.2.2.2 rfl))
              have b1 : wr.cell? ⟨wp, 1, none⟩ = some lv := HB3.out.cell 1
              have b3 : wr.cell? ⟨wp, 3, none⟩ = some mv := HB3.out.cell 3
              have f1 := HB3.out.frozen 1
              have f3 := HB3.out.frozen 3
              go_wp2_with fail
              go_ret
              have HB4 := (HB3.out.set 1 (.pointer lo)).set 3 (.pointer mo)
              have hcF : Chg (fun i => OW sa sn r i ∨ i = wp) w2 ((wr.setCell ⟨wp, 1, none⟩ (.pointer lo)).setCell ⟨wp, 3, none⟩ (.pointer mo)) :=
                ((HC3.out.mono (fun i _ h => .inl h)).trans (Chg.set _ _ _) (fun i _ h => .inr h)).trans (Chg.set _ _ _) (fun i _ h => .inr h)
              have nf1 : ¬ F1 wp := fun k => by
                rcases HN1.out _ k with f | f
                · exact H.out.nf.1 f
                · have := H.out.b.lt; omega
              have nf2 : ¬ G2 wp := fun k => by
                rcases HN2.out _ k with f | f
                · exact H.out.nf.2 f
                · have := HB1.out.lt; omega
              have hLL : ∃ ll, LL w.heap.size ((wr.setCell ⟨wp, 1, none⟩ (.pointer lo)).setCell ⟨wp, 3, none⟩ (.pointer mo)) p x ll lo mo := by
                rcases HLGR.out with ⟨e1, er, he⟩ | ⟨f, lp, he, e1, hlg, hlp, hfn⟩
                · rcases HLGQ.out with ⟨e2, _⟩ | ⟨f, mp, sv, he2, _⟩
                  · exact ⟨none, e1, e2⟩
                  · rw [he] at he2; cases he2
                · rcases HLGQ.out with ⟨_, er, he2⟩ | ⟨f2, mp, sv, he2, e2, hlq, hmp⟩
                  · rw [he] at he2; cases he2
                  · rw [he] at he2
                    obtain rfl := Except.ok.inj he2
                    have hlg2 : Lg 73 w2 lp p ⟨S.falls, f.live, f.h⟩ := hlg.chg HC2.out (fun k => by have := HGL.out _ k; omega)
                    have t1 : Tg w2 lp 73 := Blk.tg hlg2
                    have t2 : Tg w2 mp 91 := Blk.tg hlq
                    have t3 : Tg w2 wp 52 := Blk.tg HB2.out
                    refine ⟨some (lp, mp, ⟨S.falls, f.live, f.h⟩), e1, e2, hlg2.chg hcF ?_, ⟨sv, hlq.chg hcF ?_⟩, hfn, hlp, Nat.le_trans HC1.out.size hmp⟩
                    · rintro (k | k)
                      · exact absurd ((HOWT.out _ k).one t1) (by decide)
                      · subst k; exact absurd (t1.one t3) (by decide)
                    · rintro (k | k)
                      · exact absurd ((HOWT.out _ k).one t2) (by decide)
                      · subst k; exact absurd (t2.one t3) (by decide)
              obtain ⟨ll, hll⟩ := hLL
              refine ⟨rfl, F1, G2, lo, mo, ⟨HB4, HD2.out.chg hcF (fun i hi k => ?_), HK2.out.chg hcF (fun i hi k => ?_), HAP2.out⟩, ⟨ll, hll⟩, ?_, HN1.out, HN2.out.up HC1.out.size⟩
              · rcases k with k | rfl
                · exact (HOW2.out i k).2.2.1 hi
                · exact nf1 hi
              · rcases k with k | rfl
                · exact (HOW2.out i k).2.2.2.1 hi
                · exact nf2 hi
              · refine ((HC1.out.mono (fun i _ h => .inl h)).trans HC2.out (fun i _ h => .inr (.inl h))).trans hcF (fun i hi h => ?_)
                rcases h with h | rfl
                · have := (HOW2.out i h).1
                  omega
                · exact .inr (.inr rfl)

end Go.Proofs.YtnfjhdedcnbdbaaGreat

/-
  WalPlays: looks; how long files grow.
-/
namespace Go.Proofs.YtnfjhdedcnbdbaaGreat
open Go.RowKit
set_option linter.unusedVariables false
set_option linter.unusedSimpArgs false

theorem LL.lat {B : Nat} {A A' : World} {p x : Nat} {ll : Option (Nat × Nat × Lw)} {lo mo : Option Addr} (h : LL B A p x ll lo mo) (hb : Lat A A') : LL B A' p x ll lo mo := by
  match ll, h with
  | none, h => exact h
  | some (lp, mp, l), ⟨h1, h2, h3, ⟨sv, h4⟩, h5⟩ => exact ⟨h1, h2, h3.lat hb, ⟨sv, h4.lat hb⟩, h5⟩

set_option maxRecDepth 100000 in
theorem looksP (B wp p x : Nat) (F G : Nat → Prop) (S : St) (lo mo : Option Addr) (ll : Option (Nat × Nat × Lw)) (n : Int) (w : World) (h : WW w wp p x F G S (.pointer lo) (.pointer mo)) (hl : LL B w p x ll lo mo) (hn : n ≤ 9223372036854775807) :
    Calls Tryz.prog 36 #[.pointer (some ⟨wp, 0, none⟩), .int .i64 n] w fun e w' => e = .returned (.bool true) ∧ Lat w w' := by
  have c1 : w.cell? ⟨wp, 1, none⟩ = some (.pointer lo) := h.b.cell 1
  have c3 : w.cell? ⟨wp, 3, none⟩ = some (.pointer mo) := h.b.cell 3
  have H := hidden h
  clear h
  match ll, hl with
  | none, hl =>
    obtain ⟨rfl, rfl⟩ := hl
    go_enter Tryz.func36, Tryz.ntmps36
    go_wp2_with fail
    go_ret
    exact ⟨rfl, Lat.refl _⟩
  | some (lp, mp, l), hl =>
    obtain ⟨rfl, rfl, h3, ⟨sv, h4⟩, h5, _⟩ := hl
    have H3 := hidden h3
    have H4 := hidden h4
    clear h3 h4 h5
    go_enter Tryz.func36, Tryz.ntmps36
    go_wp2_with fail
    refine looks_r3 wp lp mp n (S.bytes l) l.h.cap l.h.slots l.h.g (weight n) (S.fits l n) w _ _ (by rfl) (by rfl) (by rfl) (fun w1 hL => (H.out.lat hL).b.cell 1) (fun w1 hL => (H.out.lat hL).b.cell 3)
      (fun w1 hL => bytesP lp p F S l w1 (H.out.lat hL).d (H3.out.lat hL)) (fun w1 hL => rbytesP mp x G S l sv w1 (H.out.lat hL).r (H4.out.lat hL))
      (fun w1 hL => (capP lp p l w1 (H3.out.lat hL)).mono (fun e w2 h => ⟨h.1, by rw [h.2]; exact Lat.refl _⟩)) (fun w1 hL => (rcapP mp x l sv w1 (H4.out.lat hL)).mono (fun e w2 h => ⟨h.1, by rw [h.2]; exact Lat.refl _⟩))
      (fun w1 hL => (slotsP lp p l w1 (H3.out.lat hL)).mono (fun e w2 h => ⟨h.1, by rw [h.2]; exact Lat.refl _⟩)) (fun w1 hL => (rslotsP mp x l sv w1 (H4.out.lat hL)).mono (fun e w2 h => ⟨h.1, by rw [h.2]; exact Lat.refl _⟩))
      (fun w1 hL => (generationP lp p l w1 (H3.out.lat hL)).mono (fun e w2 h => ⟨h.1, by rw [h.2]; exact Lat.refl _⟩)) (fun w1 hL => (rgenerationP mp x l sv w1 (H4.out.lat hL)).mono (fun e w2 h => ⟨h.1, by rw [h.2]; exact Lat.refl _⟩))
      (fun w1 hL => fitsP lp p F S l n w1 (H.out.lat hL).d (H3.out.lat hL) hn) (fun w1 hL => rfitsP mp x G S l sv n w1 (H.out.lat hL).r (H4.out.lat hL) hn)
      (fun w1 hL => (weightP n w1 hn).mono (fun e w2 h => ⟨h.1, by rw [h.2]; exact Lat.refl _⟩)) (fun w1 hL => (rweightP n w1 hn).mono (fun e w2 h => ⟨h.1, by rw [h.2]; exact Lat.refl _⟩)) ?_
    intros
    rename_i w2 hL
    simp only [Act.put, List.setIfInBounds_toArray, List.set_cons_succ, List.set_cons_zero]
    go_wp2_with fail
    go_ret
    exact ⟨rfl, hL⟩

/-- No file is longer. -/
def FB (n : Nat) (S : St) : Prop := ∀ x ∈ S.L, x.b.length ≤ n
theorem FB.file {n : Nat} {S : St} (h : FB n S) (i : Nat) : (S.file i).length ≤ n := by
  unfold St.file
  cases hx : S.L[i]? with
  | none => exact Nat.zero_le _
  | some x => exact h x (List.mem_of_getElem? hx)
theorem FB.up {n m : Nat} {S : St} (h : FB n S) (hm : n ≤ m) : FB m S := fun x hx => Nat.le_trans (h x hx) hm
theorem FB.fail {n : Nat} {S : St} (h : FB n S) (K : List Int) : FB n (S.fail K) := by
  have key : ∀ (L : List Fl) (K : List Int), (∀ x ∈ L, x.b.length ≤ n) → ∀ x ∈ loseAll L K, x.b.length ≤ n := by
    intro L
    induction L with
    | nil => intro K _ x hx; simp [loseAll] at hx
    | cons y l ih =>
      intro K hL x hx
      cases K with
      | nil =>
        simp only [loseAll, List.mem_cons] at hx
        rcases hx with rfl | hx
        · exact Nat.le_trans (by simp [Fl.lose]; omega) (hL y (by simp))
        · exact ih [] (fun z hz => hL z (by simp [hz])) x hx
      | cons k ks =>
        simp only [loseAll, List.mem_cons] at hx
        rcases hx with rfl | hx
        · exact Nat.le_trans (by simp [Fl.lose]; omega) (hL y (by simp))
        · exact ih ks (fun z hz => hL z (by simp [hz])) x hx
  exact key S.L K h
theorem FB.op {n : Nat} {S : St} (h : FB n S) : FB n S.op.2 := by
  unfold St.op
  split
  · exact h
  · exact h.fail _
  · exact h
theorem FB.set {n : Nat} {S : St} (h : FB n S) (i : Nat) (x : Fl) (hx : x.b.length ≤ n) (on : Bool) (fl : Nat) (fu : Option (Nat × List Int)) : FB n ⟨S.L.set i x, on, fl, fu⟩ := by
  intro y hy
  rcases List.mem_or_eq_of_mem_set hy with h1 | rfl
  · exact h y h1
  · exact hx
theorem FB.append {n : Nat} {S : St} (h : FB n S) (f : Int) (b : List Int) : FB (n + b.length) (S.append f b).2 := by
  have h' := h.up (Nat.le_add_right n b.length)
  unfold St.append
  split
  · exact h'
  · split
    · exact h'
    · rename_i x hx
      split
      · exact h'
      · refine FB.op (h'.set _ _ ?_ _ _ _)
        have := h x (List.mem_of_getElem? hx)
        simp only [List.length_append]
        omega
theorem FB.sync {n : Nat} {S : St} (h : FB n S) (f : Int) : FB n (S.sync f).2 := by
  unfold St.sync
  split
  · exact h
  · split
    · exact h.op
    · split
      · exact h
      · rename_i x hx
        exact (h.op).set _ ⟨x.b, x.b.length⟩ (h.op x (List.mem_of_getElem? hx)) _ _ _
theorem FB.truncate {n : Nat} {S : St} (h : FB n S) (f m : Int) : FB n (S.truncate f m).2 := by
  unfold St.truncate
  split
  · exact h
  · split
    · exact h
    · rename_i x hx
      split
      · exact h
      · split
        · exact h.op
        · refine (h.op).set _ _ ?_ _ _ _
          have := h x (List.mem_of_getElem? hx)
          simp only [List.length_take]
          omega
theorem FB.put {n : Nat} {S : St} (h : FB n S) (f k : Int) (l : List Int) : FB (n + (l.length + 9)) (S.put f k l).2 := by
  have h1 := h.append f (made k l)
  rw [made_length] at h1
  unfold St.put
  split
  · exact h1
  · exact h1.sync f
theorem FB.format {n : Nat} {S : St} (h : FB n S) (cap slots : Int) (s : List Int) : FB (n + (s.length + 33)) (S.format cap slots s).2 := by
  have hu : ∀ {S : St}, FB n S → FB (n + (s.length + 33)) S := fun k => k.up (Nat.le_add_right _ _)
  unfold St.format
  split
  · exact hu h
  · split
    · exact hu h
    · split
      · exact hu (h.truncate _ _)
      · split
        · exact hu ((h.truncate _ _).truncate _ _)
        · refine (((h.truncate _ _).truncate _ _).put _ _ _).up ?_
          rw [hdata_length]
          omega
theorem FB.wappend {n : Nat} {S : St} (h : FB n S) (l : Lw) (r : List Int) : FB (n + (r.length + 9)) (S.wappend l r).2 := by
  have hu : FB (n + (r.length + 9)) S := h.up (Nat.le_add_right _ _)
  unfold St.wappend
  split
  · exact hu
  · split
    · exact hu
    · exact h.put _ _ _
theorem FB.wcheck {n : Nat} {S : St} (h : FB n S) (l : Lw) (s : List Int) : FB (n + (s.length + 33)) (S.wcheck l s).2.1 := by
  have hu : ∀ {S : St}, FB n S → FB (n + (s.length + 33)) S := fun k => k.up (Nat.le_add_right _ _)
  have h2 : FB (n + (s.length + 33)) (S.check2 l s).2 := by
    unfold St.check2 St.check1
    refine ((h.truncate _ _).put _ _ _).up ?_
    rw [hdata_length]
    omega
  unfold St.wcheck
  split
  · exact hu h
  · split
    · exact hu h
    · split
      · exact hu (h.truncate _ _)
      · split
        · exact h2
        · split
          · exact h2.truncate _ _
          · exact h2.truncate _ _
theorem FB.crash {n : Nat} {S : St} (h : FB n S) (K : List Int) : FB n (S.crash K) := by
  unfold St.crash
  split
  · exact h.fail K
  · exact h
theorem FB.setFuse {n : Nat} {S : St} (h : FB n S) (o : Int) (K : List Int) : FB n (S.setFuse o K).2 := by
  unfold St.setFuse
  split
  · exact h
  · split
    · exact h
    · exact h
theorem FB.opens {n : Nat} {S : St} (h : FB n S) : FB n S.opens.2 := by
  have h1 : ∀ live whole, FB n (S.cutLive live whole).2 := fun live whole => by
    unfold St.cutLive
    split
    · exact h.truncate _ _
    · exact h
  have h2 : ∀ live whole, FB n (S.cutRest live whole).2 := fun live whole => by
    unfold St.cutRest
    split
    · exact h1 _ _
    · unfold St.cutOther
      split
      · exact (h1 _ _).truncate _ _
      · exact h1 _ _
  unfold St.opens
  split
  · exact h
  · split <;> exact h2 _ _

theorem fl_op (S : St) : S.op.2.falls ≤ S.falls + 1 := by
  unfold St.op
  split
  · exact Nat.le_succ _
  · exact Nat.le_refl _
  · exact Nat.le_succ _
theorem fl_append (S : St) (f : Int) (b : List Int) : (S.append f b).2.falls ≤ S.falls + 1 := by
  unfold St.append
  split
  · exact Nat.le_succ _
  · split
    · exact Nat.le_succ _
    · split
      · exact Nat.le_succ _
      · exact fl_op _
theorem fl_sync (S : St) (f : Int) : (S.sync f).2.falls ≤ S.falls + 1 := by
  unfold St.sync
  split
  · exact Nat.le_succ _
  · split
    · exact fl_op _
    · split
      · exact Nat.le_succ _
      · exact fl_op S
theorem fl_truncate (S : St) (f m : Int) : (S.truncate f m).2.falls ≤ S.falls + 1 := by
  unfold St.truncate
  split
  · exact Nat.le_succ _
  · split
    · exact Nat.le_succ _
    · split
      · exact Nat.le_succ _
      · split
        · exact fl_op _
        · exact fl_op S
theorem fl_put (S : St) (f k : Int) (l : List Int) : (S.put f k l).2.falls ≤ S.falls + 2 := by
  have h1 := fl_append S f (made k l)
  have h2 := fl_sync (S.append f (made k l)).2 f
  unfold St.put
  split <;> omega
theorem fl_format (S : St) (cap slots : Int) (s : List Int) : (S.format cap slots s).2.falls ≤ S.falls + 4 := by
  have h1 := fl_truncate S 0 0
  have h2 := fl_truncate (S.truncate 0 0).2 1 0
  have h3 := fl_put ((S.truncate 0 0).2.truncate 1 0).2 0 1 (hdata ⟨1, cap.toNat, slots.toNat⟩ s)
  unfold St.format
  split
  · show S.falls ≤ _; omega
  · split
    · show S.falls ≤ _; omega
    · split
      · omega
      · split <;> omega
theorem fl_wappend (S : St) (l : Lw) (r : List Int) : (S.wappend l r).2.falls ≤ S.falls + 2 := by
  have h1 := fl_put S l.live 2 r
  unfold St.wappend
  split
  · show S.falls ≤ _; omega
  · split
    · show S.falls ≤ _; omega
    · exact h1
theorem fl_wcheck (S : St) (l : Lw) (s : List Int) : (S.wcheck l s).2.1.falls ≤ S.falls + 4 := by
  have h1 : (S.check1 l).2.falls ≤ S.falls + 1 := fl_truncate _ _ _
  have h2 : (S.check2 l s).2.falls ≤ (S.check1 l).2.falls + 2 := fl_put _ _ _ _
  have h3 : (S.check3 l s).2.falls ≤ (S.check2 l s).2.falls + 1 := fl_truncate _ _ _
  unfold St.wcheck
  split
  · show S.falls ≤ _; omega
  · split
    · show S.falls ≤ _; omega
    · split
      · show (S.check1 l).2.falls ≤ _; omega
      · split
        · show (S.check2 l s).2.falls ≤ _; omega
        · split <;> (show (S.check3 l s).2.falls ≤ _; omega)
theorem fl_opens (S : St) : S.opens.2.falls ≤ S.falls + 2 := by
  have h1 : ∀ live whole, (S.cutLive live whole).2.falls ≤ S.falls + 1 := fun live whole => by
    unfold St.cutLive
    split
    · exact fl_truncate _ _ _
    · exact Nat.le_succ _
  have h2 : ∀ live whole, (S.cutRest live whole).2.falls ≤ S.falls + 2 := fun live whole => by
    have q := h1 live whole
    unfold St.cutRest
    split
    · omega
    · unfold St.cutOther
      split
      · have := fl_truncate (S.cutLive live whole).2 (1 - live) 0
        omega
      · show (S.cutLive live whole).2.falls ≤ _; omega
  unfold St.opens
  split
  · exact Nat.le_add_right _ _
  · split <;> exact h2 _ _

end Go.Proofs.YtnfjhdedcnbdbaaGreat

/-
  A region that draws its order and holds two calls that change memory, the second behind the first; all else only reads. Nothing of the program.
-/
namespace Go.Proofs.YtnfjhdedcnbdbaaGreat
open Go.RowKit
set_option linter.unusedVariables false
set_option linter.unusedSimpArgs false

section
variable {P : Program} {ops : Array Oper} {Q : Exit → Act → World → Prop} {V : Nat → Value} {I0 I1 I2 : World → Prop} {qA qB : Nat} {a0 : Act}

/-- A step that only reads. -/
def ReadOk (P : Program) (ops : Array Oper) (V : Nat → Value) (I : World → Prop) (a0 : Act) (i : Nat) (o : Oper) : Prop :=
  ∀ (a : Act) (w : World), I w → Same ops a0 a → (∀ e ∈ o.after, Region.binds .any e = true → ∀ oj, ops[e.on]? = some oj → valAt a oj = V e.on) →
    Region.wanted o (yielded ops a.tmps) = true ∧ ∃ v, (execOp a.eval o).run P w = .ok (.value v) w ∧ told o a v = V i
/-- A call. -/
def CallOk (P : Program) (ops : Array Oper) (Q : Exit → Act → World → Prop) (V : Nat → Value) (I J : World → Prop) (a0 : Act) (i : Nat) (o : Oper) : Prop :=
  ∀ (a : Act) (w : World), I w → Same ops a0 a → (∀ e ∈ o.after, Region.binds .any e = true → ∀ oj, ops[e.on]? = some oj → valAt a oj = V e.on) →
    Region.wanted o (yielded ops a.tmps) = true ∧ o.wp P a w (fun a' w' => ∃ v, a' = a.put o.dst v ∧ J w' ∧ told o a v = V i) Q

theorem wpAny_pair (hap : placesOk ops = true) (hf : forward ops = true) (hsz : within ops a0.tmps.size = true) (hne : qA ≠ qB) (hAs : qA < ops.size) (hBs : qB < ops.size)
    (hwait : ∀ oB, ops[qB]? = some oB → ∃ e ∈ oB.after, Region.binds .any e = true ∧ e.on = qA)
    (hop : ∀ i o, ops[i]? = some o → i ≠ qA → i ≠ qB → ReadOk P ops V (fun w => I0 w ∨ I1 w ∨ I2 w) a0 i o)
    (hA : ∀ o, ops[qA]? = some o → CallOk P ops Q V I0 I1 a0 qA o) (hB : ∀ o, ops[qB]? = some o → CallOk P ops Q V I1 I2 a0 qB o)
    (hdone : ∀ a w, I2 w → Same ops a0 a → (∀ i o, ops[i]? = some o → valAt a o = V i) → Q .normal a w) :
    ∀ (fuel : Nat) (listed : Array Bool) (a : Act) (w : World), listed.size = ops.size → listed.toList.countP id + fuel = ops.size →
      ((listed.getD qB true = true → I2 w) ∧ (listed.getD qB true = false → listed.getD qA true = true → I1 w) ∧ (listed.getD qA true = false → I0 w)) → Same ops a0 a →
      (∀ i o, ops[i]? = some o → listed.getD i true = true → valAt a o = V i ∧ ∀ e ∈ o.after, Region.binds .any e = true → listed.getD e.on false = true) → wpAny P .any ops Q fuel listed a w := by
  intro fuel
  induction fuel with
  | zero =>
    intro listed a w hl hc hph hs hT
    have hall2 : ∀ i, i < ops.size → listed.getD i true = true := by
      intro i hi
      have := List.countP_eq_length.1 (show listed.toList.countP id = listed.toList.length by rw [Array.length_toList]; omega) listed[i] (by simp)
      rw [Array.getD_eq_getD_getElem?]
      simpa [show i < listed.size by omega] using this
    refine ⟨?_, hdone a w (hph.1 (hall2 qB hBs)) hs fun i o hi => (hT i o hi (hall2 i (Array.getElem?_eq_some_iff.1 hi).1)).1⟩
    cases hr : Region.ready .any ops listed with
    | nil => rfl
    | cons j t =>
      exfalso
      have hj : j ∈ Region.ready .any ops listed := by rw [hr]; simp
      rw [mem_ready] at hj
      obtain ⟨h0, o, ho, _⟩ := hj
      rw [hall2 j (Array.getElem?_eq_some_iff.1 ho).1] at h0
      cases h0
  | succ fuel ih =>
    intro listed a w hl hc hph hs hT
    refine ⟨fun hr => hdone a w (hph.1 (not_ready hf hl hr qB hBs)) hs fun i o hi => (hT i o hi (not_ready hf hl hr i (Array.getElem?_eq_some_iff.1 hi).1)).1, fun i hi => ?_⟩
    rw [mem_ready] at hi
    obtain ⟨h0, o, ho, hdeps⟩ := hi
    have hlt := (Array.getElem?_eq_some_iff.1 ho).1
    have hyes : ∀ k ok, ops[k]? = some ok → listed.getD k false = true → listed.getD k true = true := by
      intro k ok hk this
      have hlt2 := (Array.getElem?_eq_some_iff.1 hk).1
      rw [Array.getD_eq_getD_getElem?] at this ⊢
      have hb2 : k < listed.size := by omega
      simpa [hb2] using this
    have hany : I0 w ∨ I1 w ∨ I2 w := by
      cases hb : listed.getD qB true with
      | true => exact .inr (.inr (hph.1 hb))
      | false =>
        cases ha : listed.getD qA true with
        | true => exact .inr (.inl (hph.2.1 hb ha))
        | false => exact .inl (hph.2.2 ha)
    have hdv : ∀ e ∈ o.after, Region.binds .any e = true → ∀ oj, ops[e.on]? = some oj → valAt a oj = V e.on := fun e he hb oj hoj => (hT e.on oj hoj (hyes _ _ hoj (hdeps e he hb))).1
    have hkeep : ∀ j, i ≠ j → (listed.setIfInBounds i true).getD j true = listed.getD j true := by
      intro j hij
      rw [Array.getD_eq_getD_getElem?, Array.getElem?_setIfInBounds, if_neg hij, ← Array.getD_eq_getD_getElem?]
    have hself : (listed.setIfInBounds i true).getD i true = true := by
      rw [Array.getD_eq_getD_getElem?, Array.getElem?_setIfInBounds]
      simp [show i < listed.size by omega]
    have next : ∀ v w', told o a v = V i → (((listed.setIfInBounds i true).getD qB true = true → I2 w') ∧ ((listed.setIfInBounds i true).getD qB true = false → (listed.setIfInBounds i true).getD qA true = true → I1 w') ∧ ((listed.setIfInBounds i true).getD qA true = false → I0 w')) → wpAny P .any ops Q fuel (listed.setIfInBounds i true) (a.put o.dst v) w' := by
      intro v w' hv hph2
      have hback : ∀ j, i ≠ j → (listed.setIfInBounds i true).getD j true = true → listed.getD j true = true := fun j hij hjl => by rw [hkeep j hij] at hjl; exact hjl
      have hon : ∀ k, listed.getD k false = true → (listed.setIfInBounds i true).getD k false = true := by
        intro k hk
        rw [Array.getD_eq_getD_getElem?] at hk ⊢
        rw [Array.getElem?_setIfInBounds]
        by_cases hik : i = k
        · simp [hik, show k < listed.size by omega]
        · rw [if_neg hik]; exact hk
      have hval : ∀ j oj, ops[j]? = some oj → i ≠ j → listed.getD j true = true → valAt (a.put o.dst v) oj = valAt a oj := by
        intro j oj hj hij hjl
        refine valAt_put hj ho (fun d hd hp => ?_)
        obtain ⟨e, he, hb, hon2⟩ := placesOk_spec hap hj ho (fun h => hij h.symm) hd hp
        have := (hT j oj hj hjl).2 e he hb
        rw [hon2] at this
        have h3 := hyes i o ho this
        rw [h3] at h0
        cases h0
      refine ih _ _ _ (by rw [Array.size_setIfInBounds]; exact hl) ?_ hph2 (same_put ho hs) ?_
      · rw [Array.toList_setIfInBounds, List.countP_set (by rw [Array.length_toList]; omega)]
        have hf0 : listed.toList[i]'(by rw [Array.length_toList]; omega) = false := by
          rw [Array.getD_eq_getD_getElem?] at h0
          simpa [show i < listed.size by omega] using h0
        rw [hf0]
        show listed.toList.countP id - 0 + 1 + fuel = ops.size
        omega
      · intro j oj hj hjl
        by_cases hij : i = j
        · subst hij
          rw [ho] at hj
          obtain rfl := Option.some.inj hj
          rw [valAt_put_same (by rw [hs.size]; exact hsz) ho]
          exact ⟨hv, fun e he hb => hon _ (hdeps e he hb)⟩
        · have hjl2 := hback j hij hjl
          rw [hval j oj hj hij hjl2]
          obtain ⟨q1, q3⟩ := hT j oj hj hjl2
          exact ⟨q1, fun e he hb => hon _ (q3 e he hb)⟩
    by_cases hiA : i = qA
    · subst hiA
      have hBl : listed.getD qB true = false := by
        cases hb : listed.getD qB true with
        | false => rfl
        | true =>
          exfalso
          obtain ⟨oB, hoB⟩ : ∃ oB, ops[qB]? = some oB := ⟨_, Array.getElem?_eq_getElem hBs⟩
          obtain ⟨e, he, hb2, hon2⟩ := hwait oB hoB
          have h3 := (hT qB oB hoB hb).2 e he hb2
          rw [hon2] at h3
          rw [hyes i o ho h3] at h0
          cases h0
      obtain ⟨hwant, step⟩ := hA o ho a w (hph.2.2 h0) hs hdv
      unfold wpOp
      simp only [ho]
      rw [if_pos hwant]
      left
      refine Oper.wp_mono (fun a' w' h' => ?_) step
      obtain ⟨v, rfl, h1, h2⟩ := h'
      refine next v w' h2 ⟨fun h => ?_, fun _ _ => h1, fun h => ?_⟩
      · rw [hkeep qB hne, hBl] at h; cases h
      · rw [hself] at h; cases h
    · by_cases hiB : i = qB
      · subst hiB
        have hAl : listed.getD qA true = true := by
          obtain ⟨e, he, hb2, hon2⟩ := hwait o ho
          have h3 := hdeps e he hb2
          rw [hon2] at h3
          exact hyes qA _ (Array.getElem?_eq_getElem hAs) h3
        obtain ⟨hwant, step⟩ := hB o ho a w (hph.2.1 h0 hAl) hs hdv
        unfold wpOp
        simp only [ho]
        rw [if_pos hwant]
        left
        refine Oper.wp_mono (fun a' w' h' => ?_) step
        obtain ⟨v, rfl, h1, h2⟩ := h'
        refine next v w' h2 ⟨fun _ => h1, fun h => ?_, fun h => ?_⟩
        · rw [hself] at h; cases h
        · rw [hkeep qA hiA, hAl] at h; cases h
      · obtain ⟨hwant, v, hr, hv⟩ := hop i o ho hiA hiB a w hany hs hdv
        unfold wpOp
        simp only [ho]
        rw [if_pos hwant]
        left
        unfold Oper.wp
        rw [hr]
        refine next v w hv ?_
        rw [hkeep qB hiB, hkeep qA hiA]
        exact hph

theorem wp_region_pair (V : Nat → Value) (I0 I1 I2 : World → Prop) (qA qB : Nat) {id : Nat} {a : Act} {w : World} (hm : P.follows .mixedOrders = true)
    (hap : placesOk ops = true) (hf : forward ops = true) (hsz : within ops a.tmps.size = true) (hne : qA ≠ qB) (hAs : qA < ops.size) (hBs : qB < ops.size)
    (hwait : ∀ oB, ops[qB]? = some oB → ∃ e ∈ oB.after, Region.binds .any e = true ∧ e.on = qA)
    (h0 : I0 { w with drawn := w.drawn + 1 })
    (hop : ∀ i o, ops[i]? = some o → i ≠ qA → i ≠ qB → ReadOk P ops V (fun w => I0 w ∨ I1 w ∨ I2 w) a i o)
    (hA : ∀ o, ops[qA]? = some o → CallOk P ops Q V I0 I1 a qA o) (hB : ∀ o, ops[qB]? = some o → CallOk P ops Q V I1 I2 a qB o)
    (hdone : ∀ a' w', I2 w' → Same ops a a' → (∀ i o, ops[i]? = some o → valAt a' o = V i) → Q .normal a' w') : (Code.region id ops true).wp P Q a w :=
  wp_region_any hm (wpAny_pair (a0 := a) hap hf hsz hne hAs hBs hwait hop hA hB hdone ops.size (Array.replicate ops.size false) a _ (by simp) (by simp)
    ⟨fun h => by rw [Array.getD_eq_getD_getElem?] at h; simp [hBs] at h, fun _ h => by rw [Array.getD_eq_getD_getElem?] at h; simp [hAs] at h, fun _ => h0⟩ ⟨rfl, rfl, fun _ _ => rfl⟩ (fun i o hi hl => by
    have := (Array.getElem?_eq_some_iff.1 hi).1
    rw [Array.getD_eq_getD_getElem?] at hl
    simp [this] at hl))
end

end Go.Proofs.YtnfjhdedcnbdbaaGreat

/-
  WalPlays: the regions of a step that call both.
-/
namespace Go.Proofs.YtnfjhdedcnbdbaaGreat
open Go.RowKit
set_option linter.unusedVariables false
set_option linter.unusedSimpArgs false

set_option maxRecDepth 100000 in
set_option maxHeartbeats 2000000 in
theorem step_r8 (wp ob p x gb len lc cs : Nat) (sa : Option Addr) (nn mm ev : Int) (I0 I1 I2 : World → Prop) (w : World) (a0 : Act) (Q : Exit → Act → World → Prop) (hsz : a0.tmps.size = 198)
    (s0 : a0.tmps.getD 0 undef = .pointer (some ⟨wp, 0, none⟩))
    (s3 : a0.tmps.getD 3 undef = .pointer (some ⟨ob, 0, none⟩))
    (s5 : a0.tmps.getD 5 undef = .slice sa len cs)
    (s6 : a0.tmps.getD 6 undef = .slice (some ⟨gb, 0, none⟩) len lc)
    (c0 : ∀ w1, I0 w1 ∨ I1 w1 ∨ I2 w1 → w1.cell? ⟨wp, 0, none⟩ = some (.pointer (some ⟨p, 0, none⟩)))
    (c2 : ∀ w1, I0 w1 ∨ I1 w1 ∨ I2 w1 → w1.cell? ⟨wp, 2, none⟩ = some (.pointer (some ⟨x, 0, none⟩)))
    (o1 : ∀ w1, I0 w1 ∨ I1 w1 ∨ I2 w1 → w1.cell? ⟨ob, 1, none⟩ = some (.int .i64 nn))
    (o2 : ∀ w1, I0 w1 ∨ I1 w1 ∨ I2 w1 → w1.cell? ⟨ob, 2, none⟩ = some (.int .i64 mm))
    (h0 : I0 { w with drawn := w.drawn + 1 })
    (hA : ∀ w1, I0 w1 → Calls Tryz.prog 9 #[.pointer (some ⟨p, 0, none⟩), .int .i64 nn, .int .i64 mm, .slice (some ⟨gb, 0, none⟩) len lc] w1 fun e w2 => e = .returned (.int .i64 ev) ∧ I1 w2)
    (hB : ∀ w1, I1 w1 → Calls Tryz.prog 22 #[.pointer (some ⟨x, 0, none⟩), .int .i64 nn, .int .i64 mm, .slice sa len cs] w1 fun e w2 => e = .returned (.int .i64 ev) ∧ I2 w2)
    (hQ : ∀ (v26 v27 v28 v29 v30 v31 v32 v33 v34 v35 v36 v37 v38 v39 v40 v41 v42 v43 v44 v45 v46 : Value) (w2 : World), I2 w2 → Q .normal ((((((((((((((((((((((a0.put (some 26) v26).put (some 27) v27).put (some 28) v28).put (some 29) v29).put (some 30) v30).put (some 31) v31).put (some 32) v32).put (some 33) v33).put (some 34) v34).put (some 35) v35).put (some 36) v36).put (some 37) v37).put (some 38) v38).put (some 39) v39).put (some 40) v40).put (some 41) v41).put (some 42) v42).put (some 43) v43).put (some 44) v44).put (some 45) v45).put (some 46) v46).put (some 7) (.bool true)) w2) :
    Code.wp Tryz.prog ((Tryz.f6.body.bind (findRegion 8)).getD .skip) Q a0 w := by
  conv => arg 2; whnf
  refine wp_region_pair (fun i => ([.pointer (some ⟨wp, 0, none⟩), .pointer (some ⟨wp, 0, none⟩), .pointer (some ⟨wp, 0, none⟩), .pointer (some ⟨p, 0, none⟩), .pointer (some ⟨ob, 1, none⟩), .int .i64 nn, .pointer (some ⟨ob, 2, none⟩), .int .i64 mm, .slice (some ⟨gb, 0, none⟩) len lc, .int .i64 ev, .pointer (some ⟨wp, 0, none⟩), .pointer (some ⟨wp, 0, none⟩), .pointer (some ⟨wp, 2, none⟩), .pointer (some ⟨x, 0, none⟩), .pointer (some ⟨ob, 1, none⟩), .int .i64 nn, .pointer (some ⟨ob, 2, none⟩), .int .i64 mm, .slice sa len cs, .int .i64 ev, .bool true, .bool true] : List Value).getD i undef) I0 I1 I2 9 19 (by kernel_rfl) (by kernel_rfl) (by kernel_rfl) (by rw [hsz]; kernel_rfl) (by decide) (of_decide_eq_true (by kernel_rfl)) (of_decide_eq_true (by kernel_rfl)) ?hwait h0 ?hop ?hcA ?hcB ?hdone
  case hwait =>
    intro oB hoB
    obtain rfl := Option.some.inj hoB
    exact ⟨⟨9, .chain⟩, by simp, rfl, rfl⟩
  case hdone =>
    intro a w1 hI hS hT
    have kl : a.tmps.getD 7 undef = .bool true := hT 21 _ rfl
    have he := same_puts hS
    have hQ2 := hQ (a.tmps.getD 26 undef) (a.tmps.getD 27 undef) (a.tmps.getD 28 undef) (a.tmps.getD 29 undef) (a.tmps.getD 30 undef) (a.tmps.getD 31 undef) (a.tmps.getD 32 undef) (a.tmps.getD 33 undef) (a.tmps.getD 34 undef) (a.tmps.getD 35 undef) (a.tmps.getD 36 undef) (a.tmps.getD 37 undef) (a.tmps.getD 38 undef) (a.tmps.getD 39 undef) (a.tmps.getD 40 undef) (a.tmps.getD 41 undef) (a.tmps.getD 42 undef) (a.tmps.getD 43 undef) (a.tmps.getD 44 undef) (a.tmps.getD 45 undef) (a.tmps.getD 46 undef) w1 hI
    rw [← kl] at hQ2
    rw [he]
    exact hQ2
  case hcA =>
    intro o ho
    obtain rfl := Option.some.inj ho
    intro a w1 hI hS hD
    have d3 : a.tmps.getD 29 undef = .pointer (some ⟨p, 0, none⟩) := hD ⟨3, .data⟩ (by simp) rfl _ rfl
    have d5 : a.tmps.getD 31 undef = .int .i64 nn := hD ⟨5, .data⟩ (by simp) rfl _ rfl
    have d7 : a.tmps.getD 33 undef = .int .i64 mm := hD ⟨7, .data⟩ (by simp) rfl _ rfl
    have d8 : a.tmps.getD 34 undef = .slice (some ⟨gb, 0, none⟩) len lc := hD ⟨8, .data⟩ (by simp) rfl _ rfl
    refine ⟨rfl, ?_⟩
    refine wp_call_r (f := 9) (args := #[.pointer (some ⟨p, 0, none⟩), .int .i64 nn, .int .i64 mm, .slice (some ⟨gb, 0, none⟩) len lc]) (by simp [execOp, resolve, Act.eval, d3, d5, d7, d8, go_sem]) ?_
    refine (hA w1 hI).mono ?_
    rintro e w2 ⟨rfl, h2⟩
    exact ⟨_, rfl, _, rfl, h2, rfl⟩
  case hcB =>
    intro o ho
    obtain rfl := Option.some.inj ho
    intro a w1 hI hS hD
    have d13 : a.tmps.getD 39 undef = .pointer (some ⟨x, 0, none⟩) := hD ⟨13, .data⟩ (by simp) rfl _ rfl
    have d15 : a.tmps.getD 41 undef = .int .i64 nn := hD ⟨15, .data⟩ (by simp) rfl _ rfl
    have d17 : a.tmps.getD 43 undef = .int .i64 mm := hD ⟨17, .data⟩ (by simp) rfl _ rfl
    have d18 : a.tmps.getD 44 undef = .slice sa len cs := hD ⟨18, .data⟩ (by simp) rfl _ rfl
    refine ⟨rfl, ?_⟩
    refine wp_call_r (f := 22) (args := #[.pointer (some ⟨x, 0, none⟩), .int .i64 nn, .int .i64 mm, .slice sa len cs]) (by simp [execOp, resolve, Act.eval, d13, d15, d17, d18, go_sem]) ?_
    refine (hB w1 hI).mono ?_
    rintro e w2 ⟨rfl, h2⟩
    exact ⟨_, rfl, _, rfl, h2, rfl⟩
  case hop =>
    intro i o hi hnA hnB
    have hlt : i < 22 := (Array.getElem?_eq_some_iff.1 hi).1
    rcases (show i = 0 ∨ i = 1 ∨ i = 2 ∨ i = 3 ∨ i = 4 ∨ i = 5 ∨ i = 6 ∨ i = 7 ∨ i = 8 ∨ i = 9 ∨ i = 10 ∨ i = 11 ∨ i = 12 ∨ i = 13 ∨ i = 14 ∨ i = 15 ∨ i = 16 ∨ i = 17 ∨ i = 18 ∨ i = 19 ∨ i = 20 ∨ i = 21 by omega) with rfl | rfl | rfl | rfl | rfl | rfl | rfl | rfl | rfl | rfl | rfl | rfl | rfl | rfl | rfl | rfl | rfl | rfl | rfl | rfl | rfl | rfl
    · obtain rfl := Option.some.inj hi
      clear hi hlt hnA hnB
      intro a w1 hI hS hD
      have e0 : a.tmps.getD 0 undef = .pointer (some ⟨wp, 0, none⟩) := (hS.slot 0 (by kernel_rfl)).trans s0
      exact ⟨rfl, .pointer (some ⟨wp, 0, none⟩), by simp [execOp, Act.eval, e0, go_sem], rfl⟩
    · obtain rfl := Option.some.inj hi
      clear hi hlt hnA hnB
      intro a w1 hI hS hD
      have d0 : a.tmps.getD 26 undef = .pointer (some ⟨wp, 0, none⟩) := hD ⟨0, .data⟩ (by simp) rfl _ rfl
      exact ⟨rfl, .pointer (some ⟨wp, 0, none⟩), by simp [execOp, Act.eval, d0, go_sem], rfl⟩
    · obtain rfl := Option.some.inj hi
      clear hi hlt hnA hnB
      intro a w1 hI hS hD
      have d1 : a.tmps.getD 27 undef = .pointer (some ⟨wp, 0, none⟩) := hD ⟨1, .data⟩ (by simp) rfl _ rfl
      exact ⟨rfl, .pointer (some ⟨wp, 0, none⟩), by simp [execOp, Act.eval, d1, go_sem], rfl⟩
    · obtain rfl := Option.some.inj hi
      clear hi hlt hnA hnB
      intro a w1 hI hS hD
      have d2 : a.tmps.getD 28 undef = .pointer (some ⟨wp, 0, none⟩) := hD ⟨2, .data⟩ (by simp) rfl _ rfl
      exact ⟨rfl, .pointer (some ⟨p, 0, none⟩), by simp [execOp, Act.eval, d2, c0 w1 hI, go_sem], rfl⟩
    · obtain rfl := Option.some.inj hi
      clear hi hlt hnA hnB
      intro a w1 hI hS hD
      have e3 : a.tmps.getD 3 undef = .pointer (some ⟨ob, 0, none⟩) := (hS.slot 3 (by kernel_rfl)).trans s3
      exact ⟨rfl, .pointer (some ⟨ob, 1, none⟩), by simp [execOp, Act.eval, e3, go_sem], rfl⟩
    · obtain rfl := Option.some.inj hi
      clear hi hlt hnA hnB
      intro a w1 hI hS hD
      have d4 : a.tmps.getD 30 undef = .pointer (some ⟨ob, 1, none⟩) := hD ⟨4, .data⟩ (by simp) rfl _ rfl
      exact ⟨rfl, .int .i64 nn, by simp [execOp, Act.eval, d4, o1 w1 hI, go_sem], rfl⟩
    · obtain rfl := Option.some.inj hi
      clear hi hlt hnA hnB
      intro a w1 hI hS hD
      have e3 : a.tmps.getD 3 undef = .pointer (some ⟨ob, 0, none⟩) := (hS.slot 3 (by kernel_rfl)).trans s3
      exact ⟨rfl, .pointer (some ⟨ob, 2, none⟩), by simp [execOp, Act.eval, e3, go_sem], rfl⟩
    · obtain rfl := Option.some.inj hi
      clear hi hlt hnA hnB
      intro a w1 hI hS hD
      have d6 : a.tmps.getD 32 undef = .pointer (some ⟨ob, 2, none⟩) := hD ⟨6, .data⟩ (by simp) rfl _ rfl
      exact ⟨rfl, .int .i64 mm, by simp [execOp, Act.eval, d6, o2 w1 hI, go_sem], rfl⟩
    · obtain rfl := Option.some.inj hi
      clear hi hlt hnA hnB
      intro a w1 hI hS hD
      have e6 : a.tmps.getD 6 undef = .slice (some ⟨gb, 0, none⟩) len lc := (hS.slot 6 (by kernel_rfl)).trans s6
      exact ⟨rfl, .slice (some ⟨gb, 0, none⟩) len lc, by simp [execOp, Act.eval, e6, go_sem], rfl⟩
    · exact absurd rfl hnA
    · obtain rfl := Option.some.inj hi
      clear hi hlt hnA hnB
      intro a w1 hI hS hD
      have e0 : a.tmps.getD 0 undef = .pointer (some ⟨wp, 0, none⟩) := (hS.slot 0 (by kernel_rfl)).trans s0
      exact ⟨rfl, .pointer (some ⟨wp, 0, none⟩), by simp [execOp, Act.eval, e0, go_sem], rfl⟩
    · obtain rfl := Option.some.inj hi
      clear hi hlt hnA hnB
      intro a w1 hI hS hD
      have d10 : a.tmps.getD 36 undef = .pointer (some ⟨wp, 0, none⟩) := hD ⟨10, .data⟩ (by simp) rfl _ rfl
      exact ⟨rfl, .pointer (some ⟨wp, 0, none⟩), by simp [execOp, Act.eval, d10, go_sem], rfl⟩
    · obtain rfl := Option.some.inj hi
      clear hi hlt hnA hnB
      intro a w1 hI hS hD
      have d11 : a.tmps.getD 37 undef = .pointer (some ⟨wp, 0, none⟩) := hD ⟨11, .data⟩ (by simp) rfl _ rfl
      exact ⟨rfl, .pointer (some ⟨wp, 2, none⟩), by simp [execOp, Act.eval, d11, go_sem], rfl⟩
    · obtain rfl := Option.some.inj hi
      clear hi hlt hnA hnB
      intro a w1 hI hS hD
      have d12 : a.tmps.getD 38 undef = .pointer (some ⟨wp, 2, none⟩) := hD ⟨12, .data⟩ (by simp) rfl _ rfl
      exact ⟨rfl, .pointer (some ⟨x, 0, none⟩), by simp [execOp, Act.eval, d12, c2 w1 hI, go_sem], rfl⟩
    · obtain rfl := Option.some.inj hi
      clear hi hlt hnA hnB
      intro a w1 hI hS hD
      have e3 : a.tmps.getD 3 undef = .pointer (some ⟨ob, 0, none⟩) := (hS.slot 3 (by kernel_rfl)).trans s3
      exact ⟨rfl, .pointer (some ⟨ob, 1, none⟩), by simp [execOp, Act.eval, e3, go_sem], rfl⟩
    · obtain rfl := Option.some.inj hi
      clear hi hlt hnA hnB
      intro a w1 hI hS hD
      have d14 : a.tmps.getD 40 undef = .pointer (some ⟨ob, 1, none⟩) := hD ⟨14, .data⟩ (by simp) rfl _ rfl
      exact ⟨rfl, .int .i64 nn, by simp [execOp, Act.eval, d14, o1 w1 hI, go_sem], rfl⟩
    · obtain rfl := Option.some.inj hi
      clear hi hlt hnA hnB
      intro a w1 hI hS hD
      have e3 : a.tmps.getD 3 undef = .pointer (some ⟨ob, 0, none⟩) := (hS.slot 3 (by kernel_rfl)).trans s3
      exact ⟨rfl, .pointer (some ⟨ob, 2, none⟩), by simp [execOp, Act.eval, e3, go_sem], rfl⟩
    · obtain rfl := Option.some.inj hi
      clear hi hlt hnA hnB
      intro a w1 hI hS hD
      have d16 : a.tmps.getD 42 undef = .pointer (some ⟨ob, 2, none⟩) := hD ⟨16, .data⟩ (by simp) rfl _ rfl
      exact ⟨rfl, .int .i64 mm, by simp [execOp, Act.eval, d16, o2 w1 hI, go_sem], rfl⟩
    · obtain rfl := Option.some.inj hi
      clear hi hlt hnA hnB
      intro a w1 hI hS hD
      have e5 : a.tmps.getD 5 undef = .slice sa len cs := (hS.slot 5 (by kernel_rfl)).trans s5
      exact ⟨rfl, .slice sa len cs, by simp [execOp, Act.eval, e5, go_sem], rfl⟩
    · exact absurd rfl hnB
    · obtain rfl := Option.some.inj hi
      clear hi hlt hnA hnB
      intro a w1 hI hS hD
      have d9 : a.tmps.getD 35 undef = .int .i64 ev := hD ⟨9, .data⟩ (by simp) rfl _ rfl
      have d19 : a.tmps.getD 45 undef = .int .i64 ev := hD ⟨19, .data⟩ (by simp) rfl _ rfl
      exact ⟨rfl, .bool true, by simp [execOp, Act.eval, d9, d19, go_sem], rfl⟩
    · obtain rfl := Option.some.inj hi
      clear hi hlt hnA hnB
      intro a w1 hI hS hD
      have d20 : a.tmps.getD 46 undef = .bool true := hD ⟨20, .data⟩ (by simp) rfl _ rfl
      exact ⟨rfl, .bool true, by simp [execOp, Act.eval, d20, go_sem], rfl⟩

set_option maxRecDepth 100000 in
set_option maxHeartbeats 2000000 in
theorem step_r13 (wp lp mp gb len lc cs : Nat) (sa : Option Addr) (ev : Int) (I0 I1 I2 : World → Prop) (w : World) (a0 : Act) (Q : Exit → Act → World → Prop) (hsz : a0.tmps.size = 198)
    (s0 : a0.tmps.getD 0 undef = .pointer (some ⟨wp, 0, none⟩))
    (s5 : a0.tmps.getD 5 undef = .slice sa len cs)
    (s6 : a0.tmps.getD 6 undef = .slice (some ⟨gb, 0, none⟩) len lc)
    (c1 : ∀ w1, I0 w1 ∨ I1 w1 ∨ I2 w1 → w1.cell? ⟨wp, 1, none⟩ = some (.pointer (some ⟨lp, 0, none⟩)))
    (c3 : ∀ w1, I0 w1 ∨ I1 w1 ∨ I2 w1 → w1.cell? ⟨wp, 3, none⟩ = some (.pointer (some ⟨mp, 0, none⟩)))
    (h0 : I0 { w with drawn := w.drawn + 1 })
    (hA : ∀ w1, I0 w1 → Calls Tryz.prog 11 #[.pointer (some ⟨lp, 0, none⟩), .slice (some ⟨gb, 0, none⟩) len lc] w1 fun e w2 => e = .returned (.int .i64 ev) ∧ I1 w2)
    (hB : ∀ w1, I1 w1 → Calls Tryz.prog 24 #[.pointer (some ⟨mp, 0, none⟩), .slice sa len cs] w1 fun e w2 => e = .returned (.int .i64 ev) ∧ I2 w2)
    (hQ : ∀ (v58 v59 v60 v61 v62 v63 v64 v65 v66 v67 v68 v69 v70 : Value) (w2 : World), I2 w2 → Q .normal ((((((((((((((a0.put (some 58) v58).put (some 59) v59).put (some 60) v60).put (some 61) v61).put (some 62) v62).put (some 63) v63).put (some 64) v64).put (some 65) v65).put (some 66) v66).put (some 67) v67).put (some 68) v68).put (some 69) v69).put (some 70) v70).put (some 7) (.bool true)) w2) :
    Code.wp Tryz.prog ((Tryz.f6.body.bind (findRegion 13)).getD .skip) Q a0 w := by
  conv => arg 2; whnf
  refine wp_region_pair (fun i => ([.pointer (some ⟨wp, 0, none⟩), .pointer (some ⟨wp, 0, none⟩), .pointer (some ⟨wp, 1, none⟩), .pointer (some ⟨lp, 0, none⟩), .slice (some ⟨gb, 0, none⟩) len lc, .int .i64 ev, .pointer (some ⟨wp, 0, none⟩), .pointer (some ⟨wp, 0, none⟩), .pointer (some ⟨wp, 3, none⟩), .pointer (some ⟨mp, 0, none⟩), .slice sa len cs, .int .i64 ev, .bool true, .bool true] : List Value).getD i undef) I0 I1 I2 5 11 (by kernel_rfl) (by kernel_rfl) (by kernel_rfl) (by rw [hsz]; kernel_rfl) (by decide) (of_decide_eq_true (by kernel_rfl)) (of_decide_eq_true (by kernel_rfl)) ?hwait h0 ?hop ?hcA ?hcB ?hdone
  case hwait =>
    intro oB hoB
    obtain rfl := Option.some.inj hoB
    exact ⟨⟨5, .chain⟩, by simp, rfl, rfl⟩
  case hdone =>
    intro a w1 hI hS hT
    have kl : a.tmps.getD 7 undef = .bool true := hT 13 _ rfl
    have he := same_puts hS
    have hQ2 := hQ (a.tmps.getD 58 undef) (a.tmps.getD 59 undef) (a.tmps.getD 60 undef) (a.tmps.getD 61 undef) (a.tmps.getD 62 undef) (a.tmps.getD 63 undef) (a.tmps.getD 64 undef) (a.tmps.getD 65 undef) (a.tmps.getD 66 undef) (a.tmps.getD 67 undef) (a.tmps.getD 68 undef) (a.tmps.getD 69 undef) (a.tmps.getD 70 undef) w1 hI
    rw [← kl] at hQ2
    rw [he]
    exact hQ2
  case hcA =>
    intro o ho
    obtain rfl := Option.some.inj ho
    intro a w1 hI hS hD
    have d3 : a.tmps.getD 61 undef = .pointer (some ⟨lp, 0, none⟩) := hD ⟨3, .data⟩ (by simp) rfl _ rfl
    have d4 : a.tmps.getD 62 undef = .slice (some ⟨gb, 0, none⟩) len lc := hD ⟨4, .data⟩ (by simp) rfl _ rfl
    refine ⟨rfl, ?_⟩
    refine wp_call_r (f := 11) (args := #[.pointer (some ⟨lp, 0, none⟩), .slice (some ⟨gb, 0, none⟩) len lc]) (by simp [execOp, resolve, Act.eval, d3, d4, go_sem]) ?_
    refine (hA w1 hI).mono ?_
    rintro e w2 ⟨rfl, h2⟩
    exact ⟨_, rfl, _, rfl, h2, rfl⟩
  case hcB =>
    intro o ho
    obtain rfl := Option.some.inj ho
    intro a w1 hI hS hD
    have d9 : a.tmps.getD 67 undef = .pointer (some ⟨mp, 0, none⟩) := hD ⟨9, .data⟩ (by simp) rfl _ rfl
    have d10 : a.tmps.getD 68 undef = .slice sa len cs := hD ⟨10, .data⟩ (by simp) rfl _ rfl
    refine ⟨rfl, ?_⟩
    refine wp_call_r (f := 24) (args := #[.pointer (some ⟨mp, 0, none⟩), .slice sa len cs]) (by simp [execOp, resolve, Act.eval, d9, d10, go_sem]) ?_
    refine (hB w1 hI).mono ?_
    rintro e w2 ⟨rfl, h2⟩
    exact ⟨_, rfl, _, rfl, h2, rfl⟩
  case hop =>
    intro i o hi hnA hnB
    have hlt : i < 14 := (Array.getElem?_eq_some_iff.1 hi).1
    rcases (show i = 0 ∨ i = 1 ∨ i = 2 ∨ i = 3 ∨ i = 4 ∨ i = 5 ∨ i = 6 ∨ i = 7 ∨ i = 8 ∨ i = 9 ∨ i = 10 ∨ i = 11 ∨ i = 12 ∨ i = 13 by omega) with rfl | rfl | rfl | rfl | rfl | rfl | rfl | rfl | rfl | rfl | rfl | rfl | rfl | rfl
    · obtain rfl := Option.some.inj hi
      clear hi hlt hnA hnB
      intro a w1 hI hS hD
      have e0 : a.tmps.getD 0 undef = .pointer (some ⟨wp, 0, none⟩) := (hS.slot 0 (by kernel_rfl)).trans s0
      exact ⟨rfl, .pointer (some ⟨wp, 0, none⟩), by simp [execOp, Act.eval, e0, go_sem], rfl⟩
    · obtain rfl := Option.some.inj hi
      clear hi hlt hnA hnB
      intro a w1 hI hS hD
      have d0 : a.tmps.getD 58 undef = .pointer (some ⟨wp, 0, none⟩) := hD ⟨0, .data⟩ (by simp) rfl _ rfl
      exact ⟨rfl, .pointer (some ⟨wp, 0, none⟩), by simp [execOp, Act.eval, d0, go_sem], rfl⟩
    · obtain rfl := Option.some.inj hi
      clear hi hlt hnA hnB
      intro a w1 hI hS hD
      have d1 : a.tmps.getD 59 undef = .pointer (some ⟨wp, 0, none⟩) := hD ⟨1, .data⟩ (by simp) rfl _ rfl
      exact ⟨rfl, .pointer (some ⟨wp, 1, none⟩), by simp [execOp, Act.eval, d1, go_sem], rfl⟩
    · obtain rfl := Option.some.inj hi
      clear hi hlt hnA hnB
      intro a w1 hI hS hD
      have d2 : a.tmps.getD 60 undef = .pointer (some ⟨wp, 1, none⟩) := hD ⟨2, .data⟩ (by simp) rfl _ rfl
      exact ⟨rfl, .pointer (some ⟨lp, 0, none⟩), by simp [execOp, Act.eval, d2, c1 w1 hI, go_sem], rfl⟩
    · obtain rfl := Option.some.inj hi
      clear hi hlt hnA hnB
      intro a w1 hI hS hD
      have e6 : a.tmps.getD 6 undef = .slice (some ⟨gb, 0, none⟩) len lc := (hS.slot 6 (by kernel_rfl)).trans s6
      exact ⟨rfl, .slice (some ⟨gb, 0, none⟩) len lc, by simp [execOp, Act.eval, e6, go_sem], rfl⟩
    · exact absurd rfl hnA
    · obtain rfl := Option.some.inj hi
      clear hi hlt hnA hnB
      intro a w1 hI hS hD
      have e0 : a.tmps.getD 0 undef = .pointer (some ⟨wp, 0, none⟩) := (hS.slot 0 (by kernel_rfl)).trans s0
      exact ⟨rfl, .pointer (some ⟨wp, 0, none⟩), by simp [execOp, Act.eval, e0, go_sem], rfl⟩
    · obtain rfl := Option.some.inj hi
      clear hi hlt hnA hnB
      intro a w1 hI hS hD
      have d6 : a.tmps.getD 64 undef = .pointer (some ⟨wp, 0, none⟩) := hD ⟨6, .data⟩ (by simp) rfl _ rfl
      exact ⟨rfl, .pointer (some ⟨wp, 0, none⟩), by simp [execOp, Act.eval, d6, go_sem], rfl⟩
    · obtain rfl := Option.some.inj hi
      clear hi hlt hnA hnB
      intro a w1 hI hS hD
      have d7 : a.tmps.getD 65 undef = .pointer (some ⟨wp, 0, none⟩) := hD ⟨7, .data⟩ (by simp) rfl _ rfl
      exact ⟨rfl, .pointer (some ⟨wp, 3, none⟩), by simp [execOp, Act.eval, d7, go_sem], rfl⟩
    · obtain rfl := Option.some.inj hi
      clear hi hlt hnA hnB
      intro a w1 hI hS hD
      have d8 : a.tmps.getD 66 undef = .pointer (some ⟨wp, 3, none⟩) := hD ⟨8, .data⟩ (by simp) rfl _ rfl
      exact ⟨rfl, .pointer (some ⟨mp, 0, none⟩), by simp [execOp, Act.eval, d8, c3 w1 hI, go_sem], rfl⟩
    · obtain rfl := Option.some.inj hi
      clear hi hlt hnA hnB
      intro a w1 hI hS hD
      have e5 : a.tmps.getD 5 undef = .slice sa len cs := (hS.slot 5 (by kernel_rfl)).trans s5
      exact ⟨rfl, .slice sa len cs, by simp [execOp, Act.eval, e5, go_sem], rfl⟩
    · exact absurd rfl hnB
    · obtain rfl := Option.some.inj hi
      clear hi hlt hnA hnB
      intro a w1 hI hS hD
      have d5 : a.tmps.getD 63 undef = .int .i64 ev := hD ⟨5, .data⟩ (by simp) rfl _ rfl
      have d11 : a.tmps.getD 69 undef = .int .i64 ev := hD ⟨11, .data⟩ (by simp) rfl _ rfl
      exact ⟨rfl, .bool true, by simp [execOp, Act.eval, d5, d11, go_sem], rfl⟩
    · obtain rfl := Option.some.inj hi
      clear hi hlt hnA hnB
      intro a w1 hI hS hD
      have d12 : a.tmps.getD 70 undef = .bool true := hD ⟨12, .data⟩ (by simp) rfl _ rfl
      exact ⟨rfl, .bool true, by simp [execOp, Act.eval, d12, go_sem], rfl⟩

set_option maxRecDepth 100000 in
set_option maxHeartbeats 2000000 in
theorem step_r16 (wp lp mp gb len lc cs : Nat) (sa : Option Addr) (ev : Int) (I0 I1 I2 : World → Prop) (w : World) (a0 : Act) (Q : Exit → Act → World → Prop) (hsz : a0.tmps.size = 198)
    (s0 : a0.tmps.getD 0 undef = .pointer (some ⟨wp, 0, none⟩))
    (s5 : a0.tmps.getD 5 undef = .slice sa len cs)
    (s6 : a0.tmps.getD 6 undef = .slice (some ⟨gb, 0, none⟩) len lc)
    (c1 : ∀ w1, I0 w1 ∨ I1 w1 ∨ I2 w1 → w1.cell? ⟨wp, 1, none⟩ = some (.pointer (some ⟨lp, 0, none⟩)))
    (c3 : ∀ w1, I0 w1 ∨ I1 w1 ∨ I2 w1 → w1.cell? ⟨wp, 3, none⟩ = some (.pointer (some ⟨mp, 0, none⟩)))
    (h0 : I0 { w with drawn := w.drawn + 1 })
    (hA : ∀ w1, I0 w1 → Calls Tryz.prog 13 #[.pointer (some ⟨lp, 0, none⟩), .slice (some ⟨gb, 0, none⟩) len lc] w1 fun e w2 => e = .returned (.int .i64 ev) ∧ I1 w2)
    (hB : ∀ w1, I1 w1 → Calls Tryz.prog 25 #[.pointer (some ⟨mp, 0, none⟩), .slice sa len cs] w1 fun e w2 => e = .returned (.int .i64 ev) ∧ I2 w2)
    (hQ : ∀ (v78 v79 v80 v81 v82 v83 v84 v85 v86 v87 v88 v89 v90 : Value) (w2 : World), I2 w2 → Q .normal ((((((((((((((a0.put (some 78) v78).put (some 79) v79).put (some 80) v80).put (some 81) v81).put (some 82) v82).put (some 83) v83).put (some 84) v84).put (some 85) v85).put (some 86) v86).put (some 87) v87).put (some 88) v88).put (some 89) v89).put (some 90) v90).put (some 7) (.bool true)) w2) :
    Code.wp Tryz.prog ((Tryz.f6.body.bind (findRegion 16)).getD .skip) Q a0 w := by
  conv => arg 2; whnf
  refine wp_region_pair (fun i => ([.pointer (some ⟨wp, 0, none⟩), .pointer (some ⟨wp, 0, none⟩), .pointer (some ⟨wp, 1, none⟩), .pointer (some ⟨lp, 0, none⟩), .slice (some ⟨gb, 0, none⟩) len lc, .int .i64 ev, .pointer (some ⟨wp, 0, none⟩), .pointer (some ⟨wp, 0, none⟩), .pointer (some ⟨wp, 3, none⟩), .pointer (some ⟨mp, 0, none⟩), .slice sa len cs, .int .i64 ev, .bool true, .bool true] : List Value).getD i undef) I0 I1 I2 5 11 (by kernel_rfl) (by kernel_rfl) (by kernel_rfl) (by rw [hsz]; kernel_rfl) (by decide) (of_decide_eq_true (by kernel_rfl)) (of_decide_eq_true (by kernel_rfl)) ?hwait h0 ?hop ?hcA ?hcB ?hdone
  case hwait =>
    intro oB hoB
    obtain rfl := Option.some.inj hoB
    exact ⟨⟨5, .chain⟩, by simp, rfl, rfl⟩
  case hdone =>
    intro a w1 hI hS hT
    have kl : a.tmps.getD 7 undef = .bool true := hT 13 _ rfl
    have he := same_puts hS
    have hQ2 := hQ (a.tmps.getD 78 undef) (a.tmps.getD 79 undef) (a.tmps.getD 80 undef) (a.tmps.getD 81 undef) (a.tmps.getD 82 undef) (a.tmps.getD 83 undef) (a.tmps.getD 84 undef) (a.tmps.getD 85 undef) (a.tmps.getD 86 undef) (a.tmps.getD 87 undef) (a.tmps.getD 88 undef) (a.tmps.getD 89 undef) (a.tmps.getD 90 undef) w1 hI
    rw [← kl] at hQ2
    rw [he]
    exact hQ2
  case hcA =>
    intro o ho
    obtain rfl := Option.some.inj ho
    intro a w1 hI hS hD
    have d3 : a.tmps.getD 81 undef = .pointer (some ⟨lp, 0, none⟩) := hD ⟨3, .data⟩ (by simp) rfl _ rfl
    have d4 : a.tmps.getD 82 undef = .slice (some ⟨gb, 0, none⟩) len lc := hD ⟨4, .data⟩ (by simp) rfl _ rfl
    refine ⟨rfl, ?_⟩
    refine wp_call_r (f := 13) (args := #[.pointer (some ⟨lp, 0, none⟩), .slice (some ⟨gb, 0, none⟩) len lc]) (by simp [execOp, resolve, Act.eval, d3, d4, go_sem]) ?_
    refine (hA w1 hI).mono ?_
    rintro e w2 ⟨rfl, h2⟩
    exact ⟨_, rfl, _, rfl, h2, rfl⟩
  case hcB =>
    intro o ho
    obtain rfl := Option.some.inj ho
    intro a w1 hI hS hD
    have d9 : a.tmps.getD 87 undef = .pointer (some ⟨mp, 0, none⟩) := hD ⟨9, .data⟩ (by simp) rfl _ rfl
    have d10 : a.tmps.getD 88 undef = .slice sa len cs := hD ⟨10, .data⟩ (by simp) rfl _ rfl
    refine ⟨rfl, ?_⟩
    refine wp_call_r (f := 25) (args := #[.pointer (some ⟨mp, 0, none⟩), .slice sa len cs]) (by simp [execOp, resolve, Act.eval, d9, d10, go_sem]) ?_
    refine (hB w1 hI).mono ?_
    rintro e w2 ⟨rfl, h2⟩
    exact ⟨_, rfl, _, rfl, h2, rfl⟩
  case hop =>
    intro i o hi hnA hnB
    have hlt : i < 14 := (Array.getElem?_eq_some_iff.1 hi).1
    rcases (show i = 0 ∨ i = 1 ∨ i = 2 ∨ i = 3 ∨ i = 4 ∨ i = 5 ∨ i = 6 ∨ i = 7 ∨ i = 8 ∨ i = 9 ∨ i = 10 ∨ i = 11 ∨ i = 12 ∨ i = 13 by omega) with rfl | rfl | rfl | rfl | rfl | rfl | rfl | rfl | rfl | rfl | rfl | rfl | rfl | rfl
    · obtain rfl := Option.some.inj hi
      clear hi hlt hnA hnB
      intro a w1 hI hS hD
      have e0 : a.tmps.getD 0 undef = .pointer (some ⟨wp, 0, none⟩) := (hS.slot 0 (by kernel_rfl)).trans s0
      exact ⟨rfl, .pointer (some ⟨wp, 0, none⟩), by simp [execOp, Act.eval, e0, go_sem], rfl⟩
    · obtain rfl := Option.some.inj hi
      clear hi hlt hnA hnB
      intro a w1 hI hS hD
      have d0 : a.tmps.getD 78 undef = .pointer (some ⟨wp, 0, none⟩) := hD ⟨0, .data⟩ (by simp) rfl _ rfl
      exact ⟨rfl, .pointer (some ⟨wp, 0, none⟩), by simp [execOp, Act.eval, d0, go_sem], rfl⟩
    · obtain rfl := Option.some.inj hi
      clear hi hlt hnA hnB
      intro a w1 hI hS hD
      have d1 : a.tmps.getD 79 undef = .pointer (some ⟨wp, 0, none⟩) := hD ⟨1, .data⟩ (by simp) rfl _ rfl
      exact ⟨rfl, .pointer (some ⟨wp, 1, none⟩), by simp [execOp, Act.eval, d1, go_sem], rfl⟩
    · obtain rfl := Option.some.inj hi
      clear hi hlt hnA hnB
      intro a w1 hI hS hD
      have d2 : a.tmps.getD 80 undef = .pointer (some ⟨wp, 1, none⟩) := hD ⟨2, .data⟩ (by simp) rfl _ rfl
      exact ⟨rfl, .pointer (some ⟨lp, 0, none⟩), by simp [execOp, Act.eval, d2, c1 w1 hI, go_sem], rfl⟩
    · obtain rfl := Option.some.inj hi
      clear hi hlt hnA hnB
      intro a w1 hI hS hD
      have e6 : a.tmps.getD 6 undef = .slice (some ⟨gb, 0, none⟩) len lc := (hS.slot 6 (by kernel_rfl)).trans s6
      exact ⟨rfl, .slice (some ⟨gb, 0, none⟩) len lc, by simp [execOp, Act.eval, e6, go_sem], rfl⟩
    · exact absurd rfl hnA
    · obtain rfl := Option.some.inj hi
      clear hi hlt hnA hnB
      intro a w1 hI hS hD
      have e0 : a.tmps.getD 0 undef = .pointer (some ⟨wp, 0, none⟩) := (hS.slot 0 (by kernel_rfl)).trans s0
      exact ⟨rfl, .pointer (some ⟨wp, 0, none⟩), by simp [execOp, Act.eval, e0, go_sem], rfl⟩
    · obtain rfl := Option.some.inj hi
      clear hi hlt hnA hnB
      intro a w1 hI hS hD
      have d6 : a.tmps.getD 84 undef = .pointer (some ⟨wp, 0, none⟩) := hD ⟨6, .data⟩ (by simp) rfl _ rfl
      exact ⟨rfl, .pointer (some ⟨wp, 0, none⟩), by simp [execOp, Act.eval, d6, go_sem], rfl⟩
    · obtain rfl := Option.some.inj hi
      clear hi hlt hnA hnB
      intro a w1 hI hS hD
      have d7 : a.tmps.getD 85 undef = .pointer (some ⟨wp, 0, none⟩) := hD ⟨7, .data⟩ (by simp) rfl _ rfl
      exact ⟨rfl, .pointer (some ⟨wp, 3, none⟩), by simp [execOp, Act.eval, d7, go_sem], rfl⟩
    · obtain rfl := Option.some.inj hi
      clear hi hlt hnA hnB
      intro a w1 hI hS hD
      have d8 : a.tmps.getD 86 undef = .pointer (some ⟨wp, 3, none⟩) := hD ⟨8, .data⟩ (by simp) rfl _ rfl
      exact ⟨rfl, .pointer (some ⟨mp, 0, none⟩), by simp [execOp, Act.eval, d8, c3 w1 hI, go_sem], rfl⟩
    · obtain rfl := Option.some.inj hi
      clear hi hlt hnA hnB
      intro a w1 hI hS hD
      have e5 : a.tmps.getD 5 undef = .slice sa len cs := (hS.slot 5 (by kernel_rfl)).trans s5
      exact ⟨rfl, .slice sa len cs, by simp [execOp, Act.eval, e5, go_sem], rfl⟩
    · exact absurd rfl hnB
    · obtain rfl := Option.some.inj hi
      clear hi hlt hnA hnB
      intro a w1 hI hS hD
      have d5 : a.tmps.getD 83 undef = .int .i64 ev := hD ⟨5, .data⟩ (by simp) rfl _ rfl
      have d11 : a.tmps.getD 89 undef = .int .i64 ev := hD ⟨11, .data⟩ (by simp) rfl _ rfl
      exact ⟨rfl, .bool true, by simp [execOp, Act.eval, d5, d11, go_sem], rfl⟩
    · obtain rfl := Option.some.inj hi
      clear hi hlt hnA hnB
      intro a w1 hI hS hD
      have d12 : a.tmps.getD 90 undef = .bool true := hD ⟨12, .data⟩ (by simp) rfl _ rfl
      exact ⟨rfl, .bool true, by simp [execOp, Act.eval, d12, go_sem], rfl⟩

set_option maxRecDepth 100000 in
set_option maxHeartbeats 2000000 in
theorem step_r28 (wp ob p x gb len lc cs : Nat) (sa : Option Addr) (nn n1 ev : Int) (I0 I1 I2 : World → Prop) (w : World) (a0 : Act) (Q : Exit → Act → World → Prop) (hsz : a0.tmps.size = 198)
    (s0 : a0.tmps.getD 0 undef = .pointer (some ⟨wp, 0, none⟩))
    (s3 : a0.tmps.getD 3 undef = .pointer (some ⟨ob, 0, none⟩))
    (s5 : a0.tmps.getD 5 undef = .slice sa len cs)
    (s6 : a0.tmps.getD 6 undef = .slice (some ⟨gb, 0, none⟩) len lc)
    (c0 : ∀ w1, I0 w1 ∨ I1 w1 ∨ I2 w1 → w1.cell? ⟨wp, 0, none⟩ = some (.pointer (some ⟨p, 0, none⟩)))
    (c2 : ∀ w1, I0 w1 ∨ I1 w1 ∨ I2 w1 → w1.cell? ⟨wp, 2, none⟩ = some (.pointer (some ⟨x, 0, none⟩)))
    (o1 : ∀ w1, I0 w1 ∨ I1 w1 ∨ I2 w1 → w1.cell? ⟨ob, 1, none⟩ = some (.int .i64 nn))
    (hn1 : bits .and .i64 nn 1 = n1)
    (h0 : I0 { w with drawn := w.drawn + 1 })
    (hA : ∀ w1, I0 w1 → Calls Tryz.prog 32 #[.pointer (some ⟨p, 0, none⟩), .int .i64 n1, .slice (some ⟨gb, 0, none⟩) len lc] w1 fun e w2 => e = .returned (.int .i64 ev) ∧ I1 w2)
    (hB : ∀ w1, I1 w1 → Calls Tryz.prog 33 #[.pointer (some ⟨x, 0, none⟩), .int .i64 n1, .slice sa len cs] w1 fun e w2 => e = .returned (.int .i64 ev) ∧ I2 w2)
    (hQ : ∀ (v160 v161 v162 v163 v164 v165 v166 v167 v168 v169 v170 v171 v172 v173 v174 v175 v176 v177 v178 : Value) (w2 : World), I2 w2 → Q .normal ((((((((((((((((((((a0.put (some 160) v160).put (some 161) v161).put (some 162) v162).put (some 163) v163).put (some 164) v164).put (some 165) v165).put (some 166) v166).put (some 167) v167).put (some 168) v168).put (some 169) v169).put (some 170) v170).put (some 171) v171).put (some 172) v172).put (some 173) v173).put (some 174) v174).put (some 175) v175).put (some 176) v176).put (some 177) v177).put (some 178) v178).put (some 7) (.bool true)) w2) :
    Code.wp Tryz.prog ((Tryz.f6.body.bind (findRegion 28)).getD .skip) Q a0 w := by
  conv => arg 2; whnf
  refine wp_region_pair (fun i => ([.pointer (some ⟨wp, 0, none⟩), .pointer (some ⟨wp, 0, none⟩), .pointer (some ⟨wp, 0, none⟩), .pointer (some ⟨p, 0, none⟩), .pointer (some ⟨ob, 1, none⟩), .int .i64 nn, .int .i64 n1, .slice (some ⟨gb, 0, none⟩) len lc, .int .i64 ev, .pointer (some ⟨wp, 0, none⟩), .pointer (some ⟨wp, 0, none⟩), .pointer (some ⟨wp, 2, none⟩), .pointer (some ⟨x, 0, none⟩), .pointer (some ⟨ob, 1, none⟩), .int .i64 nn, .int .i64 n1, .slice sa len cs, .int .i64 ev, .bool true, .bool true] : List Value).getD i undef) I0 I1 I2 8 17 (by kernel_rfl) (by kernel_rfl) (by kernel_rfl) (by rw [hsz]; kernel_rfl) (by decide) (of_decide_eq_true (by kernel_rfl)) (of_decide_eq_true (by kernel_rfl)) ?hwait h0 ?hop ?hcA ?hcB ?hdone
  case hwait =>
    intro oB hoB
    obtain rfl := Option.some.inj hoB
    exact ⟨⟨8, .chain⟩, by simp, rfl, rfl⟩
  case hdone =>
    intro a w1 hI hS hT
    have kl : a.tmps.getD 7 undef = .bool true := hT 19 _ rfl
    have he := same_puts hS
    have hQ2 := hQ (a.tmps.getD 160 undef) (a.tmps.getD 161 undef) (a.tmps.getD 162 undef) (a.tmps.getD 163 undef) (a.tmps.getD 164 undef) (a.tmps.getD 165 undef) (a.tmps.getD 166 undef) (a.tmps.getD 167 undef) (a.tmps.getD 168 undef) (a.tmps.getD 169 undef) (a.tmps.getD 170 undef) (a.tmps.getD 171 undef) (a.tmps.getD 172 undef) (a.tmps.getD 173 undef) (a.tmps.getD 174 undef) (a.tmps.getD 175 undef) (a.tmps.getD 176 undef) (a.tmps.getD 177 undef) (a.tmps.getD 178 undef) w1 hI
    rw [← kl] at hQ2
    rw [he]
    exact hQ2
  case hcA =>
    intro o ho
    obtain rfl := Option.some.inj ho
    intro a w1 hI hS hD
    have d3 : a.tmps.getD 163 undef = .pointer (some ⟨p, 0, none⟩) := hD ⟨3, .data⟩ (by simp) rfl _ rfl
    have d6 : a.tmps.getD 166 undef = .int .i64 n1 := hD ⟨6, .data⟩ (by simp) rfl _ rfl
    have d7 : a.tmps.getD 167 undef = .slice (some ⟨gb, 0, none⟩) len lc := hD ⟨7, .data⟩ (by simp) rfl _ rfl
    refine ⟨rfl, ?_⟩
    refine wp_call_r (f := 32) (args := #[.pointer (some ⟨p, 0, none⟩), .int .i64 n1, .slice (some ⟨gb, 0, none⟩) len lc]) (by simp [execOp, resolve, Act.eval, d3, d6, d7, go_sem]) ?_
    refine (hA w1 hI).mono ?_
    rintro e w2 ⟨rfl, h2⟩
    exact ⟨_, rfl, _, rfl, h2, rfl⟩
  case hcB =>
    intro o ho
    obtain rfl := Option.some.inj ho
    intro a w1 hI hS hD
    have d12 : a.tmps.getD 172 undef = .pointer (some ⟨x, 0, none⟩) := hD ⟨12, .data⟩ (by simp) rfl _ rfl
    have d15 : a.tmps.getD 175 undef = .int .i64 n1 := hD ⟨15, .data⟩ (by simp) rfl _ rfl
    have d16 : a.tmps.getD 176 undef = .slice sa len cs := hD ⟨16, .data⟩ (by simp) rfl _ rfl
    refine ⟨rfl, ?_⟩
    refine wp_call_r (f := 33) (args := #[.pointer (some ⟨x, 0, none⟩), .int .i64 n1, .slice sa len cs]) (by simp [execOp, resolve, Act.eval, d12, d15, d16, go_sem]) ?_
    refine (hB w1 hI).mono ?_
    rintro e w2 ⟨rfl, h2⟩
    exact ⟨_, rfl, _, rfl, h2, rfl⟩
  case hop =>
    intro i o hi hnA hnB
    have hlt : i < 20 := (Array.getElem?_eq_some_iff.1 hi).1
    rcases (show i = 0 ∨ i = 1 ∨ i = 2 ∨ i = 3 ∨ i = 4 ∨ i = 5 ∨ i = 6 ∨ i = 7 ∨ i = 8 ∨ i = 9 ∨ i = 10 ∨ i = 11 ∨ i = 12 ∨ i = 13 ∨ i = 14 ∨ i = 15 ∨ i = 16 ∨ i = 17 ∨ i = 18 ∨ i = 19 by omega) with rfl | rfl | rfl | rfl | rfl | rfl | rfl | rfl | rfl | rfl | rfl | rfl | rfl | rfl | rfl | rfl | rfl | rfl | rfl | rfl
    · obtain rfl := Option.some.inj hi
      clear hi hlt hnA hnB
      intro a w1 hI hS hD
      have e0 : a.tmps.getD 0 undef = .pointer (some ⟨wp, 0, none⟩) := (hS.slot 0 (by kernel_rfl)).trans s0
      exact ⟨rfl, .pointer (some ⟨wp, 0, none⟩), by simp [execOp, Act.eval, e0, go_sem], rfl⟩
    · obtain rfl := Option.some.inj hi
      clear hi hlt hnA hnB
      intro a w1 hI hS hD
      have d0 : a.tmps.getD 160 undef = .pointer (some ⟨wp, 0, none⟩) := hD ⟨0, .data⟩ (by simp) rfl _ rfl
      exact ⟨rfl, .pointer (some ⟨wp, 0, none⟩), by simp [execOp, Act.eval, d0, go_sem], rfl⟩
    · obtain rfl := Option.some.inj hi
      clear hi hlt hnA hnB
      intro a w1 hI hS hD
      have d1 : a.tmps.getD 161 undef = .pointer (some ⟨wp, 0, none⟩) := hD ⟨1, .data⟩ (by simp) rfl _ rfl
      exact ⟨rfl, .pointer (some ⟨wp, 0, none⟩), by simp [execOp, Act.eval, d1, go_sem], rfl⟩
    · obtain rfl := Option.some.inj hi
      clear hi hlt hnA hnB
      intro a w1 hI hS hD
      have d2 : a.tmps.getD 162 undef = .pointer (some ⟨wp, 0, none⟩) := hD ⟨2, .data⟩ (by simp) rfl _ rfl
      exact ⟨rfl, .pointer (some ⟨p, 0, none⟩), by simp [execOp, Act.eval, d2, c0 w1 hI, go_sem], rfl⟩
    · obtain rfl := Option.some.inj hi
      clear hi hlt hnA hnB
      intro a w1 hI hS hD
      have e3 : a.tmps.getD 3 undef = .pointer (some ⟨ob, 0, none⟩) := (hS.slot 3 (by kernel_rfl)).trans s3
      exact ⟨rfl, .pointer (some ⟨ob, 1, none⟩), by simp [execOp, Act.eval, e3, go_sem], rfl⟩
    · obtain rfl := Option.some.inj hi
      clear hi hlt hnA hnB
      intro a w1 hI hS hD
      have d4 : a.tmps.getD 164 undef = .pointer (some ⟨ob, 1, none⟩) := hD ⟨4, .data⟩ (by simp) rfl _ rfl
      exact ⟨rfl, .int .i64 nn, by simp [execOp, Act.eval, d4, o1 w1 hI, go_sem], rfl⟩
    · obtain rfl := Option.some.inj hi
      clear hi hlt hnA hnB
      intro a w1 hI hS hD
      have d5 : a.tmps.getD 165 undef = .int .i64 nn := hD ⟨5, .data⟩ (by simp) rfl _ rfl
      exact ⟨rfl, .int .i64 n1, by simp [execOp, Act.eval, d5, hn1, go_sem], rfl⟩
    · obtain rfl := Option.some.inj hi
      clear hi hlt hnA hnB
      intro a w1 hI hS hD
      have e6 : a.tmps.getD 6 undef = .slice (some ⟨gb, 0, none⟩) len lc := (hS.slot 6 (by kernel_rfl)).trans s6
      exact ⟨rfl, .slice (some ⟨gb, 0, none⟩) len lc, by simp [execOp, Act.eval, e6, go_sem], rfl⟩
    · exact absurd rfl hnA
    · obtain rfl := Option.some.inj hi
      clear hi hlt hnA hnB
      intro a w1 hI hS hD
      have e0 : a.tmps.getD 0 undef = .pointer (some ⟨wp, 0, none⟩) := (hS.slot 0 (by kernel_rfl)).trans s0
      exact ⟨rfl, .pointer (some ⟨wp, 0, none⟩), by simp [execOp, Act.eval, e0, go_sem], rfl⟩
    · obtain rfl := Option.some.inj hi
      clear hi hlt hnA hnB
      intro a w1 hI hS hD
      have d9 : a.tmps.getD 169 undef = .pointer (some ⟨wp, 0, none⟩) := hD ⟨9, .data⟩ (by simp) rfl _ rfl
      exact ⟨rfl, .pointer (some ⟨wp, 0, none⟩), by simp [execOp, Act.eval, d9, go_sem], rfl⟩
    · obtain rfl := Option.some.inj hi
      clear hi hlt hnA hnB
      intro a w1 hI hS hD
      have d10 : a.tmps.getD 170 undef = .pointer (some ⟨wp, 0, none⟩) := hD ⟨10, .data⟩ (by simp) rfl _ rfl
      exact ⟨rfl, .pointer (some ⟨wp, 2, none⟩), by simp [execOp, Act.eval, d10, go_sem], rfl⟩
    · obtain rfl := Option.some.inj hi
      clear hi hlt hnA hnB
      intro a w1 hI hS hD
      have d11 : a.tmps.getD 171 undef = .pointer (some ⟨wp, 2, none⟩) := hD ⟨11, .data⟩ (by simp) rfl _ rfl
      exact ⟨rfl, .pointer (some ⟨x, 0, none⟩), by simp [execOp, Act.eval, d11, c2 w1 hI, go_sem], rfl⟩
    · obtain rfl := Option.some.inj hi
      clear hi hlt hnA hnB
      intro a w1 hI hS hD
      have e3 : a.tmps.getD 3 undef = .pointer (some ⟨ob, 0, none⟩) := (hS.slot 3 (by kernel_rfl)).trans s3
      exact ⟨rfl, .pointer (some ⟨ob, 1, none⟩), by simp [execOp, Act.eval, e3, go_sem], rfl⟩
    · obtain rfl := Option.some.inj hi
      clear hi hlt hnA hnB
      intro a w1 hI hS hD
      have d13 : a.tmps.getD 173 undef = .pointer (some ⟨ob, 1, none⟩) := hD ⟨13, .data⟩ (by simp) rfl _ rfl
      exact ⟨rfl, .int .i64 nn, by simp [execOp, Act.eval, d13, o1 w1 hI, go_sem], rfl⟩
    · obtain rfl := Option.some.inj hi
      clear hi hlt hnA hnB
      intro a w1 hI hS hD
      have d14 : a.tmps.getD 174 undef = .int .i64 nn := hD ⟨14, .data⟩ (by simp) rfl _ rfl
      exact ⟨rfl, .int .i64 n1, by simp [execOp, Act.eval, d14, hn1, go_sem], rfl⟩
    · obtain rfl := Option.some.inj hi
      clear hi hlt hnA hnB
      intro a w1 hI hS hD
      have e5 : a.tmps.getD 5 undef = .slice sa len cs := (hS.slot 5 (by kernel_rfl)).trans s5
      exact ⟨rfl, .slice sa len cs, by simp [execOp, Act.eval, e5, go_sem], rfl⟩
    · exact absurd rfl hnB
    · obtain rfl := Option.some.inj hi
      clear hi hlt hnA hnB
      intro a w1 hI hS hD
      have d8 : a.tmps.getD 168 undef = .int .i64 ev := hD ⟨8, .data⟩ (by simp) rfl _ rfl
      have d17 : a.tmps.getD 177 undef = .int .i64 ev := hD ⟨17, .data⟩ (by simp) rfl _ rfl
      exact ⟨rfl, .bool true, by simp [execOp, Act.eval, d8, d17, go_sem], rfl⟩
    · obtain rfl := Option.some.inj hi
      clear hi hlt hnA hnB
      intro a w1 hI hS hD
      have d18 : a.tmps.getD 178 undef = .bool true := hD ⟨18, .data⟩ (by simp) rfl _ rfl
      exact ⟨rfl, .bool true, by simp [execOp, Act.eval, d18, go_sem], rfl⟩


end Go.Proofs.YtnfjhdedcnbdbaaGreat
