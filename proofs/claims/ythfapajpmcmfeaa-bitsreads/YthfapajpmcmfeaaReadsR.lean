import Derived.Test.YthfapajpmcmfeaaRfB
namespace Go.Proofs.Ythfapajpmcmfeaa
open Go.RowKit
set_option linter.unusedVariables false

set_option maxRecDepth 100000 in
set_option maxHeartbeats 2000000 in
theorem reads_lt (g b off n c m i : Nat) (x : Int) (w : World) (a0 : Act) (Q : Exit → Act → World → Prop) (hsz : a0.tmps.size = 134)
    (s0 : a0.tmps.getD 0 undef = .slice (some ⟨b, off, none⟩) n c)
    (s6 : a0.tmps.getD 6 undef = .slice (some ⟨g, 0, none⟩) m m)
    (s10 : a0.tmps.getD 10 undef = .int .i64 (i : Int))
    (hin : i < n)
    (him : i < m)
    (hcl : ∀ w1, Lat w w1 → w1.cell? ⟨g, i, none⟩ = some (.int .u8 x))
    (hcb : ∀ w1, Lat w w1 → w1.cell? ⟨b, off + i, none⟩ = some (.int .u8 x))
    (hQ : ∀ (v59 v60 v61 v62 v63 v64 v65 v66 v67 v68 v69 v70 v71 v72 v73 v74 v75 v76 v77 v78 v79 v80 v81 v82 v83 v84 v85 : Value) (w1 : World), Lat w w1 → Q .normal ((((((((((((((((((((((((((((a0.put (some 59) v59).put (some 60) v60).put (some 61) v61).put (some 62) v62).put (some 63) v63).put (some 64) v64).put (some 65) v65).put (some 66) v66).put (some 67) v67).put (some 68) v68).put (some 69) v69).put (some 70) v70).put (some 71) v71).put (some 72) v72).put (some 73) v73).put (some 74) v74).put (some 75) v75).put (some 76) v76).put (some 77) v77).put (some 78) v78).put (some 79) v79).put (some 80) v80).put (some 81) v81).put (some 82) v82).put (some 83) v83).put (some 84) v84).put (some 85) v85).put (some 86) (.bool false)) w1) :
    Code.wp Try.prog ((Try.f4.body.bind (findRegion 17)).getD .skip) Q a0 w := by
  conv => arg 2; whnf
  refine wp_region_inv Lat (TV [.int .i64 (i : Int), .slice (some ⟨b, off, none⟩) n c, .int .i64 (n : Int), .bool true, .bool true, .slice (some ⟨g, 0, none⟩) m m, .int .i64 (i : Int), .pointer (some ⟨g, i, none⟩), .int .u8 x, .slice (some ⟨b, off, none⟩) n c, .int .i64 (i : Int), .pointer (some ⟨b, off + i, none⟩), .int .u8 x, .bool false, .bool false, .bool false, .int .i64 (i : Int), .slice (some ⟨b, off, none⟩) n c, .int .i64 (n : Int), .bool false, .bool false, undef, undef, undef, undef, undef, .bool false, .bool false]) (by kernel_rfl) (by kernel_rfl) (by kernel_rfl) (by rw [hsz]; kernel_rfl) (by kernel_rfl) Lat.refl Lat.trans (TV.stable _) (Lat.draw w) ?hop ?hdone
  case hdone =>
    intro a w1 hL hS hT
    have k86 : a.tmps.getD 86 undef = .bool false := hT 27 _ rfl _ rfl
    have he := same_puts hS
    have hQ2 := hQ (a.tmps.getD 59 undef) (a.tmps.getD 60 undef) (a.tmps.getD 61 undef) (a.tmps.getD 62 undef) (a.tmps.getD 63 undef) (a.tmps.getD 64 undef) (a.tmps.getD 65 undef) (a.tmps.getD 66 undef) (a.tmps.getD 67 undef) (a.tmps.getD 68 undef) (a.tmps.getD 69 undef) (a.tmps.getD 70 undef) (a.tmps.getD 71 undef) (a.tmps.getD 72 undef) (a.tmps.getD 73 undef) (a.tmps.getD 74 undef) (a.tmps.getD 75 undef) (a.tmps.getD 76 undef) (a.tmps.getD 77 undef) (a.tmps.getD 78 undef) (a.tmps.getD 79 undef) (a.tmps.getD 80 undef) (a.tmps.getD 81 undef) (a.tmps.getD 82 undef) (a.tmps.getD 83 undef) (a.tmps.getD 84 undef) (a.tmps.getD 85 undef) w1 hL
    rw [← k86] at hQ2
    rw [he]
    exact hQ2
  case hop =>
    intro i o hi
    have hlt : i < 28 := (Array.getElem?_eq_some_iff.1 hi).1
    rcases (show i = 0 ∨ i = 1 ∨ i = 2 ∨ i = 3 ∨ i = 4 ∨ i = 5 ∨ i = 6 ∨ i = 7 ∨ i = 8 ∨ i = 9 ∨ i = 10 ∨ i = 11 ∨ i = 12 ∨ i = 13 ∨ i = 14 ∨ i = 15 ∨ i = 16 ∨ i = 17 ∨ i = 18 ∨ i = 19 ∨ i = 20 ∨ i = 21 ∨ i = 22 ∨ i = 23 ∨ i = 24 ∨ i = 25 ∨ i = 26 ∨ i = 27 by omega) with rfl | rfl | rfl | rfl | rfl | rfl | rfl | rfl | rfl | rfl | rfl | rfl | rfl | rfl | rfl | rfl | rfl | rfl | rfl | rfl | rfl | rfl | rfl | rfl | rfl | rfl | rfl | rfl
    · obtain rfl := Option.some.inj hi
      clear hi hlt
      intro a w1 hL hS hD
      have e10 : a.tmps.getD 10 undef = .int .i64 (i : Int) := (hS.slot 10 (by kernel_rfl)).trans s10
      refine step_yes rfl ?_
      exact ok_value Lat.refl (.int .i64 (i : Int)) (by simp [execOp, Act.eval, e10, go_sem]) (TV.mk rfl)
    · obtain rfl := Option.some.inj hi
      clear hi hlt
      intro a w1 hL hS hD
      have e0 : a.tmps.getD 0 undef = .slice (some ⟨b, off, none⟩) n c := (hS.slot 0 (by kernel_rfl)).trans s0
      refine step_yes rfl ?_
      exact ok_value Lat.refl (.slice (some ⟨b, off, none⟩) n c) (by simp [execOp, Act.eval, e0, go_sem]) (TV.mk rfl)
    · obtain rfl := Option.some.inj hi
      clear hi hlt
      intro a w1 hL hS hD
      have d1 : a.tmps.getD 60 undef = .slice (some ⟨b, off, none⟩) n c := hD ⟨1, .data⟩ (by simp) rfl _ rfl _ rfl
      refine step_yes rfl ?_
      exact ok_value Lat.refl (.int .i64 (n : Int)) (by simp [execOp, Act.eval, d1, resolve, invoke, builtin, go_sem]) (TV.mk rfl)
    · obtain rfl := Option.some.inj hi
      clear hi hlt
      intro a w1 hL hS hD
      have d0 : a.tmps.getD 59 undef = .int .i64 (i : Int) := hD ⟨0, .data⟩ (by simp) rfl _ rfl _ rfl
      have d2 : a.tmps.getD 61 undef = .int .i64 (n : Int) := hD ⟨2, .data⟩ (by simp) rfl _ rfl _ rfl
      refine step_yes rfl ?_
      exact ok_value Lat.refl (.bool true) (by simp [execOp, Act.eval, d0, d2, hin, go_sem]) (TV.mk rfl)
    · obtain rfl := Option.some.inj hi
      clear hi hlt
      intro a w1 hL hS hD
      have d3 : a.tmps.getD 62 undef = .bool true := hD ⟨3, .data⟩ (by simp) rfl _ rfl _ rfl
      refine step_yes rfl ?_
      exact ok_value Lat.refl (.bool true) (by simp [execOp, Act.eval, d3, go_sem]) (TV.mk rfl)
    · obtain rfl := Option.some.inj hi
      clear hi hlt
      intro a w1 hL hS hD
      have d4 : a.tmps.getD 63 undef = .bool true := hD ⟨4, .guard⟩ (by simp) rfl _ rfl _ rfl
      have e6 : a.tmps.getD 6 undef = .slice (some ⟨g, 0, none⟩) m m := (hS.slot 6 (by kernel_rfl)).trans s6
      refine step_yes (wanted_yes rfl rfl rfl d4) ?_
      exact ok_value Lat.refl (.slice (some ⟨g, 0, none⟩) m m) (by simp [execOp, Act.eval, e6, go_sem]) (TV.mk rfl)
    · obtain rfl := Option.some.inj hi
      clear hi hlt
      intro a w1 hL hS hD
      have d4 : a.tmps.getD 63 undef = .bool true := hD ⟨4, .guard⟩ (by simp) rfl _ rfl _ rfl
      have e10 : a.tmps.getD 10 undef = .int .i64 (i : Int) := (hS.slot 10 (by kernel_rfl)).trans s10
      refine step_yes (wanted_yes rfl rfl rfl d4) ?_
      exact ok_value Lat.refl (.int .i64 (i : Int)) (by simp [execOp, Act.eval, e10, go_sem]) (TV.mk rfl)
    · obtain rfl := Option.some.inj hi
      clear hi hlt
      intro a w1 hL hS hD
      have d4 : a.tmps.getD 63 undef = .bool true := hD ⟨4, .guard⟩ (by simp) rfl _ rfl _ rfl
      have d5 : a.tmps.getD 64 undef = .slice (some ⟨g, 0, none⟩) m m := hD ⟨5, .data⟩ (by simp) rfl _ rfl _ rfl
      have d6 : a.tmps.getD 65 undef = .int .i64 (i : Int) := hD ⟨6, .data⟩ (by simp) rfl _ rfl _ rfl
      refine step_yes (wanted_yes rfl rfl rfl d4) ?_
      exact ok_value Lat.refl (.pointer (some ⟨g, i, none⟩)) (by simp [execOp, Act.eval, d5, d6, him, go_sem]) (TV.mk rfl)
    · obtain rfl := Option.some.inj hi
      clear hi hlt
      intro a w1 hL hS hD
      have d4 : a.tmps.getD 63 undef = .bool true := hD ⟨4, .guard⟩ (by simp) rfl _ rfl _ rfl
      have d7 : a.tmps.getD 66 undef = .pointer (some ⟨g, i, none⟩) := hD ⟨7, .data⟩ (by simp) rfl _ rfl _ rfl
      refine step_yes (wanted_yes rfl rfl rfl d4) ?_
      exact ok_value Lat.refl (.int .u8 x) (by simp [execOp, Act.eval, d7, hcl w1 hL, go_sem]) (TV.mk rfl)
    · obtain rfl := Option.some.inj hi
      clear hi hlt
      intro a w1 hL hS hD
      have d4 : a.tmps.getD 63 undef = .bool true := hD ⟨4, .guard⟩ (by simp) rfl _ rfl _ rfl
      have e0 : a.tmps.getD 0 undef = .slice (some ⟨b, off, none⟩) n c := (hS.slot 0 (by kernel_rfl)).trans s0
      refine step_yes (wanted_yes rfl rfl rfl d4) ?_
      exact ok_value Lat.refl (.slice (some ⟨b, off, none⟩) n c) (by simp [execOp, Act.eval, e0, go_sem]) (TV.mk rfl)
    · obtain rfl := Option.some.inj hi
      clear hi hlt
      intro a w1 hL hS hD
      have d4 : a.tmps.getD 63 undef = .bool true := hD ⟨4, .guard⟩ (by simp) rfl _ rfl _ rfl
      have e10 : a.tmps.getD 10 undef = .int .i64 (i : Int) := (hS.slot 10 (by kernel_rfl)).trans s10
      refine step_yes (wanted_yes rfl rfl rfl d4) ?_
      exact ok_value Lat.refl (.int .i64 (i : Int)) (by simp [execOp, Act.eval, e10, go_sem]) (TV.mk rfl)
    · obtain rfl := Option.some.inj hi
      clear hi hlt
      intro a w1 hL hS hD
      have d4 : a.tmps.getD 63 undef = .bool true := hD ⟨4, .guard⟩ (by simp) rfl _ rfl _ rfl
      have d9 : a.tmps.getD 68 undef = .slice (some ⟨b, off, none⟩) n c := hD ⟨9, .data⟩ (by simp) rfl _ rfl _ rfl
      have d10 : a.tmps.getD 69 undef = .int .i64 (i : Int) := hD ⟨10, .data⟩ (by simp) rfl _ rfl _ rfl
      refine step_yes (wanted_yes rfl rfl rfl d4) ?_
      exact ok_value Lat.refl (.pointer (some ⟨b, off + i, none⟩)) (by simp [execOp, Act.eval, d9, d10, hin, go_sem]) (TV.mk rfl)
    · obtain rfl := Option.some.inj hi
      clear hi hlt
      intro a w1 hL hS hD
      have d4 : a.tmps.getD 63 undef = .bool true := hD ⟨4, .guard⟩ (by simp) rfl _ rfl _ rfl
      have d11 : a.tmps.getD 70 undef = .pointer (some ⟨b, off + i, none⟩) := hD ⟨11, .data⟩ (by simp) rfl _ rfl _ rfl
      refine step_yes (wanted_yes rfl rfl rfl d4) ?_
      exact ok_value Lat.refl (.int .u8 x) (by simp [execOp, Act.eval, d11, hcb w1 hL, go_sem]) (TV.mk rfl)
    · obtain rfl := Option.some.inj hi
      clear hi hlt
      intro a w1 hL hS hD
      have d4 : a.tmps.getD 63 undef = .bool true := hD ⟨4, .guard⟩ (by simp) rfl _ rfl _ rfl
      have d8 : a.tmps.getD 67 undef = .int .u8 x := hD ⟨8, .data⟩ (by simp) rfl _ rfl _ rfl
      have d12 : a.tmps.getD 71 undef = .int .u8 x := hD ⟨12, .data⟩ (by simp) rfl _ rfl _ rfl
      refine step_yes (wanted_yes rfl rfl rfl d4) ?_
      exact ok_value Lat.refl (.bool false) (by simp [execOp, Act.eval, d8, d12, go_sem]) (TV.mk rfl)
    · obtain rfl := Option.some.inj hi
      clear hi hlt
      intro a w1 hL hS hD
      have d4 : a.tmps.getD 63 undef = .bool true := hD ⟨4, .data⟩ (by simp) rfl _ rfl _ rfl
      have d13 : a.tmps.getD 72 undef = .bool false := hD ⟨13, .data⟩ (by simp) rfl _ rfl _ rfl
      refine step_yes rfl ?_
      exact ok_value Lat.refl (.bool false) (by simp [execOp, Act.eval, d4, d13, go_sem]) (TV.mk rfl)
    · obtain rfl := Option.some.inj hi
      clear hi hlt
      intro a w1 hL hS hD
      have d14 : a.tmps.getD 73 undef = .bool false := hD ⟨14, .data⟩ (by simp) rfl _ rfl _ rfl
      refine step_yes rfl ?_
      exact ok_value Lat.refl (.bool false) (by simp [execOp, Act.eval, d14, go_sem]) (TV.mk rfl)
    · obtain rfl := Option.some.inj hi
      clear hi hlt
      intro a w1 hL hS hD
      have d15 : a.tmps.getD 74 undef = .bool false := hD ⟨15, .guard⟩ (by simp) rfl _ rfl _ rfl
      have e10 : a.tmps.getD 10 undef = .int .i64 (i : Int) := (hS.slot 10 (by kernel_rfl)).trans s10
      refine step_yes (wanted_yes rfl rfl rfl d15) ?_
      exact ok_value Lat.refl (.int .i64 (i : Int)) (by simp [execOp, Act.eval, e10, go_sem]) (TV.mk rfl)
    · obtain rfl := Option.some.inj hi
      clear hi hlt
      intro a w1 hL hS hD
      have d15 : a.tmps.getD 74 undef = .bool false := hD ⟨15, .guard⟩ (by simp) rfl _ rfl _ rfl
      have e0 : a.tmps.getD 0 undef = .slice (some ⟨b, off, none⟩) n c := (hS.slot 0 (by kernel_rfl)).trans s0
      refine step_yes (wanted_yes rfl rfl rfl d15) ?_
      exact ok_value Lat.refl (.slice (some ⟨b, off, none⟩) n c) (by simp [execOp, Act.eval, e0, go_sem]) (TV.mk rfl)
    · obtain rfl := Option.some.inj hi
      clear hi hlt
      intro a w1 hL hS hD
      have d15 : a.tmps.getD 74 undef = .bool false := hD ⟨15, .guard⟩ (by simp) rfl _ rfl _ rfl
      have d17 : a.tmps.getD 76 undef = .slice (some ⟨b, off, none⟩) n c := hD ⟨17, .data⟩ (by simp) rfl _ rfl _ rfl
      refine step_yes (wanted_yes rfl rfl rfl d15) ?_
      exact ok_value Lat.refl (.int .i64 (n : Int)) (by simp [execOp, Act.eval, d17, resolve, invoke, builtin, go_sem]) (TV.mk rfl)
    · obtain rfl := Option.some.inj hi
      clear hi hlt
      intro a w1 hL hS hD
      have d15 : a.tmps.getD 74 undef = .bool false := hD ⟨15, .guard⟩ (by simp) rfl _ rfl _ rfl
      have d16 : a.tmps.getD 75 undef = .int .i64 (i : Int) := hD ⟨16, .data⟩ (by simp) rfl _ rfl _ rfl
      have d18 : a.tmps.getD 77 undef = .int .i64 (n : Int) := hD ⟨18, .data⟩ (by simp) rfl _ rfl _ rfl
      refine step_yes (wanted_yes rfl rfl rfl d15) ?_
      exact ok_value Lat.refl (.bool false) (by simp [execOp, Act.eval, d16, d18, hin, go_sem]) (TV.mk rfl)
    · obtain rfl := Option.some.inj hi
      clear hi hlt
      intro a w1 hL hS hD
      have d15 : a.tmps.getD 74 undef = .bool false := hD ⟨15, .guard⟩ (by simp) rfl _ rfl _ rfl
      have d19 : a.tmps.getD 78 undef = .bool false := hD ⟨19, .data⟩ (by simp) rfl _ rfl _ rfl
      refine step_yes (wanted_yes rfl rfl rfl d15) ?_
      exact ok_value Lat.refl (.bool false) (by simp [execOp, Act.eval, d19, go_sem]) (TV.mk rfl)
    · obtain rfl := Option.some.inj hi
      clear hi hlt
      intro a w1 hL hS hD
      have d20 : a.tmps.getD 79 undef = .bool false := hD ⟨20, .guard⟩ (by simp) rfl _ rfl _ rfl
      exact step_no (wanted_no rfl rfl rfl d20 rfl) (TV.mk rfl)
    · obtain rfl := Option.some.inj hi
      clear hi hlt
      intro a w1 hL hS hD
      have d20 : a.tmps.getD 79 undef = .bool false := hD ⟨20, .guard⟩ (by simp) rfl _ rfl _ rfl
      exact step_no (wanted_no rfl rfl rfl d20 rfl) (TV.mk rfl)
    · obtain rfl := Option.some.inj hi
      clear hi hlt
      intro a w1 hL hS hD
      have d20 : a.tmps.getD 79 undef = .bool false := hD ⟨20, .guard⟩ (by simp) rfl _ rfl _ rfl
      exact step_no (wanted_no rfl rfl rfl d20 rfl) (TV.mk rfl)
    · obtain rfl := Option.some.inj hi
      clear hi hlt
      intro a w1 hL hS hD
      have d20 : a.tmps.getD 79 undef = .bool false := hD ⟨20, .guard⟩ (by simp) rfl _ rfl _ rfl
      exact step_no (wanted_no rfl rfl rfl d20 rfl) (TV.mk rfl)
    · obtain rfl := Option.some.inj hi
      clear hi hlt
      intro a w1 hL hS hD
      have d20 : a.tmps.getD 79 undef = .bool false := hD ⟨20, .guard⟩ (by simp) rfl _ rfl _ rfl
      exact step_no (wanted_no rfl rfl rfl d20 rfl) (TV.mk rfl)
    · obtain rfl := Option.some.inj hi
      clear hi hlt
      intro a w1 hL hS hD
      have d15 : a.tmps.getD 74 undef = .bool false := hD ⟨15, .guard⟩ (by simp) rfl _ rfl _ rfl
      have d20 : a.tmps.getD 79 undef = .bool false := hD ⟨20, .data⟩ (by simp) rfl _ rfl _ rfl
      have d25 : a.tmps.getD 84 undef = undef := hD ⟨25, .data⟩ (by simp) rfl _ rfl _ rfl
      refine step_yes (wanted_yes rfl rfl rfl d15) ?_
      exact ok_value Lat.refl (.bool false) (by simp [execOp, Act.eval, d20, d25, go_sem]) (TV.mk rfl)
    · obtain rfl := Option.some.inj hi
      clear hi hlt
      intro a w1 hL hS hD
      have d15 : a.tmps.getD 74 undef = .bool false := hD ⟨15, .data⟩ (by simp) rfl _ rfl _ rfl
      have d26 : a.tmps.getD 85 undef = .bool false := hD ⟨26, .data⟩ (by simp) rfl _ rfl _ rfl
      refine step_yes rfl ?_
      exact ok_value Lat.refl (.bool false) (by simp [execOp, Act.eval, d15, d26, go_sem]) (TV.mk rfl)

set_option maxRecDepth 100000 in
set_option maxHeartbeats 2000000 in
theorem reads_ge (g n c m i : Nat) (ad : Option Addr) (w : World) (a0 : Act) (Q : Exit → Act → World → Prop) (hsz : a0.tmps.size = 134)
    (s0 : a0.tmps.getD 0 undef = .slice ad n c)
    (s6 : a0.tmps.getD 6 undef = .slice (some ⟨g, 0, none⟩) m m)
    (s10 : a0.tmps.getD 10 undef = .int .i64 (i : Int))
    (hin : n ≤ i)
    (him : i < m)
    (hcl : ∀ w1, Lat w w1 → w1.cell? ⟨g, i, none⟩ = some (.int .u8 255))
    (hQ : ∀ (v59 v60 v61 v62 v63 v64 v65 v66 v67 v68 v69 v70 v71 v72 v73 v74 v75 v76 v77 v78 v79 v80 v81 v82 v83 v84 v85 : Value) (w1 : World), Lat w w1 → Q .normal ((((((((((((((((((((((((((((a0.put (some 59) v59).put (some 60) v60).put (some 61) v61).put (some 62) v62).put (some 63) v63).put (some 64) v64).put (some 65) v65).put (some 66) v66).put (some 67) v67).put (some 68) v68).put (some 69) v69).put (some 70) v70).put (some 71) v71).put (some 72) v72).put (some 73) v73).put (some 74) v74).put (some 75) v75).put (some 76) v76).put (some 77) v77).put (some 78) v78).put (some 79) v79).put (some 80) v80).put (some 81) v81).put (some 82) v82).put (some 83) v83).put (some 84) v84).put (some 85) v85).put (some 86) (.bool false)) w1) :
    Code.wp Try.prog ((Try.f4.body.bind (findRegion 17)).getD .skip) Q a0 w := by
  conv => arg 2; whnf
  refine wp_region_inv Lat (TV [.int .i64 (i : Int), .slice ad n c, .int .i64 (n : Int), .bool false, .bool false, undef, undef, undef, undef, undef, undef, undef, undef, undef, .bool false, .bool false, .int .i64 (i : Int), .slice ad n c, .int .i64 (n : Int), .bool true, .bool true, .slice (some ⟨g, 0, none⟩) m m, .int .i64 (i : Int), .pointer (some ⟨g, i, none⟩), .int .u8 255, .bool false, .bool false, .bool false]) (by kernel_rfl) (by kernel_rfl) (by kernel_rfl) (by rw [hsz]; kernel_rfl) (by kernel_rfl) Lat.refl Lat.trans (TV.stable _) (Lat.draw w) ?hop ?hdone
  case hdone =>
    intro a w1 hL hS hT
    have k86 : a.tmps.getD 86 undef = .bool false := hT 27 _ rfl _ rfl
    have he := same_puts hS
    have hQ2 := hQ (a.tmps.getD 59 undef) (a.tmps.getD 60 undef) (a.tmps.getD 61 undef) (a.tmps.getD 62 undef) (a.tmps.getD 63 undef) (a.tmps.getD 64 undef) (a.tmps.getD 65 undef) (a.tmps.getD 66 undef) (a.tmps.getD 67 undef) (a.tmps.getD 68 undef) (a.tmps.getD 69 undef) (a.tmps.getD 70 undef) (a.tmps.getD 71 undef) (a.tmps.getD 72 undef) (a.tmps.getD 73 undef) (a.tmps.getD 74 undef) (a.tmps.getD 75 undef) (a.tmps.getD 76 undef) (a.tmps.getD 77 undef) (a.tmps.getD 78 undef) (a.tmps.getD 79 undef) (a.tmps.getD 80 undef) (a.tmps.getD 81 undef) (a.tmps.getD 82 undef) (a.tmps.getD 83 undef) (a.tmps.getD 84 undef) (a.tmps.getD 85 undef) w1 hL
    rw [← k86] at hQ2
    rw [he]
    exact hQ2
  case hop =>
    intro i o hi
    have hlt : i < 28 := (Array.getElem?_eq_some_iff.1 hi).1
    rcases (show i = 0 ∨ i = 1 ∨ i = 2 ∨ i = 3 ∨ i = 4 ∨ i = 5 ∨ i = 6 ∨ i = 7 ∨ i = 8 ∨ i = 9 ∨ i = 10 ∨ i = 11 ∨ i = 12 ∨ i = 13 ∨ i = 14 ∨ i = 15 ∨ i = 16 ∨ i = 17 ∨ i = 18 ∨ i = 19 ∨ i = 20 ∨ i = 21 ∨ i = 22 ∨ i = 23 ∨ i = 24 ∨ i = 25 ∨ i = 26 ∨ i = 27 by omega) with rfl | rfl | rfl | rfl | rfl | rfl | rfl | rfl | rfl | rfl | rfl | rfl | rfl | rfl | rfl | rfl | rfl | rfl | rfl | rfl | rfl | rfl | rfl | rfl | rfl | rfl | rfl | rfl
    · obtain rfl := Option.some.inj hi
      clear hi hlt
      intro a w1 hL hS hD
      have e10 : a.tmps.getD 10 undef = .int .i64 (i : Int) := (hS.slot 10 (by kernel_rfl)).trans s10
      refine step_yes rfl ?_
      exact ok_value Lat.refl (.int .i64 (i : Int)) (by simp [execOp, Act.eval, e10, go_sem]) (TV.mk rfl)
    · obtain rfl := Option.some.inj hi
      clear hi hlt
      intro a w1 hL hS hD
      have e0 : a.tmps.getD 0 undef = .slice ad n c := (hS.slot 0 (by kernel_rfl)).trans s0
      refine step_yes rfl ?_
      exact ok_value Lat.refl (.slice ad n c) (by simp [execOp, Act.eval, e0, go_sem]) (TV.mk rfl)
    · obtain rfl := Option.some.inj hi
      clear hi hlt
      intro a w1 hL hS hD
      have d1 : a.tmps.getD 60 undef = .slice ad n c := hD ⟨1, .data⟩ (by simp) rfl _ rfl _ rfl
      refine step_yes rfl ?_
      exact ok_value Lat.refl (.int .i64 (n : Int)) (by simp [execOp, Act.eval, d1, resolve, invoke, builtin, go_sem]) (TV.mk rfl)
    · obtain rfl := Option.some.inj hi
      clear hi hlt
      intro a w1 hL hS hD
      have d0 : a.tmps.getD 59 undef = .int .i64 (i : Int) := hD ⟨0, .data⟩ (by simp) rfl _ rfl _ rfl
      have d2 : a.tmps.getD 61 undef = .int .i64 (n : Int) := hD ⟨2, .data⟩ (by simp) rfl _ rfl _ rfl
      refine step_yes rfl ?_
      exact ok_value Lat.refl (.bool false) (by simp [execOp, Act.eval, d0, d2, hin, go_sem]) (TV.mk rfl)
    · obtain rfl := Option.some.inj hi
      clear hi hlt
      intro a w1 hL hS hD
      have d3 : a.tmps.getD 62 undef = .bool false := hD ⟨3, .data⟩ (by simp) rfl _ rfl _ rfl
      refine step_yes rfl ?_
      exact ok_value Lat.refl (.bool false) (by simp [execOp, Act.eval, d3, go_sem]) (TV.mk rfl)
    · obtain rfl := Option.some.inj hi
      clear hi hlt
      intro a w1 hL hS hD
      have d4 : a.tmps.getD 63 undef = .bool false := hD ⟨4, .guard⟩ (by simp) rfl _ rfl _ rfl
      exact step_no (wanted_no rfl rfl rfl d4 rfl) (TV.mk rfl)
    · obtain rfl := Option.some.inj hi
      clear hi hlt
      intro a w1 hL hS hD
      have d4 : a.tmps.getD 63 undef = .bool false := hD ⟨4, .guard⟩ (by simp) rfl _ rfl _ rfl
      exact step_no (wanted_no rfl rfl rfl d4 rfl) (TV.mk rfl)
    · obtain rfl := Option.some.inj hi
      clear hi hlt
      intro a w1 hL hS hD
      have d4 : a.tmps.getD 63 undef = .bool false := hD ⟨4, .guard⟩ (by simp) rfl _ rfl _ rfl
      exact step_no (wanted_no rfl rfl rfl d4 rfl) (TV.mk rfl)
    · obtain rfl := Option.some.inj hi
      clear hi hlt
      intro a w1 hL hS hD
      have d4 : a.tmps.getD 63 undef = .bool false := hD ⟨4, .guard⟩ (by simp) rfl _ rfl _ rfl
      exact step_no (wanted_no rfl rfl rfl d4 rfl) (TV.mk rfl)
    · obtain rfl := Option.some.inj hi
      clear hi hlt
      intro a w1 hL hS hD
      have d4 : a.tmps.getD 63 undef = .bool false := hD ⟨4, .guard⟩ (by simp) rfl _ rfl _ rfl
      exact step_no (wanted_no rfl rfl rfl d4 rfl) (TV.mk rfl)
    · obtain rfl := Option.some.inj hi
      clear hi hlt
      intro a w1 hL hS hD
      have d4 : a.tmps.getD 63 undef = .bool false := hD ⟨4, .guard⟩ (by simp) rfl _ rfl _ rfl
      exact step_no (wanted_no rfl rfl rfl d4 rfl) (TV.mk rfl)
    · obtain rfl := Option.some.inj hi
      clear hi hlt
      intro a w1 hL hS hD
      have d4 : a.tmps.getD 63 undef = .bool false := hD ⟨4, .guard⟩ (by simp) rfl _ rfl _ rfl
      exact step_no (wanted_no rfl rfl rfl d4 rfl) (TV.mk rfl)
    · obtain rfl := Option.some.inj hi
      clear hi hlt
      intro a w1 hL hS hD
      have d4 : a.tmps.getD 63 undef = .bool false := hD ⟨4, .guard⟩ (by simp) rfl _ rfl _ rfl
      exact step_no (wanted_no rfl rfl rfl d4 rfl) (TV.mk rfl)
    · obtain rfl := Option.some.inj hi
      clear hi hlt
      intro a w1 hL hS hD
      have d4 : a.tmps.getD 63 undef = .bool false := hD ⟨4, .guard⟩ (by simp) rfl _ rfl _ rfl
      exact step_no (wanted_no rfl rfl rfl d4 rfl) (TV.mk rfl)
    · obtain rfl := Option.some.inj hi
      clear hi hlt
      intro a w1 hL hS hD
      have d4 : a.tmps.getD 63 undef = .bool false := hD ⟨4, .data⟩ (by simp) rfl _ rfl _ rfl
      have d13 : a.tmps.getD 72 undef = undef := hD ⟨13, .data⟩ (by simp) rfl _ rfl _ rfl
      refine step_yes rfl ?_
      exact ok_value Lat.refl (.bool false) (by simp [execOp, Act.eval, d4, d13, go_sem]) (TV.mk rfl)
    · obtain rfl := Option.some.inj hi
      clear hi hlt
      intro a w1 hL hS hD
      have d14 : a.tmps.getD 73 undef = .bool false := hD ⟨14, .data⟩ (by simp) rfl _ rfl _ rfl
      refine step_yes rfl ?_
      exact ok_value Lat.refl (.bool false) (by simp [execOp, Act.eval, d14, go_sem]) (TV.mk rfl)
    · obtain rfl := Option.some.inj hi
      clear hi hlt
      intro a w1 hL hS hD
      have d15 : a.tmps.getD 74 undef = .bool false := hD ⟨15, .guard⟩ (by simp) rfl _ rfl _ rfl
      have e10 : a.tmps.getD 10 undef = .int .i64 (i : Int) := (hS.slot 10 (by kernel_rfl)).trans s10
      refine step_yes (wanted_yes rfl rfl rfl d15) ?_
      exact ok_value Lat.refl (.int .i64 (i : Int)) (by simp [execOp, Act.eval, e10, go_sem]) (TV.mk rfl)
    · obtain rfl := Option.some.inj hi
      clear hi hlt
      intro a w1 hL hS hD
      have d15 : a.tmps.getD 74 undef = .bool false := hD ⟨15, .guard⟩ (by simp) rfl _ rfl _ rfl
      have e0 : a.tmps.getD 0 undef = .slice ad n c := (hS.slot 0 (by kernel_rfl)).trans s0
      refine step_yes (wanted_yes rfl rfl rfl d15) ?_
      exact ok_value Lat.refl (.slice ad n c) (by simp [execOp, Act.eval, e0, go_sem]) (TV.mk rfl)
    · obtain rfl := Option.some.inj hi
      clear hi hlt
      intro a w1 hL hS hD
      have d15 : a.tmps.getD 74 undef = .bool false := hD ⟨15, .guard⟩ (by simp) rfl _ rfl _ rfl
      have d17 : a.tmps.getD 76 undef = .slice ad n c := hD ⟨17, .data⟩ (by simp) rfl _ rfl _ rfl
      refine step_yes (wanted_yes rfl rfl rfl d15) ?_
      exact ok_value Lat.refl (.int .i64 (n : Int)) (by simp [execOp, Act.eval, d17, resolve, invoke, builtin, go_sem]) (TV.mk rfl)
    · obtain rfl := Option.some.inj hi
      clear hi hlt
      intro a w1 hL hS hD
      have d15 : a.tmps.getD 74 undef = .bool false := hD ⟨15, .guard⟩ (by simp) rfl _ rfl _ rfl
      have d16 : a.tmps.getD 75 undef = .int .i64 (i : Int) := hD ⟨16, .data⟩ (by simp) rfl _ rfl _ rfl
      have d18 : a.tmps.getD 77 undef = .int .i64 (n : Int) := hD ⟨18, .data⟩ (by simp) rfl _ rfl _ rfl
      refine step_yes (wanted_yes rfl rfl rfl d15) ?_
      exact ok_value Lat.refl (.bool true) (by simp [execOp, Act.eval, d16, d18, hin, go_sem]) (TV.mk rfl)
    · obtain rfl := Option.some.inj hi
      clear hi hlt
      intro a w1 hL hS hD
      have d15 : a.tmps.getD 74 undef = .bool false := hD ⟨15, .guard⟩ (by simp) rfl _ rfl _ rfl
      have d19 : a.tmps.getD 78 undef = .bool true := hD ⟨19, .data⟩ (by simp) rfl _ rfl _ rfl
      refine step_yes (wanted_yes rfl rfl rfl d15) ?_
      exact ok_value Lat.refl (.bool true) (by simp [execOp, Act.eval, d19, go_sem]) (TV.mk rfl)
    · obtain rfl := Option.some.inj hi
      clear hi hlt
      intro a w1 hL hS hD
      have d20 : a.tmps.getD 79 undef = .bool true := hD ⟨20, .guard⟩ (by simp) rfl _ rfl _ rfl
      have e6 : a.tmps.getD 6 undef = .slice (some ⟨g, 0, none⟩) m m := (hS.slot 6 (by kernel_rfl)).trans s6
      refine step_yes (wanted_yes rfl rfl rfl d20) ?_
      exact ok_value Lat.refl (.slice (some ⟨g, 0, none⟩) m m) (by simp [execOp, Act.eval, e6, go_sem]) (TV.mk rfl)
    · obtain rfl := Option.some.inj hi
      clear hi hlt
      intro a w1 hL hS hD
      have d20 : a.tmps.getD 79 undef = .bool true := hD ⟨20, .guard⟩ (by simp) rfl _ rfl _ rfl
      have e10 : a.tmps.getD 10 undef = .int .i64 (i : Int) := (hS.slot 10 (by kernel_rfl)).trans s10
      refine step_yes (wanted_yes rfl rfl rfl d20) ?_
      exact ok_value Lat.refl (.int .i64 (i : Int)) (by simp [execOp, Act.eval, e10, go_sem]) (TV.mk rfl)
    · obtain rfl := Option.some.inj hi
      clear hi hlt
      intro a w1 hL hS hD
      have d20 : a.tmps.getD 79 undef = .bool true := hD ⟨20, .guard⟩ (by simp) rfl _ rfl _ rfl
      have d21 : a.tmps.getD 80 undef = .slice (some ⟨g, 0, none⟩) m m := hD ⟨21, .data⟩ (by simp) rfl _ rfl _ rfl
      have d22 : a.tmps.getD 81 undef = .int .i64 (i : Int) := hD ⟨22, .data⟩ (by simp) rfl _ rfl _ rfl
      refine step_yes (wanted_yes rfl rfl rfl d20) ?_
      exact ok_value Lat.refl (.pointer (some ⟨g, i, none⟩)) (by simp [execOp, Act.eval, d21, d22, him, go_sem]) (TV.mk rfl)
    · obtain rfl := Option.some.inj hi
      clear hi hlt
      intro a w1 hL hS hD
      have d20 : a.tmps.getD 79 undef = .bool true := hD ⟨20, .guard⟩ (by simp) rfl _ rfl _ rfl
      have d23 : a.tmps.getD 82 undef = .pointer (some ⟨g, i, none⟩) := hD ⟨23, .data⟩ (by simp) rfl _ rfl _ rfl
      refine step_yes (wanted_yes rfl rfl rfl d20) ?_
      exact ok_value Lat.refl (.int .u8 255) (by simp [execOp, Act.eval, d23, hcl w1 hL, go_sem]) (TV.mk rfl)
    · obtain rfl := Option.some.inj hi
      clear hi hlt
      intro a w1 hL hS hD
      have d20 : a.tmps.getD 79 undef = .bool true := hD ⟨20, .guard⟩ (by simp) rfl _ rfl _ rfl
      have d24 : a.tmps.getD 83 undef = .int .u8 255 := hD ⟨24, .data⟩ (by simp) rfl _ rfl _ rfl
      refine step_yes (wanted_yes rfl rfl rfl d20) ?_
      exact ok_value Lat.refl (.bool false) (by simp [execOp, Act.eval, d24, go_sem]) (TV.mk rfl)
    · obtain rfl := Option.some.inj hi
      clear hi hlt
      intro a w1 hL hS hD
      have d15 : a.tmps.getD 74 undef = .bool false := hD ⟨15, .guard⟩ (by simp) rfl _ rfl _ rfl
      have d20 : a.tmps.getD 79 undef = .bool true := hD ⟨20, .data⟩ (by simp) rfl _ rfl _ rfl
      have d25 : a.tmps.getD 84 undef = .bool false := hD ⟨25, .data⟩ (by simp) rfl _ rfl _ rfl
      refine step_yes (wanted_yes rfl rfl rfl d15) ?_
      exact ok_value Lat.refl (.bool false) (by simp [execOp, Act.eval, d20, d25, go_sem]) (TV.mk rfl)
    · obtain rfl := Option.some.inj hi
      clear hi hlt
      intro a w1 hL hS hD
      have d15 : a.tmps.getD 74 undef = .bool false := hD ⟨15, .data⟩ (by simp) rfl _ rfl _ rfl
      have d26 : a.tmps.getD 85 undef = .bool false := hD ⟨26, .data⟩ (by simp) rfl _ rfl _ rfl
      refine step_yes rfl ?_
      exact ok_value Lat.refl (.bool false) (by simp [execOp, Act.eval, d15, d26, go_sem]) (TV.mk rfl)

end Go.Proofs.Ythfapajpmcmfeaa
