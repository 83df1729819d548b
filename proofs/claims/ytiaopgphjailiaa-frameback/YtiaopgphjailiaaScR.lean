/-
  FrameScans: regions that draw their order, in rounds.
-/
import Derived.Test.YtiaopgphjailiaaGetW
import Derived.Test.YtiaopgphjailiaaRngB
namespace Go.Proofs.Ytiaopgphjailiaa
open Go Go.RowKit
set_option linter.unusedVariables false
set_option linter.unusedSimpArgs false

set_option maxRecDepth 100000 in
set_option maxHeartbeats 2000000 in
theorem scan_r20 (bi bw gw m cw i n1 c1 n2 c2 : Nat) (k : Int) (S : ByteArray) (ad1 ad2 : Option Addr) (w : World) (a0 : Act) (Q : Exit → Act → World → Prop) (lp nn : Nat) (hlo : ¬ LetsOut Q) (hsz : a0.tmps.size = 147)
    (s13 : a0.tmps.getD 13 undef = .pointer (some ⟨bi, 0, none⟩))
    (s11 : a0.tmps.getD 11 undef = .pointer (some ⟨bw, 0, none⟩))
    (s14 : a0.tmps.getD 14 undef = .int .u8 k)
    (s15 : a0.tmps.getD 15 undef = .slice ad1 n1 c1)
    (hi : ∀ w1, Lat w w1 → w1.cell? ⟨bi, 0, none⟩ = some (.int .i64 (i : Int)))
    (hw : ∀ w1, Lat w w1 → w1.cell? ⟨bw, 0, none⟩ = some (.slice (some ⟨gw, 0, none⟩) m cw))
    (hlt : (i : Int) < (m : Int))
    (hltN : i < m)
    (hk : ∀ w1, Lat w w1 → w1.cell? ⟨gw, i * 2, none⟩ = some (.int .u8 k))
    (hd : ∀ w1, Lat w w1 → w1.cell? ⟨gw, i * 2 + 1, none⟩ = some (.slice ad2 n2 c2))
    (hs1 : ∀ w1, Lat w w1 → (convert 22 9 (.slice ad1 n1 c1)).run Try.prog w1 = .ok (.string S) w1)
    (hs2 : ∀ w1, Lat w w1 → (convert 22 9 (.slice ad2 n2 c2)).run Try.prog w1 = .ok (.string S) w1)
    (hQ : ∀ (v76 v77 v78 v79 v80 v81 v82 v83 v84 v85 v86 v87 v88 v89 v90 v91 v92 v93 v94 v95 v96 v97 v98 : Value) (w1 : World), Lat w w1 → Q .normal ((((((((((((((((((((((((a0.put (some 76) v76).put (some 77) v77).put (some 78) v78).put (some 79) v79).put (some 80) v80).put (some 81) v81).put (some 82) v82).put (some 83) v83).put (some 84) v84).put (some 85) v85).put (some 86) v86).put (some 87) v87).put (some 88) v88).put (some 89) v89).put (some 90) v90).put (some 91) v91).put (some 92) v92).put (some 93) v93).put (some 94) v94).put (some 95) v95).put (some 96) v96).put (some 97) v97).put (some 98) v98).put (some 99) (.bool false)) w1) :
    Code.wpIn (Fence.wide.inRound lp) nn Try.prog ((Try.f5.body.bind (findR 20)).getD .skip) Q a0 w := by
  conv => arg 4; whnf
  refine wpIn_region_inv Lat (TV [.int .i64 (i : Int), .slice (some ⟨gw, 0, none⟩) m cw, .int .i64 (m : Int), .bool false, .bool false, .int .u8 k, .slice (some ⟨gw, 0, none⟩) m cw, .int .i64 (i : Int), .pointer (some ⟨gw, i * 2, none⟩), .pointer (some ⟨gw, i * 2, none⟩), .int .u8 k, .bool false, .bool false, .bool false, .slice ad1 n1 c1, .string S, .slice (some ⟨gw, 0, none⟩) m cw, .int .i64 (i : Int), .pointer (some ⟨gw, i * 2, none⟩), .pointer (some ⟨gw, i * 2 + 1, none⟩), .slice ad2 n2 c2, .string S, .bool false, .bool false]) (by kernel_rfl) hlo (by kernel_rfl) (by kernel_rfl) (by kernel_rfl) (by rw [hsz]; kernel_rfl) (by kernel_rfl) Lat.refl Lat.trans (TV.stable _) (Lat.draw w) ?hop ?hdone
  case hdone =>
    intro a w1 hL hS hT
    have k99 : a.tmps.getD 99 undef = .bool false := hT 23 _ rfl _ rfl
    have he := same_puts hS
    have hQ2 := hQ (a.tmps.getD 76 undef) (a.tmps.getD 77 undef) (a.tmps.getD 78 undef) (a.tmps.getD 79 undef) (a.tmps.getD 80 undef) (a.tmps.getD 81 undef) (a.tmps.getD 82 undef) (a.tmps.getD 83 undef) (a.tmps.getD 84 undef) (a.tmps.getD 85 undef) (a.tmps.getD 86 undef) (a.tmps.getD 87 undef) (a.tmps.getD 88 undef) (a.tmps.getD 89 undef) (a.tmps.getD 90 undef) (a.tmps.getD 91 undef) (a.tmps.getD 92 undef) (a.tmps.getD 93 undef) (a.tmps.getD 94 undef) (a.tmps.getD 95 undef) (a.tmps.getD 96 undef) (a.tmps.getD 97 undef) (a.tmps.getD 98 undef) w1 hL
    rw [← k99] at hQ2
    rw [he]
    exact hQ2
  case hop =>
    intro i o hi
    have hlt : i < 24 := (Array.getElem?_eq_some_iff.1 hi).1
    rcases (show i = 0 ∨ i = 1 ∨ i = 2 ∨ i = 3 ∨ i = 4 ∨ i = 5 ∨ i = 6 ∨ i = 7 ∨ i = 8 ∨ i = 9 ∨ i = 10 ∨ i = 11 ∨ i = 12 ∨ i = 13 ∨ i = 14 ∨ i = 15 ∨ i = 16 ∨ i = 17 ∨ i = 18 ∨ i = 19 ∨ i = 20 ∨ i = 21 ∨ i = 22 ∨ i = 23 by omega) with rfl | rfl | rfl | rfl | rfl | rfl | rfl | rfl | rfl | rfl | rfl | rfl | rfl | rfl | rfl | rfl | rfl | rfl | rfl | rfl | rfl | rfl | rfl | rfl
    · obtain rfl := Option.some.inj hi
      clear hi hlt
      intro a w1 hL hS hD
      have e13 : a.tmps.getD 13 undef = .pointer (some ⟨bi, 0, none⟩) := (hS.slot 13 (by kernel_rfl)).trans s13
      refine step_yes rfl ?_
      exact ok_value Lat.refl (.int .i64 (i : Int)) (by simp [execOp, Act.eval, e13, hi w1 hL, go_sem]) (TV.mk rfl)
    · obtain rfl := Option.some.inj hi
      clear hi hlt
      intro a w1 hL hS hD
      have e11 : a.tmps.getD 11 undef = .pointer (some ⟨bw, 0, none⟩) := (hS.slot 11 (by kernel_rfl)).trans s11
      refine step_yes rfl ?_
      exact ok_value Lat.refl (.slice (some ⟨gw, 0, none⟩) m cw) (by simp [execOp, Act.eval, e11, hw w1 hL, go_sem]) (TV.mk rfl)
    · obtain rfl := Option.some.inj hi
      clear hi hlt
      intro a w1 hL hS hD
      have d1 : a.tmps.getD 77 undef = .slice (some ⟨gw, 0, none⟩) m cw := hD ⟨1, .data⟩ (by simp) rfl _ rfl _ rfl
      refine step_yes rfl ?_
      exact ok_value Lat.refl (.int .i64 (m : Int)) (by simp [execOp, Act.eval, d1, go_sem]) (TV.mk rfl)
    · obtain rfl := Option.some.inj hi
      clear hi hlt
      intro a w1 hL hS hD
      have d0 : a.tmps.getD 76 undef = .int .i64 (i : Int) := hD ⟨0, .data⟩ (by simp) rfl _ rfl _ rfl
      have d2 : a.tmps.getD 78 undef = .int .i64 (m : Int) := hD ⟨2, .data⟩ (by simp) rfl _ rfl _ rfl
      refine step_yes rfl ?_
      exact ok_value Lat.refl (.bool false) (by simp [execOp, Act.eval, d0, d2, hltN, go_sem]) (TV.mk rfl)
    · obtain rfl := Option.some.inj hi
      clear hi hlt
      intro a w1 hL hS hD
      have d3 : a.tmps.getD 79 undef = .bool false := hD ⟨3, .data⟩ (by simp) rfl _ rfl _ rfl
      refine step_yes rfl ?_
      exact ok_value Lat.refl (.bool false) (by simp [execOp, Act.eval, d3, go_sem]) (TV.mk rfl)
    · obtain rfl := Option.some.inj hi
      clear hi hlt
      intro a w1 hL hS hD
      have d4 : a.tmps.getD 80 undef = .bool false := hD ⟨4, .guard⟩ (by simp) rfl _ rfl _ rfl
      have e14 : a.tmps.getD 14 undef = .int .u8 k := (hS.slot 14 (by kernel_rfl)).trans s14
      refine step_yes (wanted_yes rfl rfl rfl d4) ?_
      exact ok_value Lat.refl (.int .u8 k) (by simp [execOp, Act.eval, e14, go_sem]) (TV.mk rfl)
    · obtain rfl := Option.some.inj hi
      clear hi hlt
      intro a w1 hL hS hD
      have d4 : a.tmps.getD 80 undef = .bool false := hD ⟨4, .guard⟩ (by simp) rfl _ rfl _ rfl
      have e11 : a.tmps.getD 11 undef = .pointer (some ⟨bw, 0, none⟩) := (hS.slot 11 (by kernel_rfl)).trans s11
      refine step_yes (wanted_yes rfl rfl rfl d4) ?_
      exact ok_value Lat.refl (.slice (some ⟨gw, 0, none⟩) m cw) (by simp [execOp, Act.eval, e11, hw w1 hL, go_sem]) (TV.mk rfl)
    · obtain rfl := Option.some.inj hi
      clear hi hlt
      intro a w1 hL hS hD
      have d4 : a.tmps.getD 80 undef = .bool false := hD ⟨4, .guard⟩ (by simp) rfl _ rfl _ rfl
      have e13 : a.tmps.getD 13 undef = .pointer (some ⟨bi, 0, none⟩) := (hS.slot 13 (by kernel_rfl)).trans s13
      refine step_yes (wanted_yes rfl rfl rfl d4) ?_
      exact ok_value Lat.refl (.int .i64 (i : Int)) (by simp [execOp, Act.eval, e13, hi w1 hL, go_sem]) (TV.mk rfl)
    · obtain rfl := Option.some.inj hi
      clear hi hlt
      intro a w1 hL hS hD
      have d4 : a.tmps.getD 80 undef = .bool false := hD ⟨4, .guard⟩ (by simp) rfl _ rfl _ rfl
      have d6 : a.tmps.getD 82 undef = .slice (some ⟨gw, 0, none⟩) m cw := hD ⟨6, .data⟩ (by simp) rfl _ rfl _ rfl
      have d7 : a.tmps.getD 83 undef = .int .i64 (i : Int) := hD ⟨7, .data⟩ (by simp) rfl _ rfl _ rfl
      refine step_yes (wanted_yes rfl rfl rfl d4) ?_
      exact ok_value Lat.refl (.pointer (some ⟨gw, i * 2, none⟩)) (by simp [execOp, Act.eval, d6, d7, hlt, hltN, go_sem]) (TV.mk rfl)
    · obtain rfl := Option.some.inj hi
      clear hi hlt
      intro a w1 hL hS hD
      have d4 : a.tmps.getD 80 undef = .bool false := hD ⟨4, .guard⟩ (by simp) rfl _ rfl _ rfl
      have d8 : a.tmps.getD 84 undef = .pointer (some ⟨gw, i * 2, none⟩) := hD ⟨8, .data⟩ (by simp) rfl _ rfl _ rfl
      refine step_yes (wanted_yes rfl rfl rfl d4) ?_
      exact ok_value Lat.refl (.pointer (some ⟨gw, i * 2, none⟩)) (by simp [execOp, Act.eval, d8, go_sem]) (TV.mk rfl)
    · obtain rfl := Option.some.inj hi
      clear hi hlt
      intro a w1 hL hS hD
      have d4 : a.tmps.getD 80 undef = .bool false := hD ⟨4, .guard⟩ (by simp) rfl _ rfl _ rfl
      have d9 : a.tmps.getD 85 undef = .pointer (some ⟨gw, i * 2, none⟩) := hD ⟨9, .data⟩ (by simp) rfl _ rfl _ rfl
      refine step_yes (wanted_yes rfl rfl rfl d4) ?_
      exact ok_value Lat.refl (.int .u8 k) (by simp [execOp, Act.eval, d9, hk w1 hL, go_sem]) (TV.mk rfl)
    · obtain rfl := Option.some.inj hi
      clear hi hlt
      intro a w1 hL hS hD
      have d4 : a.tmps.getD 80 undef = .bool false := hD ⟨4, .guard⟩ (by simp) rfl _ rfl _ rfl
      have d5 : a.tmps.getD 81 undef = .int .u8 k := hD ⟨5, .data⟩ (by simp) rfl _ rfl _ rfl
      have d10 : a.tmps.getD 86 undef = .int .u8 k := hD ⟨10, .data⟩ (by simp) rfl _ rfl _ rfl
      refine step_yes (wanted_yes rfl rfl rfl d4) ?_
      exact ok_value Lat.refl (.bool false) (by simp [execOp, Act.eval, d5, d10, go_sem]) (TV.mk rfl)
    · obtain rfl := Option.some.inj hi
      clear hi hlt
      intro a w1 hL hS hD
      have d4 : a.tmps.getD 80 undef = .bool false := hD ⟨4, .data⟩ (by simp) rfl _ rfl _ rfl
      have d11 : a.tmps.getD 87 undef = .bool false := hD ⟨11, .data⟩ (by simp) rfl _ rfl _ rfl
      refine step_yes rfl ?_
      exact ok_value Lat.refl (.bool false) (by simp [execOp, Act.eval, d4, d11, go_sem]) (TV.mk rfl)
    · obtain rfl := Option.some.inj hi
      clear hi hlt
      intro a w1 hL hS hD
      have d12 : a.tmps.getD 88 undef = .bool false := hD ⟨12, .data⟩ (by simp) rfl _ rfl _ rfl
      refine step_yes rfl ?_
      exact ok_value Lat.refl (.bool false) (by simp [execOp, Act.eval, d12, go_sem]) (TV.mk rfl)
    · obtain rfl := Option.some.inj hi
      clear hi hlt
      intro a w1 hL hS hD
      have d13 : a.tmps.getD 89 undef = .bool false := hD ⟨13, .guard⟩ (by simp) rfl _ rfl _ rfl
      have e15 : a.tmps.getD 15 undef = .slice ad1 n1 c1 := (hS.slot 15 (by kernel_rfl)).trans s15
      refine step_yes (wanted_yes rfl rfl rfl d13) ?_
      exact ok_value Lat.refl (.slice ad1 n1 c1) (by simp [execOp, Act.eval, e15, go_sem]) (TV.mk rfl)
    · obtain rfl := Option.some.inj hi
      clear hi hlt
      intro a w1 hL hS hD
      have d13 : a.tmps.getD 89 undef = .bool false := hD ⟨13, .guard⟩ (by simp) rfl _ rfl _ rfl
      have d14 : a.tmps.getD 90 undef = .slice ad1 n1 c1 := hD ⟨14, .data⟩ (by simp) rfl _ rfl _ rfl
      refine step_yes (wanted_yes rfl rfl rfl d13) ?_
      exact ok_value Lat.refl (.string S) (by simp [execOp, Act.eval, d14, hs1 w1 hL, go_sem]) (TV.mk rfl)
    · obtain rfl := Option.some.inj hi
      clear hi hlt
      intro a w1 hL hS hD
      have d13 : a.tmps.getD 89 undef = .bool false := hD ⟨13, .guard⟩ (by simp) rfl _ rfl _ rfl
      have e11 : a.tmps.getD 11 undef = .pointer (some ⟨bw, 0, none⟩) := (hS.slot 11 (by kernel_rfl)).trans s11
      refine step_yes (wanted_yes rfl rfl rfl d13) ?_
      exact ok_value Lat.refl (.slice (some ⟨gw, 0, none⟩) m cw) (by simp [execOp, Act.eval, e11, hw w1 hL, go_sem]) (TV.mk rfl)
    · obtain rfl := Option.some.inj hi
      clear hi hlt
      intro a w1 hL hS hD
      have d13 : a.tmps.getD 89 undef = .bool false := hD ⟨13, .guard⟩ (by simp) rfl _ rfl _ rfl
      have e13 : a.tmps.getD 13 undef = .pointer (some ⟨bi, 0, none⟩) := (hS.slot 13 (by kernel_rfl)).trans s13
      refine step_yes (wanted_yes rfl rfl rfl d13) ?_
      exact ok_value Lat.refl (.int .i64 (i : Int)) (by simp [execOp, Act.eval, e13, hi w1 hL, go_sem]) (TV.mk rfl)
    · obtain rfl := Option.some.inj hi
      clear hi hlt
      intro a w1 hL hS hD
      have d13 : a.tmps.getD 89 undef = .bool false := hD ⟨13, .guard⟩ (by simp) rfl _ rfl _ rfl
      have d16 : a.tmps.getD 92 undef = .slice (some ⟨gw, 0, none⟩) m cw := hD ⟨16, .data⟩ (by simp) rfl _ rfl _ rfl
      have d17 : a.tmps.getD 93 undef = .int .i64 (i : Int) := hD ⟨17, .data⟩ (by simp) rfl _ rfl _ rfl
      refine step_yes (wanted_yes rfl rfl rfl d13) ?_
      exact ok_value Lat.refl (.pointer (some ⟨gw, i * 2, none⟩)) (by simp [execOp, Act.eval, d16, d17, hlt, hltN, go_sem]) (TV.mk rfl)
    · obtain rfl := Option.some.inj hi
      clear hi hlt
      intro a w1 hL hS hD
      have d13 : a.tmps.getD 89 undef = .bool false := hD ⟨13, .guard⟩ (by simp) rfl _ rfl _ rfl
      have d18 : a.tmps.getD 94 undef = .pointer (some ⟨gw, i * 2, none⟩) := hD ⟨18, .data⟩ (by simp) rfl _ rfl _ rfl
      refine step_yes (wanted_yes rfl rfl rfl d13) ?_
      exact ok_value Lat.refl (.pointer (some ⟨gw, i * 2 + 1, none⟩)) (by simp [execOp, Act.eval, d18, go_sem]) (TV.mk rfl)
    · obtain rfl := Option.some.inj hi
      clear hi hlt
      intro a w1 hL hS hD
      have d13 : a.tmps.getD 89 undef = .bool false := hD ⟨13, .guard⟩ (by simp) rfl _ rfl _ rfl
      have d19 : a.tmps.getD 95 undef = .pointer (some ⟨gw, i * 2 + 1, none⟩) := hD ⟨19, .data⟩ (by simp) rfl _ rfl _ rfl
      refine step_yes (wanted_yes rfl rfl rfl d13) ?_
      exact ok_value Lat.refl (.slice ad2 n2 c2) (by simp [execOp, Act.eval, d19, hd w1 hL, go_sem]) (TV.mk rfl)
    · obtain rfl := Option.some.inj hi
      clear hi hlt
      intro a w1 hL hS hD
      have d13 : a.tmps.getD 89 undef = .bool false := hD ⟨13, .guard⟩ (by simp) rfl _ rfl _ rfl
      have d20 : a.tmps.getD 96 undef = .slice ad2 n2 c2 := hD ⟨20, .data⟩ (by simp) rfl _ rfl _ rfl
      refine step_yes (wanted_yes rfl rfl rfl d13) ?_
      exact ok_value Lat.refl (.string S) (by simp [execOp, Act.eval, d20, hs2 w1 hL, go_sem]) (TV.mk rfl)
    · obtain rfl := Option.some.inj hi
      clear hi hlt
      intro a w1 hL hS hD
      have d13 : a.tmps.getD 89 undef = .bool false := hD ⟨13, .guard⟩ (by simp) rfl _ rfl _ rfl
      have d15 : a.tmps.getD 91 undef = .string S := hD ⟨15, .data⟩ (by simp) rfl _ rfl _ rfl
      have d21 : a.tmps.getD 97 undef = .string S := hD ⟨21, .data⟩ (by simp) rfl _ rfl _ rfl
      refine step_yes (wanted_yes rfl rfl rfl d13) ?_
      exact ok_value Lat.refl (.bool false) (by simp [execOp, Act.eval, d15, d21, go_sem]) (TV.mk rfl)
    · obtain rfl := Option.some.inj hi
      clear hi hlt
      intro a w1 hL hS hD
      have d13 : a.tmps.getD 89 undef = .bool false := hD ⟨13, .data⟩ (by simp) rfl _ rfl _ rfl
      have d22 : a.tmps.getD 98 undef = .bool false := hD ⟨22, .data⟩ (by simp) rfl _ rfl _ rfl
      refine step_yes rfl ?_
      exact ok_value Lat.refl (.bool false) (by simp [execOp, Act.eval, d13, d22, go_sem]) (TV.mk rfl)

set_option maxRecDepth 100000 in
set_option maxHeartbeats 2000000 in
theorem scan_r32 (bi bw gw m cw i n1 c1 n2 c2 : Nat) (k : Int) (S : ByteArray) (ad1 ad2 : Option Addr) (w : World) (a0 : Act) (Q : Exit → Act → World → Prop) (lp nn : Nat) (hlo : ¬ LetsOut Q) (hsz : a0.tmps.size = 147)
    (s13 : a0.tmps.getD 13 undef = .pointer (some ⟨bi, 0, none⟩))
    (s11 : a0.tmps.getD 11 undef = .pointer (some ⟨bw, 0, none⟩))
    (s17 : a0.tmps.getD 17 undef = .int .u8 k)
    (s18 : a0.tmps.getD 18 undef = .slice ad1 n1 c1)
    (hi : ∀ w1, Lat w w1 → w1.cell? ⟨bi, 0, none⟩ = some (.int .i64 (i : Int)))
    (hw : ∀ w1, Lat w w1 → w1.cell? ⟨bw, 0, none⟩ = some (.slice (some ⟨gw, 0, none⟩) m cw))
    (hlt : (i : Int) < (m : Int))
    (hltN : i < m)
    (hk : ∀ w1, Lat w w1 → w1.cell? ⟨gw, i * 2, none⟩ = some (.int .u8 k))
    (hd : ∀ w1, Lat w w1 → w1.cell? ⟨gw, i * 2 + 1, none⟩ = some (.slice ad2 n2 c2))
    (hs1 : ∀ w1, Lat w w1 → (convert 22 9 (.slice ad1 n1 c1)).run Try.prog w1 = .ok (.string S) w1)
    (hs2 : ∀ w1, Lat w w1 → (convert 22 9 (.slice ad2 n2 c2)).run Try.prog w1 = .ok (.string S) w1)
    (hQ : ∀ (v117 v118 v119 v120 v121 v122 v123 v124 v125 v126 v127 v128 v129 v130 v131 v132 v133 v134 v135 v136 v137 v138 v139 : Value) (w1 : World), Lat w w1 → Q .normal ((((((((((((((((((((((((a0.put (some 117) v117).put (some 118) v118).put (some 119) v119).put (some 120) v120).put (some 121) v121).put (some 122) v122).put (some 123) v123).put (some 124) v124).put (some 125) v125).put (some 126) v126).put (some 127) v127).put (some 128) v128).put (some 129) v129).put (some 130) v130).put (some 131) v131).put (some 132) v132).put (some 133) v133).put (some 134) v134).put (some 135) v135).put (some 136) v136).put (some 137) v137).put (some 138) v138).put (some 139) v139).put (some 140) (.bool false)) w1) :
    Code.wpIn (Fence.wide.inRound lp) nn Try.prog ((Try.f5.body.bind (findR 32)).getD .skip) Q a0 w := by
  conv => arg 4; whnf
  refine wpIn_region_inv Lat (TV [.int .i64 (i : Int), .slice (some ⟨gw, 0, none⟩) m cw, .int .i64 (m : Int), .bool false, .bool false, .int .u8 k, .slice (some ⟨gw, 0, none⟩) m cw, .int .i64 (i : Int), .pointer (some ⟨gw, i * 2, none⟩), .pointer (some ⟨gw, i * 2, none⟩), .int .u8 k, .bool false, .bool false, .bool false, .slice ad1 n1 c1, .string S, .slice (some ⟨gw, 0, none⟩) m cw, .int .i64 (i : Int), .pointer (some ⟨gw, i * 2, none⟩), .pointer (some ⟨gw, i * 2 + 1, none⟩), .slice ad2 n2 c2, .string S, .bool false, .bool false]) (by kernel_rfl) hlo (by kernel_rfl) (by kernel_rfl) (by kernel_rfl) (by rw [hsz]; kernel_rfl) (by kernel_rfl) Lat.refl Lat.trans (TV.stable _) (Lat.draw w) ?hop ?hdone
  case hdone =>
    intro a w1 hL hS hT
    have k140 : a.tmps.getD 140 undef = .bool false := hT 23 _ rfl _ rfl
    have he := same_puts hS
    have hQ2 := hQ (a.tmps.getD 117 undef) (a.tmps.getD 118 undef) (a.tmps.getD 119 undef) (a.tmps.getD 120 undef) (a.tmps.getD 121 undef) (a.tmps.getD 122 undef) (a.tmps.getD 123 undef) (a.tmps.getD 124 undef) (a.tmps.getD 125 undef) (a.tmps.getD 126 undef) (a.tmps.getD 127 undef) (a.tmps.getD 128 undef) (a.tmps.getD 129 undef) (a.tmps.getD 130 undef) (a.tmps.getD 131 undef) (a.tmps.getD 132 undef) (a.tmps.getD 133 undef) (a.tmps.getD 134 undef) (a.tmps.getD 135 undef) (a.tmps.getD 136 undef) (a.tmps.getD 137 undef) (a.tmps.getD 138 undef) (a.tmps.getD 139 undef) w1 hL
    rw [← k140] at hQ2
    rw [he]
    exact hQ2
  case hop =>
    intro i o hi
    have hlt : i < 24 := (Array.getElem?_eq_some_iff.1 hi).1
    rcases (show i = 0 ∨ i = 1 ∨ i = 2 ∨ i = 3 ∨ i = 4 ∨ i = 5 ∨ i = 6 ∨ i = 7 ∨ i = 8 ∨ i = 9 ∨ i = 10 ∨ i = 11 ∨ i = 12 ∨ i = 13 ∨ i = 14 ∨ i = 15 ∨ i = 16 ∨ i = 17 ∨ i = 18 ∨ i = 19 ∨ i = 20 ∨ i = 21 ∨ i = 22 ∨ i = 23 by omega) with rfl | rfl | rfl | rfl | rfl | rfl | rfl | rfl | rfl | rfl | rfl | rfl | rfl | rfl | rfl | rfl | rfl | rfl | rfl | rfl | rfl | rfl | rfl | rfl
    · obtain rfl := Option.some.inj hi
      clear hi hlt
      intro a w1 hL hS hD
      have e13 : a.tmps.getD 13 undef = .pointer (some ⟨bi, 0, none⟩) := (hS.slot 13 (by kernel_rfl)).trans s13
      refine step_yes rfl ?_
      exact ok_value Lat.refl (.int .i64 (i : Int)) (by simp [execOp, Act.eval, e13, hi w1 hL, go_sem]) (TV.mk rfl)
    · obtain rfl := Option.some.inj hi
      clear hi hlt
      intro a w1 hL hS hD
      have e11 : a.tmps.getD 11 undef = .pointer (some ⟨bw, 0, none⟩) := (hS.slot 11 (by kernel_rfl)).trans s11
      refine step_yes rfl ?_
      exact ok_value Lat.refl (.slice (some ⟨gw, 0, none⟩) m cw) (by simp [execOp, Act.eval, e11, hw w1 hL, go_sem]) (TV.mk rfl)
    · obtain rfl := Option.some.inj hi
      clear hi hlt
      intro a w1 hL hS hD
      have d1 : a.tmps.getD 118 undef = .slice (some ⟨gw, 0, none⟩) m cw := hD ⟨1, .data⟩ (by simp) rfl _ rfl _ rfl
      refine step_yes rfl ?_
      exact ok_value Lat.refl (.int .i64 (m : Int)) (by simp [execOp, Act.eval, d1, go_sem]) (TV.mk rfl)
    · obtain rfl := Option.some.inj hi
      clear hi hlt
      intro a w1 hL hS hD
      have d0 : a.tmps.getD 117 undef = .int .i64 (i : Int) := hD ⟨0, .data⟩ (by simp) rfl _ rfl _ rfl
      have d2 : a.tmps.getD 119 undef = .int .i64 (m : Int) := hD ⟨2, .data⟩ (by simp) rfl _ rfl _ rfl
      refine step_yes rfl ?_
      exact ok_value Lat.refl (.bool false) (by simp [execOp, Act.eval, d0, d2, hltN, go_sem]) (TV.mk rfl)
    · obtain rfl := Option.some.inj hi
      clear hi hlt
      intro a w1 hL hS hD
      have d3 : a.tmps.getD 120 undef = .bool false := hD ⟨3, .data⟩ (by simp) rfl _ rfl _ rfl
      refine step_yes rfl ?_
      exact ok_value Lat.refl (.bool false) (by simp [execOp, Act.eval, d3, go_sem]) (TV.mk rfl)
    · obtain rfl := Option.some.inj hi
      clear hi hlt
      intro a w1 hL hS hD
      have d4 : a.tmps.getD 121 undef = .bool false := hD ⟨4, .guard⟩ (by simp) rfl _ rfl _ rfl
      have e17 : a.tmps.getD 17 undef = .int .u8 k := (hS.slot 17 (by kernel_rfl)).trans s17
      refine step_yes (wanted_yes rfl rfl rfl d4) ?_
      exact ok_value Lat.refl (.int .u8 k) (by simp [execOp, Act.eval, e17, go_sem]) (TV.mk rfl)
    · obtain rfl := Option.some.inj hi
      clear hi hlt
      intro a w1 hL hS hD
      have d4 : a.tmps.getD 121 undef = .bool false := hD ⟨4, .guard⟩ (by simp) rfl _ rfl _ rfl
      have e11 : a.tmps.getD 11 undef = .pointer (some ⟨bw, 0, none⟩) := (hS.slot 11 (by kernel_rfl)).trans s11
      refine step_yes (wanted_yes rfl rfl rfl d4) ?_
      exact ok_value Lat.refl (.slice (some ⟨gw, 0, none⟩) m cw) (by simp [execOp, Act.eval, e11, hw w1 hL, go_sem]) (TV.mk rfl)
    · obtain rfl := Option.some.inj hi
      clear hi hlt
      intro a w1 hL hS hD
      have d4 : a.tmps.getD 121 undef = .bool false := hD ⟨4, .guard⟩ (by simp) rfl _ rfl _ rfl
      have e13 : a.tmps.getD 13 undef = .pointer (some ⟨bi, 0, none⟩) := (hS.slot 13 (by kernel_rfl)).trans s13
      refine step_yes (wanted_yes rfl rfl rfl d4) ?_
      exact ok_value Lat.refl (.int .i64 (i : Int)) (by simp [execOp, Act.eval, e13, hi w1 hL, go_sem]) (TV.mk rfl)
    · obtain rfl := Option.some.inj hi
      clear hi hlt
      intro a w1 hL hS hD
      have d4 : a.tmps.getD 121 undef = .bool false := hD ⟨4, .guard⟩ (by simp) rfl _ rfl _ rfl
      have d6 : a.tmps.getD 123 undef = .slice (some ⟨gw, 0, none⟩) m cw := hD ⟨6, .data⟩ (by simp) rfl _ rfl _ rfl
      have d7 : a.tmps.getD 124 undef = .int .i64 (i : Int) := hD ⟨7, .data⟩ (by simp) rfl _ rfl _ rfl
      refine step_yes (wanted_yes rfl rfl rfl d4) ?_
      exact ok_value Lat.refl (.pointer (some ⟨gw, i * 2, none⟩)) (by simp [execOp, Act.eval, d6, d7, hlt, hltN, go_sem]) (TV.mk rfl)
    · obtain rfl := Option.some.inj hi
      clear hi hlt
      intro a w1 hL hS hD
      have d4 : a.tmps.getD 121 undef = .bool false := hD ⟨4, .guard⟩ (by simp) rfl _ rfl _ rfl
      have d8 : a.tmps.getD 125 undef = .pointer (some ⟨gw, i * 2, none⟩) := hD ⟨8, .data⟩ (by simp) rfl _ rfl _ rfl
      refine step_yes (wanted_yes rfl rfl rfl d4) ?_
      exact ok_value Lat.refl (.pointer (some ⟨gw, i * 2, none⟩)) (by simp [execOp, Act.eval, d8, go_sem]) (TV.mk rfl)
    · obtain rfl := Option.some.inj hi
      clear hi hlt
      intro a w1 hL hS hD
      have d4 : a.tmps.getD 121 undef = .bool false := hD ⟨4, .guard⟩ (by simp) rfl _ rfl _ rfl
      have d9 : a.tmps.getD 126 undef = .pointer (some ⟨gw, i * 2, none⟩) := hD ⟨9, .data⟩ (by simp) rfl _ rfl _ rfl
      refine step_yes (wanted_yes rfl rfl rfl d4) ?_
      exact ok_value Lat.refl (.int .u8 k) (by simp [execOp, Act.eval, d9, hk w1 hL, go_sem]) (TV.mk rfl)
    · obtain rfl := Option.some.inj hi
      clear hi hlt
      intro a w1 hL hS hD
      have d4 : a.tmps.getD 121 undef = .bool false := hD ⟨4, .guard⟩ (by simp) rfl _ rfl _ rfl
      have d5 : a.tmps.getD 122 undef = .int .u8 k := hD ⟨5, .data⟩ (by simp) rfl _ rfl _ rfl
      have d10 : a.tmps.getD 127 undef = .int .u8 k := hD ⟨10, .data⟩ (by simp) rfl _ rfl _ rfl
      refine step_yes (wanted_yes rfl rfl rfl d4) ?_
      exact ok_value Lat.refl (.bool false) (by simp [execOp, Act.eval, d5, d10, go_sem]) (TV.mk rfl)
    · obtain rfl := Option.some.inj hi
      clear hi hlt
      intro a w1 hL hS hD
      have d4 : a.tmps.getD 121 undef = .bool false := hD ⟨4, .data⟩ (by simp) rfl _ rfl _ rfl
      have d11 : a.tmps.getD 128 undef = .bool false := hD ⟨11, .data⟩ (by simp) rfl _ rfl _ rfl
      refine step_yes rfl ?_
      exact ok_value Lat.refl (.bool false) (by simp [execOp, Act.eval, d4, d11, go_sem]) (TV.mk rfl)
    · obtain rfl := Option.some.inj hi
      clear hi hlt
      intro a w1 hL hS hD
      have d12 : a.tmps.getD 129 undef = .bool false := hD ⟨12, .data⟩ (by simp) rfl _ rfl _ rfl
      refine step_yes rfl ?_
      exact ok_value Lat.refl (.bool false) (by simp [execOp, Act.eval, d12, go_sem]) (TV.mk rfl)
    · obtain rfl := Option.some.inj hi
      clear hi hlt
      intro a w1 hL hS hD
      have d13 : a.tmps.getD 130 undef = .bool false := hD ⟨13, .guard⟩ (by simp) rfl _ rfl _ rfl
      have e18 : a.tmps.getD 18 undef = .slice ad1 n1 c1 := (hS.slot 18 (by kernel_rfl)).trans s18
      refine step_yes (wanted_yes rfl rfl rfl d13) ?_
      exact ok_value Lat.refl (.slice ad1 n1 c1) (by simp [execOp, Act.eval, e18, go_sem]) (TV.mk rfl)
    · obtain rfl := Option.some.inj hi
      clear hi hlt
      intro a w1 hL hS hD
      have d13 : a.tmps.getD 130 undef = .bool false := hD ⟨13, .guard⟩ (by simp) rfl _ rfl _ rfl
      have d14 : a.tmps.getD 131 undef = .slice ad1 n1 c1 := hD ⟨14, .data⟩ (by simp) rfl _ rfl _ rfl
      refine step_yes (wanted_yes rfl rfl rfl d13) ?_
      exact ok_value Lat.refl (.string S) (by simp [execOp, Act.eval, d14, hs1 w1 hL, go_sem]) (TV.mk rfl)
    · obtain rfl := Option.some.inj hi
      clear hi hlt
      intro a w1 hL hS hD
      have d13 : a.tmps.getD 130 undef = .bool false := hD ⟨13, .guard⟩ (by simp) rfl _ rfl _ rfl
      have e11 : a.tmps.getD 11 undef = .pointer (some ⟨bw, 0, none⟩) := (hS.slot 11 (by kernel_rfl)).trans s11
      refine step_yes (wanted_yes rfl rfl rfl d13) ?_
      exact ok_value Lat.refl (.slice (some ⟨gw, 0, none⟩) m cw) (by simp [execOp, Act.eval, e11, hw w1 hL, go_sem]) (TV.mk rfl)
    · obtain rfl := Option.some.inj hi
      clear hi hlt
      intro a w1 hL hS hD
      have d13 : a.tmps.getD 130 undef = .bool false := hD ⟨13, .guard⟩ (by simp) rfl _ rfl _ rfl
      have e13 : a.tmps.getD 13 undef = .pointer (some ⟨bi, 0, none⟩) := (hS.slot 13 (by kernel_rfl)).trans s13
      refine step_yes (wanted_yes rfl rfl rfl d13) ?_
      exact ok_value Lat.refl (.int .i64 (i : Int)) (by simp [execOp, Act.eval, e13, hi w1 hL, go_sem]) (TV.mk rfl)
    · obtain rfl := Option.some.inj hi
      clear hi hlt
      intro a w1 hL hS hD
      have d13 : a.tmps.getD 130 undef = .bool false := hD ⟨13, .guard⟩ (by simp) rfl _ rfl _ rfl
      have d16 : a.tmps.getD 133 undef = .slice (some ⟨gw, 0, none⟩) m cw := hD ⟨16, .data⟩ (by simp) rfl _ rfl _ rfl
      have d17 : a.tmps.getD 134 undef = .int .i64 (i : Int) := hD ⟨17, .data⟩ (by simp) rfl _ rfl _ rfl
      refine step_yes (wanted_yes rfl rfl rfl d13) ?_
      exact ok_value Lat.refl (.pointer (some ⟨gw, i * 2, none⟩)) (by simp [execOp, Act.eval, d16, d17, hlt, hltN, go_sem]) (TV.mk rfl)
    · obtain rfl := Option.some.inj hi
      clear hi hlt
      intro a w1 hL hS hD
      have d13 : a.tmps.getD 130 undef = .bool false := hD ⟨13, .guard⟩ (by simp) rfl _ rfl _ rfl
      have d18 : a.tmps.getD 135 undef = .pointer (some ⟨gw, i * 2, none⟩) := hD ⟨18, .data⟩ (by simp) rfl _ rfl _ rfl
      refine step_yes (wanted_yes rfl rfl rfl d13) ?_
      exact ok_value Lat.refl (.pointer (some ⟨gw, i * 2 + 1, none⟩)) (by simp [execOp, Act.eval, d18, go_sem]) (TV.mk rfl)
    · obtain rfl := Option.some.inj hi
      clear hi hlt
      intro a w1 hL hS hD
      have d13 : a.tmps.getD 130 undef = .bool false := hD ⟨13, .guard⟩ (by simp) rfl _ rfl _ rfl
      have d19 : a.tmps.getD 136 undef = .pointer (some ⟨gw, i * 2 + 1, none⟩) := hD ⟨19, .data⟩ (by simp) rfl _ rfl _ rfl
      refine step_yes (wanted_yes rfl rfl rfl d13) ?_
      exact ok_value Lat.refl (.slice ad2 n2 c2) (by simp [execOp, Act.eval, d19, hd w1 hL, go_sem]) (TV.mk rfl)
    · obtain rfl := Option.some.inj hi
      clear hi hlt
      intro a w1 hL hS hD
      have d13 : a.tmps.getD 130 undef = .bool false := hD ⟨13, .guard⟩ (by simp) rfl _ rfl _ rfl
      have d20 : a.tmps.getD 137 undef = .slice ad2 n2 c2 := hD ⟨20, .data⟩ (by simp) rfl _ rfl _ rfl
      refine step_yes (wanted_yes rfl rfl rfl d13) ?_
      exact ok_value Lat.refl (.string S) (by simp [execOp, Act.eval, d20, hs2 w1 hL, go_sem]) (TV.mk rfl)
    · obtain rfl := Option.some.inj hi
      clear hi hlt
      intro a w1 hL hS hD
      have d13 : a.tmps.getD 130 undef = .bool false := hD ⟨13, .guard⟩ (by simp) rfl _ rfl _ rfl
      have d15 : a.tmps.getD 132 undef = .string S := hD ⟨15, .data⟩ (by simp) rfl _ rfl _ rfl
      have d21 : a.tmps.getD 138 undef = .string S := hD ⟨21, .data⟩ (by simp) rfl _ rfl _ rfl
      refine step_yes (wanted_yes rfl rfl rfl d13) ?_
      exact ok_value Lat.refl (.bool false) (by simp [execOp, Act.eval, d15, d21, go_sem]) (TV.mk rfl)
    · obtain rfl := Option.some.inj hi
      clear hi hlt
      intro a w1 hL hS hD
      have d13 : a.tmps.getD 130 undef = .bool false := hD ⟨13, .data⟩ (by simp) rfl _ rfl _ rfl
      have d22 : a.tmps.getD 139 undef = .bool false := hD ⟨22, .data⟩ (by simp) rfl _ rfl _ rfl
      refine step_yes rfl ?_
      exact ok_value Lat.refl (.bool false) (by simp [execOp, Act.eval, d13, d22, go_sem]) (TV.mk rfl)

end Go.Proofs.Ytiaopgphjailiaa
