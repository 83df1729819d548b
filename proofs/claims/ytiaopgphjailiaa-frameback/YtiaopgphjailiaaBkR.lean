/-
  FrameBack: regions that draw their order.
-/
import Derived.Test.YtiaopgphjailiaaScW
namespace Go.Proofs.Ytiaopgphjailiaa
open Go Go.RowKit
set_option linter.unusedVariables false
set_option linter.unusedSimpArgs false

set_option maxRecDepth 100000 in
set_option maxHeartbeats 2000000 in
theorem back_r9 (Bl bl ol nl cl i ni ci mn : Nat) (ai : Option Addr) (w : World) (a0 : Act) (Q : Exit → Act → World → Prop) (hsz : a0.tmps.size = 157)
    (s4 : a0.tmps.getD 4 undef = .pointer (some ⟨Bl, 0, none⟩))
    (s10 : a0.tmps.getD 10 undef = .int .i64 (i : Int))
    (hl : ∀ w1, Lat w w1 → w1.cell? ⟨Bl, 0, none⟩ = some (.slice (some ⟨bl, ol, none⟩) nl cl))
    (hil : (i : Int) < (nl : Int))
    (hilN : i < nl)
    (hd : ∀ w1, Lat w w1 → w1.cell? ⟨bl, ol + i, none⟩ = some (.slice ai ni ci))
    (hmin : (if 100000 < (ni : Int) then (100000 : Int) else (ni : Int)) = (mn : Int))
    (hmc : ¬ (ci : Int) < (mn : Int))
    (hmcN : ¬ ci < mn)
    (hQ : ∀ (v47 v48 v49 v50 v51 v52 v53 v54 v55 v56 v57 : Value) (w1 : World), Lat w w1 → Q .normal ((((((((((((a0.put (some 47) v47).put (some 48) v48).put (some 49) v49).put (some 50) v50).put (some 51) v51).put (some 52) v52).put (some 53) v53).put (some 54) v54).put (some 55) v55).put (some 56) v56).put (some 57) v57).put (some 11) (.slice ai mn ci)) w1) :
    Code.wp Try.prog ((Try.f6.body.bind (findRegion 9)).getD .skip) Q a0 w := by
  conv => arg 2; whnf
  refine wp_region_inv Lat (TV [.slice (some ⟨bl, ol, none⟩) nl cl, .int .i64 (i : Int), .pointer (some ⟨bl, ol + i, none⟩), .slice ai ni ci, .slice (some ⟨bl, ol, none⟩) nl cl, .int .i64 (i : Int), .pointer (some ⟨bl, ol + i, none⟩), .slice ai ni ci, .int .i64 (ni : Int), .int .i64 (mn : Int), .slice ai mn ci, .slice ai mn ci]) (by kernel_rfl) (by kernel_rfl) (by kernel_rfl) (by rw [hsz]; kernel_rfl) (by kernel_rfl) Lat.refl Lat.trans (TV.stable _) (Lat.draw w) ?hop ?hdone
  case hdone =>
    intro a w1 hL hS hT
    have k11 : a.tmps.getD 11 undef = .slice ai mn ci := hT 11 _ rfl _ rfl
    have he := same_puts hS
    have hQ2 := hQ (a.tmps.getD 47 undef) (a.tmps.getD 48 undef) (a.tmps.getD 49 undef) (a.tmps.getD 50 undef) (a.tmps.getD 51 undef) (a.tmps.getD 52 undef) (a.tmps.getD 53 undef) (a.tmps.getD 54 undef) (a.tmps.getD 55 undef) (a.tmps.getD 56 undef) (a.tmps.getD 57 undef) w1 hL
    rw [← k11] at hQ2
    rw [he]
    exact hQ2
  case hop =>
    intro i o hi
    have hlt : i < 12 := (Array.getElem?_eq_some_iff.1 hi).1
    rcases (show i = 0 ∨ i = 1 ∨ i = 2 ∨ i = 3 ∨ i = 4 ∨ i = 5 ∨ i = 6 ∨ i = 7 ∨ i = 8 ∨ i = 9 ∨ i = 10 ∨ i = 11 by omega) with rfl | rfl | rfl | rfl | rfl | rfl | rfl | rfl | rfl | rfl | rfl | rfl
    · obtain rfl := Option.some.inj hi
      clear hi hlt
      intro a w1 hL hS hD
      have e4 : a.tmps.getD 4 undef = .pointer (some ⟨Bl, 0, none⟩) := (hS.slot 4 (by kernel_rfl)).trans s4
      refine step_yes rfl ?_
      exact ok_value Lat.refl (.slice (some ⟨bl, ol, none⟩) nl cl) (by simp [execOp, Act.eval, e4, hl w1 hL, go_sem]) (TV.mk rfl)
    · obtain rfl := Option.some.inj hi
      clear hi hlt
      intro a w1 hL hS hD
      have e10 : a.tmps.getD 10 undef = .int .i64 (i : Int) := (hS.slot 10 (by kernel_rfl)).trans s10
      refine step_yes rfl ?_
      exact ok_value Lat.refl (.int .i64 (i : Int)) (by simp [execOp, Act.eval, e10, go_sem]) (TV.mk rfl)
    · obtain rfl := Option.some.inj hi
      clear hi hlt
      intro a w1 hL hS hD
      have d0 : a.tmps.getD 47 undef = .slice (some ⟨bl, ol, none⟩) nl cl := hD ⟨0, .data⟩ (by simp) rfl _ rfl _ rfl
      have d1 : a.tmps.getD 48 undef = .int .i64 (i : Int) := hD ⟨1, .data⟩ (by simp) rfl _ rfl _ rfl
      refine step_yes rfl ?_
      exact ok_value Lat.refl (.pointer (some ⟨bl, ol + i, none⟩)) (by simp [execOp, Act.eval, d0, d1, hil, hilN, go_sem]) (TV.mk rfl)
    · obtain rfl := Option.some.inj hi
      clear hi hlt
      intro a w1 hL hS hD
      have d2 : a.tmps.getD 49 undef = .pointer (some ⟨bl, ol + i, none⟩) := hD ⟨2, .data⟩ (by simp) rfl _ rfl _ rfl
      refine step_yes rfl ?_
      exact ok_value Lat.refl (.slice ai ni ci) (by simp [execOp, Act.eval, d2, hd w1 hL, go_sem]) (TV.mk rfl)
    · obtain rfl := Option.some.inj hi
      clear hi hlt
      intro a w1 hL hS hD
      have e4 : a.tmps.getD 4 undef = .pointer (some ⟨Bl, 0, none⟩) := (hS.slot 4 (by kernel_rfl)).trans s4
      refine step_yes rfl ?_
      exact ok_value Lat.refl (.slice (some ⟨bl, ol, none⟩) nl cl) (by simp [execOp, Act.eval, e4, hl w1 hL, go_sem]) (TV.mk rfl)
    · obtain rfl := Option.some.inj hi
      clear hi hlt
      intro a w1 hL hS hD
      have e10 : a.tmps.getD 10 undef = .int .i64 (i : Int) := (hS.slot 10 (by kernel_rfl)).trans s10
      refine step_yes rfl ?_
      exact ok_value Lat.refl (.int .i64 (i : Int)) (by simp [execOp, Act.eval, e10, go_sem]) (TV.mk rfl)
    · obtain rfl := Option.some.inj hi
      clear hi hlt
      intro a w1 hL hS hD
      have d4 : a.tmps.getD 51 undef = .slice (some ⟨bl, ol, none⟩) nl cl := hD ⟨4, .data⟩ (by simp) rfl _ rfl _ rfl
      have d5 : a.tmps.getD 52 undef = .int .i64 (i : Int) := hD ⟨5, .data⟩ (by simp) rfl _ rfl _ rfl
      refine step_yes rfl ?_
      exact ok_value Lat.refl (.pointer (some ⟨bl, ol + i, none⟩)) (by simp [execOp, Act.eval, d4, d5, hil, hilN, go_sem]) (TV.mk rfl)
    · obtain rfl := Option.some.inj hi
      clear hi hlt
      intro a w1 hL hS hD
      have d6 : a.tmps.getD 53 undef = .pointer (some ⟨bl, ol + i, none⟩) := hD ⟨6, .data⟩ (by simp) rfl _ rfl _ rfl
      refine step_yes rfl ?_
      exact ok_value Lat.refl (.slice ai ni ci) (by simp [execOp, Act.eval, d6, hd w1 hL, go_sem]) (TV.mk rfl)
    · obtain rfl := Option.some.inj hi
      clear hi hlt
      intro a w1 hL hS hD
      have d7 : a.tmps.getD 54 undef = .slice ai ni ci := hD ⟨7, .data⟩ (by simp) rfl _ rfl _ rfl
      refine step_yes rfl ?_
      exact ok_value Lat.refl (.int .i64 (ni : Int)) (by simp [execOp, Act.eval, d7, go_sem]) (TV.mk rfl)
    · obtain rfl := Option.some.inj hi
      clear hi hlt
      intro a w1 hL hS hD
      have d8 : a.tmps.getD 55 undef = .int .i64 (ni : Int) := hD ⟨8, .data⟩ (by simp) rfl _ rfl _ rfl
      refine step_yes rfl ?_
      exact ok_value Lat.refl (.int .i64 (mn : Int)) (by simp [execOp, Act.eval, d8, hmin, go_sem]) (TV.mk rfl)
    · obtain rfl := Option.some.inj hi
      clear hi hlt
      intro a w1 hL hS hD
      have d3 : a.tmps.getD 50 undef = .slice ai ni ci := hD ⟨3, .data⟩ (by simp) rfl _ rfl _ rfl
      have d9 : a.tmps.getD 56 undef = .int .i64 (mn : Int) := hD ⟨9, .data⟩ (by simp) rfl _ rfl _ rfl
      refine step_yes rfl ?_
      exact ok_value Lat.refl (.slice ai mn ci) (by simp [execOp, Act.eval, d3, d9, hmc, hmcN, go_sem]) (TV.mk rfl)
    · obtain rfl := Option.some.inj hi
      clear hi hlt
      intro a w1 hL hS hD
      have d10 : a.tmps.getD 57 undef = .slice ai mn ci := hD ⟨10, .data⟩ (by simp) rfl _ rfl _ rfl
      refine step_yes rfl ?_
      exact ok_value Lat.refl (.slice ai mn ci) (by simp [execOp, Act.eval, d10, go_sem]) (TV.mk rfl)

set_option maxRecDepth 100000 in
set_option maxHeartbeats 2000000 in
theorem back_r21in (Bi Bn Bk Bl i n bk ok nk ck bl ol nl cl ni ci mn n1 c1 : Nat) (k : Int) (S : ByteArray) (ai ad1 : Option Addr) (w : World) (a0 : Act) (Q : Exit → Act → World → Prop) (lp nn : Nat) (hlo : ¬ LetsOut Q) (hsz : a0.tmps.size = 157)
    (s15 : a0.tmps.getD 15 undef = .pointer (some ⟨Bi, 0, none⟩))
    (s9 : a0.tmps.getD 9 undef = .pointer (some ⟨Bn, 0, none⟩))
    (s3 : a0.tmps.getD 3 undef = .pointer (some ⟨Bk, 0, none⟩))
    (s4 : a0.tmps.getD 4 undef = .pointer (some ⟨Bl, 0, none⟩))
    (s16 : a0.tmps.getD 16 undef = .int .u8 k)
    (s17 : a0.tmps.getD 17 undef = .slice ad1 n1 c1)
    (hi : ∀ w1, Lat w w1 → w1.cell? ⟨Bi, 0, none⟩ = some (.int .i64 (i : Int)))
    (hn : ∀ w1, Lat w w1 → w1.cell? ⟨Bn, 0, none⟩ = some (.int .i64 (n : Int)))
    (hin : i < n)
    (hkb : ∀ w1, Lat w w1 → w1.cell? ⟨Bk, 0, none⟩ = some (.slice (some ⟨bk, ok, none⟩) nk ck))
    (hik : (i : Int) < (nk : Int))
    (hikN : i < nk)
    (hk : ∀ w1, Lat w w1 → w1.cell? ⟨bk, ok + i, none⟩ = some (.int .u8 k))
    (hl : ∀ w1, Lat w w1 → w1.cell? ⟨Bl, 0, none⟩ = some (.slice (some ⟨bl, ol, none⟩) nl cl))
    (hil : (i : Int) < (nl : Int))
    (hilN : i < nl)
    (hd : ∀ w1, Lat w w1 → w1.cell? ⟨bl, ol + i, none⟩ = some (.slice ai ni ci))
    (hmin : (if 100000 < (ni : Int) then (100000 : Int) else (ni : Int)) = (mn : Int))
    (hmc : ¬ (ci : Int) < (mn : Int))
    (hmcN : ¬ ci < mn)
    (hs1 : ∀ w1, Lat w w1 → (convert 22 9 (.slice ad1 n1 c1)).run Try.prog w1 = .ok (.string S) w1)
    (hs2 : ∀ w1, Lat w w1 → (convert 22 9 (.slice ai mn ci)).run Try.prog w1 = .ok (.string S) w1)
    (hQ : ∀ (v95 v96 v97 v98 v99 v100 v101 v102 v103 v104 v105 v106 v107 v108 v109 v110 v111 v112 v113 v114 v115 v116 v117 v118 v119 v120 v121 : Value) (w1 : World), Lat w w1 → Q .normal ((((((((((((((((((((((((((((a0.put (some 95) v95).put (some 96) v96).put (some 97) v97).put (some 98) v98).put (some 99) v99).put (some 100) v100).put (some 101) v101).put (some 102) v102).put (some 103) v103).put (some 104) v104).put (some 105) v105).put (some 106) v106).put (some 107) v107).put (some 108) v108).put (some 109) v109).put (some 110) v110).put (some 111) v111).put (some 112) v112).put (some 113) v113).put (some 114) v114).put (some 115) v115).put (some 116) v116).put (some 117) v117).put (some 118) v118).put (some 119) v119).put (some 120) v120).put (some 121) v121).put (some 122) (.bool false)) w1) :
    Code.wpIn (Fence.wide.inRound lp) nn Try.prog ((Try.f6.body.bind (findR 21)).getD .skip) Q a0 w := by
  conv => arg 4; whnf
  refine wpIn_region_inv Lat (TV [.int .i64 (i : Int), .int .i64 (n : Int), .bool true, .bool true, .int .u8 k, .slice (some ⟨bk, ok, none⟩) nk ck, .int .i64 (i : Int), .pointer (some ⟨bk, ok + i, none⟩), .int .u8 k, .bool false, .bool false, .slice ad1 n1 c1, .string S, .slice (some ⟨bl, ol, none⟩) nl cl, .int .i64 (i : Int), .pointer (some ⟨bl, ol + i, none⟩), .slice ai ni ci, .slice (some ⟨bl, ol, none⟩) nl cl, .int .i64 (i : Int), .pointer (some ⟨bl, ol + i, none⟩), .slice ai ni ci, .int .i64 (ni : Int), .int .i64 (mn : Int), .slice ai mn ci, .string S, .bool false, .bool false, .bool false]) (by kernel_rfl) hlo (by kernel_rfl) (by kernel_rfl) (by kernel_rfl) (by rw [hsz]; kernel_rfl) (by kernel_rfl) Lat.refl Lat.trans (TV.stable _) (Lat.draw w) ?hop ?hdone
  case hdone =>
    intro a w1 hL hS hT
    have k122 : a.tmps.getD 122 undef = .bool false := hT 27 _ rfl _ rfl
    have he := same_puts hS
    have hQ2 := hQ (a.tmps.getD 95 undef) (a.tmps.getD 96 undef) (a.tmps.getD 97 undef) (a.tmps.getD 98 undef) (a.tmps.getD 99 undef) (a.tmps.getD 100 undef) (a.tmps.getD 101 undef) (a.tmps.getD 102 undef) (a.tmps.getD 103 undef) (a.tmps.getD 104 undef) (a.tmps.getD 105 undef) (a.tmps.getD 106 undef) (a.tmps.getD 107 undef) (a.tmps.getD 108 undef) (a.tmps.getD 109 undef) (a.tmps.getD 110 undef) (a.tmps.getD 111 undef) (a.tmps.getD 112 undef) (a.tmps.getD 113 undef) (a.tmps.getD 114 undef) (a.tmps.getD 115 undef) (a.tmps.getD 116 undef) (a.tmps.getD 117 undef) (a.tmps.getD 118 undef) (a.tmps.getD 119 undef) (a.tmps.getD 120 undef) (a.tmps.getD 121 undef) w1 hL
    rw [← k122] at hQ2
    rw [he]
    exact hQ2
  case hop =>
    intro i o hi
    have hlt : i < 28 := (Array.getElem?_eq_some_iff.1 hi).1
    rcases (show i = 0 ∨ i = 1 ∨ i = 2 ∨ i = 3 ∨ i = 4 ∨ i = 5 ∨ i = 6 ∨ i = 7 ∨ i = 8 ∨ i = 9 ∨ i = 10 ∨ i = 11 ∨ i = 12 ∨ i = 13 ∨ i = 14 ∨ i = 15 ∨ i = 16 ∨ i = 17 ∨ i = 18 ∨ i = 19 ∨ i = 20 ∨ i = 21 ∨ i = 22 ∨ i = 23 ∨ i = 24 ∨ i = 25 ∨ i = 26 ∨ i = 27 by omega) with rfl | rfl | rfl | rfl | rfl | rfl | rfl | rfl | rfl | rfl | rfl | rfl | rfl | rfl | rfl | rfl | rfl | rfl | rfl | rfl | rfl | rfl | rfl | rfl | rfl | rfl | rfl | rfl
    · obtain rfl := Option.some.inj hi
      clear hi hlt
      intro a w1 hL hS hD
      have e15 : a.tmps.getD 15 undef = .pointer (some ⟨Bi, 0, none⟩) := (hS.slot 15 (by kernel_rfl)).trans s15
      refine step_yes rfl ?_
      exact ok_value Lat.refl (.int .i64 (i : Int)) (by simp [execOp, Act.eval, e15, hi w1 hL, go_sem]) (TV.mk rfl)
    · obtain rfl := Option.some.inj hi
      clear hi hlt
      intro a w1 hL hS hD
      have e9 : a.tmps.getD 9 undef = .pointer (some ⟨Bn, 0, none⟩) := (hS.slot 9 (by kernel_rfl)).trans s9
      refine step_yes rfl ?_
      exact ok_value Lat.refl (.int .i64 (n : Int)) (by simp [execOp, Act.eval, e9, hn w1 hL, go_sem]) (TV.mk rfl)
    · obtain rfl := Option.some.inj hi
      clear hi hlt
      intro a w1 hL hS hD
      have d0 : a.tmps.getD 95 undef = .int .i64 (i : Int) := hD ⟨0, .data⟩ (by simp) rfl _ rfl _ rfl
      have d1 : a.tmps.getD 96 undef = .int .i64 (n : Int) := hD ⟨1, .data⟩ (by simp) rfl _ rfl _ rfl
      refine step_yes rfl ?_
      exact ok_value Lat.refl (.bool true) (by simp [execOp, Act.eval, d0, d1, hin, go_sem]) (TV.mk rfl)
    · obtain rfl := Option.some.inj hi
      clear hi hlt
      intro a w1 hL hS hD
      have d2 : a.tmps.getD 97 undef = .bool true := hD ⟨2, .data⟩ (by simp) rfl _ rfl _ rfl
      refine step_yes rfl ?_
      exact ok_value Lat.refl (.bool true) (by simp [execOp, Act.eval, d2, go_sem]) (TV.mk rfl)
    · obtain rfl := Option.some.inj hi
      clear hi hlt
      intro a w1 hL hS hD
      have d3 : a.tmps.getD 98 undef = .bool true := hD ⟨3, .guard⟩ (by simp) rfl _ rfl _ rfl
      have e16 : a.tmps.getD 16 undef = .int .u8 k := (hS.slot 16 (by kernel_rfl)).trans s16
      refine step_yes (wanted_yes rfl rfl rfl d3) ?_
      exact ok_value Lat.refl (.int .u8 k) (by simp [execOp, Act.eval, e16, go_sem]) (TV.mk rfl)
    · obtain rfl := Option.some.inj hi
      clear hi hlt
      intro a w1 hL hS hD
      have d3 : a.tmps.getD 98 undef = .bool true := hD ⟨3, .guard⟩ (by simp) rfl _ rfl _ rfl
      have e3 : a.tmps.getD 3 undef = .pointer (some ⟨Bk, 0, none⟩) := (hS.slot 3 (by kernel_rfl)).trans s3
      refine step_yes (wanted_yes rfl rfl rfl d3) ?_
      exact ok_value Lat.refl (.slice (some ⟨bk, ok, none⟩) nk ck) (by simp [execOp, Act.eval, e3, hkb w1 hL, go_sem]) (TV.mk rfl)
    · obtain rfl := Option.some.inj hi
      clear hi hlt
      intro a w1 hL hS hD
      have d3 : a.tmps.getD 98 undef = .bool true := hD ⟨3, .guard⟩ (by simp) rfl _ rfl _ rfl
      have e15 : a.tmps.getD 15 undef = .pointer (some ⟨Bi, 0, none⟩) := (hS.slot 15 (by kernel_rfl)).trans s15
      refine step_yes (wanted_yes rfl rfl rfl d3) ?_
      exact ok_value Lat.refl (.int .i64 (i : Int)) (by simp [execOp, Act.eval, e15, hi w1 hL, go_sem]) (TV.mk rfl)
    · obtain rfl := Option.some.inj hi
      clear hi hlt
      intro a w1 hL hS hD
      have d3 : a.tmps.getD 98 undef = .bool true := hD ⟨3, .guard⟩ (by simp) rfl _ rfl _ rfl
      have d5 : a.tmps.getD 100 undef = .slice (some ⟨bk, ok, none⟩) nk ck := hD ⟨5, .data⟩ (by simp) rfl _ rfl _ rfl
      have d6 : a.tmps.getD 101 undef = .int .i64 (i : Int) := hD ⟨6, .data⟩ (by simp) rfl _ rfl _ rfl
      refine step_yes (wanted_yes rfl rfl rfl d3) ?_
      exact ok_value Lat.refl (.pointer (some ⟨bk, ok + i, none⟩)) (by simp [execOp, Act.eval, d5, d6, hik, hikN, go_sem]) (TV.mk rfl)
    · obtain rfl := Option.some.inj hi
      clear hi hlt
      intro a w1 hL hS hD
      have d3 : a.tmps.getD 98 undef = .bool true := hD ⟨3, .guard⟩ (by simp) rfl _ rfl _ rfl
      have d7 : a.tmps.getD 102 undef = .pointer (some ⟨bk, ok + i, none⟩) := hD ⟨7, .data⟩ (by simp) rfl _ rfl _ rfl
      refine step_yes (wanted_yes rfl rfl rfl d3) ?_
      exact ok_value Lat.refl (.int .u8 k) (by simp [execOp, Act.eval, d7, hk w1 hL, go_sem]) (TV.mk rfl)
    · obtain rfl := Option.some.inj hi
      clear hi hlt
      intro a w1 hL hS hD
      have d3 : a.tmps.getD 98 undef = .bool true := hD ⟨3, .guard⟩ (by simp) rfl _ rfl _ rfl
      have d4 : a.tmps.getD 99 undef = .int .u8 k := hD ⟨4, .data⟩ (by simp) rfl _ rfl _ rfl
      have d8 : a.tmps.getD 103 undef = .int .u8 k := hD ⟨8, .data⟩ (by simp) rfl _ rfl _ rfl
      refine step_yes (wanted_yes rfl rfl rfl d3) ?_
      exact ok_value Lat.refl (.bool false) (by simp [execOp, Act.eval, d4, d8, go_sem]) (TV.mk rfl)
    · obtain rfl := Option.some.inj hi
      clear hi hlt
      intro a w1 hL hS hD
      have d3 : a.tmps.getD 98 undef = .bool true := hD ⟨3, .guard⟩ (by simp) rfl _ rfl _ rfl
      have d9 : a.tmps.getD 104 undef = .bool false := hD ⟨9, .data⟩ (by simp) rfl _ rfl _ rfl
      refine step_yes (wanted_yes rfl rfl rfl d3) ?_
      exact ok_value Lat.refl (.bool false) (by simp [execOp, Act.eval, d9, go_sem]) (TV.mk rfl)
    · obtain rfl := Option.some.inj hi
      clear hi hlt
      intro a w1 hL hS hD
      have d10 : a.tmps.getD 105 undef = .bool false := hD ⟨10, .guard⟩ (by simp) rfl _ rfl _ rfl
      have e17 : a.tmps.getD 17 undef = .slice ad1 n1 c1 := (hS.slot 17 (by kernel_rfl)).trans s17
      refine step_yes (wanted_yes rfl rfl rfl d10) ?_
      exact ok_value Lat.refl (.slice ad1 n1 c1) (by simp [execOp, Act.eval, e17, go_sem]) (TV.mk rfl)
    · obtain rfl := Option.some.inj hi
      clear hi hlt
      intro a w1 hL hS hD
      have d10 : a.tmps.getD 105 undef = .bool false := hD ⟨10, .guard⟩ (by simp) rfl _ rfl _ rfl
      have d11 : a.tmps.getD 106 undef = .slice ad1 n1 c1 := hD ⟨11, .data⟩ (by simp) rfl _ rfl _ rfl
      refine step_yes (wanted_yes rfl rfl rfl d10) ?_
      exact ok_value Lat.refl (.string S) (by simp [execOp, Act.eval, d11, hs1 w1 hL, go_sem]) (TV.mk rfl)
    · obtain rfl := Option.some.inj hi
      clear hi hlt
      intro a w1 hL hS hD
      have d10 : a.tmps.getD 105 undef = .bool false := hD ⟨10, .guard⟩ (by simp) rfl _ rfl _ rfl
      have e4 : a.tmps.getD 4 undef = .pointer (some ⟨Bl, 0, none⟩) := (hS.slot 4 (by kernel_rfl)).trans s4
      refine step_yes (wanted_yes rfl rfl rfl d10) ?_
      exact ok_value Lat.refl (.slice (some ⟨bl, ol, none⟩) nl cl) (by simp [execOp, Act.eval, e4, hl w1 hL, go_sem]) (TV.mk rfl)
    · obtain rfl := Option.some.inj hi
      clear hi hlt
      intro a w1 hL hS hD
      have d10 : a.tmps.getD 105 undef = .bool false := hD ⟨10, .guard⟩ (by simp) rfl _ rfl _ rfl
      have e15 : a.tmps.getD 15 undef = .pointer (some ⟨Bi, 0, none⟩) := (hS.slot 15 (by kernel_rfl)).trans s15
      refine step_yes (wanted_yes rfl rfl rfl d10) ?_
      exact ok_value Lat.refl (.int .i64 (i : Int)) (by simp [execOp, Act.eval, e15, hi w1 hL, go_sem]) (TV.mk rfl)
    · obtain rfl := Option.some.inj hi
      clear hi hlt
      intro a w1 hL hS hD
      have d10 : a.tmps.getD 105 undef = .bool false := hD ⟨10, .guard⟩ (by simp) rfl _ rfl _ rfl
      have d13 : a.tmps.getD 108 undef = .slice (some ⟨bl, ol, none⟩) nl cl := hD ⟨13, .data⟩ (by simp) rfl _ rfl _ rfl
      have d14 : a.tmps.getD 109 undef = .int .i64 (i : Int) := hD ⟨14, .data⟩ (by simp) rfl _ rfl _ rfl
      refine step_yes (wanted_yes rfl rfl rfl d10) ?_
      exact ok_value Lat.refl (.pointer (some ⟨bl, ol + i, none⟩)) (by simp [execOp, Act.eval, d13, d14, hil, hilN, go_sem]) (TV.mk rfl)
    · obtain rfl := Option.some.inj hi
      clear hi hlt
      intro a w1 hL hS hD
      have d10 : a.tmps.getD 105 undef = .bool false := hD ⟨10, .guard⟩ (by simp) rfl _ rfl _ rfl
      have d15 : a.tmps.getD 110 undef = .pointer (some ⟨bl, ol + i, none⟩) := hD ⟨15, .data⟩ (by simp) rfl _ rfl _ rfl
      refine step_yes (wanted_yes rfl rfl rfl d10) ?_
      exact ok_value Lat.refl (.slice ai ni ci) (by simp [execOp, Act.eval, d15, hd w1 hL, go_sem]) (TV.mk rfl)
    · obtain rfl := Option.some.inj hi
      clear hi hlt
      intro a w1 hL hS hD
      have d10 : a.tmps.getD 105 undef = .bool false := hD ⟨10, .guard⟩ (by simp) rfl _ rfl _ rfl
      have e4 : a.tmps.getD 4 undef = .pointer (some ⟨Bl, 0, none⟩) := (hS.slot 4 (by kernel_rfl)).trans s4
      refine step_yes (wanted_yes rfl rfl rfl d10) ?_
      exact ok_value Lat.refl (.slice (some ⟨bl, ol, none⟩) nl cl) (by simp [execOp, Act.eval, e4, hl w1 hL, go_sem]) (TV.mk rfl)
    · obtain rfl := Option.some.inj hi
      clear hi hlt
      intro a w1 hL hS hD
      have d10 : a.tmps.getD 105 undef = .bool false := hD ⟨10, .guard⟩ (by simp) rfl _ rfl _ rfl
      have e15 : a.tmps.getD 15 undef = .pointer (some ⟨Bi, 0, none⟩) := (hS.slot 15 (by kernel_rfl)).trans s15
      refine step_yes (wanted_yes rfl rfl rfl d10) ?_
      exact ok_value Lat.refl (.int .i64 (i : Int)) (by simp [execOp, Act.eval, e15, hi w1 hL, go_sem]) (TV.mk rfl)
    · obtain rfl := Option.some.inj hi
      clear hi hlt
      intro a w1 hL hS hD
      have d10 : a.tmps.getD 105 undef = .bool false := hD ⟨10, .guard⟩ (by simp) rfl _ rfl _ rfl
      have d17 : a.tmps.getD 112 undef = .slice (some ⟨bl, ol, none⟩) nl cl := hD ⟨17, .data⟩ (by simp) rfl _ rfl _ rfl
      have d18 : a.tmps.getD 113 undef = .int .i64 (i : Int) := hD ⟨18, .data⟩ (by simp) rfl _ rfl _ rfl
      refine step_yes (wanted_yes rfl rfl rfl d10) ?_
      exact ok_value Lat.refl (.pointer (some ⟨bl, ol + i, none⟩)) (by simp [execOp, Act.eval, d17, d18, hil, hilN, go_sem]) (TV.mk rfl)
    · obtain rfl := Option.some.inj hi
      clear hi hlt
      intro a w1 hL hS hD
      have d10 : a.tmps.getD 105 undef = .bool false := hD ⟨10, .guard⟩ (by simp) rfl _ rfl _ rfl
      have d19 : a.tmps.getD 114 undef = .pointer (some ⟨bl, ol + i, none⟩) := hD ⟨19, .data⟩ (by simp) rfl _ rfl _ rfl
      refine step_yes (wanted_yes rfl rfl rfl d10) ?_
      exact ok_value Lat.refl (.slice ai ni ci) (by simp [execOp, Act.eval, d19, hd w1 hL, go_sem]) (TV.mk rfl)
    · obtain rfl := Option.some.inj hi
      clear hi hlt
      intro a w1 hL hS hD
      have d10 : a.tmps.getD 105 undef = .bool false := hD ⟨10, .guard⟩ (by simp) rfl _ rfl _ rfl
      have d20 : a.tmps.getD 115 undef = .slice ai ni ci := hD ⟨20, .data⟩ (by simp) rfl _ rfl _ rfl
      refine step_yes (wanted_yes rfl rfl rfl d10) ?_
      exact ok_value Lat.refl (.int .i64 (ni : Int)) (by simp [execOp, Act.eval, d20, go_sem]) (TV.mk rfl)
    · obtain rfl := Option.some.inj hi
      clear hi hlt
      intro a w1 hL hS hD
      have d10 : a.tmps.getD 105 undef = .bool false := hD ⟨10, .guard⟩ (by simp) rfl _ rfl _ rfl
      have d21 : a.tmps.getD 116 undef = .int .i64 (ni : Int) := hD ⟨21, .data⟩ (by simp) rfl _ rfl _ rfl
      refine step_yes (wanted_yes rfl rfl rfl d10) ?_
      exact ok_value Lat.refl (.int .i64 (mn : Int)) (by simp [execOp, Act.eval, d21, hmin, go_sem]) (TV.mk rfl)
    · obtain rfl := Option.some.inj hi
      clear hi hlt
      intro a w1 hL hS hD
      have d10 : a.tmps.getD 105 undef = .bool false := hD ⟨10, .guard⟩ (by simp) rfl _ rfl _ rfl
      have d16 : a.tmps.getD 111 undef = .slice ai ni ci := hD ⟨16, .data⟩ (by simp) rfl _ rfl _ rfl
      have d22 : a.tmps.getD 117 undef = .int .i64 (mn : Int) := hD ⟨22, .data⟩ (by simp) rfl _ rfl _ rfl
      refine step_yes (wanted_yes rfl rfl rfl d10) ?_
      exact ok_value Lat.refl (.slice ai mn ci) (by simp [execOp, Act.eval, d16, d22, hmc, hmcN, go_sem]) (TV.mk rfl)
    · obtain rfl := Option.some.inj hi
      clear hi hlt
      intro a w1 hL hS hD
      have d10 : a.tmps.getD 105 undef = .bool false := hD ⟨10, .guard⟩ (by simp) rfl _ rfl _ rfl
      have d23 : a.tmps.getD 118 undef = .slice ai mn ci := hD ⟨23, .data⟩ (by simp) rfl _ rfl _ rfl
      refine step_yes (wanted_yes rfl rfl rfl d10) ?_
      exact ok_value Lat.refl (.string S) (by simp [execOp, Act.eval, d23, hs2 w1 hL, go_sem]) (TV.mk rfl)
    · obtain rfl := Option.some.inj hi
      clear hi hlt
      intro a w1 hL hS hD
      have d10 : a.tmps.getD 105 undef = .bool false := hD ⟨10, .guard⟩ (by simp) rfl _ rfl _ rfl
      have d12 : a.tmps.getD 107 undef = .string S := hD ⟨12, .data⟩ (by simp) rfl _ rfl _ rfl
      have d24 : a.tmps.getD 119 undef = .string S := hD ⟨24, .data⟩ (by simp) rfl _ rfl _ rfl
      refine step_yes (wanted_yes rfl rfl rfl d10) ?_
      exact ok_value Lat.refl (.bool false) (by simp [execOp, Act.eval, d12, d24, go_sem]) (TV.mk rfl)
    · obtain rfl := Option.some.inj hi
      clear hi hlt
      intro a w1 hL hS hD
      have d3 : a.tmps.getD 98 undef = .bool true := hD ⟨3, .guard⟩ (by simp) rfl _ rfl _ rfl
      have d10 : a.tmps.getD 105 undef = .bool false := hD ⟨10, .data⟩ (by simp) rfl _ rfl _ rfl
      have d25 : a.tmps.getD 120 undef = .bool false := hD ⟨25, .data⟩ (by simp) rfl _ rfl _ rfl
      refine step_yes (wanted_yes rfl rfl rfl d3) ?_
      exact ok_value Lat.refl (.bool false) (by simp [execOp, Act.eval, d10, d25, go_sem]) (TV.mk rfl)
    · obtain rfl := Option.some.inj hi
      clear hi hlt
      intro a w1 hL hS hD
      have d3 : a.tmps.getD 98 undef = .bool true := hD ⟨3, .data⟩ (by simp) rfl _ rfl _ rfl
      have d26 : a.tmps.getD 121 undef = .bool false := hD ⟨26, .data⟩ (by simp) rfl _ rfl _ rfl
      refine step_yes rfl ?_
      exact ok_value Lat.refl (.bool false) (by simp [execOp, Act.eval, d3, d26, go_sem]) (TV.mk rfl)

set_option maxRecDepth 100000 in
set_option maxHeartbeats 2000000 in
theorem back_r21out (Bi Bn Bk Bl i n n1 c1 : Nat) (k : Int) (ad1 : Option Addr) (w : World) (a0 : Act) (Q : Exit → Act → World → Prop) (lp nn : Nat) (hlo : ¬ LetsOut Q) (hsz : a0.tmps.size = 157)
    (s15 : a0.tmps.getD 15 undef = .pointer (some ⟨Bi, 0, none⟩))
    (s9 : a0.tmps.getD 9 undef = .pointer (some ⟨Bn, 0, none⟩))
    (s3 : a0.tmps.getD 3 undef = .pointer (some ⟨Bk, 0, none⟩))
    (s4 : a0.tmps.getD 4 undef = .pointer (some ⟨Bl, 0, none⟩))
    (s16 : a0.tmps.getD 16 undef = .int .u8 k)
    (s17 : a0.tmps.getD 17 undef = .slice ad1 n1 c1)
    (hi : ∀ w1, Lat w w1 → w1.cell? ⟨Bi, 0, none⟩ = some (.int .i64 (i : Int)))
    (hn : ∀ w1, Lat w w1 → w1.cell? ⟨Bn, 0, none⟩ = some (.int .i64 (n : Int)))
    (hin : ¬ i < n)
    (hQ : ∀ (v95 v96 v97 v98 v99 v100 v101 v102 v103 v104 v105 v106 v107 v108 v109 v110 v111 v112 v113 v114 v115 v116 v117 v118 v119 v120 v121 : Value) (w1 : World), Lat w w1 → Q .normal ((((((((((((((((((((((((((((a0.put (some 95) v95).put (some 96) v96).put (some 97) v97).put (some 98) v98).put (some 99) v99).put (some 100) v100).put (some 101) v101).put (some 102) v102).put (some 103) v103).put (some 104) v104).put (some 105) v105).put (some 106) v106).put (some 107) v107).put (some 108) v108).put (some 109) v109).put (some 110) v110).put (some 111) v111).put (some 112) v112).put (some 113) v113).put (some 114) v114).put (some 115) v115).put (some 116) v116).put (some 117) v117).put (some 118) v118).put (some 119) v119).put (some 120) v120).put (some 121) v121).put (some 122) (.bool false)) w1) :
    Code.wpIn (Fence.wide.inRound lp) nn Try.prog ((Try.f6.body.bind (findR 21)).getD .skip) Q a0 w := by
  conv => arg 4; whnf
  refine wpIn_region_inv Lat (TV [.int .i64 (i : Int), .int .i64 (n : Int), .bool false, .bool false, undef, undef, undef, undef, undef, undef, undef, undef, undef, undef, undef, undef, undef, undef, undef, undef, undef, undef, undef, undef, undef, undef, undef, .bool false]) (by kernel_rfl) hlo (by kernel_rfl) (by kernel_rfl) (by kernel_rfl) (by rw [hsz]; kernel_rfl) (by kernel_rfl) Lat.refl Lat.trans (TV.stable _) (Lat.draw w) ?hop ?hdone
  case hdone =>
    intro a w1 hL hS hT
    have k122 : a.tmps.getD 122 undef = .bool false := hT 27 _ rfl _ rfl
    have he := same_puts hS
    have hQ2 := hQ (a.tmps.getD 95 undef) (a.tmps.getD 96 undef) (a.tmps.getD 97 undef) (a.tmps.getD 98 undef) (a.tmps.getD 99 undef) (a.tmps.getD 100 undef) (a.tmps.getD 101 undef) (a.tmps.getD 102 undef) (a.tmps.getD 103 undef) (a.tmps.getD 104 undef) (a.tmps.getD 105 undef) (a.tmps.getD 106 undef) (a.tmps.getD 107 undef) (a.tmps.getD 108 undef) (a.tmps.getD 109 undef) (a.tmps.getD 110 undef) (a.tmps.getD 111 undef) (a.tmps.getD 112 undef) (a.tmps.getD 113 undef) (a.tmps.getD 114 undef) (a.tmps.getD 115 undef) (a.tmps.getD 116 undef) (a.tmps.getD 117 undef) (a.tmps.getD 118 undef) (a.tmps.getD 119 undef) (a.tmps.getD 120 undef) (a.tmps.getD 121 undef) w1 hL
    rw [← k122] at hQ2
    rw [he]
    exact hQ2
  case hop =>
    intro i o hi
    have hlt : i < 28 := (Array.getElem?_eq_some_iff.1 hi).1
    rcases (show i = 0 ∨ i = 1 ∨ i = 2 ∨ i = 3 ∨ i = 4 ∨ i = 5 ∨ i = 6 ∨ i = 7 ∨ i = 8 ∨ i = 9 ∨ i = 10 ∨ i = 11 ∨ i = 12 ∨ i = 13 ∨ i = 14 ∨ i = 15 ∨ i = 16 ∨ i = 17 ∨ i = 18 ∨ i = 19 ∨ i = 20 ∨ i = 21 ∨ i = 22 ∨ i = 23 ∨ i = 24 ∨ i = 25 ∨ i = 26 ∨ i = 27 by omega) with rfl | rfl | rfl | rfl | rfl | rfl | rfl | rfl | rfl | rfl | rfl | rfl | rfl | rfl | rfl | rfl | rfl | rfl | rfl | rfl | rfl | rfl | rfl | rfl | rfl | rfl | rfl | rfl
    · obtain rfl := Option.some.inj hi
      clear hi hlt
      intro a w1 hL hS hD
      have e15 : a.tmps.getD 15 undef = .pointer (some ⟨Bi, 0, none⟩) := (hS.slot 15 (by kernel_rfl)).trans s15
      refine step_yes rfl ?_
      exact ok_value Lat.refl (.int .i64 (i : Int)) (by simp [execOp, Act.eval, e15, hi w1 hL, go_sem]) (TV.mk rfl)
    · obtain rfl := Option.some.inj hi
      clear hi hlt
      intro a w1 hL hS hD
      have e9 : a.tmps.getD 9 undef = .pointer (some ⟨Bn, 0, none⟩) := (hS.slot 9 (by kernel_rfl)).trans s9
      refine step_yes rfl ?_
      exact ok_value Lat.refl (.int .i64 (n : Int)) (by simp [execOp, Act.eval, e9, hn w1 hL, go_sem]) (TV.mk rfl)
    · obtain rfl := Option.some.inj hi
      clear hi hlt
      intro a w1 hL hS hD
      have d0 : a.tmps.getD 95 undef = .int .i64 (i : Int) := hD ⟨0, .data⟩ (by simp) rfl _ rfl _ rfl
      have d1 : a.tmps.getD 96 undef = .int .i64 (n : Int) := hD ⟨1, .data⟩ (by simp) rfl _ rfl _ rfl
      refine step_yes rfl ?_
      exact ok_value Lat.refl (.bool false) (by simp [execOp, Act.eval, d0, d1, hin, go_sem]) (TV.mk rfl)
    · obtain rfl := Option.some.inj hi
      clear hi hlt
      intro a w1 hL hS hD
      have d2 : a.tmps.getD 97 undef = .bool false := hD ⟨2, .data⟩ (by simp) rfl _ rfl _ rfl
      refine step_yes rfl ?_
      exact ok_value Lat.refl (.bool false) (by simp [execOp, Act.eval, d2, go_sem]) (TV.mk rfl)
    · obtain rfl := Option.some.inj hi
      clear hi hlt
      intro a w1 hL hS hD
      have d3 : a.tmps.getD 98 undef = .bool false := hD ⟨3, .guard⟩ (by simp) rfl _ rfl _ rfl
      exact step_no (wanted_no rfl rfl rfl d3 rfl) (TV.mk rfl)
    · obtain rfl := Option.some.inj hi
      clear hi hlt
      intro a w1 hL hS hD
      have d3 : a.tmps.getD 98 undef = .bool false := hD ⟨3, .guard⟩ (by simp) rfl _ rfl _ rfl
      exact step_no (wanted_no rfl rfl rfl d3 rfl) (TV.mk rfl)
    · obtain rfl := Option.some.inj hi
      clear hi hlt
      intro a w1 hL hS hD
      have d3 : a.tmps.getD 98 undef = .bool false := hD ⟨3, .guard⟩ (by simp) rfl _ rfl _ rfl
      exact step_no (wanted_no rfl rfl rfl d3 rfl) (TV.mk rfl)
    · obtain rfl := Option.some.inj hi
      clear hi hlt
      intro a w1 hL hS hD
      have d3 : a.tmps.getD 98 undef = .bool false := hD ⟨3, .guard⟩ (by simp) rfl _ rfl _ rfl
      exact step_no (wanted_no rfl rfl rfl d3 rfl) (TV.mk rfl)
    · obtain rfl := Option.some.inj hi
      clear hi hlt
      intro a w1 hL hS hD
      have d3 : a.tmps.getD 98 undef = .bool false := hD ⟨3, .guard⟩ (by simp) rfl _ rfl _ rfl
      exact step_no (wanted_no rfl rfl rfl d3 rfl) (TV.mk rfl)
    · obtain rfl := Option.some.inj hi
      clear hi hlt
      intro a w1 hL hS hD
      have d3 : a.tmps.getD 98 undef = .bool false := hD ⟨3, .guard⟩ (by simp) rfl _ rfl _ rfl
      exact step_no (wanted_no rfl rfl rfl d3 rfl) (TV.mk rfl)
    · obtain rfl := Option.some.inj hi
      clear hi hlt
      intro a w1 hL hS hD
      have d3 : a.tmps.getD 98 undef = .bool false := hD ⟨3, .guard⟩ (by simp) rfl _ rfl _ rfl
      exact step_no (wanted_no rfl rfl rfl d3 rfl) (TV.mk rfl)
    · obtain rfl := Option.some.inj hi
      clear hi hlt
      intro a w1 hL hS hD
      have d10 : a.tmps.getD 105 undef = undef := hD ⟨10, .guard⟩ (by simp) rfl _ rfl _ rfl
      exact step_no (wanted_undef rfl rfl rfl d10) (TV.mk rfl)
    · obtain rfl := Option.some.inj hi
      clear hi hlt
      intro a w1 hL hS hD
      have d10 : a.tmps.getD 105 undef = undef := hD ⟨10, .guard⟩ (by simp) rfl _ rfl _ rfl
      exact step_no (wanted_undef rfl rfl rfl d10) (TV.mk rfl)
    · obtain rfl := Option.some.inj hi
      clear hi hlt
      intro a w1 hL hS hD
      have d10 : a.tmps.getD 105 undef = undef := hD ⟨10, .guard⟩ (by simp) rfl _ rfl _ rfl
      exact step_no (wanted_undef rfl rfl rfl d10) (TV.mk rfl)
    · obtain rfl := Option.some.inj hi
      clear hi hlt
      intro a w1 hL hS hD
      have d10 : a.tmps.getD 105 undef = undef := hD ⟨10, .guard⟩ (by simp) rfl _ rfl _ rfl
      exact step_no (wanted_undef rfl rfl rfl d10) (TV.mk rfl)
    · obtain rfl := Option.some.inj hi
      clear hi hlt
      intro a w1 hL hS hD
      have d10 : a.tmps.getD 105 undef = undef := hD ⟨10, .guard⟩ (by simp) rfl _ rfl _ rfl
      exact step_no (wanted_undef rfl rfl rfl d10) (TV.mk rfl)
    · obtain rfl := Option.some.inj hi
      clear hi hlt
      intro a w1 hL hS hD
      have d10 : a.tmps.getD 105 undef = undef := hD ⟨10, .guard⟩ (by simp) rfl _ rfl _ rfl
      exact step_no (wanted_undef rfl rfl rfl d10) (TV.mk rfl)
    · obtain rfl := Option.some.inj hi
      clear hi hlt
      intro a w1 hL hS hD
      have d10 : a.tmps.getD 105 undef = undef := hD ⟨10, .guard⟩ (by simp) rfl _ rfl _ rfl
      exact step_no (wanted_undef rfl rfl rfl d10) (TV.mk rfl)
    · obtain rfl := Option.some.inj hi
      clear hi hlt
      intro a w1 hL hS hD
      have d10 : a.tmps.getD 105 undef = undef := hD ⟨10, .guard⟩ (by simp) rfl _ rfl _ rfl
      exact step_no (wanted_undef rfl rfl rfl d10) (TV.mk rfl)
    · obtain rfl := Option.some.inj hi
      clear hi hlt
      intro a w1 hL hS hD
      have d10 : a.tmps.getD 105 undef = undef := hD ⟨10, .guard⟩ (by simp) rfl _ rfl _ rfl
      exact step_no (wanted_undef rfl rfl rfl d10) (TV.mk rfl)
    · obtain rfl := Option.some.inj hi
      clear hi hlt
      intro a w1 hL hS hD
      have d10 : a.tmps.getD 105 undef = undef := hD ⟨10, .guard⟩ (by simp) rfl _ rfl _ rfl
      exact step_no (wanted_undef rfl rfl rfl d10) (TV.mk rfl)
    · obtain rfl := Option.some.inj hi
      clear hi hlt
      intro a w1 hL hS hD
      have d10 : a.tmps.getD 105 undef = undef := hD ⟨10, .guard⟩ (by simp) rfl _ rfl _ rfl
      exact step_no (wanted_undef rfl rfl rfl d10) (TV.mk rfl)
    · obtain rfl := Option.some.inj hi
      clear hi hlt
      intro a w1 hL hS hD
      have d10 : a.tmps.getD 105 undef = undef := hD ⟨10, .guard⟩ (by simp) rfl _ rfl _ rfl
      exact step_no (wanted_undef rfl rfl rfl d10) (TV.mk rfl)
    · obtain rfl := Option.some.inj hi
      clear hi hlt
      intro a w1 hL hS hD
      have d10 : a.tmps.getD 105 undef = undef := hD ⟨10, .guard⟩ (by simp) rfl _ rfl _ rfl
      exact step_no (wanted_undef rfl rfl rfl d10) (TV.mk rfl)
    · obtain rfl := Option.some.inj hi
      clear hi hlt
      intro a w1 hL hS hD
      have d10 : a.tmps.getD 105 undef = undef := hD ⟨10, .guard⟩ (by simp) rfl _ rfl _ rfl
      exact step_no (wanted_undef rfl rfl rfl d10) (TV.mk rfl)
    · obtain rfl := Option.some.inj hi
      clear hi hlt
      intro a w1 hL hS hD
      have d10 : a.tmps.getD 105 undef = undef := hD ⟨10, .guard⟩ (by simp) rfl _ rfl _ rfl
      exact step_no (wanted_undef rfl rfl rfl d10) (TV.mk rfl)
    · obtain rfl := Option.some.inj hi
      clear hi hlt
      intro a w1 hL hS hD
      have d3 : a.tmps.getD 98 undef = .bool false := hD ⟨3, .guard⟩ (by simp) rfl _ rfl _ rfl
      exact step_no (wanted_no rfl rfl rfl d3 rfl) (TV.mk rfl)
    · obtain rfl := Option.some.inj hi
      clear hi hlt
      intro a w1 hL hS hD
      have d3 : a.tmps.getD 98 undef = .bool false := hD ⟨3, .data⟩ (by simp) rfl _ rfl _ rfl
      have d26 : a.tmps.getD 121 undef = undef := hD ⟨26, .data⟩ (by simp) rfl _ rfl _ rfl
      refine step_yes rfl ?_
      exact ok_value Lat.refl (.bool false) (by simp [execOp, Act.eval, d3, d26, go_sem]) (TV.mk rfl)

end Go.Proofs.Ytiaopgphjailiaa
