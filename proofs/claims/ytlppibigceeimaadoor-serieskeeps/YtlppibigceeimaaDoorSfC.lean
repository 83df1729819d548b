import Derived.Test.YtlppibigceeimaaDoorSfA
/-
  shown: its region with six calls.
-/
namespace Go.Proofs.YtlppibigceeimaaDoor
open Go.RowKit
set_option linter.unusedVariables false
set_option linter.unusedSimpArgs false

set_option maxRecDepth 100000 in
set_option maxHeartbeats 2000000 in
theorem shown_r13 (S p lb xb cl cc : Nat) (ac : Option Addr) (I : Nat → World → Prop) (w : World) (a0 : Act) (Q : Exit → Act → World → Prop) (hsz : a0.tmps.size = 111)
    (s1 : a0.tmps.getD 1 undef = .pointer (some ⟨p, 0, none⟩))
    (s3 : a0.tmps.getD 3 undef = .pointer (some ⟨S, 0, none⟩))
    (s4 : a0.tmps.getD 4 undef = .int .i64 0)
    (s5 : a0.tmps.getD 5 undef = .int .i64 140)
    (s6 : a0.tmps.getD 6 undef = .int .i64 0)
    (s7 : a0.tmps.getD 7 undef = .int .i64 0)
    (s8 : a0.tmps.getD 8 undef = .slice (some ⟨lb, 0, none⟩) 1 cl)
    (s9 : a0.tmps.getD 9 undef = .pointer (some ⟨xb, 0, none⟩))
    (s10 : a0.tmps.getD 10 undef = .bool true)
    (s11 : a0.tmps.getD 11 undef = .slice ac 1 cc)
    (c0 : ∀ w1, (∃ k, k ≤ 13 ∧ I k w1) → w1.cell? ⟨lb, 0, none⟩ = some (.int .i64 6))
    (c1 : ∀ w1, (∃ k, k ≤ 13 ∧ I k w1) → w1.cell? ⟨lb, 1, none⟩ = some (.int .u64 1))
    (x0 : ∀ w1, (∃ k, k ≤ 13 ∧ I k w1) → w1.cell? ⟨xb, 0, none⟩ = some (.int .i64 6))
    (x1 : ∀ w1, (∃ k, k ≤ 13 ∧ I k w1) → w1.cell? ⟨xb, 1, none⟩ = some (.int .u64 1))
    (h0 : I 0 { w with drawn := w.drawn + 1 })
    (hC0 : ∀ w1, I 0 w1 → Calls Tryd.prog 9 #[.int .i64 6, .int .u64 1] w1 fun e w2 => e = .returned (.agg #[.int .i64 6, .int .u64 1]) ∧ I 1 w2)
    (hC1 : ∀ w1, I 1 w1 → I 2 w1)
    (hC2 : ∀ w1, I 2 w1 → I 3 w1)
    (hC3 : ∀ w1, I 3 w1 → Calls Tryd.prog 9 #[.int .i64 6, .int .u64 1] w1 fun e w2 => e = .returned (.agg #[.int .i64 6, .int .u64 1]) ∧ I 4 w2)
    (hC4 : ∀ w1, I 4 w1 → I 5 w1)
    (hC5 : ∀ w1, I 5 w1 → I 6 w1)
    (hC6 : ∀ w1, I 6 w1 → Calls Tryd.prog 16 #[.pointer (some ⟨S, 0, none⟩), .string { data := #[97] }] w1 fun e w2 => e = .returned (.int .i64 1) ∧ I 7 w2)
    (hC7 : ∀ w1, I 7 w1 → I 8 w1)
    (hC8 : ∀ w1, I 8 w1 → Calls Tryd.prog 11 #[.pointer (some ⟨p, 0, none⟩)] w1 fun e w2 => e = .returned (.int .i64 1) ∧ I 9 w2)
    (hC9 : ∀ w1, I 9 w1 → I 10 w1)
    (hC10 : ∀ w1, I 10 w1 → Calls Tryd.prog 19 #[.pointer (some ⟨S, 0, none⟩), .string { data := #[97] }] w1 fun e w2 => e = .returned (.int .i64 1) ∧ I 11 w2)
    (hC11 : ∀ w1, I 11 w1 → I 12 w1)
    (hC12 : ∀ w1, I 12 w1 → Calls Tryd.prog 11 #[.pointer (some ⟨p, 0, none⟩)] w1 fun e w2 => e = .returned (.int .i64 2) ∧ I 13 w2)
    (hQ : ∀ (v52 v53 v54 v55 v56 v57 v58 v59 v60 v61 v62 v63 v64 v65 v66 v67 v68 v69 v70 v71 v72 v73 v74 v75 v76 v77 v78 v79 v80 v81 v82 v83 v84 v85 v86 v87 v88 v89 v90 v91 v92 v93 v94 v95 v96 v97 v98 v99 v100 v101 v102 v103 v104 v105 v106 v107 v108 v109 v110 : Value) (w2 : World), I 13 w2 → Q .normal ((((((((((((((((((((((((((((((((((((((((((((((((((((((((((((a0.put (some 52) v52).put (some 53) v53).put (some 54) v54).put (some 55) v55).put (some 56) v56).put (some 57) v57).put (some 58) v58).put (some 59) v59).put (some 60) v60).put (some 61) v61).put (some 62) v62).put (some 63) v63).put (some 64) v64).put (some 65) v65).put (some 66) v66).put (some 67) v67).put (some 68) v68).put (some 69) v69).put (some 70) v70).put (some 71) v71).put (some 72) v72).put (some 73) v73).put (some 74) v74).put (some 75) v75).put (some 76) v76).put (some 77) v77).put (some 78) v78).put (some 79) v79).put (some 80) v80).put (some 81) v81).put (some 82) v82).put (some 83) v83).put (some 84) v84).put (some 85) v85).put (some 86) v86).put (some 87) v87).put (some 88) v88).put (some 89) v89).put (some 90) v90).put (some 91) v91).put (some 92) v92).put (some 93) v93).put (some 94) v94).put (some 95) v95).put (some 96) v96).put (some 97) v97).put (some 98) v98).put (some 99) v99).put (some 100) v100).put (some 101) v101).put (some 102) v102).put (some 103) v103).put (some 104) v104).put (some 105) v105).put (some 106) v106).put (some 107) v107).put (some 108) v108).put (some 109) v109).put (some 110) v110).put (some 0) (.bool true)) w2) :
    Code.wp Tryd.prog ((Tryd.f4.body.bind (findRegion 13)).getD .skip) Q a0 w := by
  conv => arg 2; whnf
  refine wp_region_calls (fun i => ([.int .i64 0, .bool true, .bool true, .int .i64 140, .bool true, .bool true, .bool true, .int .i64 0, .bool true, .bool true, .bool true, .int .i64 0, .bool true, .bool true, .bool true, .slice (some ⟨lb, 0, none⟩) 1 cl, .int .i64 1, .bool true, .bool true, .bool true, .slice (some ⟨lb, 0, none⟩) 1 cl, .pointer (some ⟨lb, 0, none⟩), .agg #[.int .i64 6, .int .u64 1], .agg #[.int .i64 6, .int .u64 1], .bool true, .bool true, .bool true, .bool true, .bool true, .bool true, .agg #[.int .i64 6, .int .u64 1], .agg #[.int .i64 6, .int .u64 1], .bool true, .bool true, .bool true, .slice ac 1 cc, .int .i64 1, .bool true, .bool true, .bool true, .pointer (some ⟨S, 0, none⟩), .int .i64 1, .bool true, .bool true, .bool true, .pointer (some ⟨p, 0, none⟩), .int .i64 1, .bool true, .bool true, .bool true, .pointer (some ⟨S, 0, none⟩), .int .i64 1, .bool true, .bool true, .bool true, .pointer (some ⟨p, 0, none⟩), .int .i64 2, .bool true, .bool true, .bool true] : List Value).getD i undef) I (fun j => ([23, 26, 29, 31, 34, 39, 41, 44, 46, 49, 51, 54, 56] : List Nat).getD j 0) 13 (by kernel_rfl) (by kernel_rfl) (by kernel_rfl) (by rw [hsz]; kernel_rfl) ?hinj ?hqs ?hwait h0 ?hop ?hcA ?hdone
  case hinj =>
    intro j k hj hk h
    rcases (show j = 0 ∨ j = 1 ∨ j = 2 ∨ j = 3 ∨ j = 4 ∨ j = 5 ∨ j = 6 ∨ j = 7 ∨ j = 8 ∨ j = 9 ∨ j = 10 ∨ j = 11 ∨ j = 12 by omega) with rfl | rfl | rfl | rfl | rfl | rfl | rfl | rfl | rfl | rfl | rfl | rfl | rfl <;> rcases (show k = 0 ∨ k = 1 ∨ k = 2 ∨ k = 3 ∨ k = 4 ∨ k = 5 ∨ k = 6 ∨ k = 7 ∨ k = 8 ∨ k = 9 ∨ k = 10 ∨ k = 11 ∨ k = 12 by omega) with rfl | rfl | rfl | rfl | rfl | rfl | rfl | rfl | rfl | rfl | rfl | rfl | rfl <;> first | rfl | exact absurd h (by decide)
  case hqs =>
    intro j hj
    rcases (show j = 0 ∨ j = 1 ∨ j = 2 ∨ j = 3 ∨ j = 4 ∨ j = 5 ∨ j = 6 ∨ j = 7 ∨ j = 8 ∨ j = 9 ∨ j = 10 ∨ j = 11 ∨ j = 12 by omega) with rfl | rfl | rfl | rfl | rfl | rfl | rfl | rfl | rfl | rfl | rfl | rfl | rfl <;> exact of_decide_eq_true (by kernel_rfl)
  case hwait =>
    intro j hj oB hoB
    rcases (show j = 0 ∨ j = 1 ∨ j = 2 ∨ j = 3 ∨ j = 4 ∨ j = 5 ∨ j = 6 ∨ j = 7 ∨ j = 8 ∨ j = 9 ∨ j = 10 ∨ j = 11 by omega) with rfl | rfl | rfl | rfl | rfl | rfl | rfl | rfl | rfl | rfl | rfl | rfl
    · obtain rfl := Option.some.inj hoB
      exact ⟨⟨23, .chain⟩, by simp, rfl, rfl⟩
    · obtain rfl := Option.some.inj hoB
      exact ⟨⟨26, .chain⟩, by simp, rfl, rfl⟩
    · obtain rfl := Option.some.inj hoB
      exact ⟨⟨29, .chain⟩, by simp, rfl, rfl⟩
    · obtain rfl := Option.some.inj hoB
      exact ⟨⟨31, .chain⟩, by simp, rfl, rfl⟩
    · obtain rfl := Option.some.inj hoB
      exact ⟨⟨34, .chain⟩, by simp, rfl, rfl⟩
    · obtain rfl := Option.some.inj hoB
      exact ⟨⟨39, .chain⟩, by simp, rfl, rfl⟩
    · obtain rfl := Option.some.inj hoB
      exact ⟨⟨41, .chain⟩, by simp, rfl, rfl⟩
    · obtain rfl := Option.some.inj hoB
      exact ⟨⟨44, .chain⟩, by simp, rfl, rfl⟩
    · obtain rfl := Option.some.inj hoB
      exact ⟨⟨46, .chain⟩, by simp, rfl, rfl⟩
    · obtain rfl := Option.some.inj hoB
      exact ⟨⟨49, .chain⟩, by simp, rfl, rfl⟩
    · obtain rfl := Option.some.inj hoB
      exact ⟨⟨51, .chain⟩, by simp, rfl, rfl⟩
    · obtain rfl := Option.some.inj hoB
      exact ⟨⟨54, .chain⟩, by simp, rfl, rfl⟩
  case hdone =>
    intro a w1 hI hS hT
    have kl : a.tmps.getD 0 undef = .bool true := hT 59 _ rfl
    have he := same_puts hS
    have hQ2 := hQ (a.tmps.getD 52 undef) (a.tmps.getD 53 undef) (a.tmps.getD 54 undef) (a.tmps.getD 55 undef) (a.tmps.getD 56 undef) (a.tmps.getD 57 undef) (a.tmps.getD 58 undef) (a.tmps.getD 59 undef) (a.tmps.getD 60 undef) (a.tmps.getD 61 undef) (a.tmps.getD 62 undef) (a.tmps.getD 63 undef) (a.tmps.getD 64 undef) (a.tmps.getD 65 undef) (a.tmps.getD 66 undef) (a.tmps.getD 67 undef) (a.tmps.getD 68 undef) (a.tmps.getD 69 undef) (a.tmps.getD 70 undef) (a.tmps.getD 71 undef) (a.tmps.getD 72 undef) (a.tmps.getD 73 undef) (a.tmps.getD 74 undef) (a.tmps.getD 75 undef) (a.tmps.getD 76 undef) (a.tmps.getD 77 undef) (a.tmps.getD 78 undef) (a.tmps.getD 79 undef) (a.tmps.getD 80 undef) (a.tmps.getD 81 undef) (a.tmps.getD 82 undef) (a.tmps.getD 83 undef) (a.tmps.getD 84 undef) (a.tmps.getD 85 undef) (a.tmps.getD 86 undef) (a.tmps.getD 87 undef) (a.tmps.getD 88 undef) (a.tmps.getD 89 undef) (a.tmps.getD 90 undef) (a.tmps.getD 91 undef) (a.tmps.getD 92 undef) (a.tmps.getD 93 undef) (a.tmps.getD 94 undef) (a.tmps.getD 95 undef) (a.tmps.getD 96 undef) (a.tmps.getD 97 undef) (a.tmps.getD 98 undef) (a.tmps.getD 99 undef) (a.tmps.getD 100 undef) (a.tmps.getD 101 undef) (a.tmps.getD 102 undef) (a.tmps.getD 103 undef) (a.tmps.getD 104 undef) (a.tmps.getD 105 undef) (a.tmps.getD 106 undef) (a.tmps.getD 107 undef) (a.tmps.getD 108 undef) (a.tmps.getD 109 undef) (a.tmps.getD 110 undef) w1 hI
    rw [← kl] at hQ2
    rw [he]
    exact hQ2
  case hcA =>
    intro k hk o ho
    rcases (show k = 0 ∨ k = 1 ∨ k = 2 ∨ k = 3 ∨ k = 4 ∨ k = 5 ∨ k = 6 ∨ k = 7 ∨ k = 8 ∨ k = 9 ∨ k = 10 ∨ k = 11 ∨ k = 12 by omega) with rfl | rfl | rfl | rfl | rfl | rfl | rfl | rfl | rfl | rfl | rfl | rfl | rfl
    · obtain rfl := Option.some.inj ho
      intro a w1 hI hS hD
      have d19 : a.tmps.getD 71 undef = .bool true := hD ⟨19, .guard⟩ (by simp) rfl _ rfl
      refine ⟨(wanted_yes rfl rfl rfl d19), ?_⟩
      refine wp_callr (f := 9) (args := #[.int .i64 6, .int .u64 1]) (by simp [execOp, resolve, Act.eval, go_sem]) ?_
      refine (hC0 w1 hI).mono ?_
      rintro e w2 ⟨rfl, h2⟩
      exact ⟨_, rfl, _, rfl, h2, rfl⟩
    · obtain rfl := Option.some.inj ho
      intro a w1 hI hS hD
      have d25 : a.tmps.getD 77 undef = .bool true := hD ⟨25, .data⟩ (by simp) rfl _ rfl
      exact ⟨rfl, wp_valr (.bool true) (by simp [execOp, Act.eval, d25, go_sem]) ⟨_, rfl, hC1 w1 hI, rfl⟩⟩
    · obtain rfl := Option.some.inj ho
      intro a w1 hI hS hD
      have d28 : a.tmps.getD 80 undef = .bool true := hD ⟨28, .data⟩ (by simp) rfl _ rfl
      exact ⟨rfl, wp_valr (.bool true) (by simp [execOp, Act.eval, d28, go_sem]) ⟨_, rfl, hC2 w1 hI, rfl⟩⟩
    · obtain rfl := Option.some.inj ho
      intro a w1 hI hS hD
      have d29 : a.tmps.getD 81 undef = .bool true := hD ⟨29, .guard⟩ (by simp) rfl _ rfl
      refine ⟨(wanted_yes rfl rfl rfl d29), ?_⟩
      refine wp_callr (f := 9) (args := #[.int .i64 6, .int .u64 1]) (by simp [execOp, resolve, Act.eval, go_sem]) ?_
      refine (hC3 w1 hI).mono ?_
      rintro e w2 ⟨rfl, h2⟩
      exact ⟨_, rfl, _, rfl, h2, rfl⟩
    · obtain rfl := Option.some.inj ho
      intro a w1 hI hS hD
      have d33 : a.tmps.getD 85 undef = .bool true := hD ⟨33, .data⟩ (by simp) rfl _ rfl
      exact ⟨rfl, wp_valr (.bool true) (by simp [execOp, Act.eval, d33, go_sem]) ⟨_, rfl, hC4 w1 hI, rfl⟩⟩
    · obtain rfl := Option.some.inj ho
      intro a w1 hI hS hD
      have d38 : a.tmps.getD 90 undef = .bool true := hD ⟨38, .data⟩ (by simp) rfl _ rfl
      exact ⟨rfl, wp_valr (.bool true) (by simp [execOp, Act.eval, d38, go_sem]) ⟨_, rfl, hC5 w1 hI, rfl⟩⟩
    · obtain rfl := Option.some.inj ho
      intro a w1 hI hS hD
      have d39 : a.tmps.getD 91 undef = .bool true := hD ⟨39, .guard⟩ (by simp) rfl _ rfl
      have d40 : a.tmps.getD 92 undef = .pointer (some ⟨S, 0, none⟩) := hD ⟨40, .data⟩ (by simp) rfl _ rfl
      refine ⟨(wanted_yes rfl rfl rfl d39), ?_⟩
      refine wp_callr (f := 16) (args := #[.pointer (some ⟨S, 0, none⟩), .string { data := #[97] }]) (by simp [execOp, resolve, Act.eval, d40, go_sem]) ?_
      refine (hC6 w1 hI).mono ?_
      rintro e w2 ⟨rfl, h2⟩
      exact ⟨_, rfl, _, rfl, h2, rfl⟩
    · obtain rfl := Option.some.inj ho
      intro a w1 hI hS hD
      have d43 : a.tmps.getD 95 undef = .bool true := hD ⟨43, .data⟩ (by simp) rfl _ rfl
      exact ⟨rfl, wp_valr (.bool true) (by simp [execOp, Act.eval, d43, go_sem]) ⟨_, rfl, hC7 w1 hI, rfl⟩⟩
    · obtain rfl := Option.some.inj ho
      intro a w1 hI hS hD
      have d44 : a.tmps.getD 96 undef = .bool true := hD ⟨44, .guard⟩ (by simp) rfl _ rfl
      have d45 : a.tmps.getD 97 undef = .pointer (some ⟨p, 0, none⟩) := hD ⟨45, .data⟩ (by simp) rfl _ rfl
      refine ⟨(wanted_yes rfl rfl rfl d44), ?_⟩
      refine wp_callr (f := 11) (args := #[.pointer (some ⟨p, 0, none⟩)]) (by simp [execOp, resolve, Act.eval, d45, go_sem]) ?_
      refine (hC8 w1 hI).mono ?_
      rintro e w2 ⟨rfl, h2⟩
      exact ⟨_, rfl, _, rfl, h2, rfl⟩
    · obtain rfl := Option.some.inj ho
      intro a w1 hI hS hD
      have d48 : a.tmps.getD 100 undef = .bool true := hD ⟨48, .data⟩ (by simp) rfl _ rfl
      exact ⟨rfl, wp_valr (.bool true) (by simp [execOp, Act.eval, d48, go_sem]) ⟨_, rfl, hC9 w1 hI, rfl⟩⟩
    · obtain rfl := Option.some.inj ho
      intro a w1 hI hS hD
      have d49 : a.tmps.getD 101 undef = .bool true := hD ⟨49, .guard⟩ (by simp) rfl _ rfl
      have d50 : a.tmps.getD 102 undef = .pointer (some ⟨S, 0, none⟩) := hD ⟨50, .data⟩ (by simp) rfl _ rfl
      refine ⟨(wanted_yes rfl rfl rfl d49), ?_⟩
      refine wp_callr (f := 19) (args := #[.pointer (some ⟨S, 0, none⟩), .string { data := #[97] }]) (by simp [execOp, resolve, Act.eval, d50, go_sem]) ?_
      refine (hC10 w1 hI).mono ?_
      rintro e w2 ⟨rfl, h2⟩
      exact ⟨_, rfl, _, rfl, h2, rfl⟩
    · obtain rfl := Option.some.inj ho
      intro a w1 hI hS hD
      have d53 : a.tmps.getD 105 undef = .bool true := hD ⟨53, .data⟩ (by simp) rfl _ rfl
      exact ⟨rfl, wp_valr (.bool true) (by simp [execOp, Act.eval, d53, go_sem]) ⟨_, rfl, hC11 w1 hI, rfl⟩⟩
    · obtain rfl := Option.some.inj ho
      intro a w1 hI hS hD
      have d54 : a.tmps.getD 106 undef = .bool true := hD ⟨54, .guard⟩ (by simp) rfl _ rfl
      have d55 : a.tmps.getD 107 undef = .pointer (some ⟨p, 0, none⟩) := hD ⟨55, .data⟩ (by simp) rfl _ rfl
      refine ⟨(wanted_yes rfl rfl rfl d54), ?_⟩
      refine wp_callr (f := 11) (args := #[.pointer (some ⟨p, 0, none⟩)]) (by simp [execOp, resolve, Act.eval, d55, go_sem]) ?_
      refine (hC12 w1 hI).mono ?_
      rintro e w2 ⟨rfl, h2⟩
      exact ⟨_, rfl, _, rfl, h2, rfl⟩
  case hop =>
    intro i o hi hn
    have hlt : i < 60 := (Array.getElem?_eq_some_iff.1 hi).1
    rcases (show i = 0 ∨ i = 1 ∨ i = 2 ∨ i = 3 ∨ i = 4 ∨ i = 5 ∨ i = 6 ∨ i = 7 ∨ i = 8 ∨ i = 9 ∨ i = 10 ∨ i = 11 ∨ i = 12 ∨ i = 13 ∨ i = 14 ∨ i = 15 ∨ i = 16 ∨ i = 17 ∨ i = 18 ∨ i = 19 ∨ i = 20 ∨ i = 21 ∨ i = 22 ∨ i = 23 ∨ i = 24 ∨ i = 25 ∨ i = 26 ∨ i = 27 ∨ i = 28 ∨ i = 29 ∨ i = 30 ∨ i = 31 ∨ i = 32 ∨ i = 33 ∨ i = 34 ∨ i = 35 ∨ i = 36 ∨ i = 37 ∨ i = 38 ∨ i = 39 ∨ i = 40 ∨ i = 41 ∨ i = 42 ∨ i = 43 ∨ i = 44 ∨ i = 45 ∨ i = 46 ∨ i = 47 ∨ i = 48 ∨ i = 49 ∨ i = 50 ∨ i = 51 ∨ i = 52 ∨ i = 53 ∨ i = 54 ∨ i = 55 ∨ i = 56 ∨ i = 57 ∨ i = 58 ∨ i = 59 by omega) with rfl | rfl | rfl | rfl | rfl | rfl | rfl | rfl | rfl | rfl | rfl | rfl | rfl | rfl | rfl | rfl | rfl | rfl | rfl | rfl | rfl | rfl | rfl | rfl | rfl | rfl | rfl | rfl | rfl | rfl | rfl | rfl | rfl | rfl | rfl | rfl | rfl | rfl | rfl | rfl | rfl | rfl | rfl | rfl | rfl | rfl | rfl | rfl | rfl | rfl | rfl | rfl | rfl | rfl | rfl | rfl | rfl | rfl | rfl | rfl
    · obtain rfl := Option.some.inj hi
      clear hi hlt hn
      intro a w1 hI hS hD
      have e4 : a.tmps.getD 4 undef = .int .i64 0 := (hS.slot 4 (by kernel_rfl)).trans s4
      exact ⟨rfl, .int .i64 0, by simp [execOp, Act.eval, e4, go_sem], rfl⟩
    · obtain rfl := Option.some.inj hi
      clear hi hlt hn
      intro a w1 hI hS hD
      have d0 : a.tmps.getD 52 undef = .int .i64 0 := hD ⟨0, .data⟩ (by simp) rfl _ rfl
      exact ⟨rfl, .bool true, by simp [execOp, Act.eval, d0, go_sem], rfl⟩
    · obtain rfl := Option.some.inj hi
      clear hi hlt hn
      intro a w1 hI hS hD
      have d1 : a.tmps.getD 53 undef = .bool true := hD ⟨1, .data⟩ (by simp) rfl _ rfl
      exact ⟨rfl, .bool true, by simp [execOp, Act.eval, d1, go_sem], rfl⟩
    · obtain rfl := Option.some.inj hi
      clear hi hlt hn
      intro a w1 hI hS hD
      have d2 : a.tmps.getD 54 undef = .bool true := hD ⟨2, .guard⟩ (by simp) rfl _ rfl
      have e5 : a.tmps.getD 5 undef = .int .i64 140 := (hS.slot 5 (by kernel_rfl)).trans s5
      exact ⟨(wanted_yes rfl rfl rfl d2), .int .i64 140, by simp [execOp, Act.eval, e5, go_sem], rfl⟩
    · obtain rfl := Option.some.inj hi
      clear hi hlt hn
      intro a w1 hI hS hD
      have d2 : a.tmps.getD 54 undef = .bool true := hD ⟨2, .guard⟩ (by simp) rfl _ rfl
      have d3 : a.tmps.getD 55 undef = .int .i64 140 := hD ⟨3, .data⟩ (by simp) rfl _ rfl
      exact ⟨(wanted_yes rfl rfl rfl d2), .bool true, by simp [execOp, Act.eval, d3, go_sem], rfl⟩
    · obtain rfl := Option.some.inj hi
      clear hi hlt hn
      intro a w1 hI hS hD
      have d2 : a.tmps.getD 54 undef = .bool true := hD ⟨2, .data⟩ (by simp) rfl _ rfl
      have d4 : a.tmps.getD 56 undef = .bool true := hD ⟨4, .data⟩ (by simp) rfl _ rfl
      exact ⟨rfl, .bool true, by simp [execOp, Act.eval, d2, d4, go_sem], rfl⟩
    · obtain rfl := Option.some.inj hi
      clear hi hlt hn
      intro a w1 hI hS hD
      have d5 : a.tmps.getD 57 undef = .bool true := hD ⟨5, .data⟩ (by simp) rfl _ rfl
      exact ⟨rfl, .bool true, by simp [execOp, Act.eval, d5, go_sem], rfl⟩
    · obtain rfl := Option.some.inj hi
      clear hi hlt hn
      intro a w1 hI hS hD
      have d6 : a.tmps.getD 58 undef = .bool true := hD ⟨6, .guard⟩ (by simp) rfl _ rfl
      have e6 : a.tmps.getD 6 undef = .int .i64 0 := (hS.slot 6 (by kernel_rfl)).trans s6
      exact ⟨(wanted_yes rfl rfl rfl d6), .int .i64 0, by simp [execOp, Act.eval, e6, go_sem], rfl⟩
    · obtain rfl := Option.some.inj hi
      clear hi hlt hn
      intro a w1 hI hS hD
      have d6 : a.tmps.getD 58 undef = .bool true := hD ⟨6, .guard⟩ (by simp) rfl _ rfl
      have d7 : a.tmps.getD 59 undef = .int .i64 0 := hD ⟨7, .data⟩ (by simp) rfl _ rfl
      exact ⟨(wanted_yes rfl rfl rfl d6), .bool true, by simp [execOp, Act.eval, d7, go_sem], rfl⟩
    · obtain rfl := Option.some.inj hi
      clear hi hlt hn
      intro a w1 hI hS hD
      have d6 : a.tmps.getD 58 undef = .bool true := hD ⟨6, .data⟩ (by simp) rfl _ rfl
      have d8 : a.tmps.getD 60 undef = .bool true := hD ⟨8, .data⟩ (by simp) rfl _ rfl
      exact ⟨rfl, .bool true, by simp [execOp, Act.eval, d6, d8, go_sem], rfl⟩
    · obtain rfl := Option.some.inj hi
      clear hi hlt hn
      intro a w1 hI hS hD
      have d9 : a.tmps.getD 61 undef = .bool true := hD ⟨9, .data⟩ (by simp) rfl _ rfl
      exact ⟨rfl, .bool true, by simp [execOp, Act.eval, d9, go_sem], rfl⟩
    · obtain rfl := Option.some.inj hi
      clear hi hlt hn
      intro a w1 hI hS hD
      have d10 : a.tmps.getD 62 undef = .bool true := hD ⟨10, .guard⟩ (by simp) rfl _ rfl
      have e7 : a.tmps.getD 7 undef = .int .i64 0 := (hS.slot 7 (by kernel_rfl)).trans s7
      exact ⟨(wanted_yes rfl rfl rfl d10), .int .i64 0, by simp [execOp, Act.eval, e7, go_sem], rfl⟩
    · obtain rfl := Option.some.inj hi
      clear hi hlt hn
      intro a w1 hI hS hD
      have d10 : a.tmps.getD 62 undef = .bool true := hD ⟨10, .guard⟩ (by simp) rfl _ rfl
      have d11 : a.tmps.getD 63 undef = .int .i64 0 := hD ⟨11, .data⟩ (by simp) rfl _ rfl
      exact ⟨(wanted_yes rfl rfl rfl d10), .bool true, by simp [execOp, Act.eval, d11, go_sem], rfl⟩
    · obtain rfl := Option.some.inj hi
      clear hi hlt hn
      intro a w1 hI hS hD
      have d10 : a.tmps.getD 62 undef = .bool true := hD ⟨10, .data⟩ (by simp) rfl _ rfl
      have d12 : a.tmps.getD 64 undef = .bool true := hD ⟨12, .data⟩ (by simp) rfl _ rfl
      exact ⟨rfl, .bool true, by simp [execOp, Act.eval, d10, d12, go_sem], rfl⟩
    · obtain rfl := Option.some.inj hi
      clear hi hlt hn
      intro a w1 hI hS hD
      have d13 : a.tmps.getD 65 undef = .bool true := hD ⟨13, .data⟩ (by simp) rfl _ rfl
      exact ⟨rfl, .bool true, by simp [execOp, Act.eval, d13, go_sem], rfl⟩
    · obtain rfl := Option.some.inj hi
      clear hi hlt hn
      intro a w1 hI hS hD
      have d14 : a.tmps.getD 66 undef = .bool true := hD ⟨14, .guard⟩ (by simp) rfl _ rfl
      have e8 : a.tmps.getD 8 undef = .slice (some ⟨lb, 0, none⟩) 1 cl := (hS.slot 8 (by kernel_rfl)).trans s8
      exact ⟨(wanted_yes rfl rfl rfl d14), .slice (some ⟨lb, 0, none⟩) 1 cl, by simp [execOp, Act.eval, e8, go_sem], rfl⟩
    · obtain rfl := Option.some.inj hi
      clear hi hlt hn
      intro a w1 hI hS hD
      have d14 : a.tmps.getD 66 undef = .bool true := hD ⟨14, .guard⟩ (by simp) rfl _ rfl
      have d15 : a.tmps.getD 67 undef = .slice (some ⟨lb, 0, none⟩) 1 cl := hD ⟨15, .data⟩ (by simp) rfl _ rfl
      exact ⟨(wanted_yes rfl rfl rfl d14), .int .i64 1, by simp [execOp, Act.eval, d15, resolve, invoke, builtin, go_sem], rfl⟩
    · obtain rfl := Option.some.inj hi
      clear hi hlt hn
      intro a w1 hI hS hD
      have d14 : a.tmps.getD 66 undef = .bool true := hD ⟨14, .guard⟩ (by simp) rfl _ rfl
      have d16 : a.tmps.getD 68 undef = .int .i64 1 := hD ⟨16, .data⟩ (by simp) rfl _ rfl
      exact ⟨(wanted_yes rfl rfl rfl d14), .bool true, by simp [execOp, Act.eval, d16, go_sem], rfl⟩
    · obtain rfl := Option.some.inj hi
      clear hi hlt hn
      intro a w1 hI hS hD
      have d14 : a.tmps.getD 66 undef = .bool true := hD ⟨14, .data⟩ (by simp) rfl _ rfl
      have d17 : a.tmps.getD 69 undef = .bool true := hD ⟨17, .data⟩ (by simp) rfl _ rfl
      exact ⟨rfl, .bool true, by simp [execOp, Act.eval, d14, d17, go_sem], rfl⟩
    · obtain rfl := Option.some.inj hi
      clear hi hlt hn
      intro a w1 hI hS hD
      have d18 : a.tmps.getD 70 undef = .bool true := hD ⟨18, .data⟩ (by simp) rfl _ rfl
      exact ⟨rfl, .bool true, by simp [execOp, Act.eval, d18, go_sem], rfl⟩
    · obtain rfl := Option.some.inj hi
      clear hi hlt hn
      intro a w1 hI hS hD
      have d19 : a.tmps.getD 71 undef = .bool true := hD ⟨19, .guard⟩ (by simp) rfl _ rfl
      have e8 : a.tmps.getD 8 undef = .slice (some ⟨lb, 0, none⟩) 1 cl := (hS.slot 8 (by kernel_rfl)).trans s8
      exact ⟨(wanted_yes rfl rfl rfl d19), .slice (some ⟨lb, 0, none⟩) 1 cl, by simp [execOp, Act.eval, e8, go_sem], rfl⟩
    · obtain rfl := Option.some.inj hi
      clear hi hlt hn
      intro a w1 hI hS hD
      have d19 : a.tmps.getD 71 undef = .bool true := hD ⟨19, .guard⟩ (by simp) rfl _ rfl
      have d20 : a.tmps.getD 72 undef = .slice (some ⟨lb, 0, none⟩) 1 cl := hD ⟨20, .data⟩ (by simp) rfl _ rfl
      exact ⟨(wanted_yes rfl rfl rfl d19), .pointer (some ⟨lb, 0, none⟩), by simp [execOp, Act.eval, d20, go_sem], rfl⟩
    · obtain rfl := Option.some.inj hi
      clear hi hlt hn
      intro a w1 hI hS hD
      have d19 : a.tmps.getD 71 undef = .bool true := hD ⟨19, .guard⟩ (by simp) rfl _ rfl
      have d21 : a.tmps.getD 73 undef = .pointer (some ⟨lb, 0, none⟩) := hD ⟨21, .data⟩ (by simp) rfl _ rfl
      exact ⟨(wanted_yes rfl rfl rfl d19), .agg #[.int .i64 6, .int .u64 1], by simp [execOp, Act.eval, d21, c0 w1 hI, c1 w1 hI, go_sem], rfl⟩
    · exact absurd rfl (hn 0 (by omega))
    · obtain rfl := Option.some.inj hi
      clear hi hlt hn
      intro a w1 hI hS hD
      have d19 : a.tmps.getD 71 undef = .bool true := hD ⟨19, .guard⟩ (by simp) rfl _ rfl
      have d22 : a.tmps.getD 74 undef = .agg #[.int .i64 6, .int .u64 1] := hD ⟨22, .data⟩ (by simp) rfl _ rfl
      have d23 : a.tmps.getD 75 undef = .agg #[.int .i64 6, .int .u64 1] := hD ⟨23, .data⟩ (by simp) rfl _ rfl
      exact ⟨(wanted_yes rfl rfl rfl d19), .bool true, by simp [execOp, Act.eval, d22, d23, go_sem], rfl⟩
    · obtain rfl := Option.some.inj hi
      clear hi hlt hn
      intro a w1 hI hS hD
      have d19 : a.tmps.getD 71 undef = .bool true := hD ⟨19, .data⟩ (by simp) rfl _ rfl
      have d24 : a.tmps.getD 76 undef = .bool true := hD ⟨24, .data⟩ (by simp) rfl _ rfl
      exact ⟨rfl, .bool true, by simp [execOp, Act.eval, d19, d24, go_sem], rfl⟩
    · exact absurd rfl (hn 1 (by omega))
    · obtain rfl := Option.some.inj hi
      clear hi hlt hn
      intro a w1 hI hS hD
      have d26 : a.tmps.getD 78 undef = .bool true := hD ⟨26, .guard⟩ (by simp) rfl _ rfl
      have e10 : a.tmps.getD 10 undef = .bool true := (hS.slot 10 (by kernel_rfl)).trans s10
      exact ⟨(wanted_yes rfl rfl rfl d26), .bool true, by simp [execOp, Act.eval, e10, go_sem], rfl⟩
    · obtain rfl := Option.some.inj hi
      clear hi hlt hn
      intro a w1 hI hS hD
      have d26 : a.tmps.getD 78 undef = .bool true := hD ⟨26, .data⟩ (by simp) rfl _ rfl
      have d27 : a.tmps.getD 79 undef = .bool true := hD ⟨27, .data⟩ (by simp) rfl _ rfl
      exact ⟨rfl, .bool true, by simp [execOp, Act.eval, d26, d27, go_sem], rfl⟩
    · exact absurd rfl (hn 2 (by omega))
    · obtain rfl := Option.some.inj hi
      clear hi hlt hn
      intro a w1 hI hS hD
      have d29 : a.tmps.getD 81 undef = .bool true := hD ⟨29, .guard⟩ (by simp) rfl _ rfl
      have e9 : a.tmps.getD 9 undef = .pointer (some ⟨xb, 0, none⟩) := (hS.slot 9 (by kernel_rfl)).trans s9
      exact ⟨(wanted_yes rfl rfl rfl d29), .agg #[.int .i64 6, .int .u64 1], by simp [execOp, Act.eval, e9, x0 w1 hI, x1 w1 hI, go_sem], rfl⟩
    · exact absurd rfl (hn 3 (by omega))
    · obtain rfl := Option.some.inj hi
      clear hi hlt hn
      intro a w1 hI hS hD
      have d29 : a.tmps.getD 81 undef = .bool true := hD ⟨29, .guard⟩ (by simp) rfl _ rfl
      have d30 : a.tmps.getD 82 undef = .agg #[.int .i64 6, .int .u64 1] := hD ⟨30, .data⟩ (by simp) rfl _ rfl
      have d31 : a.tmps.getD 83 undef = .agg #[.int .i64 6, .int .u64 1] := hD ⟨31, .data⟩ (by simp) rfl _ rfl
      exact ⟨(wanted_yes rfl rfl rfl d29), .bool true, by simp [execOp, Act.eval, d30, d31, go_sem], rfl⟩
    · obtain rfl := Option.some.inj hi
      clear hi hlt hn
      intro a w1 hI hS hD
      have d29 : a.tmps.getD 81 undef = .bool true := hD ⟨29, .data⟩ (by simp) rfl _ rfl
      have d32 : a.tmps.getD 84 undef = .bool true := hD ⟨32, .data⟩ (by simp) rfl _ rfl
      exact ⟨rfl, .bool true, by simp [execOp, Act.eval, d29, d32, go_sem], rfl⟩
    · exact absurd rfl (hn 4 (by omega))
    · obtain rfl := Option.some.inj hi
      clear hi hlt hn
      intro a w1 hI hS hD
      have d34 : a.tmps.getD 86 undef = .bool true := hD ⟨34, .guard⟩ (by simp) rfl _ rfl
      have e11 : a.tmps.getD 11 undef = .slice ac 1 cc := (hS.slot 11 (by kernel_rfl)).trans s11
      exact ⟨(wanted_yes rfl rfl rfl d34), .slice ac 1 cc, by simp [execOp, Act.eval, e11, go_sem], rfl⟩
    · obtain rfl := Option.some.inj hi
      clear hi hlt hn
      intro a w1 hI hS hD
      have d34 : a.tmps.getD 86 undef = .bool true := hD ⟨34, .guard⟩ (by simp) rfl _ rfl
      have d35 : a.tmps.getD 87 undef = .slice ac 1 cc := hD ⟨35, .data⟩ (by simp) rfl _ rfl
      exact ⟨(wanted_yes rfl rfl rfl d34), .int .i64 1, by simp [execOp, Act.eval, d35, resolve, invoke, builtin, go_sem], rfl⟩
    · obtain rfl := Option.some.inj hi
      clear hi hlt hn
      intro a w1 hI hS hD
      have d34 : a.tmps.getD 86 undef = .bool true := hD ⟨34, .guard⟩ (by simp) rfl _ rfl
      have d36 : a.tmps.getD 88 undef = .int .i64 1 := hD ⟨36, .data⟩ (by simp) rfl _ rfl
      exact ⟨(wanted_yes rfl rfl rfl d34), .bool true, by simp [execOp, Act.eval, d36, go_sem], rfl⟩
    · obtain rfl := Option.some.inj hi
      clear hi hlt hn
      intro a w1 hI hS hD
      have d34 : a.tmps.getD 86 undef = .bool true := hD ⟨34, .data⟩ (by simp) rfl _ rfl
      have d37 : a.tmps.getD 89 undef = .bool true := hD ⟨37, .data⟩ (by simp) rfl _ rfl
      exact ⟨rfl, .bool true, by simp [execOp, Act.eval, d34, d37, go_sem], rfl⟩
    · exact absurd rfl (hn 5 (by omega))
    · obtain rfl := Option.some.inj hi
      clear hi hlt hn
      intro a w1 hI hS hD
      have d39 : a.tmps.getD 91 undef = .bool true := hD ⟨39, .guard⟩ (by simp) rfl _ rfl
      have e3 : a.tmps.getD 3 undef = .pointer (some ⟨S, 0, none⟩) := (hS.slot 3 (by kernel_rfl)).trans s3
      exact ⟨(wanted_yes rfl rfl rfl d39), .pointer (some ⟨S, 0, none⟩), by simp [execOp, Act.eval, e3, go_sem], rfl⟩
    · exact absurd rfl (hn 6 (by omega))
    · obtain rfl := Option.some.inj hi
      clear hi hlt hn
      intro a w1 hI hS hD
      have d39 : a.tmps.getD 91 undef = .bool true := hD ⟨39, .guard⟩ (by simp) rfl _ rfl
      have d41 : a.tmps.getD 93 undef = .int .i64 1 := hD ⟨41, .data⟩ (by simp) rfl _ rfl
      exact ⟨(wanted_yes rfl rfl rfl d39), .bool true, by simp [execOp, Act.eval, d41, go_sem], rfl⟩
    · obtain rfl := Option.some.inj hi
      clear hi hlt hn
      intro a w1 hI hS hD
      have d39 : a.tmps.getD 91 undef = .bool true := hD ⟨39, .data⟩ (by simp) rfl _ rfl
      have d42 : a.tmps.getD 94 undef = .bool true := hD ⟨42, .data⟩ (by simp) rfl _ rfl
      exact ⟨rfl, .bool true, by simp [execOp, Act.eval, d39, d42, go_sem], rfl⟩
    · exact absurd rfl (hn 7 (by omega))
    · obtain rfl := Option.some.inj hi
      clear hi hlt hn
      intro a w1 hI hS hD
      have d44 : a.tmps.getD 96 undef = .bool true := hD ⟨44, .guard⟩ (by simp) rfl _ rfl
      have e1 : a.tmps.getD 1 undef = .pointer (some ⟨p, 0, none⟩) := (hS.slot 1 (by kernel_rfl)).trans s1
      exact ⟨(wanted_yes rfl rfl rfl d44), .pointer (some ⟨p, 0, none⟩), by simp [execOp, Act.eval, e1, go_sem], rfl⟩
    · exact absurd rfl (hn 8 (by omega))
    · obtain rfl := Option.some.inj hi
      clear hi hlt hn
      intro a w1 hI hS hD
      have d44 : a.tmps.getD 96 undef = .bool true := hD ⟨44, .guard⟩ (by simp) rfl _ rfl
      have d46 : a.tmps.getD 98 undef = .int .i64 1 := hD ⟨46, .data⟩ (by simp) rfl _ rfl
      exact ⟨(wanted_yes rfl rfl rfl d44), .bool true, by simp [execOp, Act.eval, d46, go_sem], rfl⟩
    · obtain rfl := Option.some.inj hi
      clear hi hlt hn
      intro a w1 hI hS hD
      have d44 : a.tmps.getD 96 undef = .bool true := hD ⟨44, .data⟩ (by simp) rfl _ rfl
      have d47 : a.tmps.getD 99 undef = .bool true := hD ⟨47, .data⟩ (by simp) rfl _ rfl
      exact ⟨rfl, .bool true, by simp [execOp, Act.eval, d44, d47, go_sem], rfl⟩
    · exact absurd rfl (hn 9 (by omega))
    · obtain rfl := Option.some.inj hi
      clear hi hlt hn
      intro a w1 hI hS hD
      have d49 : a.tmps.getD 101 undef = .bool true := hD ⟨49, .guard⟩ (by simp) rfl _ rfl
      have e3 : a.tmps.getD 3 undef = .pointer (some ⟨S, 0, none⟩) := (hS.slot 3 (by kernel_rfl)).trans s3
      exact ⟨(wanted_yes rfl rfl rfl d49), .pointer (some ⟨S, 0, none⟩), by simp [execOp, Act.eval, e3, go_sem], rfl⟩
    · exact absurd rfl (hn 10 (by omega))
    · obtain rfl := Option.some.inj hi
      clear hi hlt hn
      intro a w1 hI hS hD
      have d49 : a.tmps.getD 101 undef = .bool true := hD ⟨49, .guard⟩ (by simp) rfl _ rfl
      have d51 : a.tmps.getD 103 undef = .int .i64 1 := hD ⟨51, .data⟩ (by simp) rfl _ rfl
      exact ⟨(wanted_yes rfl rfl rfl d49), .bool true, by simp [execOp, Act.eval, d51, go_sem], rfl⟩
    · obtain rfl := Option.some.inj hi
      clear hi hlt hn
      intro a w1 hI hS hD
      have d49 : a.tmps.getD 101 undef = .bool true := hD ⟨49, .data⟩ (by simp) rfl _ rfl
      have d52 : a.tmps.getD 104 undef = .bool true := hD ⟨52, .data⟩ (by simp) rfl _ rfl
      exact ⟨rfl, .bool true, by simp [execOp, Act.eval, d49, d52, go_sem], rfl⟩
    · exact absurd rfl (hn 11 (by omega))
    · obtain rfl := Option.some.inj hi
      clear hi hlt hn
      intro a w1 hI hS hD
      have d54 : a.tmps.getD 106 undef = .bool true := hD ⟨54, .guard⟩ (by simp) rfl _ rfl
      have e1 : a.tmps.getD 1 undef = .pointer (some ⟨p, 0, none⟩) := (hS.slot 1 (by kernel_rfl)).trans s1
      exact ⟨(wanted_yes rfl rfl rfl d54), .pointer (some ⟨p, 0, none⟩), by simp [execOp, Act.eval, e1, go_sem], rfl⟩
    · exact absurd rfl (hn 12 (by omega))
    · obtain rfl := Option.some.inj hi
      clear hi hlt hn
      intro a w1 hI hS hD
      have d54 : a.tmps.getD 106 undef = .bool true := hD ⟨54, .guard⟩ (by simp) rfl _ rfl
      have d56 : a.tmps.getD 108 undef = .int .i64 2 := hD ⟨56, .data⟩ (by simp) rfl _ rfl
      exact ⟨(wanted_yes rfl rfl rfl d54), .bool true, by simp [execOp, Act.eval, d56, go_sem], rfl⟩
    · obtain rfl := Option.some.inj hi
      clear hi hlt hn
      intro a w1 hI hS hD
      have d54 : a.tmps.getD 106 undef = .bool true := hD ⟨54, .data⟩ (by simp) rfl _ rfl
      have d57 : a.tmps.getD 109 undef = .bool true := hD ⟨57, .data⟩ (by simp) rfl _ rfl
      exact ⟨rfl, .bool true, by simp [execOp, Act.eval, d54, d57, go_sem], rfl⟩
    · obtain rfl := Option.some.inj hi
      clear hi hlt hn
      intro a w1 hI hS hD
      have d58 : a.tmps.getD 110 undef = .bool true := hD ⟨58, .data⟩ (by simp) rfl _ rfl
      exact ⟨rfl, .bool true, by simp [execOp, Act.eval, d58, go_sem], rfl⟩

end Go.Proofs.YtlppibigceeimaaDoor

/-
  shown.
-/
namespace Go.Proofs.YtlppibigceeimaaDoor
open Go.RowKit
set_option linter.unusedVariables false
set_option linter.unusedSimpArgs false

theorem enL_set (Z : ByteArray → List En) (o : ByteArray) (k : Int) (x : List Nat × List Sm) : enL (setZ Z o k x o) k = x := by
  unfold setZ enL
  rw [if_pos rfl, List.find?_cons_of_pos (by simp)]
  rfl
theorem enL_off (Z : ByteArray → List En) {o o' : ByteArray} (k k' : Int) (x : List Nat × List Sm) (h : ¬ o' = o) : enL (setZ Z o k x o') k' = enL (Z o') k' := by
  unfold setZ
  rw [if_neg h]
abbrev oA : ByteArray := ⟨#[97]⟩
abbrev oB : ByteArray := ⟨#[98]⟩
def sm1 : List Sm := [⟨5, 1⟩, ⟨6, 1⟩]
def sm2 : List Sm := [⟨6, 9⟩]
def sm3 : List Sm := [⟨7, 0⟩, ⟨8, 0⟩]
theorem sm_ok : (∀ x ∈ sm1, OkS x) ∧ (∀ x ∈ sm2, OkS x) ∧ (∀ x ∈ sm3, OkS x) := by
  refine ⟨?_, ?_, ?_⟩ <;> intro x hx <;> simp only [sm1, sm2, sm3, List.mem_cons, List.not_mem_nil, or_false] at hx
  · rcases hx with rfl | rfl <;> exact ⟨by simp [I64], by simp⟩
  · rcases hx with rfl; exact ⟨by simp [I64], by simp⟩
  · rcases hx with rfl | rfl <;> exact ⟨by simp [I64], by simp⟩
theorem sm_facts : Ris sm1 ∧ ¬ Ris (sm1 ++ sm2) ∧ Ris (sm1 ++ sm3) ∧ (gO (gB [] sm1)).length = 1 ∧ (gO (gB sm1 sm3)).length = 1 ∧ (gO (gF sm1)).length = 1 ∧ rng 6 6 sm1 = [⟨6, 1⟩] := by
  refine ⟨by decide, by decide, by decide, ?_, ?_, ?_, by kernel_rfl⟩ <;> kernel_rfl
theorem tk_zero {n : Nat} {st : K.Sx} {Z : ByteArray → List En} (h : SZ n st Z) (hz : ∀ o, Z o = []) : (K.tkL st n).length = 0 := by
  rw [List.length_eq_zero_iff, List.eq_nil_iff_forall_not_mem]
  rintro ⟨k, v⟩ hm
  obtain ⟨i, hi, ⟨o, d⟩, e, _⟩ := K.mem_tkL.1 hm
  have := (h.mem o i).2 ⟨hi, d, e⟩
  rw [hz o] at this
  simp at this
theorem t0_zero (n : Nat) : (K.tkL (fun _ => none) n).length = 0 := by
  rw [List.length_eq_zero_iff, List.eq_nil_iff_forall_not_mem]
  rintro ⟨k, v⟩ hm
  obtain ⟨i, hi, x, e, _⟩ := K.mem_tkL.1 hm
  cases e
/-- Append, where it goes. -/
theorem app_ok (o : ByteArray) (k : Int) (F : Nat → Prop) (S p n : Nat) (st : K.Sx) (Z : ByteArray → List En) (ad : Option Addr) (N c : Nat) (l : List Sm) (w : World) (h : SQ F w S p n st Z) (hG : Gv w) (hlo : 2 ≤ w.heap.size) (hF2 : ∀ i, F i → 2 ≤ i) (hL : Ss w ad l) (hN : l.length = N) (hN9 : N ≤ 100000)
    (hk : 0 ≤ k) (hr : Ris ((enL (Z o) k).2 ++ l)) (hl : l ≠ []) (hn : needN (enL (Z o) k).1 (enL (Z o) k).2 l ≤ ((n - (K.tkL st n).length : Nat) : Int)) :
    Calls Tryd.prog 8 #[.pointer (some ⟨S, 0, none⟩), .string o, .int .i64 k, .slice ad N c] w fun e w' => e = .returned (.int .i64 0) ∧ KpP F w S p n st Z o k l (gO (gB (enL (Z o) k).2 l)).length w' := by
  refine (sappendP o k F S p n st Z ad N c l w h hG hlo hF2 hL hN hN9).mono ?_
  rintro e w' (⟨_, ⟨h1, _⟩ | ⟨_, h1, _⟩ | ⟨_, _, h1, _⟩ | ⟨_, _, _, h1, _⟩⟩ | ⟨_, _, _, _, h1, h2⟩)
  · omega
  · exact absurd hr h1
  · exact absurd h1 hl
  · omega
  · exact ⟨h1, h2⟩
theorem app_stale (o : ByteArray) (k : Int) (F : Nat → Prop) (S p n : Nat) (st : K.Sx) (Z : ByteArray → List En) (ad : Option Addr) (N c : Nat) (l : List Sm) (w : World) (h : SQ F w S p n st Z) (hG : Gv w) (hlo : 2 ≤ w.heap.size) (hF2 : ∀ i, F i → 2 ≤ i) (hL : Ss w ad l) (hN : l.length = N) (hN9 : N ≤ 100000)
    (hk : 0 ≤ k) (hr : ¬ Ris ((enL (Z o) k).2 ++ l)) :
    Calls Tryd.prog 8 #[.pointer (some ⟨S, 0, none⟩), .string o, .int .i64 k, .slice ad N c] w fun e w' => e = .returned (.int .i64 140) ∧ Below w.heap.size w w' := by
  refine (sappendP o k F S p n st Z ad N c l w h hG hlo hF2 hL hN hN9).mono ?_
  rintro e w' (⟨b, ⟨h1, _⟩ | ⟨_, h1, h2⟩ | ⟨_, h1, _⟩ | ⟨_, h1, _⟩⟩ | ⟨_, h1, _⟩)
  · omega
  · exact ⟨h2, b⟩
  · exact absurd h1 hr
  · exact absurd h1 hr
  · exact absurd h1 hr
theorem need_ok (o : ByteArray) (k : Int) (F : Nat → Prop) (S p n : Nat) (st : K.Sx) (Z : ByteArray → List En) (ad : Option Addr) (N c : Nat) (l : List Sm) (w : World) (h : SQ F w S p n st Z) (hG : Gv w) (hlo : 2 ≤ w.heap.size) (hL : Ss w ad l) (hN : l.length = N) (hN9 : N ≤ 100000)
    (hk : 0 ≤ k) (hr : Ris ((enL (Z o) k).2 ++ l)) :
    Calls Tryd.prog 10 #[.pointer (some ⟨S, 0, none⟩), .string o, .int .i64 k, .slice ad N c] w fun e w' => e = .returned (.tuple #[.int .i64 (needN (enL (Z o) k).1 (enL (Z o) k).2 l), .int .i64 0]) ∧ Below w.heap.size w w' := by
  refine (needsP o k F S p n st Z ad N c l w h hG hlo hL hN hN9).mono ?_
  rintro e w' ⟨b, ⟨h1, _⟩ | ⟨_, h1, _⟩ | ⟨_, _, h1⟩⟩
  · omega
  · exact absurd hr h1
  · exact ⟨h1, b⟩
theorem ss_new (w : World) (l : List Sm) (h : ∀ x ∈ l, OkS x) (C : Array Value) (hC : C = (cS l).toArray) : Ss (w.alloc (.cells C 35)) (some ⟨w.heap.size, 0, none⟩) l := by
  subst hC
  exact ss_blk (Blk.new w 35 (cS l)) h
/-- What shown holds in its last region. -/
def ShA (F : Nat → Prop) (S p : Nat) (st : K.Sx) (Z : ByteArray → List En) (xb : Nat) (v : Value) (w0 w1 : World) : Prop := SQ F w1 S p 2 st Z ∧ Blk w1 xb 35 [.int .i64 6, .int .u64 1] ∧ w1.ownsRow 0 35 2 v 1 (cS [⟨6, 1⟩]) ∧ Below w0.heap.size w0 w1
def ShB (p : Nat) (xb : Nat) (v : Value) (w0 w1 : World) : Prop := (∃ G st, K.PQ G w1 p 2 st ∧ (K.tkL st 2).length = 0) ∧ Blk w1 xb 35 [.int .i64 6, .int .u64 1] ∧ w1.ownsRow 0 35 2 v 1 (cS [⟨6, 1⟩]) ∧ Below w0.heap.size w0 w1
theorem ShA.later {F : Nat → Prop} {S p : Nat} {st : K.Sx} {Z : ByteArray → List En} {xb : Nat} {v : Value} {w0 w1 w2 : World} (h : ShA F S p st Z xb v w0 w1) (hb : Below w1.heap.size w1 w2) : ShA F S p st Z xb v w0 w2 := ⟨h.1.later hb, h.2.1.later hb, owl h.2.2.1 hb, h.2.2.2.trans (hb.mono h.2.2.2.size)⟩
theorem ShB.later {p : Nat} {xb : Nat} {v : Value} {w0 w1 w2 : World} (h : ShB p xb v w0 w1) (hb : Below w1.heap.size w1 w2) : ShB p xb v w0 w2 := by
  obtain ⟨⟨G, st, h1, h2⟩, h3⟩ := h
  exact ⟨⟨G, st, h1.later hb, h2⟩, h3.1.later hb, owl h3.2.1 hb, h3.2.2.trans (hb.mono h3.2.2.size)⟩
theorem ShA.drop {F : Nat → Prop} {S p : Nat} {st : K.Sx} {Z : ByteArray → List En} {xb : Nat} {v : Value} {w0 w1 w2 : World} {o : ByteArray} (h : ShA F S p st Z xb v w0 w1) (hF : ∀ i, F i → w0.heap.size ≤ i) (hz : ∀ o', rmZ Z o o' = []) (hd : DpP F w1 S p 2 st Z o w2) : ShB p xb v w0 w2 := by
  obtain ⟨F', gv, q1, q2, q3, q4⟩ := hd
  obtain ⟨G, g1, g2⟩ := q1.pool
  refine ⟨⟨G, _, g1, tk_zero q1.sz hz⟩, q2.blk h.2.1 (fun e => ?_), q2.owns h.2.2.1 (fun g hg e => ?_), h.2.2.2.trans (q2.below h.2.2.2.size hF)⟩
  · rcases (h.1.tag e).2 35 h.2.1.tg with e | e <;> cases e
  · rcases (h.1.tag e).2 35 (owns_tg h.2.2.1 g hg) with e | e <;> cases e
def phS (A B : World → Prop) (k : Nat) : World → Prop := if k ≤ 10 then A else B
set_option maxRecDepth 100000 in
set_option maxHeartbeats 8000000 in
theorem shownP (w : World) (hG : Gv w) (hlo : 2 ≤ w.heap.size) : Calls Tryd.prog 4 #[] w fun e w' => e = .returned (.bool true) ∧ Below w.heap.size w w' := by
  have HG := hidden hG
  have HLO := hidden hlo
  clear hG hlo
  go_enter Tryd.func4, Tryd.ntmps4
  go_wp2_with fail
  refine (K.newX 2 (by omega) (by omega) w).mono ?_
  rintro e w1 ⟨p, G, rfl, hP, b1, hp1, hG1⟩
  have HP := hidden hP
  have B1 := hidden b1
  have HG1 := hidden hG1
  clear hP b1 hG1
  go_wp2_with fail
  refine (storeP G w1 p 2 HP.out).mono ?_
  rintro e w2 ⟨S, F, rfl, hQ, b2, hS2, hF2⟩
  have HQ := hidden hQ
  have B2 : Hid (Below w.heap.size w w2) := hidden (B1.out.trans (b2.mono B1.out.size))
  have HF2 : Hid (∀ i, F i → w.heap.size ≤ i) := hidden (fun i hi => by
    rcases hF2 i hi with e | e
    · exact HG1.out i e
    · exact Nat.le_trans B1.out.size e)
  clear hQ b2 hF2
  go_wp2_with fail
  refine (sampleP 5 1 w2).mono ?_
  rintro e w3 ⟨rfl, b3⟩
  have B3 : Hid (Below w.heap.size w w3) := hidden (B2.out.trans (b3.mono B2.out.size))
  have HQ3 := hidden (HQ.out.later b3)
  clear b3
  go_wp2_with fail
  refine (sampleP 6 1 w3).mono ?_
  rintro e w4 ⟨rfl, b4⟩
  have B4 : Hid (Below w.heap.size w w4) := hidden (B3.out.trans (b4.mono B3.out.size))
  have HQ4 := hidden (HQ3.out.later b4)
  clear b4
  go_wp2_with fail
  have S5 := hidden (ss_new w4 sm1 sm_ok.1 #[.int .i64 5, .int .u64 1, .int .i64 6, .int .u64 1] rfl)
  have bl5 : Below w4.heap.size w4 (w4.alloc (.cells #[.int .i64 5, .int .u64 1, .int .i64 6, .int .u64 1] 35)) := (Below.refl _ _).alloc (Nat.le_refl _) _
  have B5 : Hid (Below w.heap.size w (w4.alloc (.cells #[.int .i64 5, .int .u64 1, .int .i64 6, .int .u64 1] 35))) := hidden (B4.out.trans (bl5.mono B4.out.size))
  have HQ5 := hidden (HQ4.out.later bl5)
  clear bl5
  have hlo5 := Nat.le_trans HLO.out B5.out.size
  refine (app_ok oA 0 F S p 2 (fun _ => none) (fun _ => []) (some ⟨w4.heap.size, 0, none⟩) 2 2 sm1 _ HQ5.out (HG.out.bel B5.out HLO.out) hlo5 (fun i hi => Nat.le_trans HLO.out (HF2.out i hi)) S5.out rfl (by omega) (by omega) sm_facts.1 (by simp [sm1]) (by
    rw [t0_zero]
    show ((gO (gB [] sm1)).length : Int) - _ ≤ _
    rw [sm_facts.2.2.2.1]
    decide)).mono ?_
  rintro e w6 ⟨rfl, F6, st6, news, q1, q2, q3, q4, q5⟩
  have hQ6 : SQ F6 w6 S p 2 st6 (setZ (fun _ => []) oA 0 (news, sm1)) := q1
  have hnl : news.length = 1 := by
    rw [q5]
    show (gO (gB [] sm1)).length - _ = 1
    rw [sm_facts.2.2.2.1]
    rfl
  have htk : (K.tkL st6 2).length = 1 := by
    rw [q4, t0_zero]
    show 0 + ((gO (gB [] sm1)).length - _) = 1
    rw [sm_facts.2.2.2.1]
    rfl
  have HQ6 := hidden hQ6
  have HF6 : Hid (∀ i, F6 i → w.heap.size ≤ i) := hidden (fun i hi => by
    rcases q3 i hi with e | e
    · exact HF2.out i e
    · exact Nat.le_trans B5.out.size e)
  have B6 : Hid (Below w.heap.size w w6) := hidden (B5.out.trans (q2.below B5.out.size HF2.out))
  have HNL := hidden (And.intro hnl htk)
  obtain ⟨Z1, hZ1⟩ : ∃ Z1, setZ (fun _ => []) oA 0 (news, sm1) = Z1 := ⟨_, rfl⟩
  have hen1 : enL (Z1 oA) 0 = (news, sm1) := by rw [← hZ1]; exact enL_set _ _ _ _
  rw [hZ1] at HQ6
  have HEN := hidden (And.intro hen1 hZ1)
  clear q1 q2 q3 q4 q5 hQ6 hnl htk hen1 hZ1 hlo5
  go_wp2_with fail
  refine (sampleP 6 9 w6).mono ?_
  rintro e w7 ⟨rfl, b7⟩
  have B7 : Hid (Below w.heap.size w w7) := hidden (B6.out.trans (b7.mono B6.out.size))
  have HQ7 := hidden (HQ6.out.later b7)
  clear b7
  go_wp2_with fail
  have S8 := hidden (ss_new w7 sm2 sm_ok.2.1 #[.int .i64 6, .int .u64 9] rfl)
  have bl8 : Below w7.heap.size w7 (w7.alloc (.cells #[.int .i64 6, .int .u64 9] 35)) := (Below.refl _ _).alloc (Nat.le_refl _) _
  obtain ⟨w8, hw8⟩ : ∃ w8, w7.alloc (.cells #[.int .i64 6, .int .u64 9] 35) = w8 := ⟨_, rfl⟩
  rw [hw8] at S8 bl8 ⊢
  have B8 : Hid (Below w.heap.size w w8) := hidden (B7.out.trans (bl8.mono B7.out.size))
  have HQ8 := hidden (HQ7.out.later bl8)
  clear bl8 hw8
  have hlo8 := Nat.le_trans HLO.out B8.out.size
  refine (app_stale oA 0 F6 S p 2 st6 Z1 (some ⟨w7.heap.size, 0, none⟩) 1 1 sm2 w8 HQ8.out (HG.out.bel B8.out HLO.out) hlo8 (fun i hi => Nat.le_trans HLO.out (HF6.out i hi)) S8.out rfl (by omega) (by omega) (by rw [HEN.out.1]; exact sm_facts.2.1)).mono ?_
  rintro e w9 ⟨rfl, b9⟩
  have B9 : Hid (Below w.heap.size w w9) := hidden (B8.out.trans (b9.mono B8.out.size))
  have HQ9 := hidden (HQ8.out.later b9)
  clear b9 hlo8
  go_wp2_with fail
  refine (sampleP 7 0 w9).mono ?_
  rintro e w10 ⟨rfl, b10⟩
  have B10 : Hid (Below w.heap.size w w10) := hidden (B9.out.trans (b10.mono B9.out.size))
  have HQ10 := hidden (HQ9.out.later b10)
  clear b10
  go_wp2_with fail
  refine (sampleP 8 0 w10).mono ?_
  rintro e w11 ⟨rfl, b11⟩
  have B11 : Hid (Below w.heap.size w w11) := hidden (B10.out.trans (b11.mono B10.out.size))
  have HQ11 := hidden (HQ10.out.later b11)
  clear b11
  go_wp2_with fail
  have S12 := hidden (ss_new w11 sm3 sm_ok.2.2 #[.int .i64 7, .int .u64 0, .int .i64 8, .int .u64 0] rfl)
  have bl12 : Below w11.heap.size w11 (w11.alloc (.cells #[.int .i64 7, .int .u64 0, .int .i64 8, .int .u64 0] 35)) := (Below.refl _ _).alloc (Nat.le_refl _) _
  obtain ⟨w12, hw12⟩ : ∃ w12, w11.alloc (.cells #[.int .i64 7, .int .u64 0, .int .i64 8, .int .u64 0] 35) = w12 := ⟨_, rfl⟩
  rw [hw12] at S12 bl12 ⊢
  have B12 : Hid (Below w.heap.size w w12) := hidden (B11.out.trans (bl12.mono B11.out.size))
  have HQ12 := hidden (HQ11.out.later bl12)
  clear bl12 hw12
  have hlo12 := Nat.le_trans HLO.out B12.out.size
  have hneed : needN news sm1 sm3 = 0 := by
    unfold needN
    rw [sm_facts.2.2.2.2.1]
    unfold hadL
    rw [HNL.out.1]
    rfl
  refine (need_ok oA 0 F6 S p 2 st6 Z1 (some ⟨w11.heap.size, 0, none⟩) 2 2 sm3 w12 HQ12.out (HG.out.bel B12.out HLO.out) hlo12 S12.out rfl (by omega) (by omega) (by rw [HEN.out.1]; exact sm_facts.2.2.1)).mono ?_
  rw [HEN.out.1, hneed]
  rintro e w13 ⟨rfl, b13⟩
  have B13 : Hid (Below w.heap.size w w13) := hidden (B12.out.trans (b13.mono B12.out.size))
  have HQ13 := hidden (HQ12.out.later b13)
  clear b13 hlo12 hneed
  go_wp2_with fail
  have hlo13 := Nat.le_trans HLO.out B13.out.size
  refine (rangeP oA 0 6 6 F6 S p 2 st6 Z1 w13 HQ13.out (HG.out.bel B13.out HLO.out) hlo13).mono ?_
  rw [HEN.out.1]
  simp only
  rw [sm_facts.2.2.2.2.2.2]
  rintro e w14 ⟨ad14, c14, rfl, o14, k14, b14⟩
  have B14 : Hid (Below w.heap.size w w14) := hidden (B13.out.trans (b14.mono B13.out.size))
  have HQ14 := hidden (HQ13.out.later b14)
  have O14 := hidden (owns_base o14 (b' := 0) (fun g hg => Nat.zero_le _))
  have hlb : ∃ lb, ad14 = some ⟨lb, 0, none⟩ := by
    rcases o14.2 with ⟨e0, _⟩ | ⟨g, cap, cur, e0, _⟩
    · cases e0
    · simp only [Value.slice.injEq] at e0; exact ⟨g, e0.1⟩
  obtain ⟨lb, rfl⟩ := hlb
  clear b14 hlo13 o14 k14
  go_wp2_with fail
  have hlo14 := Nat.le_trans HLO.out B14.out.size
  refine (lastP oA 0 F6 S p 2 st6 Z1 w14 HQ14.out (HG.out.bel B14.out HLO.out) hlo14).mono ?_
  rw [HEN.out.1, show ((news, sm1).2.getLast?.getD z0) = ⟨6, 1⟩ from rfl, show (!(news, sm1).2.isEmpty) = true from rfl]
  rintro e w15 ⟨rfl, b15⟩
  have B15 : Hid (Below w.heap.size w w15) := hidden (B14.out.trans (b15.mono B14.out.size))
  have HQ15 := hidden (HQ14.out.later b15)
  have O15 := hidden (owl O14.out b15)
  clear b15 hlo14
  go_wp2_with fail
  have bl16 : Below w15.heap.size w15 (w15.alloc (.cells #[.int .i64 6, .int .u64 1] 35)) := (Below.refl _ _).alloc (Nat.le_refl _) _
  have X16 := hidden (Blk.new w15 35 [.int .i64 6, .int .u64 1])
  obtain ⟨w16, hw16⟩ : ∃ w16, w15.alloc (.cells #[.int .i64 6, .int .u64 1] 35) = w16 := ⟨_, rfl⟩
  have X16' : Hid (Blk w16 w15.heap.size 35 [.int .i64 6, .int .u64 1]) := hidden (by rw [← hw16]; exact X16.out)
  have hgoal16 := hw16
  rw [hw16] at bl16
  have B16 : Hid (Below w.heap.size w w16) := hidden (B15.out.trans (bl16.mono B15.out.size))
  have HQ16 := hidden (HQ15.out.later bl16)
  have O16 := hidden (owl O15.out bl16)
  first | rw [hw16] | skip
  clear bl16 hgoal16 hw16 X16
  refine (schunksP oA 0 F6 S p 2 st6 Z1 w16 HQ16.out).mono ?_
  rw [HEN.out.1]
  rintro e w17 ⟨ac, cc, Dc, rfl, _, b17⟩
  have B17 : Hid (ShA F6 S p st6 Z1 w15.heap.size (.slice (some ⟨lb, 0, none⟩) 1 c14) w w17) := hidden ⟨HQ16.out.later b17, X16'.out.later b17, owl O16.out b17, B16.out.trans (b17.mono B16.out.size)⟩
  have hcl : (List.map encC (gO (gF (news, sm1).2))).length = 1 := by rw [List.length_map]; exact sm_facts.2.2.2.2.2.1
  rw [hcl]
  clear b17 hcl
  go_wp2_with fail
  have HC0 : Hid (∀ w1, ShA F6 S p st6 Z1 w15.heap.size (.slice (some ⟨lb, 0, none⟩) 1 c14) w w1 → w1.cell? ⟨lb, 0, none⟩ = some (.int .i64 6) ∧ w1.cell? ⟨lb, 1, none⟩ = some (.int .u64 1) ∧ w1.cell? ⟨w15.heap.size, 0, none⟩ = some (.int .i64 6) ∧ w1.cell? ⟨w15.heap.size, 1, none⟩ = some (.int .u64 1)) := hidden (fun w1 h => ⟨owns_cell h.2.2.1 0 _ rfl, owns_cell h.2.2.1 1 _ rfl, h.2.1.cell 0, h.2.1.cell 1⟩)
  have HC1 : Hid (∀ w1, ShB p w15.heap.size (.slice (some ⟨lb, 0, none⟩) 1 c14) w w1 → w1.cell? ⟨lb, 0, none⟩ = some (.int .i64 6) ∧ w1.cell? ⟨lb, 1, none⟩ = some (.int .u64 1) ∧ w1.cell? ⟨w15.heap.size, 0, none⟩ = some (.int .i64 6) ∧ w1.cell? ⟨w15.heap.size, 1, none⟩ = some (.int .u64 1)) := hidden (fun w1 h => ⟨owns_cell h.2.2.1 0 _ rfl, owns_cell h.2.2.1 1 _ rfl, h.2.1.cell 0, h.2.1.cell 1⟩)
  have hcell : ∀ w1, (∃ k, k ≤ 13 ∧ phS (ShA F6 S p st6 Z1 w15.heap.size (.slice (some ⟨lb, 0, none⟩) 1 c14) w) (ShB p w15.heap.size (.slice (some ⟨lb, 0, none⟩) 1 c14) w) k w1) → w1.cell? ⟨lb, 0, none⟩ = some (.int .i64 6) ∧ w1.cell? ⟨lb, 1, none⟩ = some (.int .u64 1) ∧ w1.cell? ⟨w15.heap.size, 0, none⟩ = some (.int .i64 6) ∧ w1.cell? ⟨w15.heap.size, 1, none⟩ = some (.int .u64 1) := by
    rintro w1 ⟨k, _, h⟩
    unfold phS at h
    split at h
    · exact HC0.out w1 h
    · exact HC1.out w1 h
  refine shown_r13 S p lb w15.heap.size c14 cc ac (phS (ShA F6 S p st6 Z1 w15.heap.size (.slice (some ⟨lb, 0, none⟩) 1 c14) w) (ShB p w15.heap.size (.slice (some ⟨lb, 0, none⟩) 1 c14) w)) _ _ _ rfl rfl rfl rfl rfl rfl rfl rfl rfl rfl rfl (fun w1 h => (hcell w1 h).1) (fun w1 h => (hcell w1 h).2.1) (fun w1 h => (hcell w1 h).2.2.1) (fun w1 h => (hcell w1 h).2.2.2) (B17.out.later (Below.refl _ _).drew) ?_ (fun w1 h => h) (fun w1 h => h) ?_ (fun w1 h => h) (fun w1 h => h) ?_ (fun w1 h => h) ?_ (fun w1 h => h) ?_ (fun w1 h => h) ?_ ?_
  · intro w1 h
    refine (sampleP 6 1 w1).mono ?_
    rintro e w2 ⟨rfl, b⟩
    exact ⟨rfl, ShA.later h b⟩
  · intro w1 h
    refine (sampleP 6 1 w1).mono ?_
    rintro e w2 ⟨rfl, b⟩
    exact ⟨rfl, ShA.later h b⟩
  · intro w1 h
    have h' : ShA F6 S p st6 Z1 w15.heap.size (.slice (some ⟨lb, 0, none⟩) 1 c14) w w1 := h
    refine (sslotsP oA F6 S p 2 st6 Z1 w1 h'.1).mono ?_
    rintro e w2 ⟨rfl, b⟩
    refine ⟨?_, ShA.later h b⟩
    rw [← HEN.out.2]
    have : ((setZ (fun _ => []) oA 0 (news, sm1) oA).flatMap slF).length = 1 := by
      unfold setZ rmE slF
      simp [HNL.out.1]
    rw [this]
    rfl
  · intro w1 h
    have h' : ShA F6 S p st6 Z1 w15.heap.size (.slice (some ⟨lb, 0, none⟩) 1 c14) w w1 := h
    obtain ⟨G1, g1, _⟩ := h'.1.pool
    refine (K.leftX G1 p 2 st6 w1 g1).mono ?_
    rintro e w2 ⟨rfl, b⟩
    rw [HNL.out.2]
    exact ⟨rfl, ShA.later h b⟩
  · intro w1 h
    have h' : ShA F6 S p st6 Z1 w15.heap.size (.slice (some ⟨lb, 0, none⟩) 1 c14) w w1 := h
    refine (sdropP oA F6 S p 2 st6 Z1 w1 h'.1).mono ?_
    rintro e w2 ⟨rfl, b⟩
    refine ⟨?_, h'.drop HF6.out (fun o' => ?_) b⟩
    · rw [← HEN.out.2]
      have : ((setZ (fun _ => []) oA 0 (news, sm1) oA).flatMap slF).length = 1 := by
        unfold setZ rmE slF
        simp [HNL.out.1]
      rw [this]
      rfl
    · rw [← HEN.out.2]
      unfold rmZ setZ
      split
      · rfl
      · rfl
  · intro w1 h
    have h' : ShB p w15.heap.size (.slice (some ⟨lb, 0, none⟩) 1 c14) w w1 := h
    obtain ⟨⟨G1, st1, g1, g2⟩, _⟩ := h'
    refine (K.leftX G1 p 2 st1 w1 g1).mono ?_
    rintro e w2 ⟨rfl, b⟩
    rw [g2]
    exact ⟨rfl, ShB.later h b⟩
  · intro v52 v53 v54 v55 v56 v57 v58 v59 v60 v61 v62 v63 v64 v65 v66 v67 v68 v69 v70 v71 v72 v73 v74 v75 v76 v77 v78 v79 v80 v81 v82 v83 v84 v85 v86 v87 v88 v89 v90 v91 v92 v93 v94 v95 v96 v97 v98 v99 v100 v101 v102 v103 v104 v105 v106 v107 v108 v109 v110 w2 hI
    have HI : Hid (ShB p w15.heap.size (.slice (some ⟨lb, 0, none⟩) 1 c14) w w2) := hidden hI
    clear hI hcell
    simp only [Act.put, List.setIfInBounds_toArray, List.set_cons_succ, List.set_cons_zero]
    go_wp2_with fail
    go_ret
    exact ⟨rfl, HI.out.2.2.2⟩

end Go.Proofs.YtlppibigceeimaaDoor
