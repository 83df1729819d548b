/-
  PoolPlays: the regions that draw their order and call.
-/
import Derived.Test.YtjlpkgepiajapaaDoorAnyQ
import Derived.Test.YtjlpkgepiajapaaDoorPlQ
namespace Go.Proofs.YtjlpkgepiajapaaDoor
open Go.RowKit
set_option linter.unusedVariables false
set_option linter.unusedSimpArgs false

set_option maxRecDepth 100000 in
set_option maxHeartbeats 2000000 in
theorem st_r19 (p r ob : Nat) (sl ev : Int) (I : Nat → World → Prop) (w : World) (a0 : Act) (Q : Exit → Act → World → Prop) (hsz : a0.tmps.size = 233)
    (s3 : a0.tmps.getD 3 undef = .pointer (some ⟨ob, 0, none⟩))
    (s6 : a0.tmps.getD 6 undef = .pointer (some ⟨p, 0, none⟩))
    (s7 : a0.tmps.getD 7 undef = .pointer (some ⟨r, 0, none⟩))
    (o2 : ∀ w1, (∃ k, k ≤ 2 ∧ I k w1) → w1.cell? ⟨ob, 2, none⟩ = some (.int .i64 sl))
    (h0 : I 0 { w with drawn := w.drawn + 1 })
    (hC0 : ∀ w1, I 0 w1 → Calls Tryd.prog 14 #[.pointer (some ⟨p, 0, none⟩), .int .i64 sl] w1 fun e w2 => e = .returned (.int .i64 ev) ∧ I 1 w2)
    (hC1 : ∀ w1, I 1 w1 → Calls Tryd.prog 21 #[.pointer (some ⟨r, 0, none⟩), .int .i64 sl] w1 fun e w2 => e = .returned (.int .i64 ev) ∧ I 2 w2)
    (hQ : ∀ (v105 v106 v107 v108 v109 v110 v111 v112 v113 : Value) (w2 : World), I 2 w2 → Q .normal ((((((((((a0.put (some 105) v105).put (some 106) v106).put (some 107) v107).put (some 108) v108).put (some 109) v109).put (some 110) v110).put (some 111) v111).put (some 112) v112).put (some 113) v113).put (some 4) (.bool true)) w2) :
    Code.wp Tryd.prog ((Tryd.f8.body.bind (findRegion 19)).getD .skip) Q a0 w := by
  conv => arg 2; whnf
  refine wp_region_calls (fun i => ([.pointer (some ⟨p, 0, none⟩), .pointer (some ⟨ob, 2, none⟩), .int .i64 sl, .int .i64 ev, .pointer (some ⟨r, 0, none⟩), .pointer (some ⟨ob, 2, none⟩), .int .i64 sl, .int .i64 ev, .bool true, .bool true] : List Value).getD i undef) I (fun j => ([3, 7] : List Nat).getD j 0) 2 (by kernel_rfl) (by kernel_rfl) (by kernel_rfl) (by rw [hsz]; kernel_rfl) ?hinj ?hqs ?hwait h0 ?hop ?hcA ?hdone
  case hinj =>
    intro j k hj hk h
    rcases (show j = 0 ∨ j = 1 by omega) with rfl | rfl <;> rcases (show k = 0 ∨ k = 1 by omega) with rfl | rfl <;> first | rfl | exact absurd h (by decide)
  case hqs =>
    intro j hj
    rcases (show j = 0 ∨ j = 1 by omega) with rfl | rfl <;> exact of_decide_eq_true (by kernel_rfl)
  case hwait =>
    intro j hj oB hoB
    rcases (show j = 0 by omega) with rfl
    · obtain rfl := Option.some.inj hoB
      exact ⟨⟨3, .chain⟩, by simp, rfl, rfl⟩
  case hdone =>
    intro a w1 hI hS hT
    have kl : a.tmps.getD 4 undef = .bool true := hT 9 _ rfl
    have he := same_puts hS
    have hQ2 := hQ (a.tmps.getD 105 undef) (a.tmps.getD 106 undef) (a.tmps.getD 107 undef) (a.tmps.getD 108 undef) (a.tmps.getD 109 undef) (a.tmps.getD 110 undef) (a.tmps.getD 111 undef) (a.tmps.getD 112 undef) (a.tmps.getD 113 undef) w1 hI
    rw [← kl] at hQ2
    rw [he]
    exact hQ2
  case hcA =>
    intro k hk o ho
    rcases (show k = 0 ∨ k = 1 by omega) with rfl | rfl
    · obtain rfl := Option.some.inj ho
      intro a w1 hI hS hD
      have d0 : a.tmps.getD 105 undef = .pointer (some ⟨p, 0, none⟩) := hD ⟨0, .data⟩ (by simp) rfl _ rfl
      have d2 : a.tmps.getD 107 undef = .int .i64 sl := hD ⟨2, .data⟩ (by simp) rfl _ rfl
      refine ⟨rfl, ?_⟩
      refine wp_callr (f := 14) (args := #[.pointer (some ⟨p, 0, none⟩), .int .i64 sl]) (by simp [execOp, resolve, Act.eval, d0, d2, go_sem]) ?_
      refine (hC0 w1 hI).mono ?_
      rintro e w2 ⟨rfl, h2⟩
      exact ⟨_, rfl, _, rfl, h2, rfl⟩
    · obtain rfl := Option.some.inj ho
      intro a w1 hI hS hD
      have d4 : a.tmps.getD 109 undef = .pointer (some ⟨r, 0, none⟩) := hD ⟨4, .data⟩ (by simp) rfl _ rfl
      have d6 : a.tmps.getD 111 undef = .int .i64 sl := hD ⟨6, .data⟩ (by simp) rfl _ rfl
      refine ⟨rfl, ?_⟩
      refine wp_callr (f := 21) (args := #[.pointer (some ⟨r, 0, none⟩), .int .i64 sl]) (by simp [execOp, resolve, Act.eval, d4, d6, go_sem]) ?_
      refine (hC1 w1 hI).mono ?_
      rintro e w2 ⟨rfl, h2⟩
      exact ⟨_, rfl, _, rfl, h2, rfl⟩
  case hop =>
    intro i o hi hn
    have hlt : i < 10 := (Array.getElem?_eq_some_iff.1 hi).1
    rcases (show i = 0 ∨ i = 1 ∨ i = 2 ∨ i = 3 ∨ i = 4 ∨ i = 5 ∨ i = 6 ∨ i = 7 ∨ i = 8 ∨ i = 9 by omega) with rfl | rfl | rfl | rfl | rfl | rfl | rfl | rfl | rfl | rfl
    · obtain rfl := Option.some.inj hi
      clear hi hlt hn
      intro a w1 hI hS hD
      have e6 : a.tmps.getD 6 undef = .pointer (some ⟨p, 0, none⟩) := (hS.slot 6 (by kernel_rfl)).trans s6
      exact ⟨rfl, .pointer (some ⟨p, 0, none⟩), by simp [execOp, Act.eval, e6, go_sem], rfl⟩
    · obtain rfl := Option.some.inj hi
      clear hi hlt hn
      intro a w1 hI hS hD
      have e3 : a.tmps.getD 3 undef = .pointer (some ⟨ob, 0, none⟩) := (hS.slot 3 (by kernel_rfl)).trans s3
      exact ⟨rfl, .pointer (some ⟨ob, 2, none⟩), by simp [execOp, Act.eval, e3, go_sem], rfl⟩
    · obtain rfl := Option.some.inj hi
      clear hi hlt hn
      intro a w1 hI hS hD
      have d1 : a.tmps.getD 106 undef = .pointer (some ⟨ob, 2, none⟩) := hD ⟨1, .data⟩ (by simp) rfl _ rfl
      exact ⟨rfl, .int .i64 sl, by simp [execOp, Act.eval, d1, o2 w1 hI, go_sem], rfl⟩
    · exact absurd rfl (hn 0 (by omega))
    · obtain rfl := Option.some.inj hi
      clear hi hlt hn
      intro a w1 hI hS hD
      have e7 : a.tmps.getD 7 undef = .pointer (some ⟨r, 0, none⟩) := (hS.slot 7 (by kernel_rfl)).trans s7
      exact ⟨rfl, .pointer (some ⟨r, 0, none⟩), by simp [execOp, Act.eval, e7, go_sem], rfl⟩
    · obtain rfl := Option.some.inj hi
      clear hi hlt hn
      intro a w1 hI hS hD
      have e3 : a.tmps.getD 3 undef = .pointer (some ⟨ob, 0, none⟩) := (hS.slot 3 (by kernel_rfl)).trans s3
      exact ⟨rfl, .pointer (some ⟨ob, 2, none⟩), by simp [execOp, Act.eval, e3, go_sem], rfl⟩
    · obtain rfl := Option.some.inj hi
      clear hi hlt hn
      intro a w1 hI hS hD
      have d5 : a.tmps.getD 110 undef = .pointer (some ⟨ob, 2, none⟩) := hD ⟨5, .data⟩ (by simp) rfl _ rfl
      exact ⟨rfl, .int .i64 sl, by simp [execOp, Act.eval, d5, o2 w1 hI, go_sem], rfl⟩
    · exact absurd rfl (hn 1 (by omega))
    · obtain rfl := Option.some.inj hi
      clear hi hlt hn
      intro a w1 hI hS hD
      have d3 : a.tmps.getD 108 undef = .int .i64 ev := hD ⟨3, .data⟩ (by simp) rfl _ rfl
      have d7 : a.tmps.getD 112 undef = .int .i64 ev := hD ⟨7, .data⟩ (by simp) rfl _ rfl
      exact ⟨rfl, .bool true, by simp [execOp, Act.eval, d3, d7, go_sem], rfl⟩
    · obtain rfl := Option.some.inj hi
      clear hi hlt hn
      intro a w1 hI hS hD
      have d8 : a.tmps.getD 113 undef = .bool true := hD ⟨8, .data⟩ (by simp) rfl _ rfl
      exact ⟨rfl, .bool true, by simp [execOp, Act.eval, d8, go_sem], rfl⟩

set_option maxRecDepth 100000 in
set_option maxHeartbeats 2000000 in
theorem st_r35 (p r ob : Nat) (s : ByteArray) (u l : Int) (I : Nat → World → Prop) (w : World) (a0 : Act) (Q : Exit → Act → World → Prop) (hsz : a0.tmps.size = 233)
    (s3 : a0.tmps.getD 3 undef = .pointer (some ⟨ob, 0, none⟩))
    (s6 : a0.tmps.getD 6 undef = .pointer (some ⟨p, 0, none⟩))
    (s7 : a0.tmps.getD 7 undef = .pointer (some ⟨r, 0, none⟩))
    (s25 : a0.tmps.getD 25 undef = .bool true)
    (o3 : ∀ w1, (∃ k, k ≤ 5 ∧ I k w1) → w1.cell? ⟨ob, 3, none⟩ = some (.string s))
    (h0 : I 0 { w with drawn := w.drawn + 1 })
    (hC0 : ∀ w1, I 0 w1 → Calls Tryd.prog 16 #[.pointer (some ⟨p, 0, none⟩), .string s] w1 fun e w2 => e = .returned (.int .i64 u) ∧ I 1 w2)
    (hC1 : ∀ w1, I 1 w1 → Calls Tryd.prog 28 #[.pointer (some ⟨r, 0, none⟩), .string s] w1 fun e w2 => e = .returned (.int .i64 u) ∧ I 2 w2)
    (hC2 : ∀ w1, I 2 w1 → I 3 w1)
    (hC3 : ∀ w1, I 3 w1 → Calls Tryd.prog 18 #[.pointer (some ⟨p, 0, none⟩)] w1 fun e w2 => e = .returned (.int .i64 l) ∧ I 4 w2)
    (hC4 : ∀ w1, I 4 w1 → Calls Tryd.prog 29 #[.pointer (some ⟨r, 0, none⟩)] w1 fun e w2 => e = .returned (.int .i64 l) ∧ I 5 w2)
    (hQ : ∀ (v196 v197 v198 v199 v200 v201 v202 v203 v204 v205 v206 v207 v208 v209 v210 v211 v212 v213 v214 : Value) (w2 : World), I 5 w2 → Q .normal ((((((((((((((((((((a0.put (some 196) v196).put (some 197) v197).put (some 198) v198).put (some 199) v199).put (some 200) v200).put (some 201) v201).put (some 202) v202).put (some 203) v203).put (some 204) v204).put (some 205) v205).put (some 206) v206).put (some 207) v207).put (some 208) v208).put (some 209) v209).put (some 210) v210).put (some 211) v211).put (some 212) v212).put (some 213) v213).put (some 214) v214).put (some 4) (.bool true)) w2) :
    Code.wp Tryd.prog ((Tryd.f8.body.bind (findRegion 35)).getD .skip) Q a0 w := by
  conv => arg 2; whnf
  refine wp_region_calls (fun i => ([.bool true, .bool true, .pointer (some ⟨p, 0, none⟩), .pointer (some ⟨ob, 3, none⟩), .string s, .int .i64 u, .pointer (some ⟨r, 0, none⟩), .pointer (some ⟨ob, 3, none⟩), .string s, .int .i64 u, .bool true, .bool true, .bool true, .pointer (some ⟨p, 0, none⟩), .int .i64 l, .pointer (some ⟨r, 0, none⟩), .int .i64 l, .bool true, .bool true, .bool true] : List Value).getD i undef) I (fun j => ([5, 9, 12, 14, 16] : List Nat).getD j 0) 5 (by kernel_rfl) (by kernel_rfl) (by kernel_rfl) (by rw [hsz]; kernel_rfl) ?hinj ?hqs ?hwait h0 ?hop ?hcA ?hdone
  case hinj =>
    intro j k hj hk h
    rcases (show j = 0 ∨ j = 1 ∨ j = 2 ∨ j = 3 ∨ j = 4 by omega) with rfl | rfl | rfl | rfl | rfl <;> rcases (show k = 0 ∨ k = 1 ∨ k = 2 ∨ k = 3 ∨ k = 4 by omega) with rfl | rfl | rfl | rfl | rfl <;> first | rfl | exact absurd h (by decide)
  case hqs =>
    intro j hj
    rcases (show j = 0 ∨ j = 1 ∨ j = 2 ∨ j = 3 ∨ j = 4 by omega) with rfl | rfl | rfl | rfl | rfl <;> exact of_decide_eq_true (by kernel_rfl)
  case hwait =>
    intro j hj oB hoB
    rcases (show j = 0 ∨ j = 1 ∨ j = 2 ∨ j = 3 by omega) with rfl | rfl | rfl | rfl
    · obtain rfl := Option.some.inj hoB
      exact ⟨⟨5, .chain⟩, by simp, rfl, rfl⟩
    · obtain rfl := Option.some.inj hoB
      exact ⟨⟨9, .chain⟩, by simp, rfl, rfl⟩
    · obtain rfl := Option.some.inj hoB
      exact ⟨⟨12, .chain⟩, by simp, rfl, rfl⟩
    · obtain rfl := Option.some.inj hoB
      exact ⟨⟨14, .chain⟩, by simp, rfl, rfl⟩
  case hdone =>
    intro a w1 hI hS hT
    have kl : a.tmps.getD 4 undef = .bool true := hT 19 _ rfl
    have he := same_puts hS
    have hQ2 := hQ (a.tmps.getD 196 undef) (a.tmps.getD 197 undef) (a.tmps.getD 198 undef) (a.tmps.getD 199 undef) (a.tmps.getD 200 undef) (a.tmps.getD 201 undef) (a.tmps.getD 202 undef) (a.tmps.getD 203 undef) (a.tmps.getD 204 undef) (a.tmps.getD 205 undef) (a.tmps.getD 206 undef) (a.tmps.getD 207 undef) (a.tmps.getD 208 undef) (a.tmps.getD 209 undef) (a.tmps.getD 210 undef) (a.tmps.getD 211 undef) (a.tmps.getD 212 undef) (a.tmps.getD 213 undef) (a.tmps.getD 214 undef) w1 hI
    rw [← kl] at hQ2
    rw [he]
    exact hQ2
  case hcA =>
    intro k hk o ho
    rcases (show k = 0 ∨ k = 1 ∨ k = 2 ∨ k = 3 ∨ k = 4 by omega) with rfl | rfl | rfl | rfl | rfl
    · obtain rfl := Option.some.inj ho
      intro a w1 hI hS hD
      have d1 : a.tmps.getD 197 undef = .bool true := hD ⟨1, .guard⟩ (by simp) rfl _ rfl
      have d2 : a.tmps.getD 198 undef = .pointer (some ⟨p, 0, none⟩) := hD ⟨2, .data⟩ (by simp) rfl _ rfl
      have d4 : a.tmps.getD 200 undef = .string s := hD ⟨4, .data⟩ (by simp) rfl _ rfl
      refine ⟨(wanted_yes rfl rfl rfl d1), ?_⟩
      refine wp_callr (f := 16) (args := #[.pointer (some ⟨p, 0, none⟩), .string s]) (by simp [execOp, resolve, Act.eval, d2, d4, go_sem]) ?_
      refine (hC0 w1 hI).mono ?_
      rintro e w2 ⟨rfl, h2⟩
      exact ⟨_, rfl, _, rfl, h2, rfl⟩
    · obtain rfl := Option.some.inj ho
      intro a w1 hI hS hD
      have d1 : a.tmps.getD 197 undef = .bool true := hD ⟨1, .guard⟩ (by simp) rfl _ rfl
      have d6 : a.tmps.getD 202 undef = .pointer (some ⟨r, 0, none⟩) := hD ⟨6, .data⟩ (by simp) rfl _ rfl
      have d8 : a.tmps.getD 204 undef = .string s := hD ⟨8, .data⟩ (by simp) rfl _ rfl
      refine ⟨(wanted_yes rfl rfl rfl d1), ?_⟩
      refine wp_callr (f := 28) (args := #[.pointer (some ⟨r, 0, none⟩), .string s]) (by simp [execOp, resolve, Act.eval, d6, d8, go_sem]) ?_
      refine (hC1 w1 hI).mono ?_
      rintro e w2 ⟨rfl, h2⟩
      exact ⟨_, rfl, _, rfl, h2, rfl⟩
    · obtain rfl := Option.some.inj ho
      intro a w1 hI hS hD
      have d11 : a.tmps.getD 207 undef = .bool true := hD ⟨11, .data⟩ (by simp) rfl _ rfl
      exact ⟨rfl, wp_valr (.bool true) (by simp [execOp, Act.eval, d11, go_sem]) ⟨_, rfl, hC2 w1 hI, rfl⟩⟩
    · obtain rfl := Option.some.inj ho
      intro a w1 hI hS hD
      have d12 : a.tmps.getD 208 undef = .bool true := hD ⟨12, .guard⟩ (by simp) rfl _ rfl
      have d13 : a.tmps.getD 209 undef = .pointer (some ⟨p, 0, none⟩) := hD ⟨13, .data⟩ (by simp) rfl _ rfl
      refine ⟨(wanted_yes rfl rfl rfl d12), ?_⟩
      refine wp_callr (f := 18) (args := #[.pointer (some ⟨p, 0, none⟩)]) (by simp [execOp, resolve, Act.eval, d13, go_sem]) ?_
      refine (hC3 w1 hI).mono ?_
      rintro e w2 ⟨rfl, h2⟩
      exact ⟨_, rfl, _, rfl, h2, rfl⟩
    · obtain rfl := Option.some.inj ho
      intro a w1 hI hS hD
      have d12 : a.tmps.getD 208 undef = .bool true := hD ⟨12, .guard⟩ (by simp) rfl _ rfl
      have d15 : a.tmps.getD 211 undef = .pointer (some ⟨r, 0, none⟩) := hD ⟨15, .data⟩ (by simp) rfl _ rfl
      refine ⟨(wanted_yes rfl rfl rfl d12), ?_⟩
      refine wp_callr (f := 29) (args := #[.pointer (some ⟨r, 0, none⟩)]) (by simp [execOp, resolve, Act.eval, d15, go_sem]) ?_
      refine (hC4 w1 hI).mono ?_
      rintro e w2 ⟨rfl, h2⟩
      exact ⟨_, rfl, _, rfl, h2, rfl⟩
  case hop =>
    intro i o hi hn
    have hlt : i < 20 := (Array.getElem?_eq_some_iff.1 hi).1
    rcases (show i = 0 ∨ i = 1 ∨ i = 2 ∨ i = 3 ∨ i = 4 ∨ i = 5 ∨ i = 6 ∨ i = 7 ∨ i = 8 ∨ i = 9 ∨ i = 10 ∨ i = 11 ∨ i = 12 ∨ i = 13 ∨ i = 14 ∨ i = 15 ∨ i = 16 ∨ i = 17 ∨ i = 18 ∨ i = 19 by omega) with rfl | rfl | rfl | rfl | rfl | rfl | rfl | rfl | rfl | rfl | rfl | rfl | rfl | rfl | rfl | rfl | rfl | rfl | rfl | rfl
    · obtain rfl := Option.some.inj hi
      clear hi hlt hn
      intro a w1 hI hS hD
      have e25 : a.tmps.getD 25 undef = .bool true := (hS.slot 25 (by kernel_rfl)).trans s25
      exact ⟨rfl, .bool true, by simp [execOp, Act.eval, e25, go_sem], rfl⟩
    · obtain rfl := Option.some.inj hi
      clear hi hlt hn
      intro a w1 hI hS hD
      have d0 : a.tmps.getD 196 undef = .bool true := hD ⟨0, .data⟩ (by simp) rfl _ rfl
      exact ⟨rfl, .bool true, by simp [execOp, Act.eval, d0, go_sem], rfl⟩
    · obtain rfl := Option.some.inj hi
      clear hi hlt hn
      intro a w1 hI hS hD
      have d1 : a.tmps.getD 197 undef = .bool true := hD ⟨1, .guard⟩ (by simp) rfl _ rfl
      have e6 : a.tmps.getD 6 undef = .pointer (some ⟨p, 0, none⟩) := (hS.slot 6 (by kernel_rfl)).trans s6
      exact ⟨(wanted_yes rfl rfl rfl d1), .pointer (some ⟨p, 0, none⟩), by simp [execOp, Act.eval, e6, go_sem], rfl⟩
    · obtain rfl := Option.some.inj hi
      clear hi hlt hn
      intro a w1 hI hS hD
      have d1 : a.tmps.getD 197 undef = .bool true := hD ⟨1, .guard⟩ (by simp) rfl _ rfl
      have e3 : a.tmps.getD 3 undef = .pointer (some ⟨ob, 0, none⟩) := (hS.slot 3 (by kernel_rfl)).trans s3
      exact ⟨(wanted_yes rfl rfl rfl d1), .pointer (some ⟨ob, 3, none⟩), by simp [execOp, Act.eval, e3, go_sem], rfl⟩
    · obtain rfl := Option.some.inj hi
      clear hi hlt hn
      intro a w1 hI hS hD
      have d1 : a.tmps.getD 197 undef = .bool true := hD ⟨1, .guard⟩ (by simp) rfl _ rfl
      have d3 : a.tmps.getD 199 undef = .pointer (some ⟨ob, 3, none⟩) := hD ⟨3, .data⟩ (by simp) rfl _ rfl
      exact ⟨(wanted_yes rfl rfl rfl d1), .string s, by simp [execOp, Act.eval, d3, o3 w1 hI, go_sem], rfl⟩
    · exact absurd rfl (hn 0 (by omega))
    · obtain rfl := Option.some.inj hi
      clear hi hlt hn
      intro a w1 hI hS hD
      have d1 : a.tmps.getD 197 undef = .bool true := hD ⟨1, .guard⟩ (by simp) rfl _ rfl
      have e7 : a.tmps.getD 7 undef = .pointer (some ⟨r, 0, none⟩) := (hS.slot 7 (by kernel_rfl)).trans s7
      exact ⟨(wanted_yes rfl rfl rfl d1), .pointer (some ⟨r, 0, none⟩), by simp [execOp, Act.eval, e7, go_sem], rfl⟩
    · obtain rfl := Option.some.inj hi
      clear hi hlt hn
      intro a w1 hI hS hD
      have d1 : a.tmps.getD 197 undef = .bool true := hD ⟨1, .guard⟩ (by simp) rfl _ rfl
      have e3 : a.tmps.getD 3 undef = .pointer (some ⟨ob, 0, none⟩) := (hS.slot 3 (by kernel_rfl)).trans s3
      exact ⟨(wanted_yes rfl rfl rfl d1), .pointer (some ⟨ob, 3, none⟩), by simp [execOp, Act.eval, e3, go_sem], rfl⟩
    · obtain rfl := Option.some.inj hi
      clear hi hlt hn
      intro a w1 hI hS hD
      have d1 : a.tmps.getD 197 undef = .bool true := hD ⟨1, .guard⟩ (by simp) rfl _ rfl
      have d7 : a.tmps.getD 203 undef = .pointer (some ⟨ob, 3, none⟩) := hD ⟨7, .data⟩ (by simp) rfl _ rfl
      exact ⟨(wanted_yes rfl rfl rfl d1), .string s, by simp [execOp, Act.eval, d7, o3 w1 hI, go_sem], rfl⟩
    · exact absurd rfl (hn 1 (by omega))
    · obtain rfl := Option.some.inj hi
      clear hi hlt hn
      intro a w1 hI hS hD
      have d1 : a.tmps.getD 197 undef = .bool true := hD ⟨1, .guard⟩ (by simp) rfl _ rfl
      have d5 : a.tmps.getD 201 undef = .int .i64 u := hD ⟨5, .data⟩ (by simp) rfl _ rfl
      have d9 : a.tmps.getD 205 undef = .int .i64 u := hD ⟨9, .data⟩ (by simp) rfl _ rfl
      exact ⟨(wanted_yes rfl rfl rfl d1), .bool true, by simp [execOp, Act.eval, d5, d9, go_sem], rfl⟩
    · obtain rfl := Option.some.inj hi
      clear hi hlt hn
      intro a w1 hI hS hD
      have d1 : a.tmps.getD 197 undef = .bool true := hD ⟨1, .data⟩ (by simp) rfl _ rfl
      have d10 : a.tmps.getD 206 undef = .bool true := hD ⟨10, .data⟩ (by simp) rfl _ rfl
      exact ⟨rfl, .bool true, by simp [execOp, Act.eval, d1, d10, go_sem], rfl⟩
    · exact absurd rfl (hn 2 (by omega))
    · obtain rfl := Option.some.inj hi
      clear hi hlt hn
      intro a w1 hI hS hD
      have d12 : a.tmps.getD 208 undef = .bool true := hD ⟨12, .guard⟩ (by simp) rfl _ rfl
      have e6 : a.tmps.getD 6 undef = .pointer (some ⟨p, 0, none⟩) := (hS.slot 6 (by kernel_rfl)).trans s6
      exact ⟨(wanted_yes rfl rfl rfl d12), .pointer (some ⟨p, 0, none⟩), by simp [execOp, Act.eval, e6, go_sem], rfl⟩
    · exact absurd rfl (hn 3 (by omega))
    · obtain rfl := Option.some.inj hi
      clear hi hlt hn
      intro a w1 hI hS hD
      have d12 : a.tmps.getD 208 undef = .bool true := hD ⟨12, .guard⟩ (by simp) rfl _ rfl
      have e7 : a.tmps.getD 7 undef = .pointer (some ⟨r, 0, none⟩) := (hS.slot 7 (by kernel_rfl)).trans s7
      exact ⟨(wanted_yes rfl rfl rfl d12), .pointer (some ⟨r, 0, none⟩), by simp [execOp, Act.eval, e7, go_sem], rfl⟩
    · exact absurd rfl (hn 4 (by omega))
    · obtain rfl := Option.some.inj hi
      clear hi hlt hn
      intro a w1 hI hS hD
      have d12 : a.tmps.getD 208 undef = .bool true := hD ⟨12, .guard⟩ (by simp) rfl _ rfl
      have d14 : a.tmps.getD 210 undef = .int .i64 l := hD ⟨14, .data⟩ (by simp) rfl _ rfl
      have d16 : a.tmps.getD 212 undef = .int .i64 l := hD ⟨16, .data⟩ (by simp) rfl _ rfl
      exact ⟨(wanted_yes rfl rfl rfl d12), .bool true, by simp [execOp, Act.eval, d14, d16, go_sem], rfl⟩
    · obtain rfl := Option.some.inj hi
      clear hi hlt hn
      intro a w1 hI hS hD
      have d12 : a.tmps.getD 208 undef = .bool true := hD ⟨12, .data⟩ (by simp) rfl _ rfl
      have d17 : a.tmps.getD 213 undef = .bool true := hD ⟨17, .data⟩ (by simp) rfl _ rfl
      exact ⟨rfl, .bool true, by simp [execOp, Act.eval, d12, d17, go_sem], rfl⟩
    · obtain rfl := Option.some.inj hi
      clear hi hlt hn
      intro a w1 hI hS hD
      have d18 : a.tmps.getD 214 undef = .bool true := hD ⟨18, .data⟩ (by simp) rfl _ rfl
      exact ⟨rfl, .bool true, by simp [execOp, Act.eval, d18, go_sem], rfl⟩

set_option maxRecDepth 100000 in
set_option maxHeartbeats 2000000 in
theorem st_r37 (p r ob : Nat) (s : ByteArray) (u l : Int) (I : Nat → World → Prop) (w : World) (a0 : Act) (Q : Exit → Act → World → Prop) (hsz : a0.tmps.size = 233)
    (s3 : a0.tmps.getD 3 undef = .pointer (some ⟨ob, 0, none⟩))
    (s6 : a0.tmps.getD 6 undef = .pointer (some ⟨p, 0, none⟩))
    (s7 : a0.tmps.getD 7 undef = .pointer (some ⟨r, 0, none⟩))
    (o3 : ∀ w1, (∃ k, k ≤ 5 ∧ I k w1) → w1.cell? ⟨ob, 3, none⟩ = some (.string s))
    (h0 : I 0 { w with drawn := w.drawn + 1 })
    (hC0 : ∀ w1, I 0 w1 → Calls Tryd.prog 15 #[.pointer (some ⟨p, 0, none⟩), .string s] w1 fun e w2 => e = .returned (.int .i64 u) ∧ I 1 w2)
    (hC1 : ∀ w1, I 1 w1 → Calls Tryd.prog 30 #[.pointer (some ⟨r, 0, none⟩), .string s] w1 fun e w2 => e = .returned (.int .i64 u) ∧ I 2 w2)
    (hC2 : ∀ w1, I 2 w1 → I 3 w1)
    (hC3 : ∀ w1, I 3 w1 → Calls Tryd.prog 18 #[.pointer (some ⟨p, 0, none⟩)] w1 fun e w2 => e = .returned (.int .i64 l) ∧ I 4 w2)
    (hC4 : ∀ w1, I 4 w1 → Calls Tryd.prog 29 #[.pointer (some ⟨r, 0, none⟩)] w1 fun e w2 => e = .returned (.int .i64 l) ∧ I 5 w2)
    (hQ : ∀ (v217 v218 v219 v220 v221 v222 v223 v224 v225 v226 v227 v228 v229 v230 v231 v232 : Value) (w2 : World), I 5 w2 → Q .normal (((((((((((((((((a0.put (some 217) v217).put (some 218) v218).put (some 219) v219).put (some 220) v220).put (some 221) v221).put (some 222) v222).put (some 223) v223).put (some 224) v224).put (some 225) v225).put (some 226) v226).put (some 227) v227).put (some 228) v228).put (some 229) v229).put (some 230) v230).put (some 231) v231).put (some 232) v232).put (some 4) (.bool true)) w2) :
    Code.wp Tryd.prog ((Tryd.f8.body.bind (findRegion 37)).getD .skip) Q a0 w := by
  conv => arg 2; whnf
  refine wp_region_calls (fun i => ([.pointer (some ⟨p, 0, none⟩), .pointer (some ⟨ob, 3, none⟩), .string s, .int .i64 u, .pointer (some ⟨r, 0, none⟩), .pointer (some ⟨ob, 3, none⟩), .string s, .int .i64 u, .bool true, .bool true, .pointer (some ⟨p, 0, none⟩), .int .i64 l, .pointer (some ⟨r, 0, none⟩), .int .i64 l, .bool true, .bool true, .bool true] : List Value).getD i undef) I (fun j => ([3, 7, 9, 11, 13] : List Nat).getD j 0) 5 (by kernel_rfl) (by kernel_rfl) (by kernel_rfl) (by rw [hsz]; kernel_rfl) ?hinj ?hqs ?hwait h0 ?hop ?hcA ?hdone
  case hinj =>
    intro j k hj hk h
    rcases (show j = 0 ∨ j = 1 ∨ j = 2 ∨ j = 3 ∨ j = 4 by omega) with rfl | rfl | rfl | rfl | rfl <;> rcases (show k = 0 ∨ k = 1 ∨ k = 2 ∨ k = 3 ∨ k = 4 by omega) with rfl | rfl | rfl | rfl | rfl <;> first | rfl | exact absurd h (by decide)
  case hqs =>
    intro j hj
    rcases (show j = 0 ∨ j = 1 ∨ j = 2 ∨ j = 3 ∨ j = 4 by omega) with rfl | rfl | rfl | rfl | rfl <;> exact of_decide_eq_true (by kernel_rfl)
  case hwait =>
    intro j hj oB hoB
    rcases (show j = 0 ∨ j = 1 ∨ j = 2 ∨ j = 3 by omega) with rfl | rfl | rfl | rfl
    · obtain rfl := Option.some.inj hoB
      exact ⟨⟨3, .chain⟩, by simp, rfl, rfl⟩
    · obtain rfl := Option.some.inj hoB
      exact ⟨⟨7, .chain⟩, by simp, rfl, rfl⟩
    · obtain rfl := Option.some.inj hoB
      exact ⟨⟨9, .chain⟩, by simp, rfl, rfl⟩
    · obtain rfl := Option.some.inj hoB
      exact ⟨⟨11, .chain⟩, by simp, rfl, rfl⟩
  case hdone =>
    intro a w1 hI hS hT
    have kl : a.tmps.getD 4 undef = .bool true := hT 16 _ rfl
    have he := same_puts hS
    have hQ2 := hQ (a.tmps.getD 217 undef) (a.tmps.getD 218 undef) (a.tmps.getD 219 undef) (a.tmps.getD 220 undef) (a.tmps.getD 221 undef) (a.tmps.getD 222 undef) (a.tmps.getD 223 undef) (a.tmps.getD 224 undef) (a.tmps.getD 225 undef) (a.tmps.getD 226 undef) (a.tmps.getD 227 undef) (a.tmps.getD 228 undef) (a.tmps.getD 229 undef) (a.tmps.getD 230 undef) (a.tmps.getD 231 undef) (a.tmps.getD 232 undef) w1 hI
    rw [← kl] at hQ2
    rw [he]
    exact hQ2
  case hcA =>
    intro k hk o ho
    rcases (show k = 0 ∨ k = 1 ∨ k = 2 ∨ k = 3 ∨ k = 4 by omega) with rfl | rfl | rfl | rfl | rfl
    · obtain rfl := Option.some.inj ho
      intro a w1 hI hS hD
      have d0 : a.tmps.getD 217 undef = .pointer (some ⟨p, 0, none⟩) := hD ⟨0, .data⟩ (by simp) rfl _ rfl
      have d2 : a.tmps.getD 219 undef = .string s := hD ⟨2, .data⟩ (by simp) rfl _ rfl
      refine ⟨rfl, ?_⟩
      refine wp_callr (f := 15) (args := #[.pointer (some ⟨p, 0, none⟩), .string s]) (by simp [execOp, resolve, Act.eval, d0, d2, go_sem]) ?_
      refine (hC0 w1 hI).mono ?_
      rintro e w2 ⟨rfl, h2⟩
      exact ⟨_, rfl, _, rfl, h2, rfl⟩
    · obtain rfl := Option.some.inj ho
      intro a w1 hI hS hD
      have d4 : a.tmps.getD 221 undef = .pointer (some ⟨r, 0, none⟩) := hD ⟨4, .data⟩ (by simp) rfl _ rfl
      have d6 : a.tmps.getD 223 undef = .string s := hD ⟨6, .data⟩ (by simp) rfl _ rfl
      refine ⟨rfl, ?_⟩
      refine wp_callr (f := 30) (args := #[.pointer (some ⟨r, 0, none⟩), .string s]) (by simp [execOp, resolve, Act.eval, d4, d6, go_sem]) ?_
      refine (hC1 w1 hI).mono ?_
      rintro e w2 ⟨rfl, h2⟩
      exact ⟨_, rfl, _, rfl, h2, rfl⟩
    · obtain rfl := Option.some.inj ho
      intro a w1 hI hS hD
      have d8 : a.tmps.getD 225 undef = .bool true := hD ⟨8, .data⟩ (by simp) rfl _ rfl
      exact ⟨rfl, wp_valr (.bool true) (by simp [execOp, Act.eval, d8, go_sem]) ⟨_, rfl, hC2 w1 hI, rfl⟩⟩
    · obtain rfl := Option.some.inj ho
      intro a w1 hI hS hD
      have d9 : a.tmps.getD 226 undef = .bool true := hD ⟨9, .guard⟩ (by simp) rfl _ rfl
      have d10 : a.tmps.getD 227 undef = .pointer (some ⟨p, 0, none⟩) := hD ⟨10, .data⟩ (by simp) rfl _ rfl
      refine ⟨(wanted_yes rfl rfl rfl d9), ?_⟩
      refine wp_callr (f := 18) (args := #[.pointer (some ⟨p, 0, none⟩)]) (by simp [execOp, resolve, Act.eval, d10, go_sem]) ?_
      refine (hC3 w1 hI).mono ?_
      rintro e w2 ⟨rfl, h2⟩
      exact ⟨_, rfl, _, rfl, h2, rfl⟩
    · obtain rfl := Option.some.inj ho
      intro a w1 hI hS hD
      have d9 : a.tmps.getD 226 undef = .bool true := hD ⟨9, .guard⟩ (by simp) rfl _ rfl
      have d12 : a.tmps.getD 229 undef = .pointer (some ⟨r, 0, none⟩) := hD ⟨12, .data⟩ (by simp) rfl _ rfl
      refine ⟨(wanted_yes rfl rfl rfl d9), ?_⟩
      refine wp_callr (f := 29) (args := #[.pointer (some ⟨r, 0, none⟩)]) (by simp [execOp, resolve, Act.eval, d12, go_sem]) ?_
      refine (hC4 w1 hI).mono ?_
      rintro e w2 ⟨rfl, h2⟩
      exact ⟨_, rfl, _, rfl, h2, rfl⟩
  case hop =>
    intro i o hi hn
    have hlt : i < 17 := (Array.getElem?_eq_some_iff.1 hi).1
    rcases (show i = 0 ∨ i = 1 ∨ i = 2 ∨ i = 3 ∨ i = 4 ∨ i = 5 ∨ i = 6 ∨ i = 7 ∨ i = 8 ∨ i = 9 ∨ i = 10 ∨ i = 11 ∨ i = 12 ∨ i = 13 ∨ i = 14 ∨ i = 15 ∨ i = 16 by omega) with rfl | rfl | rfl | rfl | rfl | rfl | rfl | rfl | rfl | rfl | rfl | rfl | rfl | rfl | rfl | rfl | rfl
    · obtain rfl := Option.some.inj hi
      clear hi hlt hn
      intro a w1 hI hS hD
      have e6 : a.tmps.getD 6 undef = .pointer (some ⟨p, 0, none⟩) := (hS.slot 6 (by kernel_rfl)).trans s6
      exact ⟨rfl, .pointer (some ⟨p, 0, none⟩), by simp [execOp, Act.eval, e6, go_sem], rfl⟩
    · obtain rfl := Option.some.inj hi
      clear hi hlt hn
      intro a w1 hI hS hD
      have e3 : a.tmps.getD 3 undef = .pointer (some ⟨ob, 0, none⟩) := (hS.slot 3 (by kernel_rfl)).trans s3
      exact ⟨rfl, .pointer (some ⟨ob, 3, none⟩), by simp [execOp, Act.eval, e3, go_sem], rfl⟩
    · obtain rfl := Option.some.inj hi
      clear hi hlt hn
      intro a w1 hI hS hD
      have d1 : a.tmps.getD 218 undef = .pointer (some ⟨ob, 3, none⟩) := hD ⟨1, .data⟩ (by simp) rfl _ rfl
      exact ⟨rfl, .string s, by simp [execOp, Act.eval, d1, o3 w1 hI, go_sem], rfl⟩
    · exact absurd rfl (hn 0 (by omega))
    · obtain rfl := Option.some.inj hi
      clear hi hlt hn
      intro a w1 hI hS hD
      have e7 : a.tmps.getD 7 undef = .pointer (some ⟨r, 0, none⟩) := (hS.slot 7 (by kernel_rfl)).trans s7
      exact ⟨rfl, .pointer (some ⟨r, 0, none⟩), by simp [execOp, Act.eval, e7, go_sem], rfl⟩
    · obtain rfl := Option.some.inj hi
      clear hi hlt hn
      intro a w1 hI hS hD
      have e3 : a.tmps.getD 3 undef = .pointer (some ⟨ob, 0, none⟩) := (hS.slot 3 (by kernel_rfl)).trans s3
      exact ⟨rfl, .pointer (some ⟨ob, 3, none⟩), by simp [execOp, Act.eval, e3, go_sem], rfl⟩
    · obtain rfl := Option.some.inj hi
      clear hi hlt hn
      intro a w1 hI hS hD
      have d5 : a.tmps.getD 222 undef = .pointer (some ⟨ob, 3, none⟩) := hD ⟨5, .data⟩ (by simp) rfl _ rfl
      exact ⟨rfl, .string s, by simp [execOp, Act.eval, d5, o3 w1 hI, go_sem], rfl⟩
    · exact absurd rfl (hn 1 (by omega))
    · obtain rfl := Option.some.inj hi
      clear hi hlt hn
      intro a w1 hI hS hD
      have d3 : a.tmps.getD 220 undef = .int .i64 u := hD ⟨3, .data⟩ (by simp) rfl _ rfl
      have d7 : a.tmps.getD 224 undef = .int .i64 u := hD ⟨7, .data⟩ (by simp) rfl _ rfl
      exact ⟨rfl, .bool true, by simp [execOp, Act.eval, d3, d7, go_sem], rfl⟩
    · exact absurd rfl (hn 2 (by omega))
    · obtain rfl := Option.some.inj hi
      clear hi hlt hn
      intro a w1 hI hS hD
      have d9 : a.tmps.getD 226 undef = .bool true := hD ⟨9, .guard⟩ (by simp) rfl _ rfl
      have e6 : a.tmps.getD 6 undef = .pointer (some ⟨p, 0, none⟩) := (hS.slot 6 (by kernel_rfl)).trans s6
      exact ⟨(wanted_yes rfl rfl rfl d9), .pointer (some ⟨p, 0, none⟩), by simp [execOp, Act.eval, e6, go_sem], rfl⟩
    · exact absurd rfl (hn 3 (by omega))
    · obtain rfl := Option.some.inj hi
      clear hi hlt hn
      intro a w1 hI hS hD
      have d9 : a.tmps.getD 226 undef = .bool true := hD ⟨9, .guard⟩ (by simp) rfl _ rfl
      have e7 : a.tmps.getD 7 undef = .pointer (some ⟨r, 0, none⟩) := (hS.slot 7 (by kernel_rfl)).trans s7
      exact ⟨(wanted_yes rfl rfl rfl d9), .pointer (some ⟨r, 0, none⟩), by simp [execOp, Act.eval, e7, go_sem], rfl⟩
    · exact absurd rfl (hn 4 (by omega))
    · obtain rfl := Option.some.inj hi
      clear hi hlt hn
      intro a w1 hI hS hD
      have d9 : a.tmps.getD 226 undef = .bool true := hD ⟨9, .guard⟩ (by simp) rfl _ rfl
      have d11 : a.tmps.getD 228 undef = .int .i64 l := hD ⟨11, .data⟩ (by simp) rfl _ rfl
      have d13 : a.tmps.getD 230 undef = .int .i64 l := hD ⟨13, .data⟩ (by simp) rfl _ rfl
      exact ⟨(wanted_yes rfl rfl rfl d9), .bool true, by simp [execOp, Act.eval, d11, d13, go_sem], rfl⟩
    · obtain rfl := Option.some.inj hi
      clear hi hlt hn
      intro a w1 hI hS hD
      have d9 : a.tmps.getD 226 undef = .bool true := hD ⟨9, .data⟩ (by simp) rfl _ rfl
      have d14 : a.tmps.getD 231 undef = .bool true := hD ⟨14, .data⟩ (by simp) rfl _ rfl
      exact ⟨rfl, .bool true, by simp [execOp, Act.eval, d9, d14, go_sem], rfl⟩
    · obtain rfl := Option.some.inj hi
      clear hi hlt hn
      intro a w1 hI hS hD
      have d15 : a.tmps.getD 232 undef = .bool true := hD ⟨15, .data⟩ (by simp) rfl _ rfl
      exact ⟨rfl, .bool true, by simp [execOp, Act.eval, d15, go_sem], rfl⟩

set_option maxRecDepth 100000 in
set_option maxHeartbeats 2000000 in
theorem pt_r8 (v ob p k gl L m c : Nat) (ad : Option Addr) (sl ev : Int) (I : Nat → World → Prop) (w : World) (a0 : Act) (Q : Exit → Act → World → Prop) (hsz : a0.tmps.size = 101)
    (s0 : a0.tmps.getD 0 undef = .pointer (some ⟨v, 0, none⟩))
    (s1 : a0.tmps.getD 1 undef = .int .i64 (k : Int))
    (s5 : a0.tmps.getD 5 undef = .pointer (some ⟨ob, 0, none⟩))
    (s7 : a0.tmps.getD 7 undef = .slice ad m c)
    (s8 : a0.tmps.getD 8 undef = .slice (some ⟨gl, 0, none⟩) L L)
    (hk3 : (k : Int) < 3) (hk0 : ¬ (k : Int) < 0)
    (hm0 : ¬ (m : Int) < 0) (hm1 : ¬ (L : Int) < (m : Int)) (hm2 : m ≤ L)
    (o2 : ∀ w1, (∃ k, k ≤ 1 ∧ I k w1) → w1.cell? ⟨ob, 2, none⟩ = some (.int .i64 sl))
    (cp : ∀ w1, (∃ k, k ≤ 1 ∧ I k w1) → w1.cell? ⟨v, k, none⟩ = some (.pointer (some ⟨p, 0, none⟩)))
    (h0 : I 0 { w with drawn := w.drawn + 1 })
    (hC0 : ∀ w1, I 0 w1 → Calls Tryd.prog 13 #[.pointer (some ⟨p, 0, none⟩), .int .i64 sl, .slice (some ⟨gl, 0, none⟩) m L] w1 fun e w2 => e = .returned (.int .i64 ev) ∧ I 1 w2)
    (hQ : ∀ (v38 v39 v40 v41 v42 v43 v44 v45 v46 v47 v48 v49 v50 : Value) (w2 : World), I 1 w2 → Q .normal ((((((((((((((a0.put (some 38) v38).put (some 39) v39).put (some 40) v40).put (some 41) v41).put (some 42) v42).put (some 43) v43).put (some 44) v44).put (some 45) v45).put (some 46) v46).put (some 47) v47).put (some 48) v48).put (some 49) v49).put (some 50) v50).put (some 10) (.int .i64 ev)) w2) :
    Code.wp Tryd.prog ((Tryd.f22.body.bind (findRegion 8)).getD .skip) Q a0 w := by
  conv => arg 2; whnf
  refine wp_region_calls (fun i => ([.pointer (some ⟨v, 0, none⟩), .int .i64 (k : Int), .pointer (some ⟨v, 0, none⟩), .pointer (some ⟨v, 0, none⟩), .pointer (some ⟨v, k, none⟩), .pointer (some ⟨p, 0, none⟩), .pointer (some ⟨ob, 2, none⟩), .int .i64 sl, .slice (some ⟨gl, 0, none⟩) L L, .slice ad m c, .int .i64 (m : Int), .slice (some ⟨gl, 0, none⟩) m L, .int .i64 ev, .int .i64 ev] : List Value).getD i undef) I (fun j => ([12] : List Nat).getD j 0) 1 (by kernel_rfl) (by kernel_rfl) (by kernel_rfl) (by rw [hsz]; kernel_rfl) ?hinj ?hqs ?hwait h0 ?hop ?hcA ?hdone
  case hinj =>
    intro j k hj hk h
    rcases (show j = 0 by omega) with rfl <;> rcases (show k = 0 by omega) with rfl <;> first | rfl | exact absurd h (by decide)
  case hqs =>
    intro j hj
    rcases (show j = 0 by omega) with rfl <;> exact of_decide_eq_true (by kernel_rfl)
  case hwait =>
    intro j hj
    omega
  case hdone =>
    intro a w1 hI hS hT
    have kl : a.tmps.getD 10 undef = .int .i64 ev := hT 13 _ rfl
    have he := same_puts hS
    have hQ2 := hQ (a.tmps.getD 38 undef) (a.tmps.getD 39 undef) (a.tmps.getD 40 undef) (a.tmps.getD 41 undef) (a.tmps.getD 42 undef) (a.tmps.getD 43 undef) (a.tmps.getD 44 undef) (a.tmps.getD 45 undef) (a.tmps.getD 46 undef) (a.tmps.getD 47 undef) (a.tmps.getD 48 undef) (a.tmps.getD 49 undef) (a.tmps.getD 50 undef) w1 hI
    rw [← kl] at hQ2
    rw [he]
    exact hQ2
  case hcA =>
    intro k hk o ho
    rcases (show k = 0 by omega) with rfl
    · obtain rfl := Option.some.inj ho
      intro a w1 hI hS hD
      have d5 : a.tmps.getD 43 undef = .pointer (some ⟨p, 0, none⟩) := hD ⟨5, .data⟩ (by simp) rfl _ rfl
      have d7 : a.tmps.getD 45 undef = .int .i64 sl := hD ⟨7, .data⟩ (by simp) rfl _ rfl
      have d11 : a.tmps.getD 49 undef = .slice (some ⟨gl, 0, none⟩) m L := hD ⟨11, .data⟩ (by simp) rfl _ rfl
      refine ⟨rfl, ?_⟩
      refine wp_callr (f := 13) (args := #[.pointer (some ⟨p, 0, none⟩), .int .i64 sl, .slice (some ⟨gl, 0, none⟩) m L]) (by simp [execOp, resolve, Act.eval, d5, d7, d11, go_sem]) ?_
      refine (hC0 w1 hI).mono ?_
      rintro e w2 ⟨rfl, h2⟩
      exact ⟨_, rfl, _, rfl, h2, rfl⟩
  case hop =>
    intro i o hi hn
    have hlt : i < 14 := (Array.getElem?_eq_some_iff.1 hi).1
    rcases (show i = 0 ∨ i = 1 ∨ i = 2 ∨ i = 3 ∨ i = 4 ∨ i = 5 ∨ i = 6 ∨ i = 7 ∨ i = 8 ∨ i = 9 ∨ i = 10 ∨ i = 11 ∨ i = 12 ∨ i = 13 by omega) with rfl | rfl | rfl | rfl | rfl | rfl | rfl | rfl | rfl | rfl | rfl | rfl | rfl | rfl
    · obtain rfl := Option.some.inj hi
      clear hi hlt hn
      intro a w1 hI hS hD
      have e0 : a.tmps.getD 0 undef = .pointer (some ⟨v, 0, none⟩) := (hS.slot 0 (by kernel_rfl)).trans s0
      exact ⟨rfl, .pointer (some ⟨v, 0, none⟩), by simp [execOp, Act.eval, e0, go_sem], rfl⟩
    · obtain rfl := Option.some.inj hi
      clear hi hlt hn
      intro a w1 hI hS hD
      have e1 : a.tmps.getD 1 undef = .int .i64 (k : Int) := (hS.slot 1 (by kernel_rfl)).trans s1
      exact ⟨rfl, .int .i64 (k : Int), by simp [execOp, Act.eval, e1, go_sem], rfl⟩
    · obtain rfl := Option.some.inj hi
      clear hi hlt hn
      intro a w1 hI hS hD
      have d0 : a.tmps.getD 38 undef = .pointer (some ⟨v, 0, none⟩) := hD ⟨0, .data⟩ (by simp) rfl _ rfl
      exact ⟨rfl, .pointer (some ⟨v, 0, none⟩), by simp [execOp, Act.eval, d0, go_sem], rfl⟩
    · obtain rfl := Option.some.inj hi
      clear hi hlt hn
      intro a w1 hI hS hD
      have d2 : a.tmps.getD 40 undef = .pointer (some ⟨v, 0, none⟩) := hD ⟨2, .data⟩ (by simp) rfl _ rfl
      exact ⟨rfl, .pointer (some ⟨v, 0, none⟩), by simp [execOp, Act.eval, d2, go_sem], rfl⟩
    · obtain rfl := Option.some.inj hi
      clear hi hlt hn
      intro a w1 hI hS hD
      have d3 : a.tmps.getD 41 undef = .pointer (some ⟨v, 0, none⟩) := hD ⟨3, .data⟩ (by simp) rfl _ rfl
      have d1 : a.tmps.getD 39 undef = .int .i64 (k : Int) := hD ⟨1, .data⟩ (by simp) rfl _ rfl
      exact ⟨rfl, .pointer (some ⟨v, k, none⟩), by simp [execOp, Act.eval, d3, d1, hk3, hk0, go_sem], rfl⟩
    · obtain rfl := Option.some.inj hi
      clear hi hlt hn
      intro a w1 hI hS hD
      have d4 : a.tmps.getD 42 undef = .pointer (some ⟨v, k, none⟩) := hD ⟨4, .data⟩ (by simp) rfl _ rfl
      exact ⟨rfl, .pointer (some ⟨p, 0, none⟩), by simp [execOp, Act.eval, d4, cp w1 hI, go_sem], rfl⟩
    · obtain rfl := Option.some.inj hi
      clear hi hlt hn
      intro a w1 hI hS hD
      have e5 : a.tmps.getD 5 undef = .pointer (some ⟨ob, 0, none⟩) := (hS.slot 5 (by kernel_rfl)).trans s5
      exact ⟨rfl, .pointer (some ⟨ob, 2, none⟩), by simp [execOp, Act.eval, e5, go_sem], rfl⟩
    · obtain rfl := Option.some.inj hi
      clear hi hlt hn
      intro a w1 hI hS hD
      have d6 : a.tmps.getD 44 undef = .pointer (some ⟨ob, 2, none⟩) := hD ⟨6, .data⟩ (by simp) rfl _ rfl
      exact ⟨rfl, .int .i64 sl, by simp [execOp, Act.eval, d6, o2 w1 hI, go_sem], rfl⟩
    · obtain rfl := Option.some.inj hi
      clear hi hlt hn
      intro a w1 hI hS hD
      have e8 : a.tmps.getD 8 undef = .slice (some ⟨gl, 0, none⟩) L L := (hS.slot 8 (by kernel_rfl)).trans s8
      exact ⟨rfl, .slice (some ⟨gl, 0, none⟩) L L, by simp [execOp, Act.eval, e8, go_sem], rfl⟩
    · obtain rfl := Option.some.inj hi
      clear hi hlt hn
      intro a w1 hI hS hD
      have e7 : a.tmps.getD 7 undef = .slice ad m c := (hS.slot 7 (by kernel_rfl)).trans s7
      exact ⟨rfl, .slice ad m c, by simp [execOp, Act.eval, e7, go_sem], rfl⟩
    · obtain rfl := Option.some.inj hi
      clear hi hlt hn
      intro a w1 hI hS hD
      have d9 : a.tmps.getD 47 undef = .slice ad m c := hD ⟨9, .data⟩ (by simp) rfl _ rfl
      exact ⟨rfl, .int .i64 (m : Int), by simp [execOp, Act.eval, d9, resolve, invoke, builtin, go_sem], rfl⟩
    · obtain rfl := Option.some.inj hi
      clear hi hlt hn
      intro a w1 hI hS hD
      have d8 : a.tmps.getD 46 undef = .slice (some ⟨gl, 0, none⟩) L L := hD ⟨8, .data⟩ (by simp) rfl _ rfl
      have d10 : a.tmps.getD 48 undef = .int .i64 (m : Int) := hD ⟨10, .data⟩ (by simp) rfl _ rfl
      exact ⟨rfl, .slice (some ⟨gl, 0, none⟩) m L, by simp [execOp, Act.eval, d8, d10, hm0, hm1, hm2, go_sem], rfl⟩
    · exact absurd rfl (hn 0 (by omega))
    · obtain rfl := Option.some.inj hi
      clear hi hlt hn
      intro a w1 hI hS hD
      have d12 : a.tmps.getD 50 undef = .int .i64 ev := hD ⟨12, .data⟩ (by simp) rfl _ rfl
      exact ⟨rfl, .int .i64 ev, by simp [execOp, Act.eval, d12, go_sem], rfl⟩

set_option maxRecDepth 100000 in
set_option maxHeartbeats 2000000 in
theorem pt_r9 (v ob r k gl L m c : Nat) (ad : Option Addr) (sl ev : Int) (I : Nat → World → Prop) (w : World) (a0 : Act) (Q : Exit → Act → World → Prop) (hsz : a0.tmps.size = 101)
    (s0 : a0.tmps.getD 0 undef = .pointer (some ⟨v, 0, none⟩))
    (s1 : a0.tmps.getD 1 undef = .int .i64 (k : Int))
    (s5 : a0.tmps.getD 5 undef = .pointer (some ⟨ob, 0, none⟩))
    (s7 : a0.tmps.getD 7 undef = .slice ad m c)
    (hk3 : (k : Int) < 3) (hk0 : ¬ (k : Int) < 0)
    (o2 : ∀ w1, (∃ k, k ≤ 1 ∧ I k w1) → w1.cell? ⟨ob, 2, none⟩ = some (.int .i64 sl))
    (cp : ∀ w1, (∃ k, k ≤ 1 ∧ I k w1) → w1.cell? ⟨v, 3 + k, none⟩ = some (.pointer (some ⟨r, 0, none⟩)))
    (h0 : I 0 { w with drawn := w.drawn + 1 })
    (hC0 : ∀ w1, I 0 w1 → Calls Tryd.prog 38 #[.pointer (some ⟨r, 0, none⟩), .int .i64 sl, .slice ad m c] w1 fun e w2 => e = .returned (.int .i64 ev) ∧ I 1 w2)
    (hQ : ∀ (v51 v52 v53 v54 v55 v56 v57 v58 v59 v60 : Value) (w2 : World), I 1 w2 → Q .normal (((((((((((a0.put (some 51) v51).put (some 52) v52).put (some 53) v53).put (some 54) v54).put (some 55) v55).put (some 56) v56).put (some 57) v57).put (some 58) v58).put (some 59) v59).put (some 60) v60).put (some 11) (.int .i64 ev)) w2) :
    Code.wp Tryd.prog ((Tryd.f22.body.bind (findRegion 9)).getD .skip) Q a0 w := by
  conv => arg 2; whnf
  refine wp_region_calls (fun i => ([.pointer (some ⟨v, 0, none⟩), .int .i64 (k : Int), .pointer (some ⟨v, 0, none⟩), .pointer (some ⟨v, 3, none⟩), .pointer (some ⟨v, 3 + k, none⟩), .pointer (some ⟨r, 0, none⟩), .pointer (some ⟨ob, 2, none⟩), .int .i64 sl, .slice ad m c, .int .i64 ev, .int .i64 ev] : List Value).getD i undef) I (fun j => ([9] : List Nat).getD j 0) 1 (by kernel_rfl) (by kernel_rfl) (by kernel_rfl) (by rw [hsz]; kernel_rfl) ?hinj ?hqs ?hwait h0 ?hop ?hcA ?hdone
  case hinj =>
    intro j k hj hk h
    rcases (show j = 0 by omega) with rfl <;> rcases (show k = 0 by omega) with rfl <;> first | rfl | exact absurd h (by decide)
  case hqs =>
    intro j hj
    rcases (show j = 0 by omega) with rfl <;> exact of_decide_eq_true (by kernel_rfl)
  case hwait =>
    intro j hj
    omega
  case hdone =>
    intro a w1 hI hS hT
    have kl : a.tmps.getD 11 undef = .int .i64 ev := hT 10 _ rfl
    have he := same_puts hS
    have hQ2 := hQ (a.tmps.getD 51 undef) (a.tmps.getD 52 undef) (a.tmps.getD 53 undef) (a.tmps.getD 54 undef) (a.tmps.getD 55 undef) (a.tmps.getD 56 undef) (a.tmps.getD 57 undef) (a.tmps.getD 58 undef) (a.tmps.getD 59 undef) (a.tmps.getD 60 undef) w1 hI
    rw [← kl] at hQ2
    rw [he]
    exact hQ2
  case hcA =>
    intro k hk o ho
    rcases (show k = 0 by omega) with rfl
    · obtain rfl := Option.some.inj ho
      intro a w1 hI hS hD
      have d5 : a.tmps.getD 56 undef = .pointer (some ⟨r, 0, none⟩) := hD ⟨5, .data⟩ (by simp) rfl _ rfl
      have d7 : a.tmps.getD 58 undef = .int .i64 sl := hD ⟨7, .data⟩ (by simp) rfl _ rfl
      have d8 : a.tmps.getD 59 undef = .slice ad m c := hD ⟨8, .data⟩ (by simp) rfl _ rfl
      refine ⟨rfl, ?_⟩
      refine wp_callr (f := 38) (args := #[.pointer (some ⟨r, 0, none⟩), .int .i64 sl, .slice ad m c]) (by simp [execOp, resolve, Act.eval, d5, d7, d8, go_sem]) ?_
      refine (hC0 w1 hI).mono ?_
      rintro e w2 ⟨rfl, h2⟩
      exact ⟨_, rfl, _, rfl, h2, rfl⟩
  case hop =>
    intro i o hi hn
    have hlt : i < 11 := (Array.getElem?_eq_some_iff.1 hi).1
    rcases (show i = 0 ∨ i = 1 ∨ i = 2 ∨ i = 3 ∨ i = 4 ∨ i = 5 ∨ i = 6 ∨ i = 7 ∨ i = 8 ∨ i = 9 ∨ i = 10 by omega) with rfl | rfl | rfl | rfl | rfl | rfl | rfl | rfl | rfl | rfl | rfl
    · obtain rfl := Option.some.inj hi
      clear hi hlt hn
      intro a w1 hI hS hD
      have e0 : a.tmps.getD 0 undef = .pointer (some ⟨v, 0, none⟩) := (hS.slot 0 (by kernel_rfl)).trans s0
      exact ⟨rfl, .pointer (some ⟨v, 0, none⟩), by simp [execOp, Act.eval, e0, go_sem], rfl⟩
    · obtain rfl := Option.some.inj hi
      clear hi hlt hn
      intro a w1 hI hS hD
      have e1 : a.tmps.getD 1 undef = .int .i64 (k : Int) := (hS.slot 1 (by kernel_rfl)).trans s1
      exact ⟨rfl, .int .i64 (k : Int), by simp [execOp, Act.eval, e1, go_sem], rfl⟩
    · obtain rfl := Option.some.inj hi
      clear hi hlt hn
      intro a w1 hI hS hD
      have d0 : a.tmps.getD 51 undef = .pointer (some ⟨v, 0, none⟩) := hD ⟨0, .data⟩ (by simp) rfl _ rfl
      exact ⟨rfl, .pointer (some ⟨v, 0, none⟩), by simp [execOp, Act.eval, d0, go_sem], rfl⟩
    · obtain rfl := Option.some.inj hi
      clear hi hlt hn
      intro a w1 hI hS hD
      have d2 : a.tmps.getD 53 undef = .pointer (some ⟨v, 0, none⟩) := hD ⟨2, .data⟩ (by simp) rfl _ rfl
      exact ⟨rfl, .pointer (some ⟨v, 3, none⟩), by simp [execOp, Act.eval, d2, go_sem], rfl⟩
    · obtain rfl := Option.some.inj hi
      clear hi hlt hn
      intro a w1 hI hS hD
      have d3 : a.tmps.getD 54 undef = .pointer (some ⟨v, 3, none⟩) := hD ⟨3, .data⟩ (by simp) rfl _ rfl
      have d1 : a.tmps.getD 52 undef = .int .i64 (k : Int) := hD ⟨1, .data⟩ (by simp) rfl _ rfl
      exact ⟨rfl, .pointer (some ⟨v, 3 + k, none⟩), by simp [execOp, Act.eval, d3, d1, hk3, hk0, go_sem], rfl⟩
    · obtain rfl := Option.some.inj hi
      clear hi hlt hn
      intro a w1 hI hS hD
      have d4 : a.tmps.getD 55 undef = .pointer (some ⟨v, 3 + k, none⟩) := hD ⟨4, .data⟩ (by simp) rfl _ rfl
      exact ⟨rfl, .pointer (some ⟨r, 0, none⟩), by simp [execOp, Act.eval, d4, cp w1 hI, go_sem], rfl⟩
    · obtain rfl := Option.some.inj hi
      clear hi hlt hn
      intro a w1 hI hS hD
      have e5 : a.tmps.getD 5 undef = .pointer (some ⟨ob, 0, none⟩) := (hS.slot 5 (by kernel_rfl)).trans s5
      exact ⟨rfl, .pointer (some ⟨ob, 2, none⟩), by simp [execOp, Act.eval, e5, go_sem], rfl⟩
    · obtain rfl := Option.some.inj hi
      clear hi hlt hn
      intro a w1 hI hS hD
      have d6 : a.tmps.getD 57 undef = .pointer (some ⟨ob, 2, none⟩) := hD ⟨6, .data⟩ (by simp) rfl _ rfl
      exact ⟨rfl, .int .i64 sl, by simp [execOp, Act.eval, d6, o2 w1 hI, go_sem], rfl⟩
    · obtain rfl := Option.some.inj hi
      clear hi hlt hn
      intro a w1 hI hS hD
      have e7 : a.tmps.getD 7 undef = .slice ad m c := (hS.slot 7 (by kernel_rfl)).trans s7
      exact ⟨rfl, .slice ad m c, by simp [execOp, Act.eval, e7, go_sem], rfl⟩
    · exact absurd rfl (hn 0 (by omega))
    · obtain rfl := Option.some.inj hi
      clear hi hlt hn
      intro a w1 hI hS hD
      have d9 : a.tmps.getD 60 undef = .int .i64 ev := hD ⟨9, .data⟩ (by simp) rfl _ rfl
      exact ⟨rfl, .int .i64 ev, by simp [execOp, Act.eval, d9, go_sem], rfl⟩


end Go.Proofs.YtjlpkgepiajapaaDoor
