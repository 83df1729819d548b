import Derived.Test.YtlppibigceeimaaDoorSfE
/-
  SeriesKeeps: its last region, with six calls.
-/
namespace Go.Proofs.YtlppibigceeimaaDoor
open Go.RowKit
set_option linter.unusedVariables false
set_option linter.unusedSimpArgs false

set_option maxRecDepth 100000 in
set_option maxHeartbeats 2000000 in
theorem keeps_r48 (S p q n g lb cl cc : Nat) (ac : Option Addr) (I : Nat → World → Prop) (w : World) (a0 : Act) (Q : Exit → Act → World → Prop) (hsz : a0.tmps.size = 306)
    (s8 : a0.tmps.getD 8 undef = .int .i64 (n : Int))
    (s9 : a0.tmps.getD 9 undef = .pointer (some ⟨p, 0, none⟩))
    (s11 : a0.tmps.getD 11 undef = .pointer (some ⟨q, 0, none⟩))
    (s13 : a0.tmps.getD 13 undef = .pointer (some ⟨S, 0, none⟩))
    (s28 : a0.tmps.getD 28 undef = .bool true)
    (s29 : a0.tmps.getD 29 undef = .slice ac g cc)
    (s31 : a0.tmps.getD 31 undef = .bool true)
    (s32 : a0.tmps.getD 32 undef = .slice (some ⟨lb, 0, none⟩) 1 cl)
    (c0 : ∀ w1, (∃ k, k ≤ 10 ∧ I k w1) → w1.cell? ⟨lb, 0, none⟩ = some (.int .i64 1))
    (c1 : ∀ w1, (∃ k, k ≤ 10 ∧ I k w1) → w1.cell? ⟨lb, 1, none⟩ = some (.int .u64 1))
    (hw1 : IntKind.i64.wrap ((n : Int) - 1) = (n : Int) - 1) (hw2 : IntKind.i64.wrap ((n : Int) - 1 - (g : Int)) = (n : Int) - 1 - (g : Int))
    (h0 : I 0 { w with drawn := w.drawn + 1 })
    (hC0 : ∀ w1, I 0 w1 → Calls Tryd.prog 9 #[.int .i64 1, .int .u64 1] w1 fun e w2 => e = .returned (.agg #[.int .i64 1, .int .u64 1]) ∧ I 1 w2)
    (hC1 : ∀ w1, I 1 w1 → I 2 w1)
    (hC2 : ∀ w1, I 2 w1 → Calls Tryd.prog 16 #[.pointer (some ⟨S, 0, none⟩), .string { data := #[97] }] w1 fun e w2 => e = .returned (.int .i64 (g : Int)) ∧ I 3 w2)
    (hC3 : ∀ w1, I 3 w1 → I 4 w1)
    (hC4 : ∀ w1, I 4 w1 → Calls Tryd.prog 17 #[.pointer (some ⟨p, 0, none⟩), .string { data := #[97] }] w1 fun e w2 => e = .returned (.int .i64 (g : Int)) ∧ I 5 w2)
    (hC5 : ∀ w1, I 5 w1 → I 6 w1)
    (hC6 : ∀ w1, I 6 w1 → Calls Tryd.prog 11 #[.pointer (some ⟨p, 0, none⟩)] w1 fun e w2 => e = .returned (.int .i64 ((n : Int) - 1 - (g : Int))) ∧ I 7 w2)
    (hC7 : ∀ w1, I 7 w1 → I 8 w1)
    (hC8 : ∀ w1, I 8 w1 → Calls Tryd.prog 11 #[.pointer (some ⟨p, 0, none⟩)] w1 fun e w2 => e = .returned (.int .i64 ((n : Int) - 1 - (g : Int))) ∧ I 9 w2)
    (hC9 : ∀ w1, I 9 w1 → Calls Tryd.prog 11 #[.pointer (some ⟨q, 0, none⟩)] w1 fun e w2 => e = .returned (.int .i64 ((n : Int) - 1 - (g : Int))) ∧ I 10 w2)
    (hQ : ∀ (v259 v260 v261 v262 v263 v264 v265 v266 v267 v268 v269 v270 v271 v272 v273 v274 v275 v276 v277 v278 v279 v280 v281 v282 v283 v284 v285 v286 v287 v288 v289 v290 v291 v292 v293 v294 v295 v296 v297 v298 v299 v300 v301 v302 v303 v304 v305 : Value) (w2 : World), I 10 w2 → Q .normal ((((((((((((((((((((((((((((((((((((((((((((((((a0.put (some 259) v259).put (some 260) v260).put (some 261) v261).put (some 262) v262).put (some 263) v263).put (some 264) v264).put (some 265) v265).put (some 266) v266).put (some 267) v267).put (some 268) v268).put (some 269) v269).put (some 270) v270).put (some 271) v271).put (some 272) v272).put (some 273) v273).put (some 274) v274).put (some 275) v275).put (some 276) v276).put (some 277) v277).put (some 278) v278).put (some 279) v279).put (some 280) v280).put (some 281) v281).put (some 282) v282).put (some 283) v283).put (some 284) v284).put (some 285) v285).put (some 286) v286).put (some 287) v287).put (some 288) v288).put (some 289) v289).put (some 290) v290).put (some 291) v291).put (some 292) v292).put (some 293) v293).put (some 294) v294).put (some 295) v295).put (some 296) v296).put (some 297) v297).put (some 298) v298).put (some 299) v299).put (some 300) v300).put (some 301) v301).put (some 302) v302).put (some 303) v303).put (some 304) v304).put (some 305) v305).put (some 6) (.bool true)) w2) :
    Code.wp Tryd.prog ((Tryd.f3.body.bind (findRegion 48)).getD .skip) Q a0 w := by
  conv => arg 2; whnf
  refine wp_region_calls (fun i => ([.bool true, .bool true, .bool true, .bool true, .bool true, .slice (some ⟨lb, 0, none⟩) 1 cl, .int .i64 1, .bool true, .bool true, .bool true, .slice (some ⟨lb, 0, none⟩) 1 cl, .pointer (some ⟨lb, 0, none⟩), .agg #[.int .i64 1, .int .u64 1], .agg #[.int .i64 1, .int .u64 1], .bool true, .bool true, .bool true, .pointer (some ⟨S, 0, none⟩), .int .i64 (g : Int), .slice ac g cc, .int .i64 (g : Int), .bool true, .bool true, .bool true, .pointer (some ⟨p, 0, none⟩), .int .i64 (g : Int), .slice ac g cc, .int .i64 (g : Int), .bool true, .bool true, .bool true, .pointer (some ⟨p, 0, none⟩), .int .i64 ((n : Int) - 1 - (g : Int)), .int .i64 (n : Int), .int .i64 ((n : Int) - 1), .slice ac g cc, .int .i64 (g : Int), .int .i64 ((n : Int) - 1 - (g : Int)), .bool true, .bool true, .bool true, .pointer (some ⟨p, 0, none⟩), .int .i64 ((n : Int) - 1 - (g : Int)), .pointer (some ⟨q, 0, none⟩), .int .i64 ((n : Int) - 1 - (g : Int)), .bool true, .bool true, .bool true] : List Value).getD i undef) I (fun j => ([13, 16, 18, 23, 25, 30, 32, 40, 42, 44] : List Nat).getD j 0) 10 (by kernel_rfl) (by kernel_rfl) (by kernel_rfl) (by rw [hsz]; kernel_rfl) ?hinj ?hqs ?hwait h0 ?hop ?hcA ?hdone
  case hinj =>
    intro j k hj hk h
    rcases (show j = 0 ∨ j = 1 ∨ j = 2 ∨ j = 3 ∨ j = 4 ∨ j = 5 ∨ j = 6 ∨ j = 7 ∨ j = 8 ∨ j = 9 by omega) with rfl | rfl | rfl | rfl | rfl | rfl | rfl | rfl | rfl | rfl <;> rcases (show k = 0 ∨ k = 1 ∨ k = 2 ∨ k = 3 ∨ k = 4 ∨ k = 5 ∨ k = 6 ∨ k = 7 ∨ k = 8 ∨ k = 9 by omega) with rfl | rfl | rfl | rfl | rfl | rfl | rfl | rfl | rfl | rfl <;> first | rfl | exact absurd h (by decide)
  case hqs =>
    intro j hj
    rcases (show j = 0 ∨ j = 1 ∨ j = 2 ∨ j = 3 ∨ j = 4 ∨ j = 5 ∨ j = 6 ∨ j = 7 ∨ j = 8 ∨ j = 9 by omega) with rfl | rfl | rfl | rfl | rfl | rfl | rfl | rfl | rfl | rfl <;> exact of_decide_eq_true (by kernel_rfl)
  case hwait =>
    intro j hj oB hoB
    rcases (show j = 0 ∨ j = 1 ∨ j = 2 ∨ j = 3 ∨ j = 4 ∨ j = 5 ∨ j = 6 ∨ j = 7 ∨ j = 8 by omega) with rfl | rfl | rfl | rfl | rfl | rfl | rfl | rfl | rfl
    · obtain rfl := Option.some.inj hoB
      exact ⟨⟨13, .chain⟩, by simp, rfl, rfl⟩
    · obtain rfl := Option.some.inj hoB
      exact ⟨⟨16, .chain⟩, by simp, rfl, rfl⟩
    · obtain rfl := Option.some.inj hoB
      exact ⟨⟨18, .chain⟩, by simp, rfl, rfl⟩
    · obtain rfl := Option.some.inj hoB
      exact ⟨⟨23, .chain⟩, by simp, rfl, rfl⟩
    · obtain rfl := Option.some.inj hoB
      exact ⟨⟨25, .chain⟩, by simp, rfl, rfl⟩
    · obtain rfl := Option.some.inj hoB
      exact ⟨⟨30, .chain⟩, by simp, rfl, rfl⟩
    · obtain rfl := Option.some.inj hoB
      exact ⟨⟨32, .chain⟩, by simp, rfl, rfl⟩
    · obtain rfl := Option.some.inj hoB
      exact ⟨⟨40, .chain⟩, by simp, rfl, rfl⟩
    · obtain rfl := Option.some.inj hoB
      exact ⟨⟨42, .chain⟩, by simp, rfl, rfl⟩
  case hdone =>
    intro a w1 hI hS hT
    have kl : a.tmps.getD 6 undef = .bool true := hT 47 _ rfl
    have he := same_puts hS
    have hQ2 := hQ (a.tmps.getD 259 undef) (a.tmps.getD 260 undef) (a.tmps.getD 261 undef) (a.tmps.getD 262 undef) (a.tmps.getD 263 undef) (a.tmps.getD 264 undef) (a.tmps.getD 265 undef) (a.tmps.getD 266 undef) (a.tmps.getD 267 undef) (a.tmps.getD 268 undef) (a.tmps.getD 269 undef) (a.tmps.getD 270 undef) (a.tmps.getD 271 undef) (a.tmps.getD 272 undef) (a.tmps.getD 273 undef) (a.tmps.getD 274 undef) (a.tmps.getD 275 undef) (a.tmps.getD 276 undef) (a.tmps.getD 277 undef) (a.tmps.getD 278 undef) (a.tmps.getD 279 undef) (a.tmps.getD 280 undef) (a.tmps.getD 281 undef) (a.tmps.getD 282 undef) (a.tmps.getD 283 undef) (a.tmps.getD 284 undef) (a.tmps.getD 285 undef) (a.tmps.getD 286 undef) (a.tmps.getD 287 undef) (a.tmps.getD 288 undef) (a.tmps.getD 289 undef) (a.tmps.getD 290 undef) (a.tmps.getD 291 undef) (a.tmps.getD 292 undef) (a.tmps.getD 293 undef) (a.tmps.getD 294 undef) (a.tmps.getD 295 undef) (a.tmps.getD 296 undef) (a.tmps.getD 297 undef) (a.tmps.getD 298 undef) (a.tmps.getD 299 undef) (a.tmps.getD 300 undef) (a.tmps.getD 301 undef) (a.tmps.getD 302 undef) (a.tmps.getD 303 undef) (a.tmps.getD 304 undef) (a.tmps.getD 305 undef) w1 hI
    rw [← kl] at hQ2
    rw [he]
    exact hQ2
  case hcA =>
    intro k hk o ho
    rcases (show k = 0 ∨ k = 1 ∨ k = 2 ∨ k = 3 ∨ k = 4 ∨ k = 5 ∨ k = 6 ∨ k = 7 ∨ k = 8 ∨ k = 9 by omega) with rfl | rfl | rfl | rfl | rfl | rfl | rfl | rfl | rfl | rfl
    · obtain rfl := Option.some.inj ho
      intro a w1 hI hS hD
      have d9 : a.tmps.getD 268 undef = .bool true := hD ⟨9, .guard⟩ (by simp) rfl _ rfl
      refine ⟨(wanted_yes rfl rfl rfl d9), ?_⟩
      refine wp_callr (f := 9) (args := #[.int .i64 1, .int .u64 1]) (by simp [execOp, resolve, Act.eval, go_sem]) ?_
      refine (hC0 w1 hI).mono ?_
      rintro e w2 ⟨rfl, h2⟩
      exact ⟨_, rfl, _, rfl, h2, rfl⟩
    · obtain rfl := Option.some.inj ho
      intro a w1 hI hS hD
      have d15 : a.tmps.getD 274 undef = .bool true := hD ⟨15, .data⟩ (by simp) rfl _ rfl
      exact ⟨rfl, wp_valr (.bool true) (by simp [execOp, Act.eval, d15, go_sem]) ⟨_, rfl, hC1 w1 hI, rfl⟩⟩
    · obtain rfl := Option.some.inj ho
      intro a w1 hI hS hD
      have d16 : a.tmps.getD 275 undef = .bool true := hD ⟨16, .guard⟩ (by simp) rfl _ rfl
      have d17 : a.tmps.getD 276 undef = .pointer (some ⟨S, 0, none⟩) := hD ⟨17, .data⟩ (by simp) rfl _ rfl
      refine ⟨(wanted_yes rfl rfl rfl d16), ?_⟩
      refine wp_callr (f := 16) (args := #[.pointer (some ⟨S, 0, none⟩), .string { data := #[97] }]) (by simp [execOp, resolve, Act.eval, d17, go_sem]) ?_
      refine (hC2 w1 hI).mono ?_
      rintro e w2 ⟨rfl, h2⟩
      exact ⟨_, rfl, _, rfl, h2, rfl⟩
    · obtain rfl := Option.some.inj ho
      intro a w1 hI hS hD
      have d22 : a.tmps.getD 281 undef = .bool true := hD ⟨22, .data⟩ (by simp) rfl _ rfl
      exact ⟨rfl, wp_valr (.bool true) (by simp [execOp, Act.eval, d22, go_sem]) ⟨_, rfl, hC3 w1 hI, rfl⟩⟩
    · obtain rfl := Option.some.inj ho
      intro a w1 hI hS hD
      have d23 : a.tmps.getD 282 undef = .bool true := hD ⟨23, .guard⟩ (by simp) rfl _ rfl
      have d24 : a.tmps.getD 283 undef = .pointer (some ⟨p, 0, none⟩) := hD ⟨24, .data⟩ (by simp) rfl _ rfl
      refine ⟨(wanted_yes rfl rfl rfl d23), ?_⟩
      refine wp_callr (f := 17) (args := #[.pointer (some ⟨p, 0, none⟩), .string { data := #[97] }]) (by simp [execOp, resolve, Act.eval, d24, go_sem]) ?_
      refine (hC4 w1 hI).mono ?_
      rintro e w2 ⟨rfl, h2⟩
      exact ⟨_, rfl, _, rfl, h2, rfl⟩
    · obtain rfl := Option.some.inj ho
      intro a w1 hI hS hD
      have d29 : a.tmps.getD 288 undef = .bool true := hD ⟨29, .data⟩ (by simp) rfl _ rfl
      exact ⟨rfl, wp_valr (.bool true) (by simp [execOp, Act.eval, d29, go_sem]) ⟨_, rfl, hC5 w1 hI, rfl⟩⟩
    · obtain rfl := Option.some.inj ho
      intro a w1 hI hS hD
      have d30 : a.tmps.getD 289 undef = .bool true := hD ⟨30, .guard⟩ (by simp) rfl _ rfl
      have d31 : a.tmps.getD 290 undef = .pointer (some ⟨p, 0, none⟩) := hD ⟨31, .data⟩ (by simp) rfl _ rfl
      refine ⟨(wanted_yes rfl rfl rfl d30), ?_⟩
      refine wp_callr (f := 11) (args := #[.pointer (some ⟨p, 0, none⟩)]) (by simp [execOp, resolve, Act.eval, d31, go_sem]) ?_
      refine (hC6 w1 hI).mono ?_
      rintro e w2 ⟨rfl, h2⟩
      exact ⟨_, rfl, _, rfl, h2, rfl⟩
    · obtain rfl := Option.some.inj ho
      intro a w1 hI hS hD
      have d39 : a.tmps.getD 298 undef = .bool true := hD ⟨39, .data⟩ (by simp) rfl _ rfl
      exact ⟨rfl, wp_valr (.bool true) (by simp [execOp, Act.eval, d39, go_sem]) ⟨_, rfl, hC7 w1 hI, rfl⟩⟩
    · obtain rfl := Option.some.inj ho
      intro a w1 hI hS hD
      have d40 : a.tmps.getD 299 undef = .bool true := hD ⟨40, .guard⟩ (by simp) rfl _ rfl
      have d41 : a.tmps.getD 300 undef = .pointer (some ⟨p, 0, none⟩) := hD ⟨41, .data⟩ (by simp) rfl _ rfl
      refine ⟨(wanted_yes rfl rfl rfl d40), ?_⟩
      refine wp_callr (f := 11) (args := #[.pointer (some ⟨p, 0, none⟩)]) (by simp [execOp, resolve, Act.eval, d41, go_sem]) ?_
      refine (hC8 w1 hI).mono ?_
      rintro e w2 ⟨rfl, h2⟩
      exact ⟨_, rfl, _, rfl, h2, rfl⟩
    · obtain rfl := Option.some.inj ho
      intro a w1 hI hS hD
      have d40 : a.tmps.getD 299 undef = .bool true := hD ⟨40, .guard⟩ (by simp) rfl _ rfl
      have d43 : a.tmps.getD 302 undef = .pointer (some ⟨q, 0, none⟩) := hD ⟨43, .data⟩ (by simp) rfl _ rfl
      refine ⟨(wanted_yes rfl rfl rfl d40), ?_⟩
      refine wp_callr (f := 11) (args := #[.pointer (some ⟨q, 0, none⟩)]) (by simp [execOp, resolve, Act.eval, d43, go_sem]) ?_
      refine (hC9 w1 hI).mono ?_
      rintro e w2 ⟨rfl, h2⟩
      exact ⟨_, rfl, _, rfl, h2, rfl⟩
  case hop =>
    intro i o hi hn
    have hlt : i < 48 := (Array.getElem?_eq_some_iff.1 hi).1
    rcases (show i = 0 ∨ i = 1 ∨ i = 2 ∨ i = 3 ∨ i = 4 ∨ i = 5 ∨ i = 6 ∨ i = 7 ∨ i = 8 ∨ i = 9 ∨ i = 10 ∨ i = 11 ∨ i = 12 ∨ i = 13 ∨ i = 14 ∨ i = 15 ∨ i = 16 ∨ i = 17 ∨ i = 18 ∨ i = 19 ∨ i = 20 ∨ i = 21 ∨ i = 22 ∨ i = 23 ∨ i = 24 ∨ i = 25 ∨ i = 26 ∨ i = 27 ∨ i = 28 ∨ i = 29 ∨ i = 30 ∨ i = 31 ∨ i = 32 ∨ i = 33 ∨ i = 34 ∨ i = 35 ∨ i = 36 ∨ i = 37 ∨ i = 38 ∨ i = 39 ∨ i = 40 ∨ i = 41 ∨ i = 42 ∨ i = 43 ∨ i = 44 ∨ i = 45 ∨ i = 46 ∨ i = 47 by omega) with rfl | rfl | rfl | rfl | rfl | rfl | rfl | rfl | rfl | rfl | rfl | rfl | rfl | rfl | rfl | rfl | rfl | rfl | rfl | rfl | rfl | rfl | rfl | rfl | rfl | rfl | rfl | rfl | rfl | rfl | rfl | rfl | rfl | rfl | rfl | rfl | rfl | rfl | rfl | rfl | rfl | rfl | rfl | rfl | rfl | rfl | rfl | rfl
    · obtain rfl := Option.some.inj hi
      clear hi hlt hn
      intro a w1 hI hS hD
      have e28 : a.tmps.getD 28 undef = .bool true := (hS.slot 28 (by kernel_rfl)).trans s28
      exact ⟨rfl, .bool true, by simp [execOp, Act.eval, e28, go_sem], rfl⟩
    · obtain rfl := Option.some.inj hi
      clear hi hlt hn
      intro a w1 hI hS hD
      have d0 : a.tmps.getD 259 undef = .bool true := hD ⟨0, .data⟩ (by simp) rfl _ rfl
      exact ⟨rfl, .bool true, by simp [execOp, Act.eval, d0, go_sem], rfl⟩
    · obtain rfl := Option.some.inj hi
      clear hi hlt hn
      intro a w1 hI hS hD
      have d1 : a.tmps.getD 260 undef = .bool true := hD ⟨1, .guard⟩ (by simp) rfl _ rfl
      have e31 : a.tmps.getD 31 undef = .bool true := (hS.slot 31 (by kernel_rfl)).trans s31
      exact ⟨(wanted_yes rfl rfl rfl d1), .bool true, by simp [execOp, Act.eval, e31, go_sem], rfl⟩
    · obtain rfl := Option.some.inj hi
      clear hi hlt hn
      intro a w1 hI hS hD
      have d1 : a.tmps.getD 260 undef = .bool true := hD ⟨1, .data⟩ (by simp) rfl _ rfl
      have d2 : a.tmps.getD 261 undef = .bool true := hD ⟨2, .data⟩ (by simp) rfl _ rfl
      exact ⟨rfl, .bool true, by simp [execOp, Act.eval, d1, d2, go_sem], rfl⟩
    · obtain rfl := Option.some.inj hi
      clear hi hlt hn
      intro a w1 hI hS hD
      have d3 : a.tmps.getD 262 undef = .bool true := hD ⟨3, .data⟩ (by simp) rfl _ rfl
      exact ⟨rfl, .bool true, by simp [execOp, Act.eval, d3, go_sem], rfl⟩
    · obtain rfl := Option.some.inj hi
      clear hi hlt hn
      intro a w1 hI hS hD
      have d4 : a.tmps.getD 263 undef = .bool true := hD ⟨4, .guard⟩ (by simp) rfl _ rfl
      have e32 : a.tmps.getD 32 undef = .slice (some ⟨lb, 0, none⟩) 1 cl := (hS.slot 32 (by kernel_rfl)).trans s32
      exact ⟨(wanted_yes rfl rfl rfl d4), .slice (some ⟨lb, 0, none⟩) 1 cl, by simp [execOp, Act.eval, e32, go_sem], rfl⟩
    · obtain rfl := Option.some.inj hi
      clear hi hlt hn
      intro a w1 hI hS hD
      have d4 : a.tmps.getD 263 undef = .bool true := hD ⟨4, .guard⟩ (by simp) rfl _ rfl
      have d5 : a.tmps.getD 264 undef = .slice (some ⟨lb, 0, none⟩) 1 cl := hD ⟨5, .data⟩ (by simp) rfl _ rfl
      exact ⟨(wanted_yes rfl rfl rfl d4), .int .i64 1, by simp [execOp, Act.eval, d5, resolve, invoke, builtin, go_sem], rfl⟩
    · obtain rfl := Option.some.inj hi
      clear hi hlt hn
      intro a w1 hI hS hD
      have d4 : a.tmps.getD 263 undef = .bool true := hD ⟨4, .guard⟩ (by simp) rfl _ rfl
      have d6 : a.tmps.getD 265 undef = .int .i64 1 := hD ⟨6, .data⟩ (by simp) rfl _ rfl
      exact ⟨(wanted_yes rfl rfl rfl d4), .bool true, by simp [execOp, Act.eval, d6, go_sem], rfl⟩
    · obtain rfl := Option.some.inj hi
      clear hi hlt hn
      intro a w1 hI hS hD
      have d4 : a.tmps.getD 263 undef = .bool true := hD ⟨4, .data⟩ (by simp) rfl _ rfl
      have d7 : a.tmps.getD 266 undef = .bool true := hD ⟨7, .data⟩ (by simp) rfl _ rfl
      exact ⟨rfl, .bool true, by simp [execOp, Act.eval, d4, d7, go_sem], rfl⟩
    · obtain rfl := Option.some.inj hi
      clear hi hlt hn
      intro a w1 hI hS hD
      have d8 : a.tmps.getD 267 undef = .bool true := hD ⟨8, .data⟩ (by simp) rfl _ rfl
      exact ⟨rfl, .bool true, by simp [execOp, Act.eval, d8, go_sem], rfl⟩
    · obtain rfl := Option.some.inj hi
      clear hi hlt hn
      intro a w1 hI hS hD
      have d9 : a.tmps.getD 268 undef = .bool true := hD ⟨9, .guard⟩ (by simp) rfl _ rfl
      have e32 : a.tmps.getD 32 undef = .slice (some ⟨lb, 0, none⟩) 1 cl := (hS.slot 32 (by kernel_rfl)).trans s32
      exact ⟨(wanted_yes rfl rfl rfl d9), .slice (some ⟨lb, 0, none⟩) 1 cl, by simp [execOp, Act.eval, e32, go_sem], rfl⟩
    · obtain rfl := Option.some.inj hi
      clear hi hlt hn
      intro a w1 hI hS hD
      have d9 : a.tmps.getD 268 undef = .bool true := hD ⟨9, .guard⟩ (by simp) rfl _ rfl
      have d10 : a.tmps.getD 269 undef = .slice (some ⟨lb, 0, none⟩) 1 cl := hD ⟨10, .data⟩ (by simp) rfl _ rfl
      exact ⟨(wanted_yes rfl rfl rfl d9), .pointer (some ⟨lb, 0, none⟩), by simp [execOp, Act.eval, d10, go_sem], rfl⟩
    · obtain rfl := Option.some.inj hi
      clear hi hlt hn
      intro a w1 hI hS hD
      have d9 : a.tmps.getD 268 undef = .bool true := hD ⟨9, .guard⟩ (by simp) rfl _ rfl
      have d11 : a.tmps.getD 270 undef = .pointer (some ⟨lb, 0, none⟩) := hD ⟨11, .data⟩ (by simp) rfl _ rfl
      exact ⟨(wanted_yes rfl rfl rfl d9), .agg #[.int .i64 1, .int .u64 1], by simp [execOp, Act.eval, d11, c0 w1 hI, c1 w1 hI, go_sem], rfl⟩
    · exact absurd rfl (hn 0 (by omega))
    · obtain rfl := Option.some.inj hi
      clear hi hlt hn
      intro a w1 hI hS hD
      have d9 : a.tmps.getD 268 undef = .bool true := hD ⟨9, .guard⟩ (by simp) rfl _ rfl
      have d12 : a.tmps.getD 271 undef = .agg #[.int .i64 1, .int .u64 1] := hD ⟨12, .data⟩ (by simp) rfl _ rfl
      have d13 : a.tmps.getD 272 undef = .agg #[.int .i64 1, .int .u64 1] := hD ⟨13, .data⟩ (by simp) rfl _ rfl
      exact ⟨(wanted_yes rfl rfl rfl d9), .bool true, by simp [execOp, Act.eval, d12, d13, go_sem], rfl⟩
    · obtain rfl := Option.some.inj hi
      clear hi hlt hn
      intro a w1 hI hS hD
      have d9 : a.tmps.getD 268 undef = .bool true := hD ⟨9, .data⟩ (by simp) rfl _ rfl
      have d14 : a.tmps.getD 273 undef = .bool true := hD ⟨14, .data⟩ (by simp) rfl _ rfl
      exact ⟨rfl, .bool true, by simp [execOp, Act.eval, d9, d14, go_sem], rfl⟩
    · exact absurd rfl (hn 1 (by omega))
    · obtain rfl := Option.some.inj hi
      clear hi hlt hn
      intro a w1 hI hS hD
      have d16 : a.tmps.getD 275 undef = .bool true := hD ⟨16, .guard⟩ (by simp) rfl _ rfl
      have e13 : a.tmps.getD 13 undef = .pointer (some ⟨S, 0, none⟩) := (hS.slot 13 (by kernel_rfl)).trans s13
      exact ⟨(wanted_yes rfl rfl rfl d16), .pointer (some ⟨S, 0, none⟩), by simp [execOp, Act.eval, e13, go_sem], rfl⟩
    · exact absurd rfl (hn 2 (by omega))
    · obtain rfl := Option.some.inj hi
      clear hi hlt hn
      intro a w1 hI hS hD
      have d16 : a.tmps.getD 275 undef = .bool true := hD ⟨16, .guard⟩ (by simp) rfl _ rfl
      have e29 : a.tmps.getD 29 undef = .slice ac g cc := (hS.slot 29 (by kernel_rfl)).trans s29
      exact ⟨(wanted_yes rfl rfl rfl d16), .slice ac g cc, by simp [execOp, Act.eval, e29, go_sem], rfl⟩
    · obtain rfl := Option.some.inj hi
      clear hi hlt hn
      intro a w1 hI hS hD
      have d16 : a.tmps.getD 275 undef = .bool true := hD ⟨16, .guard⟩ (by simp) rfl _ rfl
      have d19 : a.tmps.getD 278 undef = .slice ac g cc := hD ⟨19, .data⟩ (by simp) rfl _ rfl
      exact ⟨(wanted_yes rfl rfl rfl d16), .int .i64 (g : Int), by simp [execOp, Act.eval, d19, resolve, invoke, builtin, go_sem], rfl⟩
    · obtain rfl := Option.some.inj hi
      clear hi hlt hn
      intro a w1 hI hS hD
      have d16 : a.tmps.getD 275 undef = .bool true := hD ⟨16, .guard⟩ (by simp) rfl _ rfl
      have d18 : a.tmps.getD 277 undef = .int .i64 (g : Int) := hD ⟨18, .data⟩ (by simp) rfl _ rfl
      have d20 : a.tmps.getD 279 undef = .int .i64 (g : Int) := hD ⟨20, .data⟩ (by simp) rfl _ rfl
      exact ⟨(wanted_yes rfl rfl rfl d16), .bool true, by simp [execOp, Act.eval, d18, d20, go_sem], rfl⟩
    · obtain rfl := Option.some.inj hi
      clear hi hlt hn
      intro a w1 hI hS hD
      have d16 : a.tmps.getD 275 undef = .bool true := hD ⟨16, .data⟩ (by simp) rfl _ rfl
      have d21 : a.tmps.getD 280 undef = .bool true := hD ⟨21, .data⟩ (by simp) rfl _ rfl
      exact ⟨rfl, .bool true, by simp [execOp, Act.eval, d16, d21, go_sem], rfl⟩
    · exact absurd rfl (hn 3 (by omega))
    · obtain rfl := Option.some.inj hi
      clear hi hlt hn
      intro a w1 hI hS hD
      have d23 : a.tmps.getD 282 undef = .bool true := hD ⟨23, .guard⟩ (by simp) rfl _ rfl
      have e9 : a.tmps.getD 9 undef = .pointer (some ⟨p, 0, none⟩) := (hS.slot 9 (by kernel_rfl)).trans s9
      exact ⟨(wanted_yes rfl rfl rfl d23), .pointer (some ⟨p, 0, none⟩), by simp [execOp, Act.eval, e9, go_sem], rfl⟩
    · exact absurd rfl (hn 4 (by omega))
    · obtain rfl := Option.some.inj hi
      clear hi hlt hn
      intro a w1 hI hS hD
      have d23 : a.tmps.getD 282 undef = .bool true := hD ⟨23, .guard⟩ (by simp) rfl _ rfl
      have e29 : a.tmps.getD 29 undef = .slice ac g cc := (hS.slot 29 (by kernel_rfl)).trans s29
      exact ⟨(wanted_yes rfl rfl rfl d23), .slice ac g cc, by simp [execOp, Act.eval, e29, go_sem], rfl⟩
    · obtain rfl := Option.some.inj hi
      clear hi hlt hn
      intro a w1 hI hS hD
      have d23 : a.tmps.getD 282 undef = .bool true := hD ⟨23, .guard⟩ (by simp) rfl _ rfl
      have d26 : a.tmps.getD 285 undef = .slice ac g cc := hD ⟨26, .data⟩ (by simp) rfl _ rfl
      exact ⟨(wanted_yes rfl rfl rfl d23), .int .i64 (g : Int), by simp [execOp, Act.eval, d26, resolve, invoke, builtin, go_sem], rfl⟩
    · obtain rfl := Option.some.inj hi
      clear hi hlt hn
      intro a w1 hI hS hD
      have d23 : a.tmps.getD 282 undef = .bool true := hD ⟨23, .guard⟩ (by simp) rfl _ rfl
      have d25 : a.tmps.getD 284 undef = .int .i64 (g : Int) := hD ⟨25, .data⟩ (by simp) rfl _ rfl
      have d27 : a.tmps.getD 286 undef = .int .i64 (g : Int) := hD ⟨27, .data⟩ (by simp) rfl _ rfl
      exact ⟨(wanted_yes rfl rfl rfl d23), .bool true, by simp [execOp, Act.eval, d25, d27, go_sem], rfl⟩
    · obtain rfl := Option.some.inj hi
      clear hi hlt hn
      intro a w1 hI hS hD
      have d23 : a.tmps.getD 282 undef = .bool true := hD ⟨23, .data⟩ (by simp) rfl _ rfl
      have d28 : a.tmps.getD 287 undef = .bool true := hD ⟨28, .data⟩ (by simp) rfl _ rfl
      exact ⟨rfl, .bool true, by simp [execOp, Act.eval, d23, d28, go_sem], rfl⟩
    · exact absurd rfl (hn 5 (by omega))
    · obtain rfl := Option.some.inj hi
      clear hi hlt hn
      intro a w1 hI hS hD
      have d30 : a.tmps.getD 289 undef = .bool true := hD ⟨30, .guard⟩ (by simp) rfl _ rfl
      have e9 : a.tmps.getD 9 undef = .pointer (some ⟨p, 0, none⟩) := (hS.slot 9 (by kernel_rfl)).trans s9
      exact ⟨(wanted_yes rfl rfl rfl d30), .pointer (some ⟨p, 0, none⟩), by simp [execOp, Act.eval, e9, go_sem], rfl⟩
    · exact absurd rfl (hn 6 (by omega))
    · obtain rfl := Option.some.inj hi
      clear hi hlt hn
      intro a w1 hI hS hD
      have d30 : a.tmps.getD 289 undef = .bool true := hD ⟨30, .guard⟩ (by simp) rfl _ rfl
      have e8 : a.tmps.getD 8 undef = .int .i64 (n : Int) := (hS.slot 8 (by kernel_rfl)).trans s8
      exact ⟨(wanted_yes rfl rfl rfl d30), .int .i64 (n : Int), by simp [execOp, Act.eval, e8, go_sem], rfl⟩
    · obtain rfl := Option.some.inj hi
      clear hi hlt hn
      intro a w1 hI hS hD
      have d30 : a.tmps.getD 289 undef = .bool true := hD ⟨30, .guard⟩ (by simp) rfl _ rfl
      have d33 : a.tmps.getD 292 undef = .int .i64 (n : Int) := hD ⟨33, .data⟩ (by simp) rfl _ rfl
      exact ⟨(wanted_yes rfl rfl rfl d30), .int .i64 ((n : Int) - 1), by simp [execOp, Act.eval, d33, hw1, go_sem], rfl⟩
    · obtain rfl := Option.some.inj hi
      clear hi hlt hn
      intro a w1 hI hS hD
      have d30 : a.tmps.getD 289 undef = .bool true := hD ⟨30, .guard⟩ (by simp) rfl _ rfl
      have e29 : a.tmps.getD 29 undef = .slice ac g cc := (hS.slot 29 (by kernel_rfl)).trans s29
      exact ⟨(wanted_yes rfl rfl rfl d30), .slice ac g cc, by simp [execOp, Act.eval, e29, go_sem], rfl⟩
    · obtain rfl := Option.some.inj hi
      clear hi hlt hn
      intro a w1 hI hS hD
      have d30 : a.tmps.getD 289 undef = .bool true := hD ⟨30, .guard⟩ (by simp) rfl _ rfl
      have d35 : a.tmps.getD 294 undef = .slice ac g cc := hD ⟨35, .data⟩ (by simp) rfl _ rfl
      exact ⟨(wanted_yes rfl rfl rfl d30), .int .i64 (g : Int), by simp [execOp, Act.eval, d35, resolve, invoke, builtin, go_sem], rfl⟩
    · obtain rfl := Option.some.inj hi
      clear hi hlt hn
      intro a w1 hI hS hD
      have d30 : a.tmps.getD 289 undef = .bool true := hD ⟨30, .guard⟩ (by simp) rfl _ rfl
      have d34 : a.tmps.getD 293 undef = .int .i64 ((n : Int) - 1) := hD ⟨34, .data⟩ (by simp) rfl _ rfl
      have d36 : a.tmps.getD 295 undef = .int .i64 (g : Int) := hD ⟨36, .data⟩ (by simp) rfl _ rfl
      exact ⟨(wanted_yes rfl rfl rfl d30), .int .i64 ((n : Int) - 1 - (g : Int)), by simp [execOp, Act.eval, d34, d36, hw2, go_sem], rfl⟩
    · obtain rfl := Option.some.inj hi
      clear hi hlt hn
      intro a w1 hI hS hD
      have d30 : a.tmps.getD 289 undef = .bool true := hD ⟨30, .guard⟩ (by simp) rfl _ rfl
      have d32 : a.tmps.getD 291 undef = .int .i64 ((n : Int) - 1 - (g : Int)) := hD ⟨32, .data⟩ (by simp) rfl _ rfl
      have d37 : a.tmps.getD 296 undef = .int .i64 ((n : Int) - 1 - (g : Int)) := hD ⟨37, .data⟩ (by simp) rfl _ rfl
      exact ⟨(wanted_yes rfl rfl rfl d30), .bool true, by simp [execOp, Act.eval, d32, d37, go_sem], rfl⟩
    · obtain rfl := Option.some.inj hi
      clear hi hlt hn
      intro a w1 hI hS hD
      have d30 : a.tmps.getD 289 undef = .bool true := hD ⟨30, .data⟩ (by simp) rfl _ rfl
      have d38 : a.tmps.getD 297 undef = .bool true := hD ⟨38, .data⟩ (by simp) rfl _ rfl
      exact ⟨rfl, .bool true, by simp [execOp, Act.eval, d30, d38, go_sem], rfl⟩
    · exact absurd rfl (hn 7 (by omega))
    · obtain rfl := Option.some.inj hi
      clear hi hlt hn
      intro a w1 hI hS hD
      have d40 : a.tmps.getD 299 undef = .bool true := hD ⟨40, .guard⟩ (by simp) rfl _ rfl
      have e9 : a.tmps.getD 9 undef = .pointer (some ⟨p, 0, none⟩) := (hS.slot 9 (by kernel_rfl)).trans s9
      exact ⟨(wanted_yes rfl rfl rfl d40), .pointer (some ⟨p, 0, none⟩), by simp [execOp, Act.eval, e9, go_sem], rfl⟩
    · exact absurd rfl (hn 8 (by omega))
    · obtain rfl := Option.some.inj hi
      clear hi hlt hn
      intro a w1 hI hS hD
      have d40 : a.tmps.getD 299 undef = .bool true := hD ⟨40, .guard⟩ (by simp) rfl _ rfl
      have e11 : a.tmps.getD 11 undef = .pointer (some ⟨q, 0, none⟩) := (hS.slot 11 (by kernel_rfl)).trans s11
      exact ⟨(wanted_yes rfl rfl rfl d40), .pointer (some ⟨q, 0, none⟩), by simp [execOp, Act.eval, e11, go_sem], rfl⟩
    · exact absurd rfl (hn 9 (by omega))
    · obtain rfl := Option.some.inj hi
      clear hi hlt hn
      intro a w1 hI hS hD
      have d40 : a.tmps.getD 299 undef = .bool true := hD ⟨40, .guard⟩ (by simp) rfl _ rfl
      have d42 : a.tmps.getD 301 undef = .int .i64 ((n : Int) - 1 - (g : Int)) := hD ⟨42, .data⟩ (by simp) rfl _ rfl
      have d44 : a.tmps.getD 303 undef = .int .i64 ((n : Int) - 1 - (g : Int)) := hD ⟨44, .data⟩ (by simp) rfl _ rfl
      exact ⟨(wanted_yes rfl rfl rfl d40), .bool true, by simp [execOp, Act.eval, d42, d44, go_sem], rfl⟩
    · obtain rfl := Option.some.inj hi
      clear hi hlt hn
      intro a w1 hI hS hD
      have d40 : a.tmps.getD 299 undef = .bool true := hD ⟨40, .data⟩ (by simp) rfl _ rfl
      have d45 : a.tmps.getD 304 undef = .bool true := hD ⟨45, .data⟩ (by simp) rfl _ rfl
      exact ⟨rfl, .bool true, by simp [execOp, Act.eval, d40, d45, go_sem], rfl⟩
    · obtain rfl := Option.some.inj hi
      clear hi hlt hn
      intro a w1 hI hS hD
      have d46 : a.tmps.getD 305 undef = .bool true := hD ⟨46, .data⟩ (by simp) rfl _ rfl
      exact ⟨rfl, .bool true, by simp [execOp, Act.eval, d46, go_sem], rfl⟩

end Go.Proofs.YtlppibigceeimaaDoor

/-
  SeriesKeeps: what its walk holds.
-/
namespace Go.Proofs.YtlppibigceeimaaDoor
open Go.RowKit
set_option linter.unusedVariables false
set_option linter.unusedSimpArgs false

/-- Two stores beside one another, and a list of samples of one's own. -/
structure LI (w0 : World) (S p S2 q n : Nat) (A B R : List Sm) (v : Value) (wx : World) : Prop where
  ex : ∃ F1 st1 Z1 F2 st2 Z2, KS F1 wx S p n st1 Z1 A ∧ KS F2 wx S2 q n st2 Z2 B ∧ (∀ i, F1 i → ¬ F2 i) ∧ (∀ i, F1 i → w0.heap.size ≤ i) ∧ ∀ i, F2 i → w0.heap.size ≤ i
  bel : Below w0.heap.size w0 wx
  row : wx.ownsRow w0.heap.size 35 2 v R.length (cS R)
  gv : Gv w0
  lo : 2 ≤ w0.heap.size
variable {w0 : World} {S p S2 q n : Nat} {A B R : List Sm} {v : Value} {wx wy : World}
theorem LI.later (h : LI w0 S p S2 q n A B R v wx) (hb : Below wx.heap.size wx wy) : LI w0 S p S2 q n A B R v wy := by
  obtain ⟨F1, st1, Z1, F2, st2, Z2, k1, k2, k3⟩ := h.ex
  exact ⟨⟨F1, st1, Z1, F2, st2, Z2, k1.later hb, k2.later hb, k3⟩, h.bel.trans (hb.mono h.bel.size), owl h.row hb, h.gv, h.lo⟩
theorem LI.g (h : LI w0 S p S2 q n A B R v wx) : Gv wx ∧ 2 ≤ wx.heap.size := ⟨h.gv.bel h.bel h.lo, Nat.le_trans h.lo h.bel.size⟩
theorem LI.okA (h : LI w0 S p S2 q n A B R v wx) : Ris A ∧ (∀ x ∈ A, OkS x) ∧ 1 + gn A ≤ n := by
  obtain ⟨F1, st1, Z1, F2, st2, Z2, k1, k2, k3⟩ := h.ex
  exact ⟨k1.ok.1, k1.ok.2.1, k1.le⟩
theorem LI.okB (h : LI w0 S p S2 q n A B R v wx) : Ris B ∧ (∀ x ∈ B, OkS x) ∧ 1 + gn B ≤ n := by
  obtain ⟨F1, st1, Z1, F2, st2, Z2, k1, k2, k3⟩ := h.ex
  exact ⟨k2.ok.1, k2.ok.2.1, k2.le⟩
theorem li_need (ad : Option Addr) (N c : Nat) (l : List Sm) (h : LI w0 S p S2 q n A B R v wx) (hL : Ss wx ad l) (hN : l.length = N) (hN9 : N ≤ 100000) :
    Calls Tryd.prog 10 #[.pointer (some ⟨S, 0, none⟩), .string oA, .int .i64 3, .slice ad N c] wx fun e w' => Below wx.heap.size wx w' ∧ ((¬ Ris (A ++ l) ∧ e = .returned (.tuple #[.int .i64 0, .int .i64 140])) ∨ (Ris (A ++ l) ∧ e = .returned (.tuple #[.int .i64 ((gn (A ++ l) : Int) - (gn A : Int)), .int .i64 0]))) := by
  obtain ⟨F1, st1, Z1, F2, st2, Z2, k1, k2, k3⟩ := h.ex
  exact ks_need F1 S p n st1 Z1 A ad N c l wx k1 h.g.1 h.g.2 hL hN hN9
theorem li_left1 (h : LI w0 S p S2 q n A B R v wx) : Calls Tryd.prog 11 #[.pointer (some ⟨p, 0, none⟩)] wx fun e w' => e = .returned (.int .i64 ((n : Int) - 1 - (gn A : Int))) ∧ Below wx.heap.size wx w' := by
  obtain ⟨F1, st1, Z1, F2, st2, Z2, k1, k2, k3⟩ := h.ex
  exact ks_left F1 S p n st1 Z1 A wx k1
theorem li_left2 (h : LI w0 S p S2 q n A B R v wx) : Calls Tryd.prog 11 #[.pointer (some ⟨q, 0, none⟩)] wx fun e w' => e = .returned (.int .i64 ((n : Int) - 1 - (gn B : Int))) ∧ Below wx.heap.size wx w' := by
  obtain ⟨F1, st1, Z1, F2, st2, Z2, k1, k2, k3⟩ := h.ex
  exact ks_left F2 S2 q n st2 Z2 B wx k2
theorem li_app1 (ad : Option Addr) (N c : Nat) (l : List Sm) (h : LI w0 S p S2 q n A B R v wx) (hL : Ss wx ad l) (hN : l.length = N) (hN9 : N ≤ 100000) (hl : l ≠ []) :
    Calls Tryd.prog 8 #[.pointer (some ⟨S, 0, none⟩), .string oA, .int .i64 3, .slice ad N c] wx fun e w' =>
      (¬ Ris (A ++ l) ∧ e = .returned (.int .i64 140) ∧ Below wx.heap.size wx w') ∨ (Ris (A ++ l) ∧ n < 1 + gn (A ++ l) ∧ e = .returned (.int .i64 110) ∧ Below wx.heap.size wx w') ∨
      (Ris (A ++ l) ∧ 1 + gn (A ++ l) ≤ n ∧ e = .returned (.int .i64 0) ∧ LI w0 S p S2 q n (A ++ l) B R v w') := by
  obtain ⟨F1, st1, Z1, F2, st2, Z2, k1, k2, k3, k4, k5⟩ := h.ex
  have hlo := h.lo
  refine (ks_app F1 S p n st1 Z1 A ad N c l wx k1 h.g.1 h.g.2 (fun i hi => Nat.le_trans hlo (k4 i hi)) hL hN hN9 hl).mono ?_
  rintro e w' (h1 | h1 | ⟨h1, h2, h3, F', st', Z', q1, q2, q3⟩)
  · exact .inl h1
  · exact .inr (.inl h1)
  · refine .inr (.inr ⟨h1, h2, h3, ⟨⟨F', st', Z', F2, st2, Z2, q1, k2.chg q2 (fun i hi t ht => (k1.q.tag hi).2 t ht) (fun i hi e => k3 i e hi), fun i hi e => ?_, fun i hi => ?_, k5⟩, h.bel.trans (q2.below h.bel.size k4), q2.owns h.row (fun g hg e => ?_), h.gv, h.lo⟩⟩)
    · rcases q3 i hi with e2 | e2
      · exact k3 i e2 e
      · have := (k2.q.tag e).1; omega
    · rcases q3 i hi with e2 | e2
      · exact k4 i e2
      · exact Nat.le_trans h.bel.size e2
    · rcases (k1.q.tag e).2 35 (owns_tg h.row g hg) with e | e <;> cases e
theorem li_app2 (ad : Option Addr) (N c : Nat) (l : List Sm) (h : LI w0 S p S2 q n A B R v wx) (hL : Ss wx ad l) (hN : l.length = N) (hN9 : N ≤ 100000) (hl : l ≠ []) (hr : Ris (B ++ l)) (hn : 1 + gn (B ++ l) ≤ n) :
    Calls Tryd.prog 8 #[.pointer (some ⟨S2, 0, none⟩), .string oA, .int .i64 3, .slice ad N c] wx fun e w' => e = .returned (.int .i64 0) ∧ LI w0 S p S2 q n A (B ++ l) R v w' := by
  obtain ⟨F1, st1, Z1, F2, st2, Z2, k1, k2, k3, k4, k5⟩ := h.ex
  have hlo := h.lo
  refine (ks_app F2 S2 q n st2 Z2 B ad N c l wx k2 h.g.1 h.g.2 (fun i hi => Nat.le_trans hlo (k5 i hi)) hL hN hN9 hl).mono ?_
  rintro e w' (⟨h1, _⟩ | ⟨_, h1, _⟩ | ⟨h1, h2, h3, F', st', Z', q1, q2, q3⟩)
  · exact absurd hr h1
  · omega
  · refine ⟨h3, ⟨⟨F1, st1, Z1, F', st', Z', k1.chg q2 (fun i hi t ht => (k2.q.tag hi).2 t ht) (fun i hi e => k3 i hi e), q1, fun i hi e => ?_, k4, fun i hi => ?_⟩, h.bel.trans (q2.below h.bel.size k5), q2.owns h.row (fun g hg e => ?_), h.gv, h.lo⟩⟩
    · rcases q3 i e with e2 | e2
      · exact k3 i hi e2
      · have := (k1.q.tag hi).1; omega
    · rcases q3 i hi with e2 | e2
      · exact k5 i e2
      · exact Nat.le_trans h.bel.size e2
    · rcases (k2.q.tag e).2 35 (owns_tg h.row g hg) with e | e <;> cases e
theorem li_range (o : ByteArray) (h : LI w0 S p S2 q n A B R v wx) (ho : o = oA ∨ o = oB) :
    Calls Tryd.prog 12 #[.pointer (some ⟨S, 0, none⟩), .string o, .int .i64 3, .int .i64 (-9223372036854775808), .int .i64 9223372036854775807] wx fun e w' => SamP (if o = oA then A else [⟨1, 1⟩]) wx e w' := by
  obtain ⟨F1, st1, Z1, F2, st2, Z2, k1, k2, k3, k4, k5⟩ := h.ex
  have hq := rangeP o 3 (-9223372036854775808) 9223372036854775807 F1 S p n st1 Z1 wx k1.q h.g.1 h.g.2
  rw [rng_all (k1.q.sz.en o 3).2.2.1] at hq
  rcases ho with rfl | rfl
  · rw [if_pos rfl]
    rw [k1.a] at hq
    exact hq
  · rw [if_neg (by decide)]
    rw [k1.b] at hq
    exact hq
theorem li_chunks1 (h : LI w0 S p S2 q n A B R v wx) : Calls Tryd.prog 14 #[.pointer (some ⟨S, 0, none⟩), .string oA, .int .i64 3] wx fun e w' => CksP wx wx.heap.size ((gO (gF A)).map encC) e w' := by
  obtain ⟨F1, st1, Z1, F2, st2, Z2, k1, k2, k3, k4, k5⟩ := h.ex
  have := schunksP oA 3 F1 S p n st1 Z1 wx k1.q
  rw [k1.a] at this
  exact this
theorem li_chunks2 (h : LI w0 S p S2 q n A B R v wx) : Calls Tryd.prog 14 #[.pointer (some ⟨S2, 0, none⟩), .string oA, .int .i64 3] wx fun e w' => CksP wx wx.heap.size ((gO (gF B)).map encC) e w' := by
  obtain ⟨F1, st1, Z1, F2, st2, Z2, k1, k2, k3, k4, k5⟩ := h.ex
  have := schunksP oA 3 F2 S2 q n st2 Z2 wx k2.q
  rw [k2.a] at this
  exact this
theorem li_slots (h : LI w0 S p S2 q n A B R v wx) : Calls Tryd.prog 16 #[.pointer (some ⟨S, 0, none⟩), .string oA] wx fun e w' => e = .returned (.int .i64 (gn A : Int)) ∧ Below wx.heap.size wx w' := by
  obtain ⟨F1, st1, Z1, F2, st2, Z2, k1, k2, k3, k4, k5⟩ := h.ex
  have := sslotsP oA F1 S p n st1 Z1 wx k1.q
  rw [k1.slots] at this
  exact this
theorem li_used (h : LI w0 S p S2 q n A B R v wx) : Calls Tryd.prog 17 #[.pointer (some ⟨p, 0, none⟩), .string oA] wx fun e w' => e = .returned (.int .i64 (gn A : Int)) ∧ w' = wx := by
  obtain ⟨F1, st1, Z1, F2, st2, Z2, k1, k2, k3, k4, k5⟩ := h.ex
  obtain ⟨G, g1, _⟩ := k1.q.pool
  have := K.usedX oA G p n st1 wx g1
  rw [k1.q.sz.used oA, k1.slots] at this
  exact this
/-- The start: both stores have one sample of "b". -/
theorem ks_start {F : Nat → Prop} {w' : World} {st : K.Sx} {news : List Nat} (h : SQ F w' S p n st (setZ (fun _ => []) oB 3 (news, [⟨1, 1⟩]))) (ht : (K.tkL st n).length = 1) : KS F w' S p n st (setZ (fun _ => []) oB 3 (news, [⟨1, 1⟩])) [] := by
  refine ⟨h, ?_, by rw [enL_set], ?_, by rw [ht]; rfl⟩
  · rw [enL_off _ _ _ _ (by decide)]
    rfl
  · intro e he
    unfold setZ at he
    rw [if_neg (by decide)] at he
    simp at he
/-- Samples of an argument, later. -/
theorem LI.ss {l : List Sm} {ad : Option Addr} (h : LI w0 S p S2 q n A B R v wx) (hL : Ss w0 ad l) : Ss wx ad l := hL.later h.bel
theorem Ss.part {w : World} {b off : Nat} {l : List Sm} (h : Ss w (some ⟨b, off, none⟩) l) (a e : Nat) : Ss w (some ⟨b, off + a * 2, none⟩) ((l.take e).drop a) := by
  refine ⟨fun x hx => h.sz x (List.mem_of_mem_take (List.mem_of_mem_drop hx)), fun h0 => ?_⟩
  obtain ⟨b', o', e1, hlt, hc⟩ := h.at' (by rintro rfl; simp at h0)
  cases e1
  refine ⟨b, off + a * 2, rfl, hlt, fun i x hx => ?_⟩
  rw [List.getElem?_drop, List.getElem?_take] at hx
  split at hx
  · have := hc (a + i) x hx
    have e2 : off + a * 2 + i * 2 = off + (a + i) * 2 := by omega
    rw [e2]
    exact this
  · cases hx

theorem gn_le {A : List Sm} (h : ∀ x ∈ A, OkS x) : gn A ≤ A.length := by
  have := gO_len (okG h)
  rw [gF_flat] at this
  exact this
theorem wpList_appS2 (w : World) {ops : Array Oper} {rest : List Oper} {o : Oper} {a : Act} {Q : Exit → Act → World → Prop} (hgd : o.guard = none) (s x : Operand)
    (ho : o.op = .call { callee := .builtin .append, args := #[s, x], argTypes := #[22, 22] }) (base : Nat) (v : Value) (n : Nat) (xs : List Sm) (hs : a.eval s = v) (hown : w.ownsRow base 35 2 v n (cS xs))
    (ad : Addr) (m c : Nat) (l : List Sm) (hx : a.eval x = .slice (some ad) m c) (hL : Ss w (some ad) l) (hm : l.length = m) (k : Nat) (hk : n + m = k) (hb : k * 16 ≤ 140737488355328) (hbase : base ≤ w.heap.size)
    (h : ∀ a' c' w', w'.ownsRow base 35 2 (.slice a' k c') k (cS (xs ++ l)) → Chg (fun i => v.ownBlock = some i) w w' → wpList Tryd.prog ops Q rest (a.put o.dst (.slice a' k c')) w') : wpList Tryd.prog ops Q (o :: rest) a w := by
  subst hk
  obtain ⟨i0, hi0, hz0, hz1, hz2⟩ := info_parts info32
  refine wpList_append_own w hgd s x 22 ho base 35 i0 (.agg #[.int .i64 0, .int .u64 0]) 2 16 Tryd.underlying22 hi0 hz0 hz1 hz2 rfl (by decide) v n (cS xs) hs hown ad m c (cS l) hx (by rw [cS_length, hm]) hL.cells' (cS_one l) (by unfold maxLen; omega) hb hbase ?_
  intro v' w' h1 h2 h3
  obtain ⟨a', c', rfl, _⟩ := owns_formS h1
  exact h a' c' w' (by rw [cS_append]; exact h1) (Chg.of_grown h2 (fun i hi => hi))
theorem LI.push {R' : List Sm} {v' : Value} (h : LI w0 S p S2 q n A B R v wx) (hc : Chg (fun i => v.ownBlock = some i) wx wy) (ho : wy.ownsRow w0.heap.size 35 2 v' R'.length (cS R')) : LI w0 S p S2 q n A B R' v' wy := by
  obtain ⟨F1, st1, Z1, F2, st2, Z2, k1, k2, k3, k4, k5⟩ := h.ex
  have key : ∀ {F : Nat → Prop} {S p : Nat} {st : K.Sx} {Z : ByteArray → List En} {A : List Sm}, KS F wx S p n st Z A → KS F wy S p n st Z A := fun hk => ⟨hk.q.chg hc (fun e => by have := (owns_tg h.row _ e).one hk.q.blk.1; cases this) (fun e => by have := (owns_tg h.row _ e).one hk.q.blk.2; cases this) (fun i hi e => by rcases (hk.q.tag hi).2 35 (owns_tg h.row _ e) with e | e <;> cases e), hk.a, hk.b, hk.key, hk.tk⟩
  refine ⟨⟨F1, st1, Z1, F2, st2, Z2, key k1, key k2, k3, k4, k5⟩, h.bel.trans (hc.below h.bel.size (fun i hi => ?_)), ho, h.gv, h.lo⟩
  rcases h.row.2 with ⟨e0, _⟩ | ⟨g, cap, cur, e0, hg, _⟩
  · rw [e0] at hi; cases hi
  · rw [e0] at hi
    have : g = i := by simpa [Value.ownBlock] using hi
    omega

end Go.Proofs.YtlppibigceeimaaDoor

/-
  Numbers of an argument.
-/
namespace Go.Proofs.YtlppibigceeimaaDoor
open Go.RowKit
set_option linter.unusedVariables false

/-- Numbers of an argument. -/
structure SlZ (w : World) (ad : Option Addr) (l : List Int) : Prop where
  ok : ∀ x ∈ l, I64 x
  at' : l ≠ [] → ∃ b off, ad = some ⟨b, off, none⟩ ∧ b < w.heap.size ∧ ∀ (i : Nat) (x : Int), l[i]? = some x → w.cell? ⟨b, off + i, none⟩ = some (.int .i64 x)
theorem SlZ.later {w w' : World} {ad : Option Addr} {l : List Int} (h : SlZ w ad l) (hb : Below w.heap.size w w') : SlZ w' ad l := by
  refine ⟨h.ok, fun h0 => ?_⟩
  obtain ⟨b, off, e, hlt, hc⟩ := h.at' h0
  refine ⟨b, off, e, Nat.lt_of_lt_of_le hlt hb.size, fun i s hs => ?_⟩
  rw [hb.cell (p := ⟨b, off + i, none⟩) hlt]
  exact hc i s hs

end Go.Proofs.YtlppibigceeimaaDoor
