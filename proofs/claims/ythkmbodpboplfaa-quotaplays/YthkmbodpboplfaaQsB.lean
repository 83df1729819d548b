/-
  QuotaPlays: the regions of a step that call both.
-/
import Derived.Test.YthkmbodpboplfaaWgT
import Derived.Test.YthkmbodpboplfaaQsA
namespace Go.Proofs.Ythkmbodpboplfaa
open Go.RowKit
set_option linter.unusedVariables false
set_option linter.unusedSimpArgs false

theorem wp_call_r {P : Program} {o : Oper} {a : Act} {w : World} {K : Act → World → Prop} {Q : Exit → Act → World → Prop} {f : FuncId} {args : Array Value} (h : (execOp a.eval o).run P w = .ok (.enter f args) w) (hc : Calls P f args w fun e w' => ∃ v, e = .returned v ∧ K (a.put o.dst v) w') : o.wp P a w K Q := by
  unfold Oper.wp
  rw [h]
  refine Calls.mono hc ?_
  rintro e w' ⟨v, rfl, hk⟩
  exact hk

set_option maxRecDepth 100000 in
set_option maxHeartbeats 2000000 in
theorem step_r3 (pb ob p q : Nat) (s : ByteArray) (x y ev : Int) (I0 I1 I2 : World → Prop) (w : World) (a0 : Act) (Q : Exit → Act → World → Prop) (hsz : a0.tmps.size = 121)
    (s3 : a0.tmps.getD 3 undef = .pointer (some ⟨pb, 0, none⟩))
    (s4 : a0.tmps.getD 4 undef = .pointer (some ⟨ob, 0, none⟩))
    (c0 : ∀ w1, I0 w1 ∨ I1 w1 ∨ I2 w1 → w1.cell? ⟨pb, 0, none⟩ = some (.pointer (some ⟨p, 0, none⟩)))
    (c1 : ∀ w1, I0 w1 ∨ I1 w1 ∨ I2 w1 → w1.cell? ⟨pb, 1, none⟩ = some (.pointer (some ⟨q, 0, none⟩)))
    (o2 : ∀ w1, I0 w1 ∨ I1 w1 ∨ I2 w1 → w1.cell? ⟨ob, 2, none⟩ = some (.string s))
    (o4 : ∀ w1, I0 w1 ∨ I1 w1 ∨ I2 w1 → w1.cell? ⟨ob, 4, none⟩ = some (.int .i64 x))
    (o5 : ∀ w1, I0 w1 ∨ I1 w1 ∨ I2 w1 → w1.cell? ⟨ob, 5, none⟩ = some (.int .i64 y))
    (h0 : I0 { w with drawn := w.drawn + 1 })
    (hA : ∀ w1, I0 w1 → Calls Try.prog 11 #[.pointer (some ⟨p, 0, none⟩), .string s, .int .i64 x, .int .i64 y] w1 fun e w2 => e = .returned (.int .i64 ev) ∧ I1 w2)
    (hB : ∀ w1, I1 w1 → Calls Try.prog 17 #[.pointer (some ⟨q, 0, none⟩), .string s, .int .i64 x, .int .i64 y] w1 fun e w2 => e = .returned (.int .i64 ev) ∧ I2 w2)
    (hQ : ∀ (v15 v16 v17 v18 v19 v20 v21 v22 v23 v24 v25 v26 v27 v28 v29 v30 v31 v32 v33 : Value) (w2 : World), I2 w2 → Q .normal ((((((((((((((((((((a0.put (some 15) v15).put (some 16) v16).put (some 17) v17).put (some 18) v18).put (some 19) v19).put (some 20) v20).put (some 21) v21).put (some 22) v22).put (some 23) v23).put (some 24) v24).put (some 25) v25).put (some 26) v26).put (some 27) v27).put (some 28) v28).put (some 29) v29).put (some 30) v30).put (some 31) v31).put (some 32) v32).put (some 33) v33).put (some 6) (.bool true)) w2) :
    Code.wp Try.prog ((Try.f9.body.bind (findRegion 3)).getD .skip) Q a0 w := by
  conv => arg 2; whnf
  refine wp_region_pair (fun i => ([.pointer (some ⟨pb, 0, none⟩), .pointer (some ⟨p, 0, none⟩), .pointer (some ⟨ob, 2, none⟩), .string s, .pointer (some ⟨ob, 4, none⟩), .int .i64 x, .pointer (some ⟨ob, 5, none⟩), .int .i64 y, .int .i64 ev, .pointer (some ⟨pb, 1, none⟩), .pointer (some ⟨q, 0, none⟩), .pointer (some ⟨ob, 2, none⟩), .string s, .pointer (some ⟨ob, 4, none⟩), .int .i64 x, .pointer (some ⟨ob, 5, none⟩), .int .i64 y, .int .i64 ev, .bool true, .bool true] : List Value).getD i undef) I0 I1 I2 8 17 (by kernel_rfl) (by kernel_rfl) (by kernel_rfl) (by rw [hsz]; kernel_rfl) (by decide) (of_decide_eq_true (by kernel_rfl)) (of_decide_eq_true (by kernel_rfl)) ?hwait h0 ?hop ?hcA ?hcB ?hdone
  case hwait =>
    intro oB hoB
    obtain rfl := Option.some.inj hoB
    exact ⟨⟨8, .chain⟩, by simp, rfl, rfl⟩
  case hdone =>
    intro a w1 hI hS hT
    have kl : a.tmps.getD 6 undef = .bool true := hT 19 _ rfl
    have he := same_puts hS
    have hQ2 := hQ (a.tmps.getD 15 undef) (a.tmps.getD 16 undef) (a.tmps.getD 17 undef) (a.tmps.getD 18 undef) (a.tmps.getD 19 undef) (a.tmps.getD 20 undef) (a.tmps.getD 21 undef) (a.tmps.getD 22 undef) (a.tmps.getD 23 undef) (a.tmps.getD 24 undef) (a.tmps.getD 25 undef) (a.tmps.getD 26 undef) (a.tmps.getD 27 undef) (a.tmps.getD 28 undef) (a.tmps.getD 29 undef) (a.tmps.getD 30 undef) (a.tmps.getD 31 undef) (a.tmps.getD 32 undef) (a.tmps.getD 33 undef) w1 hI
    rw [← kl] at hQ2
    rw [he]
    exact hQ2
  case hcA =>
    intro o ho
    obtain rfl := Option.some.inj ho
    intro a w1 hI hS hD
    have d1 : a.tmps.getD 16 undef = .pointer (some ⟨p, 0, none⟩) := hD ⟨1, .data⟩ (by simp) rfl _ rfl
    have d3 : a.tmps.getD 18 undef = .string s := hD ⟨3, .data⟩ (by simp) rfl _ rfl
    have d5 : a.tmps.getD 20 undef = .int .i64 x := hD ⟨5, .data⟩ (by simp) rfl _ rfl
    have d7 : a.tmps.getD 22 undef = .int .i64 y := hD ⟨7, .data⟩ (by simp) rfl _ rfl
    refine ⟨rfl, ?_⟩
    refine wp_call_r (f := 11) (args := #[.pointer (some ⟨p, 0, none⟩), .string s, .int .i64 x, .int .i64 y]) (by simp [execOp, resolve, Act.eval, d1, d3, d5, d7, go_sem]) ?_
    refine (hA w1 hI).mono ?_
    rintro e w2 ⟨rfl, h2⟩
    exact ⟨_, rfl, _, rfl, h2, rfl⟩
  case hcB =>
    intro o ho
    obtain rfl := Option.some.inj ho
    intro a w1 hI hS hD
    have d10 : a.tmps.getD 25 undef = .pointer (some ⟨q, 0, none⟩) := hD ⟨10, .data⟩ (by simp) rfl _ rfl
    have d12 : a.tmps.getD 27 undef = .string s := hD ⟨12, .data⟩ (by simp) rfl _ rfl
    have d14 : a.tmps.getD 29 undef = .int .i64 x := hD ⟨14, .data⟩ (by simp) rfl _ rfl
    have d16 : a.tmps.getD 31 undef = .int .i64 y := hD ⟨16, .data⟩ (by simp) rfl _ rfl
    refine ⟨rfl, ?_⟩
    refine wp_call_r (f := 17) (args := #[.pointer (some ⟨q, 0, none⟩), .string s, .int .i64 x, .int .i64 y]) (by simp [execOp, resolve, Act.eval, d10, d12, d14, d16, go_sem]) ?_
    refine (hB w1 hI).mono ?_
    rintro e w2 ⟨rfl, h2⟩
    exact ⟨_, rfl, _, rfl, h2, rfl⟩
  case hop =>
    intro i o hi hnA hnB
    have hlt : i < 20 := (Array.getElem?_eq_some_iff.1 hi).1
    rcases (show i = 0 ∨ i = 1 ∨ i = 2 ∨ i = 3 ∨ i = 4 ∨ i = 5 ∨ i = 6 ∨ i = 7 ∨ i = 8 ∨ i = 9 ∨ i = 10 ∨ i = 11 ∨ i = 12 ∨ i = 13 ∨ i = 14 ∨ i = 15 ∨ i = 16 ∨ i = 17 ∨ i = 18 ∨ i = 19 by omega) with rfl | rfl | rfl | rfl | rfl | rfl | rfl | rfl | rfl | rfl | rfl | rfl | rfl | rfl | rfl | rfl | rfl | rfl | rfl | rfl
    · obtain rfl := Option.some.inj hi
      clear hi hlt hnA hnB
      intro a w1 hI hS hD
      have e3 : a.tmps.getD 3 undef = .pointer (some ⟨pb, 0, none⟩) := (hS.slot 3 (by kernel_rfl)).trans s3
      exact ⟨rfl, .pointer (some ⟨pb, 0, none⟩), by simp [execOp, Act.eval, e3, go_sem], rfl⟩
    · obtain rfl := Option.some.inj hi
      clear hi hlt hnA hnB
      intro a w1 hI hS hD
      have d0 : a.tmps.getD 15 undef = .pointer (some ⟨pb, 0, none⟩) := hD ⟨0, .data⟩ (by simp) rfl _ rfl
      exact ⟨rfl, .pointer (some ⟨p, 0, none⟩), by simp [execOp, Act.eval, d0, c0 w1 hI, go_sem], rfl⟩
    · obtain rfl := Option.some.inj hi
      clear hi hlt hnA hnB
      intro a w1 hI hS hD
      have e4 : a.tmps.getD 4 undef = .pointer (some ⟨ob, 0, none⟩) := (hS.slot 4 (by kernel_rfl)).trans s4
      exact ⟨rfl, .pointer (some ⟨ob, 2, none⟩), by simp [execOp, Act.eval, e4, go_sem], rfl⟩
    · obtain rfl := Option.some.inj hi
      clear hi hlt hnA hnB
      intro a w1 hI hS hD
      have d2 : a.tmps.getD 17 undef = .pointer (some ⟨ob, 2, none⟩) := hD ⟨2, .data⟩ (by simp) rfl _ rfl
      exact ⟨rfl, .string s, by simp [execOp, Act.eval, d2, o2 w1 hI, go_sem], rfl⟩
    · obtain rfl := Option.some.inj hi
      clear hi hlt hnA hnB
      intro a w1 hI hS hD
      have e4 : a.tmps.getD 4 undef = .pointer (some ⟨ob, 0, none⟩) := (hS.slot 4 (by kernel_rfl)).trans s4
      exact ⟨rfl, .pointer (some ⟨ob, 4, none⟩), by simp [execOp, Act.eval, e4, go_sem], rfl⟩
    · obtain rfl := Option.some.inj hi
      clear hi hlt hnA hnB
      intro a w1 hI hS hD
      have d4 : a.tmps.getD 19 undef = .pointer (some ⟨ob, 4, none⟩) := hD ⟨4, .data⟩ (by simp) rfl _ rfl
      exact ⟨rfl, .int .i64 x, by simp [execOp, Act.eval, d4, o4 w1 hI, go_sem], rfl⟩
    · obtain rfl := Option.some.inj hi
      clear hi hlt hnA hnB
      intro a w1 hI hS hD
      have e4 : a.tmps.getD 4 undef = .pointer (some ⟨ob, 0, none⟩) := (hS.slot 4 (by kernel_rfl)).trans s4
      exact ⟨rfl, .pointer (some ⟨ob, 5, none⟩), by simp [execOp, Act.eval, e4, go_sem], rfl⟩
    · obtain rfl := Option.some.inj hi
      clear hi hlt hnA hnB
      intro a w1 hI hS hD
      have d6 : a.tmps.getD 21 undef = .pointer (some ⟨ob, 5, none⟩) := hD ⟨6, .data⟩ (by simp) rfl _ rfl
      exact ⟨rfl, .int .i64 y, by simp [execOp, Act.eval, d6, o5 w1 hI, go_sem], rfl⟩
    · exact absurd rfl hnA
    · obtain rfl := Option.some.inj hi
      clear hi hlt hnA hnB
      intro a w1 hI hS hD
      have e3 : a.tmps.getD 3 undef = .pointer (some ⟨pb, 0, none⟩) := (hS.slot 3 (by kernel_rfl)).trans s3
      exact ⟨rfl, .pointer (some ⟨pb, 1, none⟩), by simp [execOp, Act.eval, e3, go_sem], rfl⟩
    · obtain rfl := Option.some.inj hi
      clear hi hlt hnA hnB
      intro a w1 hI hS hD
      have d9 : a.tmps.getD 24 undef = .pointer (some ⟨pb, 1, none⟩) := hD ⟨9, .data⟩ (by simp) rfl _ rfl
      exact ⟨rfl, .pointer (some ⟨q, 0, none⟩), by simp [execOp, Act.eval, d9, c1 w1 hI, go_sem], rfl⟩
    · obtain rfl := Option.some.inj hi
      clear hi hlt hnA hnB
      intro a w1 hI hS hD
      have e4 : a.tmps.getD 4 undef = .pointer (some ⟨ob, 0, none⟩) := (hS.slot 4 (by kernel_rfl)).trans s4
      exact ⟨rfl, .pointer (some ⟨ob, 2, none⟩), by simp [execOp, Act.eval, e4, go_sem], rfl⟩
    · obtain rfl := Option.some.inj hi
      clear hi hlt hnA hnB
      intro a w1 hI hS hD
      have d11 : a.tmps.getD 26 undef = .pointer (some ⟨ob, 2, none⟩) := hD ⟨11, .data⟩ (by simp) rfl _ rfl
      exact ⟨rfl, .string s, by simp [execOp, Act.eval, d11, o2 w1 hI, go_sem], rfl⟩
    · obtain rfl := Option.some.inj hi
      clear hi hlt hnA hnB
      intro a w1 hI hS hD
      have e4 : a.tmps.getD 4 undef = .pointer (some ⟨ob, 0, none⟩) := (hS.slot 4 (by kernel_rfl)).trans s4
      exact ⟨rfl, .pointer (some ⟨ob, 4, none⟩), by simp [execOp, Act.eval, e4, go_sem], rfl⟩
    · obtain rfl := Option.some.inj hi
      clear hi hlt hnA hnB
      intro a w1 hI hS hD
      have d13 : a.tmps.getD 28 undef = .pointer (some ⟨ob, 4, none⟩) := hD ⟨13, .data⟩ (by simp) rfl _ rfl
      exact ⟨rfl, .int .i64 x, by simp [execOp, Act.eval, d13, o4 w1 hI, go_sem], rfl⟩
    · obtain rfl := Option.some.inj hi
      clear hi hlt hnA hnB
      intro a w1 hI hS hD
      have e4 : a.tmps.getD 4 undef = .pointer (some ⟨ob, 0, none⟩) := (hS.slot 4 (by kernel_rfl)).trans s4
      exact ⟨rfl, .pointer (some ⟨ob, 5, none⟩), by simp [execOp, Act.eval, e4, go_sem], rfl⟩
    · obtain rfl := Option.some.inj hi
      clear hi hlt hnA hnB
      intro a w1 hI hS hD
      have d15 : a.tmps.getD 30 undef = .pointer (some ⟨ob, 5, none⟩) := hD ⟨15, .data⟩ (by simp) rfl _ rfl
      exact ⟨rfl, .int .i64 y, by simp [execOp, Act.eval, d15, o5 w1 hI, go_sem], rfl⟩
    · exact absurd rfl hnB
    · obtain rfl := Option.some.inj hi
      clear hi hlt hnA hnB
      intro a w1 hI hS hD
      have d8 : a.tmps.getD 23 undef = .int .i64 ev := hD ⟨8, .data⟩ (by simp) rfl _ rfl
      have d17 : a.tmps.getD 32 undef = .int .i64 ev := hD ⟨17, .data⟩ (by simp) rfl _ rfl
      exact ⟨rfl, .bool true, by simp [execOp, Act.eval, d8, d17, go_sem], rfl⟩
    · obtain rfl := Option.some.inj hi
      clear hi hlt hnA hnB
      intro a w1 hI hS hD
      have d18 : a.tmps.getD 33 undef = .bool true := hD ⟨18, .data⟩ (by simp) rfl _ rfl
      exact ⟨rfl, .bool true, by simp [execOp, Act.eval, d18, go_sem], rfl⟩

set_option maxRecDepth 100000 in
set_option maxHeartbeats 2000000 in
theorem step_r5 (pb ob p q : Nat) (s : ByteArray) (ev : Bool) (I0 I1 I2 : World → Prop) (w : World) (a0 : Act) (Q : Exit → Act → World → Prop) (hsz : a0.tmps.size = 121)
    (s3 : a0.tmps.getD 3 undef = .pointer (some ⟨pb, 0, none⟩))
    (s4 : a0.tmps.getD 4 undef = .pointer (some ⟨ob, 0, none⟩))
    (c0 : ∀ w1, I0 w1 ∨ I1 w1 ∨ I2 w1 → w1.cell? ⟨pb, 0, none⟩ = some (.pointer (some ⟨p, 0, none⟩)))
    (c1 : ∀ w1, I0 w1 ∨ I1 w1 ∨ I2 w1 → w1.cell? ⟨pb, 1, none⟩ = some (.pointer (some ⟨q, 0, none⟩)))
    (o2 : ∀ w1, I0 w1 ∨ I1 w1 ∨ I2 w1 → w1.cell? ⟨ob, 2, none⟩ = some (.string s))
    (h0 : I0 { w with drawn := w.drawn + 1 })
    (hA : ∀ w1, I0 w1 → Calls Try.prog 12 #[.pointer (some ⟨p, 0, none⟩), .string s] w1 fun e w2 => e = .returned (.bool ev) ∧ I1 w2)
    (hB : ∀ w1, I1 w1 → Calls Try.prog 18 #[.pointer (some ⟨q, 0, none⟩), .string s] w1 fun e w2 => e = .returned (.bool ev) ∧ I2 w2)
    (hQ : ∀ (v36 v37 v38 v39 v40 v41 v42 v43 v44 v45 v46 : Value) (w2 : World), I2 w2 → Q .normal ((((((((((((a0.put (some 36) v36).put (some 37) v37).put (some 38) v38).put (some 39) v39).put (some 40) v40).put (some 41) v41).put (some 42) v42).put (some 43) v43).put (some 44) v44).put (some 45) v45).put (some 46) v46).put (some 6) (.bool true)) w2) :
    Code.wp Try.prog ((Try.f9.body.bind (findRegion 5)).getD .skip) Q a0 w := by
  conv => arg 2; whnf
  refine wp_region_pair (fun i => ([.pointer (some ⟨pb, 0, none⟩), .pointer (some ⟨p, 0, none⟩), .pointer (some ⟨ob, 2, none⟩), .string s, .bool ev, .pointer (some ⟨pb, 1, none⟩), .pointer (some ⟨q, 0, none⟩), .pointer (some ⟨ob, 2, none⟩), .string s, .bool ev, .bool true, .bool true] : List Value).getD i undef) I0 I1 I2 4 9 (by kernel_rfl) (by kernel_rfl) (by kernel_rfl) (by rw [hsz]; kernel_rfl) (by decide) (of_decide_eq_true (by kernel_rfl)) (of_decide_eq_true (by kernel_rfl)) ?hwait h0 ?hop ?hcA ?hcB ?hdone
  case hwait =>
    intro oB hoB
    obtain rfl := Option.some.inj hoB
    exact ⟨⟨4, .chain⟩, by simp, rfl, rfl⟩
  case hdone =>
    intro a w1 hI hS hT
    have kl : a.tmps.getD 6 undef = .bool true := hT 11 _ rfl
    have he := same_puts hS
    have hQ2 := hQ (a.tmps.getD 36 undef) (a.tmps.getD 37 undef) (a.tmps.getD 38 undef) (a.tmps.getD 39 undef) (a.tmps.getD 40 undef) (a.tmps.getD 41 undef) (a.tmps.getD 42 undef) (a.tmps.getD 43 undef) (a.tmps.getD 44 undef) (a.tmps.getD 45 undef) (a.tmps.getD 46 undef) w1 hI
    rw [← kl] at hQ2
    rw [he]
    exact hQ2
  case hcA =>
    intro o ho
    obtain rfl := Option.some.inj ho
    intro a w1 hI hS hD
    have d1 : a.tmps.getD 37 undef = .pointer (some ⟨p, 0, none⟩) := hD ⟨1, .data⟩ (by simp) rfl _ rfl
    have d3 : a.tmps.getD 39 undef = .string s := hD ⟨3, .data⟩ (by simp) rfl _ rfl
    refine ⟨rfl, ?_⟩
    refine wp_call_r (f := 12) (args := #[.pointer (some ⟨p, 0, none⟩), .string s]) (by simp [execOp, resolve, Act.eval, d1, d3, go_sem]) ?_
    refine (hA w1 hI).mono ?_
    rintro e w2 ⟨rfl, h2⟩
    exact ⟨_, rfl, _, rfl, h2, rfl⟩
  case hcB =>
    intro o ho
    obtain rfl := Option.some.inj ho
    intro a w1 hI hS hD
    have d6 : a.tmps.getD 42 undef = .pointer (some ⟨q, 0, none⟩) := hD ⟨6, .data⟩ (by simp) rfl _ rfl
    have d8 : a.tmps.getD 44 undef = .string s := hD ⟨8, .data⟩ (by simp) rfl _ rfl
    refine ⟨rfl, ?_⟩
    refine wp_call_r (f := 18) (args := #[.pointer (some ⟨q, 0, none⟩), .string s]) (by simp [execOp, resolve, Act.eval, d6, d8, go_sem]) ?_
    refine (hB w1 hI).mono ?_
    rintro e w2 ⟨rfl, h2⟩
    exact ⟨_, rfl, _, rfl, h2, rfl⟩
  case hop =>
    intro i o hi hnA hnB
    have hlt : i < 12 := (Array.getElem?_eq_some_iff.1 hi).1
    rcases (show i = 0 ∨ i = 1 ∨ i = 2 ∨ i = 3 ∨ i = 4 ∨ i = 5 ∨ i = 6 ∨ i = 7 ∨ i = 8 ∨ i = 9 ∨ i = 10 ∨ i = 11 by omega) with rfl | rfl | rfl | rfl | rfl | rfl | rfl | rfl | rfl | rfl | rfl | rfl
    · obtain rfl := Option.some.inj hi
      clear hi hlt hnA hnB
      intro a w1 hI hS hD
      have e3 : a.tmps.getD 3 undef = .pointer (some ⟨pb, 0, none⟩) := (hS.slot 3 (by kernel_rfl)).trans s3
      exact ⟨rfl, .pointer (some ⟨pb, 0, none⟩), by simp [execOp, Act.eval, e3, go_sem], rfl⟩
    · obtain rfl := Option.some.inj hi
      clear hi hlt hnA hnB
      intro a w1 hI hS hD
      have d0 : a.tmps.getD 36 undef = .pointer (some ⟨pb, 0, none⟩) := hD ⟨0, .data⟩ (by simp) rfl _ rfl
      exact ⟨rfl, .pointer (some ⟨p, 0, none⟩), by simp [execOp, Act.eval, d0, c0 w1 hI, go_sem], rfl⟩
    · obtain rfl := Option.some.inj hi
      clear hi hlt hnA hnB
      intro a w1 hI hS hD
      have e4 : a.tmps.getD 4 undef = .pointer (some ⟨ob, 0, none⟩) := (hS.slot 4 (by kernel_rfl)).trans s4
      exact ⟨rfl, .pointer (some ⟨ob, 2, none⟩), by simp [execOp, Act.eval, e4, go_sem], rfl⟩
    · obtain rfl := Option.some.inj hi
      clear hi hlt hnA hnB
      intro a w1 hI hS hD
      have d2 : a.tmps.getD 38 undef = .pointer (some ⟨ob, 2, none⟩) := hD ⟨2, .data⟩ (by simp) rfl _ rfl
      exact ⟨rfl, .string s, by simp [execOp, Act.eval, d2, o2 w1 hI, go_sem], rfl⟩
    · exact absurd rfl hnA
    · obtain rfl := Option.some.inj hi
      clear hi hlt hnA hnB
      intro a w1 hI hS hD
      have e3 : a.tmps.getD 3 undef = .pointer (some ⟨pb, 0, none⟩) := (hS.slot 3 (by kernel_rfl)).trans s3
      exact ⟨rfl, .pointer (some ⟨pb, 1, none⟩), by simp [execOp, Act.eval, e3, go_sem], rfl⟩
    · obtain rfl := Option.some.inj hi
      clear hi hlt hnA hnB
      intro a w1 hI hS hD
      have d5 : a.tmps.getD 41 undef = .pointer (some ⟨pb, 1, none⟩) := hD ⟨5, .data⟩ (by simp) rfl _ rfl
      exact ⟨rfl, .pointer (some ⟨q, 0, none⟩), by simp [execOp, Act.eval, d5, c1 w1 hI, go_sem], rfl⟩
    · obtain rfl := Option.some.inj hi
      clear hi hlt hnA hnB
      intro a w1 hI hS hD
      have e4 : a.tmps.getD 4 undef = .pointer (some ⟨ob, 0, none⟩) := (hS.slot 4 (by kernel_rfl)).trans s4
      exact ⟨rfl, .pointer (some ⟨ob, 2, none⟩), by simp [execOp, Act.eval, e4, go_sem], rfl⟩
    · obtain rfl := Option.some.inj hi
      clear hi hlt hnA hnB
      intro a w1 hI hS hD
      have d7 : a.tmps.getD 43 undef = .pointer (some ⟨ob, 2, none⟩) := hD ⟨7, .data⟩ (by simp) rfl _ rfl
      exact ⟨rfl, .string s, by simp [execOp, Act.eval, d7, o2 w1 hI, go_sem], rfl⟩
    · exact absurd rfl hnB
    · obtain rfl := Option.some.inj hi
      clear hi hlt hnA hnB
      intro a w1 hI hS hD
      have d4 : a.tmps.getD 40 undef = .bool ev := hD ⟨4, .data⟩ (by simp) rfl _ rfl
      have d9 : a.tmps.getD 45 undef = .bool ev := hD ⟨9, .data⟩ (by simp) rfl _ rfl
      exact ⟨rfl, .bool true, by simp [execOp, Act.eval, d4, d9, go_sem], rfl⟩
    · obtain rfl := Option.some.inj hi
      clear hi hlt hnA hnB
      intro a w1 hI hS hD
      have d10 : a.tmps.getD 46 undef = .bool true := hD ⟨10, .data⟩ (by simp) rfl _ rfl
      exact ⟨rfl, .bool true, by simp [execOp, Act.eval, d10, go_sem], rfl⟩

set_option maxRecDepth 100000 in
set_option maxHeartbeats 2000000 in
theorem step_r8 (pb ob p q : Nat) (s : ByteArray) (n x y ev : Int) (I0 I1 I2 : World → Prop) (w : World) (a0 : Act) (Q : Exit → Act → World → Prop) (hsz : a0.tmps.size = 121)
    (s3 : a0.tmps.getD 3 undef = .pointer (some ⟨pb, 0, none⟩))
    (s4 : a0.tmps.getD 4 undef = .pointer (some ⟨ob, 0, none⟩))
    (c0 : ∀ w1, I0 w1 ∨ I1 w1 ∨ I2 w1 → w1.cell? ⟨pb, 0, none⟩ = some (.pointer (some ⟨p, 0, none⟩)))
    (c1 : ∀ w1, I0 w1 ∨ I1 w1 ∨ I2 w1 → w1.cell? ⟨pb, 1, none⟩ = some (.pointer (some ⟨q, 0, none⟩)))
    (o2 : ∀ w1, I0 w1 ∨ I1 w1 ∨ I2 w1 → w1.cell? ⟨ob, 2, none⟩ = some (.string s))
    (o3 : ∀ w1, I0 w1 ∨ I1 w1 ∨ I2 w1 → w1.cell? ⟨ob, 3, none⟩ = some (.int .i64 n))
    (o4 : ∀ w1, I0 w1 ∨ I1 w1 ∨ I2 w1 → w1.cell? ⟨ob, 4, none⟩ = some (.int .i64 x))
    (o5 : ∀ w1, I0 w1 ∨ I1 w1 ∨ I2 w1 → w1.cell? ⟨ob, 5, none⟩ = some (.int .i64 y))
    (h0 : I0 { w with drawn := w.drawn + 1 })
    (hA : ∀ w1, I0 w1 → Calls Try.prog 13 #[.pointer (some ⟨p, 0, none⟩), .string s, .int .i64 n, .int .i64 x, .int .i64 y] w1 fun e w2 => e = .returned (.int .i64 ev) ∧ I1 w2)
    (hB : ∀ w1, I1 w1 → Calls Try.prog 19 #[.pointer (some ⟨q, 0, none⟩), .string s, .int .i64 n, .int .i64 x, .int .i64 y] w1 fun e w2 => e = .returned (.int .i64 ev) ∧ I2 w2)
    (hQ : ∀ (v50 v51 v52 v53 v54 v55 v56 v57 v58 v59 v60 v61 v62 v63 v64 v65 v66 v67 v68 v69 v70 v71 v72 : Value) (w2 : World), I2 w2 → Q .normal ((((((((((((((((((((((((a0.put (some 50) v50).put (some 51) v51).put (some 52) v52).put (some 53) v53).put (some 54) v54).put (some 55) v55).put (some 56) v56).put (some 57) v57).put (some 58) v58).put (some 59) v59).put (some 60) v60).put (some 61) v61).put (some 62) v62).put (some 63) v63).put (some 64) v64).put (some 65) v65).put (some 66) v66).put (some 67) v67).put (some 68) v68).put (some 69) v69).put (some 70) v70).put (some 71) v71).put (some 72) v72).put (some 6) (.bool true)) w2) :
    Code.wp Try.prog ((Try.f9.body.bind (findRegion 8)).getD .skip) Q a0 w := by
  conv => arg 2; whnf
  refine wp_region_pair (fun i => ([.pointer (some ⟨pb, 0, none⟩), .pointer (some ⟨p, 0, none⟩), .pointer (some ⟨ob, 2, none⟩), .string s, .pointer (some ⟨ob, 3, none⟩), .int .i64 n, .pointer (some ⟨ob, 4, none⟩), .int .i64 x, .pointer (some ⟨ob, 5, none⟩), .int .i64 y, .int .i64 ev, .pointer (some ⟨pb, 1, none⟩), .pointer (some ⟨q, 0, none⟩), .pointer (some ⟨ob, 2, none⟩), .string s, .pointer (some ⟨ob, 3, none⟩), .int .i64 n, .pointer (some ⟨ob, 4, none⟩), .int .i64 x, .pointer (some ⟨ob, 5, none⟩), .int .i64 y, .int .i64 ev, .bool true, .bool true] : List Value).getD i undef) I0 I1 I2 10 21 (by kernel_rfl) (by kernel_rfl) (by kernel_rfl) (by rw [hsz]; kernel_rfl) (by decide) (of_decide_eq_true (by kernel_rfl)) (of_decide_eq_true (by kernel_rfl)) ?hwait h0 ?hop ?hcA ?hcB ?hdone
  case hwait =>
    intro oB hoB
    obtain rfl := Option.some.inj hoB
    exact ⟨⟨10, .chain⟩, by simp, rfl, rfl⟩
  case hdone =>
    intro a w1 hI hS hT
    have kl : a.tmps.getD 6 undef = .bool true := hT 23 _ rfl
    have he := same_puts hS
    have hQ2 := hQ (a.tmps.getD 50 undef) (a.tmps.getD 51 undef) (a.tmps.getD 52 undef) (a.tmps.getD 53 undef) (a.tmps.getD 54 undef) (a.tmps.getD 55 undef) (a.tmps.getD 56 undef) (a.tmps.getD 57 undef) (a.tmps.getD 58 undef) (a.tmps.getD 59 undef) (a.tmps.getD 60 undef) (a.tmps.getD 61 undef) (a.tmps.getD 62 undef) (a.tmps.getD 63 undef) (a.tmps.getD 64 undef) (a.tmps.getD 65 undef) (a.tmps.getD 66 undef) (a.tmps.getD 67 undef) (a.tmps.getD 68 undef) (a.tmps.getD 69 undef) (a.tmps.getD 70 undef) (a.tmps.getD 71 undef) (a.tmps.getD 72 undef) w1 hI
    rw [← kl] at hQ2
    rw [he]
    exact hQ2
  case hcA =>
    intro o ho
    obtain rfl := Option.some.inj ho
    intro a w1 hI hS hD
    have d1 : a.tmps.getD 51 undef = .pointer (some ⟨p, 0, none⟩) := hD ⟨1, .data⟩ (by simp) rfl _ rfl
    have d3 : a.tmps.getD 53 undef = .string s := hD ⟨3, .data⟩ (by simp) rfl _ rfl
    have d5 : a.tmps.getD 55 undef = .int .i64 n := hD ⟨5, .data⟩ (by simp) rfl _ rfl
    have d7 : a.tmps.getD 57 undef = .int .i64 x := hD ⟨7, .data⟩ (by simp) rfl _ rfl
    have d9 : a.tmps.getD 59 undef = .int .i64 y := hD ⟨9, .data⟩ (by simp) rfl _ rfl
    refine ⟨rfl, ?_⟩
    refine wp_call_r (f := 13) (args := #[.pointer (some ⟨p, 0, none⟩), .string s, .int .i64 n, .int .i64 x, .int .i64 y]) (by simp [execOp, resolve, Act.eval, d1, d3, d5, d7, d9, go_sem]) ?_
    refine (hA w1 hI).mono ?_
    rintro e w2 ⟨rfl, h2⟩
    exact ⟨_, rfl, _, rfl, h2, rfl⟩
  case hcB =>
    intro o ho
    obtain rfl := Option.some.inj ho
    intro a w1 hI hS hD
    have d12 : a.tmps.getD 62 undef = .pointer (some ⟨q, 0, none⟩) := hD ⟨12, .data⟩ (by simp) rfl _ rfl
    have d14 : a.tmps.getD 64 undef = .string s := hD ⟨14, .data⟩ (by simp) rfl _ rfl
    have d16 : a.tmps.getD 66 undef = .int .i64 n := hD ⟨16, .data⟩ (by simp) rfl _ rfl
    have d18 : a.tmps.getD 68 undef = .int .i64 x := hD ⟨18, .data⟩ (by simp) rfl _ rfl
    have d20 : a.tmps.getD 70 undef = .int .i64 y := hD ⟨20, .data⟩ (by simp) rfl _ rfl
    refine ⟨rfl, ?_⟩
    refine wp_call_r (f := 19) (args := #[.pointer (some ⟨q, 0, none⟩), .string s, .int .i64 n, .int .i64 x, .int .i64 y]) (by simp [execOp, resolve, Act.eval, d12, d14, d16, d18, d20, go_sem]) ?_
    refine (hB w1 hI).mono ?_
    rintro e w2 ⟨rfl, h2⟩
    exact ⟨_, rfl, _, rfl, h2, rfl⟩
  case hop =>
    intro i o hi hnA hnB
    have hlt : i < 24 := (Array.getElem?_eq_some_iff.1 hi).1
    rcases (show i = 0 ∨ i = 1 ∨ i = 2 ∨ i = 3 ∨ i = 4 ∨ i = 5 ∨ i = 6 ∨ i = 7 ∨ i = 8 ∨ i = 9 ∨ i = 10 ∨ i = 11 ∨ i = 12 ∨ i = 13 ∨ i = 14 ∨ i = 15 ∨ i = 16 ∨ i = 17 ∨ i = 18 ∨ i = 19 ∨ i = 20 ∨ i = 21 ∨ i = 22 ∨ i = 23 by omega) with rfl | rfl | rfl | rfl | rfl | rfl | rfl | rfl | rfl | rfl | rfl | rfl | rfl | rfl | rfl | rfl | rfl | rfl | rfl | rfl | rfl | rfl | rfl | rfl
    · obtain rfl := Option.some.inj hi
      clear hi hlt hnA hnB
      intro a w1 hI hS hD
      have e3 : a.tmps.getD 3 undef = .pointer (some ⟨pb, 0, none⟩) := (hS.slot 3 (by kernel_rfl)).trans s3
      exact ⟨rfl, .pointer (some ⟨pb, 0, none⟩), by simp [execOp, Act.eval, e3, go_sem], rfl⟩
    · obtain rfl := Option.some.inj hi
      clear hi hlt hnA hnB
      intro a w1 hI hS hD
      have d0 : a.tmps.getD 50 undef = .pointer (some ⟨pb, 0, none⟩) := hD ⟨0, .data⟩ (by simp) rfl _ rfl
      exact ⟨rfl, .pointer (some ⟨p, 0, none⟩), by simp [execOp, Act.eval, d0, c0 w1 hI, go_sem], rfl⟩
    · obtain rfl := Option.some.inj hi
      clear hi hlt hnA hnB
      intro a w1 hI hS hD
      have e4 : a.tmps.getD 4 undef = .pointer (some ⟨ob, 0, none⟩) := (hS.slot 4 (by kernel_rfl)).trans s4
      exact ⟨rfl, .pointer (some ⟨ob, 2, none⟩), by simp [execOp, Act.eval, e4, go_sem], rfl⟩
    · obtain rfl := Option.some.inj hi
      clear hi hlt hnA hnB
      intro a w1 hI hS hD
      have d2 : a.tmps.getD 52 undef = .pointer (some ⟨ob, 2, none⟩) := hD ⟨2, .data⟩ (by simp) rfl _ rfl
      exact ⟨rfl, .string s, by simp [execOp, Act.eval, d2, o2 w1 hI, go_sem], rfl⟩
    · obtain rfl := Option.some.inj hi
      clear hi hlt hnA hnB
      intro a w1 hI hS hD
      have e4 : a.tmps.getD 4 undef = .pointer (some ⟨ob, 0, none⟩) := (hS.slot 4 (by kernel_rfl)).trans s4
      exact ⟨rfl, .pointer (some ⟨ob, 3, none⟩), by simp [execOp, Act.eval, e4, go_sem], rfl⟩
    · obtain rfl := Option.some.inj hi
      clear hi hlt hnA hnB
      intro a w1 hI hS hD
      have d4 : a.tmps.getD 54 undef = .pointer (some ⟨ob, 3, none⟩) := hD ⟨4, .data⟩ (by simp) rfl _ rfl
      exact ⟨rfl, .int .i64 n, by simp [execOp, Act.eval, d4, o3 w1 hI, go_sem], rfl⟩
    · obtain rfl := Option.some.inj hi
      clear hi hlt hnA hnB
      intro a w1 hI hS hD
      have e4 : a.tmps.getD 4 undef = .pointer (some ⟨ob, 0, none⟩) := (hS.slot 4 (by kernel_rfl)).trans s4
      exact ⟨rfl, .pointer (some ⟨ob, 4, none⟩), by simp [execOp, Act.eval, e4, go_sem], rfl⟩
    · obtain rfl := Option.some.inj hi
      clear hi hlt hnA hnB
      intro a w1 hI hS hD
      have d6 : a.tmps.getD 56 undef = .pointer (some ⟨ob, 4, none⟩) := hD ⟨6, .data⟩ (by simp) rfl _ rfl
      exact ⟨rfl, .int .i64 x, by simp [execOp, Act.eval, d6, o4 w1 hI, go_sem], rfl⟩
    · obtain rfl := Option.some.inj hi
      clear hi hlt hnA hnB
      intro a w1 hI hS hD
      have e4 : a.tmps.getD 4 undef = .pointer (some ⟨ob, 0, none⟩) := (hS.slot 4 (by kernel_rfl)).trans s4
      exact ⟨rfl, .pointer (some ⟨ob, 5, none⟩), by simp [execOp, Act.eval, e4, go_sem], rfl⟩
    · obtain rfl := Option.some.inj hi
      clear hi hlt hnA hnB
      intro a w1 hI hS hD
      have d8 : a.tmps.getD 58 undef = .pointer (some ⟨ob, 5, none⟩) := hD ⟨8, .data⟩ (by simp) rfl _ rfl
      exact ⟨rfl, .int .i64 y, by simp [execOp, Act.eval, d8, o5 w1 hI, go_sem], rfl⟩
    · exact absurd rfl hnA
    · obtain rfl := Option.some.inj hi
      clear hi hlt hnA hnB
      intro a w1 hI hS hD
      have e3 : a.tmps.getD 3 undef = .pointer (some ⟨pb, 0, none⟩) := (hS.slot 3 (by kernel_rfl)).trans s3
      exact ⟨rfl, .pointer (some ⟨pb, 1, none⟩), by simp [execOp, Act.eval, e3, go_sem], rfl⟩
    · obtain rfl := Option.some.inj hi
      clear hi hlt hnA hnB
      intro a w1 hI hS hD
      have d11 : a.tmps.getD 61 undef = .pointer (some ⟨pb, 1, none⟩) := hD ⟨11, .data⟩ (by simp) rfl _ rfl
      exact ⟨rfl, .pointer (some ⟨q, 0, none⟩), by simp [execOp, Act.eval, d11, c1 w1 hI, go_sem], rfl⟩
    · obtain rfl := Option.some.inj hi
      clear hi hlt hnA hnB
      intro a w1 hI hS hD
      have e4 : a.tmps.getD 4 undef = .pointer (some ⟨ob, 0, none⟩) := (hS.slot 4 (by kernel_rfl)).trans s4
      exact ⟨rfl, .pointer (some ⟨ob, 2, none⟩), by simp [execOp, Act.eval, e4, go_sem], rfl⟩
    · obtain rfl := Option.some.inj hi
      clear hi hlt hnA hnB
      intro a w1 hI hS hD
      have d13 : a.tmps.getD 63 undef = .pointer (some ⟨ob, 2, none⟩) := hD ⟨13, .data⟩ (by simp) rfl _ rfl
      exact ⟨rfl, .string s, by simp [execOp, Act.eval, d13, o2 w1 hI, go_sem], rfl⟩
    · obtain rfl := Option.some.inj hi
      clear hi hlt hnA hnB
      intro a w1 hI hS hD
      have e4 : a.tmps.getD 4 undef = .pointer (some ⟨ob, 0, none⟩) := (hS.slot 4 (by kernel_rfl)).trans s4
      exact ⟨rfl, .pointer (some ⟨ob, 3, none⟩), by simp [execOp, Act.eval, e4, go_sem], rfl⟩
    · obtain rfl := Option.some.inj hi
      clear hi hlt hnA hnB
      intro a w1 hI hS hD
      have d15 : a.tmps.getD 65 undef = .pointer (some ⟨ob, 3, none⟩) := hD ⟨15, .data⟩ (by simp) rfl _ rfl
      exact ⟨rfl, .int .i64 n, by simp [execOp, Act.eval, d15, o3 w1 hI, go_sem], rfl⟩
    · obtain rfl := Option.some.inj hi
      clear hi hlt hnA hnB
      intro a w1 hI hS hD
      have e4 : a.tmps.getD 4 undef = .pointer (some ⟨ob, 0, none⟩) := (hS.slot 4 (by kernel_rfl)).trans s4
      exact ⟨rfl, .pointer (some ⟨ob, 4, none⟩), by simp [execOp, Act.eval, e4, go_sem], rfl⟩
    · obtain rfl := Option.some.inj hi
      clear hi hlt hnA hnB
      intro a w1 hI hS hD
      have d17 : a.tmps.getD 67 undef = .pointer (some ⟨ob, 4, none⟩) := hD ⟨17, .data⟩ (by simp) rfl _ rfl
      exact ⟨rfl, .int .i64 x, by simp [execOp, Act.eval, d17, o4 w1 hI, go_sem], rfl⟩
    · obtain rfl := Option.some.inj hi
      clear hi hlt hnA hnB
      intro a w1 hI hS hD
      have e4 : a.tmps.getD 4 undef = .pointer (some ⟨ob, 0, none⟩) := (hS.slot 4 (by kernel_rfl)).trans s4
      exact ⟨rfl, .pointer (some ⟨ob, 5, none⟩), by simp [execOp, Act.eval, e4, go_sem], rfl⟩
    · obtain rfl := Option.some.inj hi
      clear hi hlt hnA hnB
      intro a w1 hI hS hD
      have d19 : a.tmps.getD 69 undef = .pointer (some ⟨ob, 5, none⟩) := hD ⟨19, .data⟩ (by simp) rfl _ rfl
      exact ⟨rfl, .int .i64 y, by simp [execOp, Act.eval, d19, o5 w1 hI, go_sem], rfl⟩
    · exact absurd rfl hnB
    · obtain rfl := Option.some.inj hi
      clear hi hlt hnA hnB
      intro a w1 hI hS hD
      have d10 : a.tmps.getD 60 undef = .int .i64 ev := hD ⟨10, .data⟩ (by simp) rfl _ rfl
      have d21 : a.tmps.getD 71 undef = .int .i64 ev := hD ⟨21, .data⟩ (by simp) rfl _ rfl
      exact ⟨rfl, .bool true, by simp [execOp, Act.eval, d10, d21, go_sem], rfl⟩
    · obtain rfl := Option.some.inj hi
      clear hi hlt hnA hnB
      intro a w1 hI hS hD
      have d22 : a.tmps.getD 72 undef = .bool true := hD ⟨22, .data⟩ (by simp) rfl _ rfl
      exact ⟨rfl, .bool true, by simp [execOp, Act.eval, d22, go_sem], rfl⟩

set_option maxRecDepth 100000 in
set_option maxHeartbeats 2000000 in
theorem step_r10 (pb ob p q : Nat) (s : ByteArray) (m1 m2 m3 m4 m5 ev : Int) (I0 I1 I2 : World → Prop) (w : World) (a0 : Act) (Q : Exit → Act → World → Prop) (hsz : a0.tmps.size = 121)
    (s3 : a0.tmps.getD 3 undef = .pointer (some ⟨pb, 0, none⟩))
    (s4 : a0.tmps.getD 4 undef = .pointer (some ⟨ob, 0, none⟩))
    (c0 : ∀ w1, I0 w1 ∨ I1 w1 ∨ I2 w1 → w1.cell? ⟨pb, 0, none⟩ = some (.pointer (some ⟨p, 0, none⟩)))
    (c1 : ∀ w1, I0 w1 ∨ I1 w1 ∨ I2 w1 → w1.cell? ⟨pb, 1, none⟩ = some (.pointer (some ⟨q, 0, none⟩)))
    (o2 : ∀ w1, I0 w1 ∨ I1 w1 ∨ I2 w1 → w1.cell? ⟨ob, 2, none⟩ = some (.string s))
    (o6 : ∀ w1, I0 w1 ∨ I1 w1 ∨ I2 w1 → w1.cell? ⟨ob, 6, none⟩ = some (.int .i64 m1))
    (o7 : ∀ w1, I0 w1 ∨ I1 w1 ∨ I2 w1 → w1.cell? ⟨ob, 7, none⟩ = some (.int .i64 m2))
    (o8 : ∀ w1, I0 w1 ∨ I1 w1 ∨ I2 w1 → w1.cell? ⟨ob, 8, none⟩ = some (.int .i64 m3))
    (o9 : ∀ w1, I0 w1 ∨ I1 w1 ∨ I2 w1 → w1.cell? ⟨ob, 9, none⟩ = some (.int .i64 m4))
    (o10 : ∀ w1, I0 w1 ∨ I1 w1 ∨ I2 w1 → w1.cell? ⟨ob, 10, none⟩ = some (.int .i64 m5))
    (h0 : I0 { w with drawn := w.drawn + 1 })
    (hA : ∀ w1, I0 w1 → Calls Try.prog 14 #[.pointer (some ⟨p, 0, none⟩), .string s, .agg #[.int .i64 m1, .int .i64 m2, .int .i64 m3, .int .i64 m4, .int .i64 m5]] w1 fun e w2 => e = .returned (.int .i64 ev) ∧ I1 w2)
    (hB : ∀ w1, I1 w1 → Calls Try.prog 20 #[.pointer (some ⟨q, 0, none⟩), .string s, .agg #[.int .i64 m1, .int .i64 m2, .int .i64 m3, .int .i64 m4, .int .i64 m5]] w1 fun e w2 => e = .returned (.int .i64 ev) ∧ I2 w2)
    (hQ : ∀ (v75 v76 v77 v78 v79 v80 v81 v82 v83 v84 v85 v86 v87 v88 v89 : Value) (w2 : World), I2 w2 → Q .normal ((((((((((((((((a0.put (some 75) v75).put (some 76) v76).put (some 77) v77).put (some 78) v78).put (some 79) v79).put (some 80) v80).put (some 81) v81).put (some 82) v82).put (some 83) v83).put (some 84) v84).put (some 85) v85).put (some 86) v86).put (some 87) v87).put (some 88) v88).put (some 89) v89).put (some 6) (.bool true)) w2) :
    Code.wp Try.prog ((Try.f9.body.bind (findRegion 10)).getD .skip) Q a0 w := by
  conv => arg 2; whnf
  refine wp_region_pair (fun i => ([.pointer (some ⟨pb, 0, none⟩), .pointer (some ⟨p, 0, none⟩), .pointer (some ⟨ob, 2, none⟩), .string s, .pointer (some ⟨ob, 6, none⟩), .agg #[.int .i64 m1, .int .i64 m2, .int .i64 m3, .int .i64 m4, .int .i64 m5], .int .i64 ev, .pointer (some ⟨pb, 1, none⟩), .pointer (some ⟨q, 0, none⟩), .pointer (some ⟨ob, 2, none⟩), .string s, .pointer (some ⟨ob, 6, none⟩), .agg #[.int .i64 m1, .int .i64 m2, .int .i64 m3, .int .i64 m4, .int .i64 m5], .int .i64 ev, .bool true, .bool true] : List Value).getD i undef) I0 I1 I2 6 13 (by kernel_rfl) (by kernel_rfl) (by kernel_rfl) (by rw [hsz]; kernel_rfl) (by decide) (of_decide_eq_true (by kernel_rfl)) (of_decide_eq_true (by kernel_rfl)) ?hwait h0 ?hop ?hcA ?hcB ?hdone
  case hwait =>
    intro oB hoB
    obtain rfl := Option.some.inj hoB
    exact ⟨⟨6, .chain⟩, by simp, rfl, rfl⟩
  case hdone =>
    intro a w1 hI hS hT
    have kl : a.tmps.getD 6 undef = .bool true := hT 15 _ rfl
    have he := same_puts hS
    have hQ2 := hQ (a.tmps.getD 75 undef) (a.tmps.getD 76 undef) (a.tmps.getD 77 undef) (a.tmps.getD 78 undef) (a.tmps.getD 79 undef) (a.tmps.getD 80 undef) (a.tmps.getD 81 undef) (a.tmps.getD 82 undef) (a.tmps.getD 83 undef) (a.tmps.getD 84 undef) (a.tmps.getD 85 undef) (a.tmps.getD 86 undef) (a.tmps.getD 87 undef) (a.tmps.getD 88 undef) (a.tmps.getD 89 undef) w1 hI
    rw [← kl] at hQ2
    rw [he]
    exact hQ2
  case hcA =>
    intro o ho
    obtain rfl := Option.some.inj ho
    intro a w1 hI hS hD
    have d1 : a.tmps.getD 76 undef = .pointer (some ⟨p, 0, none⟩) := hD ⟨1, .data⟩ (by simp) rfl _ rfl
    have d3 : a.tmps.getD 78 undef = .string s := hD ⟨3, .data⟩ (by simp) rfl _ rfl
    have d5 : a.tmps.getD 80 undef = .agg #[.int .i64 m1, .int .i64 m2, .int .i64 m3, .int .i64 m4, .int .i64 m5] := hD ⟨5, .data⟩ (by simp) rfl _ rfl
    refine ⟨rfl, ?_⟩
    refine wp_call_r (f := 14) (args := #[.pointer (some ⟨p, 0, none⟩), .string s, .agg #[.int .i64 m1, .int .i64 m2, .int .i64 m3, .int .i64 m4, .int .i64 m5]]) (by simp [execOp, resolve, Act.eval, d1, d3, d5, go_sem]) ?_
    refine (hA w1 hI).mono ?_
    rintro e w2 ⟨rfl, h2⟩
    exact ⟨_, rfl, _, rfl, h2, rfl⟩
  case hcB =>
    intro o ho
    obtain rfl := Option.some.inj ho
    intro a w1 hI hS hD
    have d8 : a.tmps.getD 83 undef = .pointer (some ⟨q, 0, none⟩) := hD ⟨8, .data⟩ (by simp) rfl _ rfl
    have d10 : a.tmps.getD 85 undef = .string s := hD ⟨10, .data⟩ (by simp) rfl _ rfl
    have d12 : a.tmps.getD 87 undef = .agg #[.int .i64 m1, .int .i64 m2, .int .i64 m3, .int .i64 m4, .int .i64 m5] := hD ⟨12, .data⟩ (by simp) rfl _ rfl
    refine ⟨rfl, ?_⟩
    refine wp_call_r (f := 20) (args := #[.pointer (some ⟨q, 0, none⟩), .string s, .agg #[.int .i64 m1, .int .i64 m2, .int .i64 m3, .int .i64 m4, .int .i64 m5]]) (by simp [execOp, resolve, Act.eval, d8, d10, d12, go_sem]) ?_
    refine (hB w1 hI).mono ?_
    rintro e w2 ⟨rfl, h2⟩
    exact ⟨_, rfl, _, rfl, h2, rfl⟩
  case hop =>
    intro i o hi hnA hnB
    have hlt : i < 16 := (Array.getElem?_eq_some_iff.1 hi).1
    rcases (show i = 0 ∨ i = 1 ∨ i = 2 ∨ i = 3 ∨ i = 4 ∨ i = 5 ∨ i = 6 ∨ i = 7 ∨ i = 8 ∨ i = 9 ∨ i = 10 ∨ i = 11 ∨ i = 12 ∨ i = 13 ∨ i = 14 ∨ i = 15 by omega) with rfl | rfl | rfl | rfl | rfl | rfl | rfl | rfl | rfl | rfl | rfl | rfl | rfl | rfl | rfl | rfl
    · obtain rfl := Option.some.inj hi
      clear hi hlt hnA hnB
      intro a w1 hI hS hD
      have e3 : a.tmps.getD 3 undef = .pointer (some ⟨pb, 0, none⟩) := (hS.slot 3 (by kernel_rfl)).trans s3
      exact ⟨rfl, .pointer (some ⟨pb, 0, none⟩), by simp [execOp, Act.eval, e3, go_sem], rfl⟩
    · obtain rfl := Option.some.inj hi
      clear hi hlt hnA hnB
      intro a w1 hI hS hD
      have d0 : a.tmps.getD 75 undef = .pointer (some ⟨pb, 0, none⟩) := hD ⟨0, .data⟩ (by simp) rfl _ rfl
      exact ⟨rfl, .pointer (some ⟨p, 0, none⟩), by simp [execOp, Act.eval, d0, c0 w1 hI, go_sem], rfl⟩
    · obtain rfl := Option.some.inj hi
      clear hi hlt hnA hnB
      intro a w1 hI hS hD
      have e4 : a.tmps.getD 4 undef = .pointer (some ⟨ob, 0, none⟩) := (hS.slot 4 (by kernel_rfl)).trans s4
      exact ⟨rfl, .pointer (some ⟨ob, 2, none⟩), by simp [execOp, Act.eval, e4, go_sem], rfl⟩
    · obtain rfl := Option.some.inj hi
      clear hi hlt hnA hnB
      intro a w1 hI hS hD
      have d2 : a.tmps.getD 77 undef = .pointer (some ⟨ob, 2, none⟩) := hD ⟨2, .data⟩ (by simp) rfl _ rfl
      exact ⟨rfl, .string s, by simp [execOp, Act.eval, d2, o2 w1 hI, go_sem], rfl⟩
    · obtain rfl := Option.some.inj hi
      clear hi hlt hnA hnB
      intro a w1 hI hS hD
      have e4 : a.tmps.getD 4 undef = .pointer (some ⟨ob, 0, none⟩) := (hS.slot 4 (by kernel_rfl)).trans s4
      exact ⟨rfl, .pointer (some ⟨ob, 6, none⟩), by simp [execOp, Act.eval, e4, go_sem], rfl⟩
    · obtain rfl := Option.some.inj hi
      clear hi hlt hnA hnB
      intro a w1 hI hS hD
      have d4 : a.tmps.getD 79 undef = .pointer (some ⟨ob, 6, none⟩) := hD ⟨4, .data⟩ (by simp) rfl _ rfl
      exact ⟨rfl, .agg #[.int .i64 m1, .int .i64 m2, .int .i64 m3, .int .i64 m4, .int .i64 m5], by simp [execOp, Act.eval, d4, o6 w1 hI, o7 w1 hI, o8 w1 hI, o9 w1 hI, o10 w1 hI, go_sem], rfl⟩
    · exact absurd rfl hnA
    · obtain rfl := Option.some.inj hi
      clear hi hlt hnA hnB
      intro a w1 hI hS hD
      have e3 : a.tmps.getD 3 undef = .pointer (some ⟨pb, 0, none⟩) := (hS.slot 3 (by kernel_rfl)).trans s3
      exact ⟨rfl, .pointer (some ⟨pb, 1, none⟩), by simp [execOp, Act.eval, e3, go_sem], rfl⟩
    · obtain rfl := Option.some.inj hi
      clear hi hlt hnA hnB
      intro a w1 hI hS hD
      have d7 : a.tmps.getD 82 undef = .pointer (some ⟨pb, 1, none⟩) := hD ⟨7, .data⟩ (by simp) rfl _ rfl
      exact ⟨rfl, .pointer (some ⟨q, 0, none⟩), by simp [execOp, Act.eval, d7, c1 w1 hI, go_sem], rfl⟩
    · obtain rfl := Option.some.inj hi
      clear hi hlt hnA hnB
      intro a w1 hI hS hD
      have e4 : a.tmps.getD 4 undef = .pointer (some ⟨ob, 0, none⟩) := (hS.slot 4 (by kernel_rfl)).trans s4
      exact ⟨rfl, .pointer (some ⟨ob, 2, none⟩), by simp [execOp, Act.eval, e4, go_sem], rfl⟩
    · obtain rfl := Option.some.inj hi
      clear hi hlt hnA hnB
      intro a w1 hI hS hD
      have d9 : a.tmps.getD 84 undef = .pointer (some ⟨ob, 2, none⟩) := hD ⟨9, .data⟩ (by simp) rfl _ rfl
      exact ⟨rfl, .string s, by simp [execOp, Act.eval, d9, o2 w1 hI, go_sem], rfl⟩
    · obtain rfl := Option.some.inj hi
      clear hi hlt hnA hnB
      intro a w1 hI hS hD
      have e4 : a.tmps.getD 4 undef = .pointer (some ⟨ob, 0, none⟩) := (hS.slot 4 (by kernel_rfl)).trans s4
      exact ⟨rfl, .pointer (some ⟨ob, 6, none⟩), by simp [execOp, Act.eval, e4, go_sem], rfl⟩
    · obtain rfl := Option.some.inj hi
      clear hi hlt hnA hnB
      intro a w1 hI hS hD
      have d11 : a.tmps.getD 86 undef = .pointer (some ⟨ob, 6, none⟩) := hD ⟨11, .data⟩ (by simp) rfl _ rfl
      exact ⟨rfl, .agg #[.int .i64 m1, .int .i64 m2, .int .i64 m3, .int .i64 m4, .int .i64 m5], by simp [execOp, Act.eval, d11, o6 w1 hI, o7 w1 hI, o8 w1 hI, o9 w1 hI, o10 w1 hI, go_sem], rfl⟩
    · exact absurd rfl hnB
    · obtain rfl := Option.some.inj hi
      clear hi hlt hnA hnB
      intro a w1 hI hS hD
      have d6 : a.tmps.getD 81 undef = .int .i64 ev := hD ⟨6, .data⟩ (by simp) rfl _ rfl
      have d13 : a.tmps.getD 88 undef = .int .i64 ev := hD ⟨13, .data⟩ (by simp) rfl _ rfl
      exact ⟨rfl, .bool true, by simp [execOp, Act.eval, d6, d13, go_sem], rfl⟩
    · obtain rfl := Option.some.inj hi
      clear hi hlt hnA hnB
      intro a w1 hI hS hD
      have d14 : a.tmps.getD 89 undef = .bool true := hD ⟨14, .data⟩ (by simp) rfl _ rfl
      exact ⟨rfl, .bool true, by simp [execOp, Act.eval, d14, go_sem], rfl⟩

set_option maxRecDepth 100000 in
set_option maxHeartbeats 2000000 in
theorem step_r14 (pc ob xa xb p q : Nat) (s : ByteArray) (m1 m2 m3 m4 m5 ev : Int) (I0 I1 I2 : World → Prop) (w : World) (a0 : Act) (Q : Exit → Act → World → Prop) (hsz : a0.tmps.size = 121)
    (s4 : a0.tmps.getD 4 undef = .pointer (some ⟨ob, 0, none⟩))
    (s5 : a0.tmps.getD 5 undef = .pointer (some ⟨pc, 0, none⟩))
    (s7 : a0.tmps.getD 7 undef = .pointer (some ⟨xa, 0, none⟩))
    (s9 : a0.tmps.getD 9 undef = .pointer (some ⟨xb, 0, none⟩))
    (c0 : ∀ w1, I0 w1 ∨ I1 w1 ∨ I2 w1 → w1.cell? ⟨pc, 0, none⟩ = some (.pointer (some ⟨p, 0, none⟩)))
    (c1 : ∀ w1, I0 w1 ∨ I1 w1 ∨ I2 w1 → w1.cell? ⟨pc, 1, none⟩ = some (.pointer (some ⟨q, 0, none⟩)))
    (o2 : ∀ w1, I0 w1 ∨ I1 w1 ∨ I2 w1 → w1.cell? ⟨ob, 2, none⟩ = some (.string s))
    (xa0 : ∀ w1, I0 w1 ∨ I1 w1 ∨ I2 w1 → w1.cell? ⟨xa, 0, none⟩ = some (.int .i64 m1))
    (xa1 : ∀ w1, I0 w1 ∨ I1 w1 ∨ I2 w1 → w1.cell? ⟨xa, 1, none⟩ = some (.int .i64 m2))
    (xa2 : ∀ w1, I0 w1 ∨ I1 w1 ∨ I2 w1 → w1.cell? ⟨xa, 2, none⟩ = some (.int .i64 m3))
    (xa3 : ∀ w1, I0 w1 ∨ I1 w1 ∨ I2 w1 → w1.cell? ⟨xa, 3, none⟩ = some (.int .i64 m4))
    (xa4 : ∀ w1, I0 w1 ∨ I1 w1 ∨ I2 w1 → w1.cell? ⟨xa, 4, none⟩ = some (.int .i64 m5))
    (xb0 : ∀ w1, I0 w1 ∨ I1 w1 ∨ I2 w1 → w1.cell? ⟨xb, 0, none⟩ = some (.int .i64 m1))
    (xb1 : ∀ w1, I0 w1 ∨ I1 w1 ∨ I2 w1 → w1.cell? ⟨xb, 1, none⟩ = some (.int .i64 m2))
    (xb2 : ∀ w1, I0 w1 ∨ I1 w1 ∨ I2 w1 → w1.cell? ⟨xb, 2, none⟩ = some (.int .i64 m3))
    (xb3 : ∀ w1, I0 w1 ∨ I1 w1 ∨ I2 w1 → w1.cell? ⟨xb, 3, none⟩ = some (.int .i64 m4))
    (xb4 : ∀ w1, I0 w1 ∨ I1 w1 ∨ I2 w1 → w1.cell? ⟨xb, 4, none⟩ = some (.int .i64 m5))
    (h0 : I0 { w with drawn := w.drawn + 1 })
    (hA : ∀ w1, I0 w1 → Calls Try.prog 14 #[.pointer (some ⟨p, 0, none⟩), .string s, .agg #[.int .i64 m1, .int .i64 m2, .int .i64 m3, .int .i64 m4, .int .i64 m5]] w1 fun e w2 => e = .returned (.int .i64 ev) ∧ I1 w2)
    (hB : ∀ w1, I1 w1 → Calls Try.prog 20 #[.pointer (some ⟨q, 0, none⟩), .string s, .agg #[.int .i64 m1, .int .i64 m2, .int .i64 m3, .int .i64 m4, .int .i64 m5]] w1 fun e w2 => e = .returned (.int .i64 ev) ∧ I2 w2)
    (hQ : ∀ (v108 v109 v110 v111 v112 v113 v114 v115 v116 v117 v118 v119 v120 : Value) (w2 : World), I2 w2 → Q .normal ((((((((((((((a0.put (some 108) v108).put (some 109) v109).put (some 110) v110).put (some 111) v111).put (some 112) v112).put (some 113) v113).put (some 114) v114).put (some 115) v115).put (some 116) v116).put (some 117) v117).put (some 118) v118).put (some 119) v119).put (some 120) v120).put (some 6) (.bool true)) w2) :
    Code.wp Try.prog ((Try.f9.body.bind (findRegion 14)).getD .skip) Q a0 w := by
  conv => arg 2; whnf
  refine wp_region_pair (fun i => ([.pointer (some ⟨pc, 0, none⟩), .pointer (some ⟨p, 0, none⟩), .pointer (some ⟨ob, 2, none⟩), .string s, .agg #[.int .i64 m1, .int .i64 m2, .int .i64 m3, .int .i64 m4, .int .i64 m5], .int .i64 ev, .pointer (some ⟨pc, 1, none⟩), .pointer (some ⟨q, 0, none⟩), .pointer (some ⟨ob, 2, none⟩), .string s, .agg #[.int .i64 m1, .int .i64 m2, .int .i64 m3, .int .i64 m4, .int .i64 m5], .int .i64 ev, .bool true, .bool true] : List Value).getD i undef) I0 I1 I2 5 11 (by kernel_rfl) (by kernel_rfl) (by kernel_rfl) (by rw [hsz]; kernel_rfl) (by decide) (of_decide_eq_true (by kernel_rfl)) (of_decide_eq_true (by kernel_rfl)) ?hwait h0 ?hop ?hcA ?hcB ?hdone
  case hwait =>
    intro oB hoB
    obtain rfl := Option.some.inj hoB
    exact ⟨⟨5, .chain⟩, by simp, rfl, rfl⟩
  case hdone =>
    intro a w1 hI hS hT
    have kl : a.tmps.getD 6 undef = .bool true := hT 13 _ rfl
    have he := same_puts hS
    have hQ2 := hQ (a.tmps.getD 108 undef) (a.tmps.getD 109 undef) (a.tmps.getD 110 undef) (a.tmps.getD 111 undef) (a.tmps.getD 112 undef) (a.tmps.getD 113 undef) (a.tmps.getD 114 undef) (a.tmps.getD 115 undef) (a.tmps.getD 116 undef) (a.tmps.getD 117 undef) (a.tmps.getD 118 undef) (a.tmps.getD 119 undef) (a.tmps.getD 120 undef) w1 hI
    rw [← kl] at hQ2
    rw [he]
    exact hQ2
  case hcA =>
    intro o ho
    obtain rfl := Option.some.inj ho
    intro a w1 hI hS hD
    have d1 : a.tmps.getD 109 undef = .pointer (some ⟨p, 0, none⟩) := hD ⟨1, .data⟩ (by simp) rfl _ rfl
    have d3 : a.tmps.getD 111 undef = .string s := hD ⟨3, .data⟩ (by simp) rfl _ rfl
    have d4 : a.tmps.getD 112 undef = .agg #[.int .i64 m1, .int .i64 m2, .int .i64 m3, .int .i64 m4, .int .i64 m5] := hD ⟨4, .data⟩ (by simp) rfl _ rfl
    refine ⟨rfl, ?_⟩
    refine wp_call_r (f := 14) (args := #[.pointer (some ⟨p, 0, none⟩), .string s, .agg #[.int .i64 m1, .int .i64 m2, .int .i64 m3, .int .i64 m4, .int .i64 m5]]) (by simp [execOp, resolve, Act.eval, d1, d3, d4, go_sem]) ?_
    refine (hA w1 hI).mono ?_
    rintro e w2 ⟨rfl, h2⟩
    exact ⟨_, rfl, _, rfl, h2, rfl⟩
  case hcB =>
    intro o ho
    obtain rfl := Option.some.inj ho
    intro a w1 hI hS hD
    have d7 : a.tmps.getD 115 undef = .pointer (some ⟨q, 0, none⟩) := hD ⟨7, .data⟩ (by simp) rfl _ rfl
    have d9 : a.tmps.getD 117 undef = .string s := hD ⟨9, .data⟩ (by simp) rfl _ rfl
    have d10 : a.tmps.getD 118 undef = .agg #[.int .i64 m1, .int .i64 m2, .int .i64 m3, .int .i64 m4, .int .i64 m5] := hD ⟨10, .data⟩ (by simp) rfl _ rfl
    refine ⟨rfl, ?_⟩
    refine wp_call_r (f := 20) (args := #[.pointer (some ⟨q, 0, none⟩), .string s, .agg #[.int .i64 m1, .int .i64 m2, .int .i64 m3, .int .i64 m4, .int .i64 m5]]) (by simp [execOp, resolve, Act.eval, d7, d9, d10, go_sem]) ?_
    refine (hB w1 hI).mono ?_
    rintro e w2 ⟨rfl, h2⟩
    exact ⟨_, rfl, _, rfl, h2, rfl⟩
  case hop =>
    intro i o hi hnA hnB
    have hlt : i < 14 := (Array.getElem?_eq_some_iff.1 hi).1
    rcases (show i = 0 ∨ i = 1 ∨ i = 2 ∨ i = 3 ∨ i = 4 ∨ i = 5 ∨ i = 6 ∨ i = 7 ∨ i = 8 ∨ i = 9 ∨ i = 10 ∨ i = 11 ∨ i = 12 ∨ i = 13 by omega) with rfl | rfl | rfl | rfl | rfl | rfl | rfl | rfl | rfl | rfl | rfl | rfl | rfl | rfl
    · obtain rfl := Option.some.inj hi
      clear hi hlt hnA hnB
      intro a w1 hI hS hD
      have e5 : a.tmps.getD 5 undef = .pointer (some ⟨pc, 0, none⟩) := (hS.slot 5 (by kernel_rfl)).trans s5
      exact ⟨rfl, .pointer (some ⟨pc, 0, none⟩), by simp [execOp, Act.eval, e5, go_sem], rfl⟩
    · obtain rfl := Option.some.inj hi
      clear hi hlt hnA hnB
      intro a w1 hI hS hD
      have d0 : a.tmps.getD 108 undef = .pointer (some ⟨pc, 0, none⟩) := hD ⟨0, .data⟩ (by simp) rfl _ rfl
      exact ⟨rfl, .pointer (some ⟨p, 0, none⟩), by simp [execOp, Act.eval, d0, c0 w1 hI, go_sem], rfl⟩
    · obtain rfl := Option.some.inj hi
      clear hi hlt hnA hnB
      intro a w1 hI hS hD
      have e4 : a.tmps.getD 4 undef = .pointer (some ⟨ob, 0, none⟩) := (hS.slot 4 (by kernel_rfl)).trans s4
      exact ⟨rfl, .pointer (some ⟨ob, 2, none⟩), by simp [execOp, Act.eval, e4, go_sem], rfl⟩
    · obtain rfl := Option.some.inj hi
      clear hi hlt hnA hnB
      intro a w1 hI hS hD
      have d2 : a.tmps.getD 110 undef = .pointer (some ⟨ob, 2, none⟩) := hD ⟨2, .data⟩ (by simp) rfl _ rfl
      exact ⟨rfl, .string s, by simp [execOp, Act.eval, d2, o2 w1 hI, go_sem], rfl⟩
    · obtain rfl := Option.some.inj hi
      clear hi hlt hnA hnB
      intro a w1 hI hS hD
      have e7 : a.tmps.getD 7 undef = .pointer (some ⟨xa, 0, none⟩) := (hS.slot 7 (by kernel_rfl)).trans s7
      exact ⟨rfl, .agg #[.int .i64 m1, .int .i64 m2, .int .i64 m3, .int .i64 m4, .int .i64 m5], by simp [execOp, Act.eval, e7, xa0 w1 hI, xa1 w1 hI, xa2 w1 hI, xa3 w1 hI, xa4 w1 hI, go_sem], rfl⟩
    · exact absurd rfl hnA
    · obtain rfl := Option.some.inj hi
      clear hi hlt hnA hnB
      intro a w1 hI hS hD
      have e5 : a.tmps.getD 5 undef = .pointer (some ⟨pc, 0, none⟩) := (hS.slot 5 (by kernel_rfl)).trans s5
      exact ⟨rfl, .pointer (some ⟨pc, 1, none⟩), by simp [execOp, Act.eval, e5, go_sem], rfl⟩
    · obtain rfl := Option.some.inj hi
      clear hi hlt hnA hnB
      intro a w1 hI hS hD
      have d6 : a.tmps.getD 114 undef = .pointer (some ⟨pc, 1, none⟩) := hD ⟨6, .data⟩ (by simp) rfl _ rfl
      exact ⟨rfl, .pointer (some ⟨q, 0, none⟩), by simp [execOp, Act.eval, d6, c1 w1 hI, go_sem], rfl⟩
    · obtain rfl := Option.some.inj hi
      clear hi hlt hnA hnB
      intro a w1 hI hS hD
      have e4 : a.tmps.getD 4 undef = .pointer (some ⟨ob, 0, none⟩) := (hS.slot 4 (by kernel_rfl)).trans s4
      exact ⟨rfl, .pointer (some ⟨ob, 2, none⟩), by simp [execOp, Act.eval, e4, go_sem], rfl⟩
    · obtain rfl := Option.some.inj hi
      clear hi hlt hnA hnB
      intro a w1 hI hS hD
      have d8 : a.tmps.getD 116 undef = .pointer (some ⟨ob, 2, none⟩) := hD ⟨8, .data⟩ (by simp) rfl _ rfl
      exact ⟨rfl, .string s, by simp [execOp, Act.eval, d8, o2 w1 hI, go_sem], rfl⟩
    · obtain rfl := Option.some.inj hi
      clear hi hlt hnA hnB
      intro a w1 hI hS hD
      have e9 : a.tmps.getD 9 undef = .pointer (some ⟨xb, 0, none⟩) := (hS.slot 9 (by kernel_rfl)).trans s9
      exact ⟨rfl, .agg #[.int .i64 m1, .int .i64 m2, .int .i64 m3, .int .i64 m4, .int .i64 m5], by simp [execOp, Act.eval, e9, xb0 w1 hI, xb1 w1 hI, xb2 w1 hI, xb3 w1 hI, xb4 w1 hI, go_sem], rfl⟩
    · exact absurd rfl hnB
    · obtain rfl := Option.some.inj hi
      clear hi hlt hnA hnB
      intro a w1 hI hS hD
      have d5 : a.tmps.getD 113 undef = .int .i64 ev := hD ⟨5, .data⟩ (by simp) rfl _ rfl
      have d11 : a.tmps.getD 119 undef = .int .i64 ev := hD ⟨11, .data⟩ (by simp) rfl _ rfl
      exact ⟨rfl, .bool true, by simp [execOp, Act.eval, d5, d11, go_sem], rfl⟩
    · obtain rfl := Option.some.inj hi
      clear hi hlt hnA hnB
      intro a w1 hI hS hD
      have d12 : a.tmps.getD 120 undef = .bool true := hD ⟨12, .data⟩ (by simp) rfl _ rfl
      exact ⟨rfl, .bool true, by simp [execOp, Act.eval, d12, go_sem], rfl⟩


end Go.Proofs.Ythkmbodpboplfaa
