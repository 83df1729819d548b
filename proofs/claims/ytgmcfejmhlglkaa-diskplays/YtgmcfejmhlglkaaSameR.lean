import Derived.Test.YtgmcfejmhlglkaaDkE
import Derived.Test.YtgmcfejmhlglkaaDkF
namespace Go.Proofs.Ytgmcfejmhlglkaa
open Go.RowKit
set_option linter.unusedVariables false
set_option linter.unusedSimpArgs false

set_option maxRecDepth 100000 in
set_option maxHeartbeats 2000000 in
theorem same_r5 (p bx f n m k c : Nat) (ad : Option Addr) (sv : ByteArray) (w : World) (a0 : Act) (Q : Exit → Act → World → Prop) (hsz : a0.tmps.size = 55)
    (s0 : a0.tmps.getD 0 undef = .pointer (some ⟨p, 0, none⟩))
    (s3 : a0.tmps.getD 3 undef = .pointer (some ⟨bx, 0, none⟩))
    (s5 : a0.tmps.getD 5 undef = .int .i64 (f : Int))
    (s6 : a0.tmps.getD 6 undef = .slice ad k c)
    (s7 : a0.tmps.getD 7 undef = .int .i64 0)
    (hf : f < 3) (hf2 : (f : Int) < 3) (hn : sv.size = n)
    (hstr : ∀ w1, Lat w w1 → (convert 27 9 (.slice ad k c)).run Try.prog w1 = .ok (.string sv) w1)
    (hc0 : ∀ w1, Lat w w1 → w1.cell? ⟨bx, f * 2, none⟩ = some (.string sv))
    (hc1 : ∀ w1, Lat w w1 → w1.cell? ⟨bx, f * 2 + 1, none⟩ = some (.int .i64 (m : Int)))
    (h22 : ∀ w1, Lat w w1 → Calls Try.prog 22 #[.pointer (some ⟨p, 0, none⟩), .int .i64 (f : Int)] w1 fun e w2 => e = .returned (.int .i64 (n : Int)) ∧ w2 = w1)
    (h23 : ∀ w1, Lat w w1 → Calls Try.prog 23 #[.pointer (some ⟨p, 0, none⟩), .int .i64 (f : Int)] w1 fun e w2 => e = .returned (.int .i64 (m : Int)) ∧ w2 = w1)
    (hQ : ∀ (v23 v24 v25 v26 v27 v28 v29 v30 v31 v32 v33 v34 v35 v36 v37 v38 v39 v40 v41 v42 v43 v44 v45 v46 v47 v48 v49 v50 v51 v52 v53 : Value) (w1 : World), Lat w w1 → Q .normal ((((((((((((((((((((((((((((((((a0.put (some 23) v23).put (some 24) v24).put (some 25) v25).put (some 26) v26).put (some 27) v27).put (some 28) v28).put (some 29) v29).put (some 30) v30).put (some 31) v31).put (some 32) v32).put (some 33) v33).put (some 34) v34).put (some 35) v35).put (some 36) v36).put (some 37) v37).put (some 38) v38).put (some 39) v39).put (some 40) v40).put (some 41) v41).put (some 42) v42).put (some 43) v43).put (some 44) v44).put (some 45) v45).put (some 46) v46).put (some 47) v47).put (some 48) v48).put (some 49) v49).put (some 50) v50).put (some 51) v51).put (some 52) v52).put (some 53) v53).put (some 54) (.bool false)) w1) :
    Code.wp Try.prog ((Try.f19.body.bind (findRegion 5)).getD .skip) Q a0 w := by
  conv => arg 2; whnf
  refine wp_region_inv Lat (TV [.int .i64 0, .bool false, .bool false, .slice ad k c, .string sv, .int .i64 (f : Int), .pointer (some ⟨bx, f * 2, none⟩), .pointer (some ⟨bx, f * 2, none⟩), .string sv, .bool false, .bool false, .bool false, .pointer (some ⟨p, 0, none⟩), .int .i64 (f : Int), .int .i64 (n : Int), .int .i64 (f : Int), .pointer (some ⟨bx, f * 2, none⟩), .pointer (some ⟨bx, f * 2, none⟩), .string sv, .int .i64 (n : Int), .bool false, .bool false, .bool false, .pointer (some ⟨p, 0, none⟩), .int .i64 (f : Int), .int .i64 (m : Int), .int .i64 (f : Int), .pointer (some ⟨bx, f * 2, none⟩), .pointer (some ⟨bx, f * 2 + 1, none⟩), .int .i64 (m : Int), .bool false, .bool false]) (by kernel_rfl) (by kernel_rfl) (by kernel_rfl) (by rw [hsz]; kernel_rfl) (by kernel_rfl) Lat.refl Lat.trans (TV.stable _) (Lat.draw w) ?hop ?hdone
  case hdone =>
    intro a w1 hL hS hT
    have k54 : a.tmps.getD 54 undef = .bool false := hT 31 _ rfl _ rfl
    have he := same_puts hS
    have hQ2 := hQ (a.tmps.getD 23 undef) (a.tmps.getD 24 undef) (a.tmps.getD 25 undef) (a.tmps.getD 26 undef) (a.tmps.getD 27 undef) (a.tmps.getD 28 undef) (a.tmps.getD 29 undef) (a.tmps.getD 30 undef) (a.tmps.getD 31 undef) (a.tmps.getD 32 undef) (a.tmps.getD 33 undef) (a.tmps.getD 34 undef) (a.tmps.getD 35 undef) (a.tmps.getD 36 undef) (a.tmps.getD 37 undef) (a.tmps.getD 38 undef) (a.tmps.getD 39 undef) (a.tmps.getD 40 undef) (a.tmps.getD 41 undef) (a.tmps.getD 42 undef) (a.tmps.getD 43 undef) (a.tmps.getD 44 undef) (a.tmps.getD 45 undef) (a.tmps.getD 46 undef) (a.tmps.getD 47 undef) (a.tmps.getD 48 undef) (a.tmps.getD 49 undef) (a.tmps.getD 50 undef) (a.tmps.getD 51 undef) (a.tmps.getD 52 undef) (a.tmps.getD 53 undef) w1 hL
    rw [← k54] at hQ2
    rw [he]
    exact hQ2
  case hop =>
    intro i o hi
    have hlt : i < 32 := (Array.getElem?_eq_some_iff.1 hi).1
    rcases (show i = 0 ∨ i = 1 ∨ i = 2 ∨ i = 3 ∨ i = 4 ∨ i = 5 ∨ i = 6 ∨ i = 7 ∨ i = 8 ∨ i = 9 ∨ i = 10 ∨ i = 11 ∨ i = 12 ∨ i = 13 ∨ i = 14 ∨ i = 15 ∨ i = 16 ∨ i = 17 ∨ i = 18 ∨ i = 19 ∨ i = 20 ∨ i = 21 ∨ i = 22 ∨ i = 23 ∨ i = 24 ∨ i = 25 ∨ i = 26 ∨ i = 27 ∨ i = 28 ∨ i = 29 ∨ i = 30 ∨ i = 31 by omega) with rfl | rfl | rfl | rfl | rfl | rfl | rfl | rfl | rfl | rfl | rfl | rfl | rfl | rfl | rfl | rfl | rfl | rfl | rfl | rfl | rfl | rfl | rfl | rfl | rfl | rfl | rfl | rfl | rfl | rfl | rfl | rfl
    · obtain rfl := Option.some.inj hi
      clear hi hlt
      intro a w1 hL hS hD
      have e7 : a.tmps.getD 7 undef = .int .i64 0 := (hS.slot 7 (by kernel_rfl)).trans s7
      refine step_yes rfl ?_
      exact ok_value Lat.refl (.int .i64 0) (by simp [execOp, Act.eval, e7, go_sem]) (TV.mk rfl)
    · obtain rfl := Option.some.inj hi
      clear hi hlt
      intro a w1 hL hS hD
      have d0 : a.tmps.getD 23 undef = .int .i64 0 := hD ⟨0, .data⟩ (by simp) rfl _ rfl _ rfl
      refine step_yes rfl ?_
      exact ok_value Lat.refl (.bool false) (by simp [execOp, Act.eval, d0, go_sem]) (TV.mk rfl)
    · obtain rfl := Option.some.inj hi
      clear hi hlt
      intro a w1 hL hS hD
      have d1 : a.tmps.getD 24 undef = .bool false := hD ⟨1, .data⟩ (by simp) rfl _ rfl _ rfl
      refine step_yes rfl ?_
      exact ok_value Lat.refl (.bool false) (by simp [execOp, Act.eval, d1, go_sem]) (TV.mk rfl)
    · obtain rfl := Option.some.inj hi
      clear hi hlt
      intro a w1 hL hS hD
      have d2 : a.tmps.getD 25 undef = .bool false := hD ⟨2, .guard⟩ (by simp) rfl _ rfl _ rfl
      have e6 : a.tmps.getD 6 undef = .slice ad k c := (hS.slot 6 (by kernel_rfl)).trans s6
      refine step_yes (wanted_yes rfl rfl rfl d2) ?_
      exact ok_value Lat.refl (.slice ad k c) (by simp [execOp, Act.eval, e6, go_sem]) (TV.mk rfl)
    · obtain rfl := Option.some.inj hi
      clear hi hlt
      intro a w1 hL hS hD
      have d2 : a.tmps.getD 25 undef = .bool false := hD ⟨2, .guard⟩ (by simp) rfl _ rfl _ rfl
      have d3 : a.tmps.getD 26 undef = .slice ad k c := hD ⟨3, .data⟩ (by simp) rfl _ rfl _ rfl
      refine step_yes (wanted_yes rfl rfl rfl d2) ?_
      exact ok_value Lat.refl (.string sv) (by simp [execOp, Act.eval, d3, hstr w1 hL, go_sem]) (TV.mk rfl)
    · obtain rfl := Option.some.inj hi
      clear hi hlt
      intro a w1 hL hS hD
      have d2 : a.tmps.getD 25 undef = .bool false := hD ⟨2, .guard⟩ (by simp) rfl _ rfl _ rfl
      have e5 : a.tmps.getD 5 undef = .int .i64 (f : Int) := (hS.slot 5 (by kernel_rfl)).trans s5
      refine step_yes (wanted_yes rfl rfl rfl d2) ?_
      exact ok_value Lat.refl (.int .i64 (f : Int)) (by simp [execOp, Act.eval, e5, go_sem]) (TV.mk rfl)
    · obtain rfl := Option.some.inj hi
      clear hi hlt
      intro a w1 hL hS hD
      have d2 : a.tmps.getD 25 undef = .bool false := hD ⟨2, .guard⟩ (by simp) rfl _ rfl _ rfl
      have e3 : a.tmps.getD 3 undef = .pointer (some ⟨bx, 0, none⟩) := (hS.slot 3 (by kernel_rfl)).trans s3
      have d5 : a.tmps.getD 28 undef = .int .i64 (f : Int) := hD ⟨5, .data⟩ (by simp) rfl _ rfl _ rfl
      refine step_yes (wanted_yes rfl rfl rfl d2) ?_
      exact ok_value Lat.refl (.pointer (some ⟨bx, f * 2, none⟩)) (by simp [execOp, Act.eval, e3, d5, hf, hf2, go_sem]) (TV.mk rfl)
    · obtain rfl := Option.some.inj hi
      clear hi hlt
      intro a w1 hL hS hD
      have d2 : a.tmps.getD 25 undef = .bool false := hD ⟨2, .guard⟩ (by simp) rfl _ rfl _ rfl
      have d6 : a.tmps.getD 29 undef = .pointer (some ⟨bx, f * 2, none⟩) := hD ⟨6, .data⟩ (by simp) rfl _ rfl _ rfl
      refine step_yes (wanted_yes rfl rfl rfl d2) ?_
      exact ok_value Lat.refl (.pointer (some ⟨bx, f * 2, none⟩)) (by simp [execOp, Act.eval, d6, go_sem]) (TV.mk rfl)
    · obtain rfl := Option.some.inj hi
      clear hi hlt
      intro a w1 hL hS hD
      have d2 : a.tmps.getD 25 undef = .bool false := hD ⟨2, .guard⟩ (by simp) rfl _ rfl _ rfl
      have d7 : a.tmps.getD 30 undef = .pointer (some ⟨bx, f * 2, none⟩) := hD ⟨7, .data⟩ (by simp) rfl _ rfl _ rfl
      refine step_yes (wanted_yes rfl rfl rfl d2) ?_
      exact ok_value Lat.refl (.string sv) (by simp [execOp, Act.eval, d7, hc0 w1 hL, go_sem]) (TV.mk rfl)
    · obtain rfl := Option.some.inj hi
      clear hi hlt
      intro a w1 hL hS hD
      have d2 : a.tmps.getD 25 undef = .bool false := hD ⟨2, .guard⟩ (by simp) rfl _ rfl _ rfl
      have d4 : a.tmps.getD 27 undef = .string sv := hD ⟨4, .data⟩ (by simp) rfl _ rfl _ rfl
      have d8 : a.tmps.getD 31 undef = .string sv := hD ⟨8, .data⟩ (by simp) rfl _ rfl _ rfl
      refine step_yes (wanted_yes rfl rfl rfl d2) ?_
      exact ok_value Lat.refl (.bool false) (by simp [execOp, Act.eval, d4, d8, go_sem]) (TV.mk rfl)
    · obtain rfl := Option.some.inj hi
      clear hi hlt
      intro a w1 hL hS hD
      have d2 : a.tmps.getD 25 undef = .bool false := hD ⟨2, .data⟩ (by simp) rfl _ rfl _ rfl
      have d9 : a.tmps.getD 32 undef = .bool false := hD ⟨9, .data⟩ (by simp) rfl _ rfl _ rfl
      refine step_yes rfl ?_
      exact ok_value Lat.refl (.bool false) (by simp [execOp, Act.eval, d2, d9, go_sem]) (TV.mk rfl)
    · obtain rfl := Option.some.inj hi
      clear hi hlt
      intro a w1 hL hS hD
      have d10 : a.tmps.getD 33 undef = .bool false := hD ⟨10, .data⟩ (by simp) rfl _ rfl _ rfl
      refine step_yes rfl ?_
      exact ok_value Lat.refl (.bool false) (by simp [execOp, Act.eval, d10, go_sem]) (TV.mk rfl)
    · obtain rfl := Option.some.inj hi
      clear hi hlt
      intro a w1 hL hS hD
      have d11 : a.tmps.getD 34 undef = .bool false := hD ⟨11, .guard⟩ (by simp) rfl _ rfl _ rfl
      have e0 : a.tmps.getD 0 undef = .pointer (some ⟨p, 0, none⟩) := (hS.slot 0 (by kernel_rfl)).trans s0
      refine step_yes (wanted_yes rfl rfl rfl d11) ?_
      exact ok_value Lat.refl (.pointer (some ⟨p, 0, none⟩)) (by simp [execOp, Act.eval, e0, go_sem]) (TV.mk rfl)
    · obtain rfl := Option.some.inj hi
      clear hi hlt
      intro a w1 hL hS hD
      have d11 : a.tmps.getD 34 undef = .bool false := hD ⟨11, .guard⟩ (by simp) rfl _ rfl _ rfl
      have e5 : a.tmps.getD 5 undef = .int .i64 (f : Int) := (hS.slot 5 (by kernel_rfl)).trans s5
      refine step_yes (wanted_yes rfl rfl rfl d11) ?_
      exact ok_value Lat.refl (.int .i64 (f : Int)) (by simp [execOp, Act.eval, e5, go_sem]) (TV.mk rfl)
    · obtain rfl := Option.some.inj hi
      clear hi hlt
      intro a w1 hL hS hD
      have d11 : a.tmps.getD 34 undef = .bool false := hD ⟨11, .guard⟩ (by simp) rfl _ rfl _ rfl
      have d12 : a.tmps.getD 35 undef = .pointer (some ⟨p, 0, none⟩) := hD ⟨12, .data⟩ (by simp) rfl _ rfl _ rfl
      have d13 : a.tmps.getD 36 undef = .int .i64 (f : Int) := hD ⟨13, .data⟩ (by simp) rfl _ rfl _ rfl
      refine step_yes (wanted_yes rfl rfl rfl d11) ?_
      refine ok_call (f := 22) (args := #[.pointer (some ⟨p, 0, none⟩), .int .i64 (f : Int)]) (by simp [execOp, resolve, Act.eval, d12, d13, go_sem]) ?_
      refine (h22 w1 hL).mono ?_
      rintro e w2 ⟨rfl, rfl⟩
      exact ⟨_, rfl, Lat.refl _, TV.mk rfl⟩
    · obtain rfl := Option.some.inj hi
      clear hi hlt
      intro a w1 hL hS hD
      have d11 : a.tmps.getD 34 undef = .bool false := hD ⟨11, .guard⟩ (by simp) rfl _ rfl _ rfl
      have e5 : a.tmps.getD 5 undef = .int .i64 (f : Int) := (hS.slot 5 (by kernel_rfl)).trans s5
      refine step_yes (wanted_yes rfl rfl rfl d11) ?_
      exact ok_value Lat.refl (.int .i64 (f : Int)) (by simp [execOp, Act.eval, e5, go_sem]) (TV.mk rfl)
    · obtain rfl := Option.some.inj hi
      clear hi hlt
      intro a w1 hL hS hD
      have d11 : a.tmps.getD 34 undef = .bool false := hD ⟨11, .guard⟩ (by simp) rfl _ rfl _ rfl
      have e3 : a.tmps.getD 3 undef = .pointer (some ⟨bx, 0, none⟩) := (hS.slot 3 (by kernel_rfl)).trans s3
      have d15 : a.tmps.getD 38 undef = .int .i64 (f : Int) := hD ⟨15, .data⟩ (by simp) rfl _ rfl _ rfl
      refine step_yes (wanted_yes rfl rfl rfl d11) ?_
      exact ok_value Lat.refl (.pointer (some ⟨bx, f * 2, none⟩)) (by simp [execOp, Act.eval, e3, d15, hf, hf2, go_sem]) (TV.mk rfl)
    · obtain rfl := Option.some.inj hi
      clear hi hlt
      intro a w1 hL hS hD
      have d11 : a.tmps.getD 34 undef = .bool false := hD ⟨11, .guard⟩ (by simp) rfl _ rfl _ rfl
      have d16 : a.tmps.getD 39 undef = .pointer (some ⟨bx, f * 2, none⟩) := hD ⟨16, .data⟩ (by simp) rfl _ rfl _ rfl
      refine step_yes (wanted_yes rfl rfl rfl d11) ?_
      exact ok_value Lat.refl (.pointer (some ⟨bx, f * 2, none⟩)) (by simp [execOp, Act.eval, d16, go_sem]) (TV.mk rfl)
    · obtain rfl := Option.some.inj hi
      clear hi hlt
      intro a w1 hL hS hD
      have d11 : a.tmps.getD 34 undef = .bool false := hD ⟨11, .guard⟩ (by simp) rfl _ rfl _ rfl
      have d17 : a.tmps.getD 40 undef = .pointer (some ⟨bx, f * 2, none⟩) := hD ⟨17, .data⟩ (by simp) rfl _ rfl _ rfl
      refine step_yes (wanted_yes rfl rfl rfl d11) ?_
      exact ok_value Lat.refl (.string sv) (by simp [execOp, Act.eval, d17, hc0 w1 hL, go_sem]) (TV.mk rfl)
    · obtain rfl := Option.some.inj hi
      clear hi hlt
      intro a w1 hL hS hD
      have d11 : a.tmps.getD 34 undef = .bool false := hD ⟨11, .guard⟩ (by simp) rfl _ rfl _ rfl
      have d18 : a.tmps.getD 41 undef = .string sv := hD ⟨18, .data⟩ (by simp) rfl _ rfl _ rfl
      refine step_yes (wanted_yes rfl rfl rfl d11) ?_
      exact ok_value Lat.refl (.int .i64 (n : Int)) (by simp [execOp, Act.eval, d18, hn, go_sem]) (TV.mk rfl)
    · obtain rfl := Option.some.inj hi
      clear hi hlt
      intro a w1 hL hS hD
      have d11 : a.tmps.getD 34 undef = .bool false := hD ⟨11, .guard⟩ (by simp) rfl _ rfl _ rfl
      have d14 : a.tmps.getD 37 undef = .int .i64 (n : Int) := hD ⟨14, .data⟩ (by simp) rfl _ rfl _ rfl
      have d19 : a.tmps.getD 42 undef = .int .i64 (n : Int) := hD ⟨19, .data⟩ (by simp) rfl _ rfl _ rfl
      refine step_yes (wanted_yes rfl rfl rfl d11) ?_
      exact ok_value Lat.refl (.bool false) (by simp [execOp, Act.eval, d14, d19, go_sem]) (TV.mk rfl)
    · obtain rfl := Option.some.inj hi
      clear hi hlt
      intro a w1 hL hS hD
      have d11 : a.tmps.getD 34 undef = .bool false := hD ⟨11, .data⟩ (by simp) rfl _ rfl _ rfl
      have d20 : a.tmps.getD 43 undef = .bool false := hD ⟨20, .data⟩ (by simp) rfl _ rfl _ rfl
      refine step_yes rfl ?_
      exact ok_value Lat.refl (.bool false) (by simp [execOp, Act.eval, d11, d20, go_sem]) (TV.mk rfl)
    · obtain rfl := Option.some.inj hi
      clear hi hlt
      intro a w1 hL hS hD
      have d21 : a.tmps.getD 44 undef = .bool false := hD ⟨21, .data⟩ (by simp) rfl _ rfl _ rfl
      refine step_yes rfl ?_
      exact ok_value Lat.refl (.bool false) (by simp [execOp, Act.eval, d21, go_sem]) (TV.mk rfl)
    · obtain rfl := Option.some.inj hi
      clear hi hlt
      intro a w1 hL hS hD
      have d22 : a.tmps.getD 45 undef = .bool false := hD ⟨22, .guard⟩ (by simp) rfl _ rfl _ rfl
      have e0 : a.tmps.getD 0 undef = .pointer (some ⟨p, 0, none⟩) := (hS.slot 0 (by kernel_rfl)).trans s0
      refine step_yes (wanted_yes rfl rfl rfl d22) ?_
      exact ok_value Lat.refl (.pointer (some ⟨p, 0, none⟩)) (by simp [execOp, Act.eval, e0, go_sem]) (TV.mk rfl)
    · obtain rfl := Option.some.inj hi
      clear hi hlt
      intro a w1 hL hS hD
      have d22 : a.tmps.getD 45 undef = .bool false := hD ⟨22, .guard⟩ (by simp) rfl _ rfl _ rfl
      have e5 : a.tmps.getD 5 undef = .int .i64 (f : Int) := (hS.slot 5 (by kernel_rfl)).trans s5
      refine step_yes (wanted_yes rfl rfl rfl d22) ?_
      exact ok_value Lat.refl (.int .i64 (f : Int)) (by simp [execOp, Act.eval, e5, go_sem]) (TV.mk rfl)
    · obtain rfl := Option.some.inj hi
      clear hi hlt
      intro a w1 hL hS hD
      have d22 : a.tmps.getD 45 undef = .bool false := hD ⟨22, .guard⟩ (by simp) rfl _ rfl _ rfl
      have d23 : a.tmps.getD 46 undef = .pointer (some ⟨p, 0, none⟩) := hD ⟨23, .data⟩ (by simp) rfl _ rfl _ rfl
      have d24 : a.tmps.getD 47 undef = .int .i64 (f : Int) := hD ⟨24, .data⟩ (by simp) rfl _ rfl _ rfl
      refine step_yes (wanted_yes rfl rfl rfl d22) ?_
      refine ok_call (f := 23) (args := #[.pointer (some ⟨p, 0, none⟩), .int .i64 (f : Int)]) (by simp [execOp, resolve, Act.eval, d23, d24, go_sem]) ?_
      refine (h23 w1 hL).mono ?_
      rintro e w2 ⟨rfl, rfl⟩
      exact ⟨_, rfl, Lat.refl _, TV.mk rfl⟩
    · obtain rfl := Option.some.inj hi
      clear hi hlt
      intro a w1 hL hS hD
      have d22 : a.tmps.getD 45 undef = .bool false := hD ⟨22, .guard⟩ (by simp) rfl _ rfl _ rfl
      have e5 : a.tmps.getD 5 undef = .int .i64 (f : Int) := (hS.slot 5 (by kernel_rfl)).trans s5
      refine step_yes (wanted_yes rfl rfl rfl d22) ?_
      exact ok_value Lat.refl (.int .i64 (f : Int)) (by simp [execOp, Act.eval, e5, go_sem]) (TV.mk rfl)
    · obtain rfl := Option.some.inj hi
      clear hi hlt
      intro a w1 hL hS hD
      have d22 : a.tmps.getD 45 undef = .bool false := hD ⟨22, .guard⟩ (by simp) rfl _ rfl _ rfl
      have e3 : a.tmps.getD 3 undef = .pointer (some ⟨bx, 0, none⟩) := (hS.slot 3 (by kernel_rfl)).trans s3
      have d26 : a.tmps.getD 49 undef = .int .i64 (f : Int) := hD ⟨26, .data⟩ (by simp) rfl _ rfl _ rfl
      refine step_yes (wanted_yes rfl rfl rfl d22) ?_
      exact ok_value Lat.refl (.pointer (some ⟨bx, f * 2, none⟩)) (by simp [execOp, Act.eval, e3, d26, hf, hf2, go_sem]) (TV.mk rfl)
    · obtain rfl := Option.some.inj hi
      clear hi hlt
      intro a w1 hL hS hD
      have d22 : a.tmps.getD 45 undef = .bool false := hD ⟨22, .guard⟩ (by simp) rfl _ rfl _ rfl
      have d27 : a.tmps.getD 50 undef = .pointer (some ⟨bx, f * 2, none⟩) := hD ⟨27, .data⟩ (by simp) rfl _ rfl _ rfl
      refine step_yes (wanted_yes rfl rfl rfl d22) ?_
      exact ok_value Lat.refl (.pointer (some ⟨bx, f * 2 + 1, none⟩)) (by simp [execOp, Act.eval, d27, go_sem]) (TV.mk rfl)
    · obtain rfl := Option.some.inj hi
      clear hi hlt
      intro a w1 hL hS hD
      have d22 : a.tmps.getD 45 undef = .bool false := hD ⟨22, .guard⟩ (by simp) rfl _ rfl _ rfl
      have d28 : a.tmps.getD 51 undef = .pointer (some ⟨bx, f * 2 + 1, none⟩) := hD ⟨28, .data⟩ (by simp) rfl _ rfl _ rfl
      refine step_yes (wanted_yes rfl rfl rfl d22) ?_
      exact ok_value Lat.refl (.int .i64 (m : Int)) (by simp [execOp, Act.eval, d28, hc1 w1 hL, go_sem]) (TV.mk rfl)
    · obtain rfl := Option.some.inj hi
      clear hi hlt
      intro a w1 hL hS hD
      have d22 : a.tmps.getD 45 undef = .bool false := hD ⟨22, .guard⟩ (by simp) rfl _ rfl _ rfl
      have d25 : a.tmps.getD 48 undef = .int .i64 (m : Int) := hD ⟨25, .data⟩ (by simp) rfl _ rfl _ rfl
      have d29 : a.tmps.getD 52 undef = .int .i64 (m : Int) := hD ⟨29, .data⟩ (by simp) rfl _ rfl _ rfl
      refine step_yes (wanted_yes rfl rfl rfl d22) ?_
      exact ok_value Lat.refl (.bool false) (by simp [execOp, Act.eval, d25, d29, go_sem]) (TV.mk rfl)
    · obtain rfl := Option.some.inj hi
      clear hi hlt
      intro a w1 hL hS hD
      have d22 : a.tmps.getD 45 undef = .bool false := hD ⟨22, .data⟩ (by simp) rfl _ rfl _ rfl
      have d30 : a.tmps.getD 53 undef = .bool false := hD ⟨30, .data⟩ (by simp) rfl _ rfl _ rfl
      refine step_yes rfl ?_
      exact ok_value Lat.refl (.bool false) (by simp [execOp, Act.eval, d22, d30, go_sem]) (TV.mk rfl)

end Go.Proofs.Ytgmcfejmhlglkaa
