import Derived.Test.YtfieglepljmmkaaRefOf
import Derived.Test.YtfieglepljmmkaaRefCrc
import Derived.Test.YtfieglepljmmkaaShown
import Derived.Test.YtfieglepljmmkaaLent
import Derived.Test.YtfieglepljmmkaaStill
import Derived.Test.YtfieglepljmmkaaEq
namespace Go.Proofs.Ytfieglepljmmkaa
open Go.RowKit
set_option linter.unusedVariables false

theorem eqIn8 (t : TypeId) (n : Nat) (ht : Try.prog.underlying t = some (.array n 5)) (l : List Int) (hl : l.length = n) (w : World) :
    (Op.equalIn 10000 t (.agg (cells8 l).toArray) (.agg (cells8 l).toArray)).run Try.prog w = .ok true w := by
  have h5 : ∃ i, Try.prog.info? 5 = some i := by
    have : (Try.prog.info? 5).isSome = true := by kernel_rfl
    exact Option.isSome_iff_exists.1 this
  obtain ⟨i, hi⟩ := h5
  rw [show (10000 : Nat) = 9999 + 1 from rfl, run_equalIn_array w 9999 _ _ ht hi, cells5, show (9999 : Nat) = 9998 + 1 from rfl, eqItems8 9998 l l w _ (fun j hj => by have := List.mem_range.1 hj; omega), all_eq l l n hl hl]
  simp

set_option maxRecDepth 100000 in
set_option maxHeartbeats 2000000 in
theorem tells_r6 (ad : Option Addr) (len cap g6 C : Nat) (DD : List Value) (w : World) (a0 : Act) (Q : Exit → Act → World → Prop) (hsz : a0.tmps.size = 40)
    (s0 : a0.tmps.getD 0 undef = .slice ad len cap)
    (s3 : a0.tmps.getD 3 undef = .bool true)
    (s5 : a0.tmps.getD 5 undef = .int .u32 (C : Int))
    (s6 : a0.tmps.getD 6 undef = .pointer (some ⟨g6, 0, none⟩))
    (s7 : a0.tmps.getD 7 undef = .bool true)
    (hDD : ∀ w1, Lat w w1 → w1.rangeAt g6 0 DD)
    (hDi : (Try.prog.info? 27).map (·.size) = some DD.length)
    (heq : ∀ w1, (Op.equalIn 10000 27 (.agg DD.toArray) (.agg DD.toArray)).run Try.prog w1 = .ok true w1)
    (h12 : ∀ w1, Lat w w1 → Calls Try.prog 12 #[.slice ad len cap] w1 fun e w2 => e = .returned (.int .u32 (C : Int)) ∧ Lat w1 w2)
    (h13 : ∀ w1, Lat w w1 → Calls Try.prog 13 #[.slice ad len cap] w1 fun e w2 => e = .returned (.agg DD.toArray) ∧ Lat w1 w2)
    (hQ : ∀ (v24 v25 v26 v27 v28 v29 v30 v31 v32 v33 v34 v35 v36 v37 v38 v39 : Value) (w1 : World), Lat w w1 → Q .normal (((((((((((((((((a0.put (some 24) v24).put (some 25) v25).put (some 26) v26).put (some 27) v27).put (some 28) v28).put (some 29) v29).put (some 30) v30).put (some 31) v31).put (some 32) v32).put (some 33) v33).put (some 34) v34).put (some 35) v35).put (some 36) v36).put (some 37) v37).put (some 38) v38).put (some 39) v39).put (some 2) (.bool true)) w1) :
    Code.wp Try.prog ((Try.f3.body.bind (findRegion 6)).getD .skip) Q a0 w := by
  conv => arg 2; whnf
  refine wp_region_inv Lat (TV [.bool true, .bool true, .bool true, .bool true, .bool true, .int .u32 (C : Int), .slice ad len cap, .int .u32 (C : Int), .bool true, .bool true, .bool true, .agg DD.toArray, .slice ad len cap, .agg DD.toArray, .bool true, .bool true, .bool true]) (by kernel_rfl) (by kernel_rfl) (by kernel_rfl) (by rw [hsz]; kernel_rfl) (by kernel_rfl) Lat.refl Lat.trans (TV.stable _) (Lat.draw w) ?hop ?hdone
  case hdone =>
    intro a w1 hL hS hT
    have k2 : a.tmps.getD 2 undef = .bool true := hT 16 _ rfl _ rfl
    have he := same_puts hS
    have hQ2 := hQ (a.tmps.getD 24 undef) (a.tmps.getD 25 undef) (a.tmps.getD 26 undef) (a.tmps.getD 27 undef) (a.tmps.getD 28 undef) (a.tmps.getD 29 undef) (a.tmps.getD 30 undef) (a.tmps.getD 31 undef) (a.tmps.getD 32 undef) (a.tmps.getD 33 undef) (a.tmps.getD 34 undef) (a.tmps.getD 35 undef) (a.tmps.getD 36 undef) (a.tmps.getD 37 undef) (a.tmps.getD 38 undef) (a.tmps.getD 39 undef) w1 hL
    rw [← k2] at hQ2
    rw [he]
    exact hQ2
  case hop =>
    intro i o hi
    have hlt : i < 17 := (Array.getElem?_eq_some_iff.1 hi).1
    rcases (show i = 0 ∨ i = 1 ∨ i = 2 ∨ i = 3 ∨ i = 4 ∨ i = 5 ∨ i = 6 ∨ i = 7 ∨ i = 8 ∨ i = 9 ∨ i = 10 ∨ i = 11 ∨ i = 12 ∨ i = 13 ∨ i = 14 ∨ i = 15 ∨ i = 16 by omega) with rfl | rfl | rfl | rfl | rfl | rfl | rfl | rfl | rfl | rfl | rfl | rfl | rfl | rfl | rfl | rfl | rfl
    · obtain rfl := Option.some.inj hi
      clear hi hlt
      intro a w1 hL hS hD
      have e3 : a.tmps.getD 3 undef = .bool true := (hS.slot 3 (by kernel_rfl)).trans s3
      refine step_yes rfl ?_
      exact ok_value Lat.refl (.bool true) (by simp [execOp, Act.eval, e3, go_sem]) (TV.mk rfl)
    · obtain rfl := Option.some.inj hi
      clear hi hlt
      intro a w1 hL hS hD
      have d0 : a.tmps.getD 24 undef = .bool true := hD ⟨0, .data⟩ (by simp) rfl _ rfl _ rfl
      refine step_yes rfl ?_
      exact ok_value Lat.refl (.bool true) (by simp [execOp, Act.eval, d0, go_sem]) (TV.mk rfl)
    · obtain rfl := Option.some.inj hi
      clear hi hlt
      intro a w1 hL hS hD
      have d1 : a.tmps.getD 25 undef = .bool true := hD ⟨1, .guard⟩ (by simp) rfl _ rfl _ rfl
      have e7 : a.tmps.getD 7 undef = .bool true := (hS.slot 7 (by kernel_rfl)).trans s7
      refine step_yes (wanted_yes rfl rfl rfl d1) ?_
      exact ok_value Lat.refl (.bool true) (by simp [execOp, Act.eval, e7, go_sem]) (TV.mk rfl)
    · obtain rfl := Option.some.inj hi
      clear hi hlt
      intro a w1 hL hS hD
      have d1 : a.tmps.getD 25 undef = .bool true := hD ⟨1, .data⟩ (by simp) rfl _ rfl _ rfl
      have d2 : a.tmps.getD 26 undef = .bool true := hD ⟨2, .data⟩ (by simp) rfl _ rfl _ rfl
      refine step_yes rfl ?_
      exact ok_value Lat.refl (.bool true) (by simp [execOp, Act.eval, d1, d2, go_sem]) (TV.mk rfl)
    · obtain rfl := Option.some.inj hi
      clear hi hlt
      intro a w1 hL hS hD
      have d3 : a.tmps.getD 27 undef = .bool true := hD ⟨3, .data⟩ (by simp) rfl _ rfl _ rfl
      refine step_yes rfl ?_
      exact ok_value Lat.refl (.bool true) (by simp [execOp, Act.eval, d3, go_sem]) (TV.mk rfl)
    · obtain rfl := Option.some.inj hi
      clear hi hlt
      intro a w1 hL hS hD
      have d4 : a.tmps.getD 28 undef = .bool true := hD ⟨4, .guard⟩ (by simp) rfl _ rfl _ rfl
      have e5 : a.tmps.getD 5 undef = .int .u32 (C : Int) := (hS.slot 5 (by kernel_rfl)).trans s5
      refine step_yes (wanted_yes rfl rfl rfl d4) ?_
      exact ok_value Lat.refl (.int .u32 (C : Int)) (by simp [execOp, Act.eval, e5, go_sem]) (TV.mk rfl)
    · obtain rfl := Option.some.inj hi
      clear hi hlt
      intro a w1 hL hS hD
      have d4 : a.tmps.getD 28 undef = .bool true := hD ⟨4, .guard⟩ (by simp) rfl _ rfl _ rfl
      have e0 : a.tmps.getD 0 undef = .slice ad len cap := (hS.slot 0 (by kernel_rfl)).trans s0
      refine step_yes (wanted_yes rfl rfl rfl d4) ?_
      exact ok_value Lat.refl (.slice ad len cap) (by simp [execOp, Act.eval, e0, go_sem]) (TV.mk rfl)
    · obtain rfl := Option.some.inj hi
      clear hi hlt
      intro a w1 hL hS hD
      have d4 : a.tmps.getD 28 undef = .bool true := hD ⟨4, .guard⟩ (by simp) rfl _ rfl _ rfl
      have d6 : a.tmps.getD 30 undef = .slice ad len cap := hD ⟨6, .data⟩ (by simp) rfl _ rfl _ rfl
      refine step_yes (wanted_yes rfl rfl rfl d4) ?_
      refine ok_call (f := 12) (args := #[.slice ad len cap]) (by simp [execOp, resolve, Act.eval, d6, go_sem]) ?_
      refine (h12 w1 hL).mono ?_
      rintro e w2 ⟨rfl, hb⟩
      exact ⟨_, rfl, hb, TV.mk rfl⟩
    · obtain rfl := Option.some.inj hi
      clear hi hlt
      intro a w1 hL hS hD
      have d4 : a.tmps.getD 28 undef = .bool true := hD ⟨4, .guard⟩ (by simp) rfl _ rfl _ rfl
      have d5 : a.tmps.getD 29 undef = .int .u32 (C : Int) := hD ⟨5, .data⟩ (by simp) rfl _ rfl _ rfl
      have d7 : a.tmps.getD 31 undef = .int .u32 (C : Int) := hD ⟨7, .data⟩ (by simp) rfl _ rfl _ rfl
      refine step_yes (wanted_yes rfl rfl rfl d4) ?_
      exact ok_value Lat.refl (.bool true) (by simp [execOp, Act.eval, d5, d7, go_sem]) (TV.mk rfl)
    · obtain rfl := Option.some.inj hi
      clear hi hlt
      intro a w1 hL hS hD
      have d4 : a.tmps.getD 28 undef = .bool true := hD ⟨4, .data⟩ (by simp) rfl _ rfl _ rfl
      have d8 : a.tmps.getD 32 undef = .bool true := hD ⟨8, .data⟩ (by simp) rfl _ rfl _ rfl
      refine step_yes rfl ?_
      exact ok_value Lat.refl (.bool true) (by simp [execOp, Act.eval, d4, d8, go_sem]) (TV.mk rfl)
    · obtain rfl := Option.some.inj hi
      clear hi hlt
      intro a w1 hL hS hD
      have d9 : a.tmps.getD 33 undef = .bool true := hD ⟨9, .data⟩ (by simp) rfl _ rfl _ rfl
      refine step_yes rfl ?_
      exact ok_value Lat.refl (.bool true) (by simp [execOp, Act.eval, d9, go_sem]) (TV.mk rfl)
    · obtain rfl := Option.some.inj hi
      clear hi hlt
      intro a w1 hL hS hD
      have d10 : a.tmps.getD 34 undef = .bool true := hD ⟨10, .guard⟩ (by simp) rfl _ rfl _ rfl
      have e6 : a.tmps.getD 6 undef = .pointer (some ⟨g6, 0, none⟩) := (hS.slot 6 (by kernel_rfl)).trans s6
      refine step_yes (wanted_yes rfl rfl rfl d10) ?_
      exact wp_load_mid 27 (.tmp 6) rfl g6 0 e6 DD _ (hDD w1 hL) Try.underlying27 rfl hDi ⟨_, rfl, Lat.refl _, TV.mk rfl⟩
    · obtain rfl := Option.some.inj hi
      clear hi hlt
      intro a w1 hL hS hD
      have d10 : a.tmps.getD 34 undef = .bool true := hD ⟨10, .guard⟩ (by simp) rfl _ rfl _ rfl
      have e0 : a.tmps.getD 0 undef = .slice ad len cap := (hS.slot 0 (by kernel_rfl)).trans s0
      refine step_yes (wanted_yes rfl rfl rfl d10) ?_
      exact ok_value Lat.refl (.slice ad len cap) (by simp [execOp, Act.eval, e0, go_sem]) (TV.mk rfl)
    · obtain rfl := Option.some.inj hi
      clear hi hlt
      intro a w1 hL hS hD
      have d10 : a.tmps.getD 34 undef = .bool true := hD ⟨10, .guard⟩ (by simp) rfl _ rfl _ rfl
      have d12 : a.tmps.getD 36 undef = .slice ad len cap := hD ⟨12, .data⟩ (by simp) rfl _ rfl _ rfl
      refine step_yes (wanted_yes rfl rfl rfl d10) ?_
      refine ok_call (f := 13) (args := #[.slice ad len cap]) (by simp [execOp, resolve, Act.eval, d12, go_sem]) ?_
      refine (h13 w1 hL).mono ?_
      rintro e w2 ⟨rfl, hb⟩
      exact ⟨_, rfl, hb, TV.mk rfl⟩
    · obtain rfl := Option.some.inj hi
      clear hi hlt
      intro a w1 hL hS hD
      have d10 : a.tmps.getD 34 undef = .bool true := hD ⟨10, .guard⟩ (by simp) rfl _ rfl _ rfl
      have d11 : a.tmps.getD 35 undef = .agg DD.toArray := hD ⟨11, .data⟩ (by simp) rfl _ rfl _ rfl
      have d13 : a.tmps.getD 37 undef = .agg DD.toArray := hD ⟨13, .data⟩ (by simp) rfl _ rfl _ rfl
      refine step_yes (wanted_yes rfl rfl rfl d10) ?_
      exact ok_value Lat.refl (.bool true) (by simp [execOp, Act.eval, d11, d13, heq w1, go_sem]) (TV.mk rfl)
    · obtain rfl := Option.some.inj hi
      clear hi hlt
      intro a w1 hL hS hD
      have d10 : a.tmps.getD 34 undef = .bool true := hD ⟨10, .data⟩ (by simp) rfl _ rfl _ rfl
      have d14 : a.tmps.getD 38 undef = .bool true := hD ⟨14, .data⟩ (by simp) rfl _ rfl _ rfl
      refine step_yes rfl ?_
      exact ok_value Lat.refl (.bool true) (by simp [execOp, Act.eval, d10, d14, go_sem]) (TV.mk rfl)
    · obtain rfl := Option.some.inj hi
      clear hi hlt
      intro a w1 hL hS hD
      have d15 : a.tmps.getD 39 undef = .bool true := hD ⟨15, .data⟩ (by simp) rfl _ rfl _ rfl
      refine step_yes rfl ?_
      exact ok_value Lat.refl (.bool true) (by simp [execOp, Act.eval, d15, go_sem]) (TV.mk rfl)

end Go.Proofs.Ytfieglepljmmkaa
