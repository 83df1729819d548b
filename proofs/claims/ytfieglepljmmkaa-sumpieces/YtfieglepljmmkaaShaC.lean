import Derived.Test.YtfieglepljmmkaaShaB
import Derived.Test.YtfieglepljmmkaaAnyM
namespace Go.Proofs.Ytfieglepljmmkaa
open Go.RowKit
set_option linter.unusedVariables false

theorem info50 : (Try.prog.info? 50).map (·.size) = some 64 := by kernel_rfl

set_option maxRecDepth 100000 in
set_option maxHeartbeats 2000000 in
theorem write_r5 (p : Nat) (A B C D : List Value) (w : World) (a0 : Act) (Q : Exit → Act → World → Prop) (hsz : a0.tmps.size = 50)
    (s0 : a0.tmps.getD 0 undef = .pointer (some ⟨p, 0, none⟩))
    (hA : ∀ w1, Lat w w1 → w1.rangeAt p 0 A) (hAi : (Try.prog.info? 47).map (·.size) = some A.length)
    (hB : ∀ w1, Lat w w1 → w1.rangeAt p 8 B) (hBi : (Try.prog.info? 50).map (·.size) = some B.length)
    (h29 : ∀ w1, Calls Try.prog 29 #[.agg B.toArray] w1 fun e w2 => e = .returned (.agg C.toArray) ∧ Below w1.heap.size w1 w2)
    (h28 : ∀ w1, Calls Try.prog 28 #[.agg A.toArray, .agg C.toArray] w1 fun e w2 => e = .returned (.agg D.toArray) ∧ Below w1.heap.size w1 w2)
    (hth : ∀ w1, Lat w w1 → w1.there p 0 D.length) (hDi : (Try.prog.info? 47).map (·.size) = some D.length) (hone : ∀ v ∈ D, v.oneCell' = true)
    (hQ : ∀ (v37 v38 v39 v40 v41 v42 v43 v44 v45 v46 v47 v48 v49 : Value) (w1 : World), Lat w w1 → Q .normal (((((((((((((a0.put (some 37) v37).put (some 38) v38).put (some 39) v39).put (some 40) v40).put (some 41) v41).put (some 42) v42).put (some 43) v43).put (some 44) v44).put (some 45) v45).put (some 46) v46).put (some 47) v47).put (some 48) v48).put (some 49) v49) (w1.setCells p 0 D)) :
    Code.wp Try.prog ((Try.f16.body.bind (findRegion 5)).getD .skip) Q a0 w := by
  conv => arg 2; whnf
  refine wp_region_last 13 Lat (TV [.pointer (some ⟨p, 0, none⟩), .pointer (some ⟨p, 0, none⟩), .pointer (some ⟨p, 0, none⟩), .pointer (some ⟨p, 0, none⟩), .agg A.toArray, .pointer (some ⟨p, 0, none⟩), .pointer (some ⟨p, 0, none⟩), .pointer (some ⟨p, 8, none⟩), .agg B.toArray, .agg C.toArray, .agg D.toArray, .pointer (some ⟨p, 0, none⟩), .pointer (some ⟨p, 0, none⟩)]) (by kernel_rfl) (by kernel_rfl) (by kernel_rfl) (by rw [hsz]; kernel_rfl) (by kernel_rfl) (by kernel_rfl) Lat.refl Lat.trans (TV.stable _) (Lat.draw w) ?hop ?hlast
  case hlast =>
    intro o a w1 ho hL hS hT
    obtain rfl := Option.some.inj ho
    have d12 : a.tmps.getD 49 undef = .pointer (some ⟨p, 0, none⟩) := hT 12 _ (by omega) rfl _ rfl
    have d10 : a.tmps.getD 47 undef = .agg D.toArray := hT 10 _ (by omega) rfl _ rfl
    refine wp_store_mid 47 (.tmp 49) (.tmp 47) rfl p 0 D.toArray d12 d10 (by simpa using hth w1 hL) (by simpa using hDi) (all_oneCell_toArray hone) ?_
    show Q .normal a (w1.setCells p 0 D)
    have he := same_puts hS
    have := hQ (a.tmps.getD 37 undef) (a.tmps.getD 38 undef) (a.tmps.getD 39 undef) (a.tmps.getD 40 undef) (a.tmps.getD 41 undef) (a.tmps.getD 42 undef) (a.tmps.getD 43 undef) (a.tmps.getD 44 undef) (a.tmps.getD 45 undef) (a.tmps.getD 46 undef) (a.tmps.getD 47 undef) (a.tmps.getD 48 undef) (a.tmps.getD 49 undef) w1 hL
    rw [he]
    exact this
  case hop =>
    intro i o hlt hi
    rcases (show i = 0 ∨ i = 1 ∨ i = 2 ∨ i = 3 ∨ i = 4 ∨ i = 5 ∨ i = 6 ∨ i = 7 ∨ i = 8 ∨ i = 9 ∨ i = 10 ∨ i = 11 ∨ i = 12 by omega) with rfl | rfl | rfl | rfl | rfl | rfl | rfl | rfl | rfl | rfl | rfl | rfl | rfl
    · obtain rfl := Option.some.inj hi
      clear hi hlt
      intro a w1 hL hS hD
      have e0 : a.tmps.getD 0 undef = .pointer (some ⟨p, 0, none⟩) := (hS.slot 0 (by kernel_rfl)).trans s0
      refine step_yes rfl ?_
      exact ok_value Lat.refl (.pointer (some ⟨p, 0, none⟩)) (by simp [execOp, Act.eval, e0, go_sem]) (TV.mk rfl)
    · obtain rfl := Option.some.inj hi
      clear hi hlt
      intro a w1 hL hS hD
      have e0 : a.tmps.getD 0 undef = .pointer (some ⟨p, 0, none⟩) := (hS.slot 0 (by kernel_rfl)).trans s0
      refine step_yes rfl ?_
      exact ok_value Lat.refl (.pointer (some ⟨p, 0, none⟩)) (by simp [execOp, Act.eval, e0, go_sem]) (TV.mk rfl)
    · obtain rfl := Option.some.inj hi
      clear hi hlt
      intro a w1 hL hS hD
      have d1 : a.tmps.getD 38 undef = .pointer (some ⟨p, 0, none⟩) := hD ⟨1, .data⟩ (by simp) rfl _ rfl _ rfl
      refine step_yes rfl ?_
      exact ok_value Lat.refl (.pointer (some ⟨p, 0, none⟩)) (by simp [execOp, Act.eval, d1, go_sem]) (TV.mk rfl)
    · obtain rfl := Option.some.inj hi
      clear hi hlt
      intro a w1 hL hS hD
      have d2 : a.tmps.getD 39 undef = .pointer (some ⟨p, 0, none⟩) := hD ⟨2, .data⟩ (by simp) rfl _ rfl _ rfl
      refine step_yes rfl ?_
      exact ok_value Lat.refl (.pointer (some ⟨p, 0, none⟩)) (by simp [execOp, Act.eval, d2, go_sem]) (TV.mk rfl)
    · obtain rfl := Option.some.inj hi
      clear hi hlt
      intro a w1 hL hS hD
      have d3 : a.tmps.getD 40 undef = .pointer (some ⟨p, 0, none⟩) := hD ⟨3, .data⟩ (by simp) rfl _ rfl _ rfl
      refine step_yes rfl ?_
      exact wp_load_mid 47 (.tmp 40) rfl p 0 d3 A _ (hA w1 hL) Try.underlying47 rfl hAi ⟨_, rfl, Lat.refl _, TV.mk rfl⟩
    · obtain rfl := Option.some.inj hi
      clear hi hlt
      intro a w1 hL hS hD
      have e0 : a.tmps.getD 0 undef = .pointer (some ⟨p, 0, none⟩) := (hS.slot 0 (by kernel_rfl)).trans s0
      refine step_yes rfl ?_
      exact ok_value Lat.refl (.pointer (some ⟨p, 0, none⟩)) (by simp [execOp, Act.eval, e0, go_sem]) (TV.mk rfl)
    · obtain rfl := Option.some.inj hi
      clear hi hlt
      intro a w1 hL hS hD
      have d5 : a.tmps.getD 42 undef = .pointer (some ⟨p, 0, none⟩) := hD ⟨5, .data⟩ (by simp) rfl _ rfl _ rfl
      refine step_yes rfl ?_
      exact ok_value Lat.refl (.pointer (some ⟨p, 0, none⟩)) (by simp [execOp, Act.eval, d5, go_sem]) (TV.mk rfl)
    · obtain rfl := Option.some.inj hi
      clear hi hlt
      intro a w1 hL hS hD
      have d6 : a.tmps.getD 43 undef = .pointer (some ⟨p, 0, none⟩) := hD ⟨6, .data⟩ (by simp) rfl _ rfl _ rfl
      refine step_yes rfl ?_
      exact ok_value Lat.refl (.pointer (some ⟨p, 8, none⟩)) (by simp [execOp, Act.eval, d6, go_sem]) (TV.mk rfl)
    · obtain rfl := Option.some.inj hi
      clear hi hlt
      intro a w1 hL hS hD
      have d7 : a.tmps.getD 44 undef = .pointer (some ⟨p, 8, none⟩) := hD ⟨7, .data⟩ (by simp) rfl _ rfl _ rfl
      refine step_yes rfl ?_
      exact wp_load_mid 50 (.tmp 44) rfl p 8 d7 B _ (hB w1 hL) Try.underlying50 rfl hBi ⟨_, rfl, Lat.refl _, TV.mk rfl⟩
    · obtain rfl := Option.some.inj hi
      clear hi hlt
      intro a w1 hL hS hD
      have d8 : a.tmps.getD 45 undef = .agg B.toArray := hD ⟨8, .data⟩ (by simp) rfl _ rfl _ rfl
      refine step_yes rfl ?_
      refine ok_call (f := 29) (args := #[.agg B.toArray]) (by simp [execOp, resolve, Act.eval, d8, go_sem]) ?_
      refine (h29 w1).mono ?_
      rintro e w2 ⟨rfl, hb⟩
      exact ⟨_, rfl, hb, TV.mk rfl⟩
    · obtain rfl := Option.some.inj hi
      clear hi hlt
      intro a w1 hL hS hD
      have d4 : a.tmps.getD 41 undef = .agg A.toArray := hD ⟨4, .data⟩ (by simp) rfl _ rfl _ rfl
      have d9 : a.tmps.getD 46 undef = .agg C.toArray := hD ⟨9, .data⟩ (by simp) rfl _ rfl _ rfl
      refine step_yes rfl ?_
      refine ok_call (f := 28) (args := #[.agg A.toArray, .agg C.toArray]) (by simp [execOp, resolve, Act.eval, d4, d9, go_sem]) ?_
      refine (h28 w1).mono ?_
      rintro e w2 ⟨rfl, hb⟩
      exact ⟨_, rfl, hb, TV.mk rfl⟩
    · obtain rfl := Option.some.inj hi
      clear hi hlt
      intro a w1 hL hS hD
      have d0 : a.tmps.getD 37 undef = .pointer (some ⟨p, 0, none⟩) := hD ⟨0, .data⟩ (by simp) rfl _ rfl _ rfl
      refine step_yes rfl ?_
      exact ok_value Lat.refl (.pointer (some ⟨p, 0, none⟩)) (by simp [execOp, Act.eval, d0, go_sem]) (TV.mk rfl)
    · obtain rfl := Option.some.inj hi
      clear hi hlt
      intro a w1 hL hS hD
      have d11 : a.tmps.getD 48 undef = .pointer (some ⟨p, 0, none⟩) := hD ⟨11, .data⟩ (by simp) rfl _ rfl _ rfl
      refine step_yes rfl ?_
      exact ok_value Lat.refl (.pointer (some ⟨p, 0, none⟩)) (by simp [execOp, Act.eval, d11, go_sem]) (TV.mk rfl)

end Go.Proofs.Ytfieglepljmmkaa
