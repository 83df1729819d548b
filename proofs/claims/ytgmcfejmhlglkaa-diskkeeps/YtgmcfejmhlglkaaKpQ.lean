import Derived.Test.YtgmcfejmhlglkaaKpN
namespace Go.Proofs.Ytgmcfejmhlglkaa
open Go.RowKit
set_option linter.unusedVariables false
set_option linter.unusedSimpArgs false

set_option maxRecDepth 100000 in
set_option maxHeartbeats 2000000 in
theorem keeps_r63 (lb j yn : Nat) (sy sy2 : ByteArray) (w : World) (a0 : Act) (Q : Exit → Act → World → Prop) (hsz : a0.tmps.size = 327)
    (s29 : a0.tmps.getD 29 undef = .int .i64 (j : Int))
    (s10 : a0.tmps.getD 10 undef = .pointer (some ⟨lb, 0, none⟩))
    (hj : j < 3) (hjj : (j : Int) < 3)
    (hsl : ∀ w1, (Instr.sliceAt 9 (.string sy) none (some (.int .i64 (yn : Int))) none).run Try.prog w1 = .ok (.string sy2) w1)
    (he0 : ∀ w1, Lat w w1 → w1.cell? ⟨lb, j * 2, none⟩ = some (.string sy)) (he1 : ∀ w1, Lat w w1 → w1.cell? ⟨lb, j * 2 + 1, none⟩ = some (.int .i64 (yn : Int)))
    (u : Value) (hcell : ∀ w1, Lat w w1 → w1.cell? ⟨lb, j * 2, none⟩ = some u) (hfrz : ∀ w1, Lat w w1 → w1.frozen? ⟨lb, j * 2, none⟩ = false)
    (hQ : ∀ (v284 v285 v286 v287 v288 v289 v290 v291 v292 v293 v294 v295 : Value) (w1 : World), Lat w w1 → Q .normal ((((((((((((a0.put (some 284) v284).put (some 285) v285).put (some 286) v286).put (some 287) v287).put (some 288) v288).put (some 289) v289).put (some 290) v290).put (some 291) v291).put (some 292) v292).put (some 293) v293).put (some 294) v294).put (some 295) v295) (w1.setCell ⟨lb, j * 2, none⟩ (.string sy2))) :
    Code.wp Try.prog ((Try.f4.body.bind (findRegion 63)).getD .skip) Q a0 w := by
  conv => arg 2; whnf
  refine wp_region_last 12 Lat (TV [.int .i64 (j : Int), .int .i64 (j : Int), .pointer (some ⟨lb, j * 2, none⟩), .pointer (some ⟨lb, j * 2, none⟩), .string sy, .int .i64 (j : Int), .pointer (some ⟨lb, j * 2, none⟩), .pointer (some ⟨lb, j * 2 + 1, none⟩), .int .i64 (yn : Int), .string sy2, .pointer (some ⟨lb, j * 2, none⟩), .pointer (some ⟨lb, j * 2, none⟩)]) (by kernel_rfl) (by kernel_rfl) (by kernel_rfl) (by rw [hsz]; kernel_rfl) (by kernel_rfl) (by kernel_rfl) Lat.refl Lat.trans (TV.stable _) (Lat.draw w) ?hop ?hlast
  case hlast =>
    intro o a w1 ho hL hS hT
    obtain rfl := Option.some.inj ho
    have he := same_puts hS
    have hQ2 := hQ (a.tmps.getD 284 undef) (a.tmps.getD 285 undef) (a.tmps.getD 286 undef) (a.tmps.getD 287 undef) (a.tmps.getD 288 undef) (a.tmps.getD 289 undef) (a.tmps.getD 290 undef) (a.tmps.getD 291 undef) (a.tmps.getD 292 undef) (a.tmps.getD 293 undef) (a.tmps.getD 294 undef) (a.tmps.getD 295 undef) w1 hL
    have dA : a.tmps.getD 295 undef = .pointer (some ⟨lb, j * 2, none⟩) := hT 11 _ (by omega) rfl _ rfl
    have dV : a.tmps.getD 293 undef = .string sy2 := hT 9 _ (by omega) rfl _ rfl
    have hc1 := hcell w1 hL
    have hf1 := hfrz w1 hL
    unfold Oper.wp
    simp [execOp, Act.eval, dA, dV, hc1, hf1, Result.andThen, go_sem]
    show Q .normal a _
    rw [he]
    exact hQ2
  case hop =>
    intro i o hlt hi
    rcases (show i = 0 ∨ i = 1 ∨ i = 2 ∨ i = 3 ∨ i = 4 ∨ i = 5 ∨ i = 6 ∨ i = 7 ∨ i = 8 ∨ i = 9 ∨ i = 10 ∨ i = 11 by omega) with rfl | rfl | rfl | rfl | rfl | rfl | rfl | rfl | rfl | rfl | rfl | rfl
    · obtain rfl := Option.some.inj hi
      clear hi hlt
      intro a w1 hL hS hD
      have e29 : a.tmps.getD 29 undef = .int .i64 (j : Int) := (hS.slot 29 (by kernel_rfl)).trans s29
      refine step_yes rfl ?_
      exact ok_value Lat.refl (.int .i64 (j : Int)) (by simp [execOp, Act.eval, e29, go_sem]) (TV.mk rfl)
    · obtain rfl := Option.some.inj hi
      clear hi hlt
      intro a w1 hL hS hD
      have e29 : a.tmps.getD 29 undef = .int .i64 (j : Int) := (hS.slot 29 (by kernel_rfl)).trans s29
      refine step_yes rfl ?_
      exact ok_value Lat.refl (.int .i64 (j : Int)) (by simp [execOp, Act.eval, e29, go_sem]) (TV.mk rfl)
    · obtain rfl := Option.some.inj hi
      clear hi hlt
      intro a w1 hL hS hD
      have e10 : a.tmps.getD 10 undef = .pointer (some ⟨lb, 0, none⟩) := (hS.slot 10 (by kernel_rfl)).trans s10
      have d1 : a.tmps.getD 285 undef = .int .i64 (j : Int) := hD ⟨1, .data⟩ (by simp) rfl _ rfl _ rfl
      refine step_yes rfl ?_
      exact ok_value Lat.refl (.pointer (some ⟨lb, j * 2, none⟩)) (by simp [execOp, Act.eval, e10, d1, hj, hjj, go_sem]) (TV.mk rfl)
    · obtain rfl := Option.some.inj hi
      clear hi hlt
      intro a w1 hL hS hD
      have d2 : a.tmps.getD 286 undef = .pointer (some ⟨lb, j * 2, none⟩) := hD ⟨2, .data⟩ (by simp) rfl _ rfl _ rfl
      refine step_yes rfl ?_
      exact ok_value Lat.refl (.pointer (some ⟨lb, j * 2, none⟩)) (by simp [execOp, Act.eval, d2, go_sem]) (TV.mk rfl)
    · obtain rfl := Option.some.inj hi
      clear hi hlt
      intro a w1 hL hS hD
      have d3 : a.tmps.getD 287 undef = .pointer (some ⟨lb, j * 2, none⟩) := hD ⟨3, .data⟩ (by simp) rfl _ rfl _ rfl
      refine step_yes rfl ?_
      exact ok_value Lat.refl (.string sy) (by simp [execOp, Act.eval, d3, he0 w1 hL, go_sem]) (TV.mk rfl)
    · obtain rfl := Option.some.inj hi
      clear hi hlt
      intro a w1 hL hS hD
      have e29 : a.tmps.getD 29 undef = .int .i64 (j : Int) := (hS.slot 29 (by kernel_rfl)).trans s29
      refine step_yes rfl ?_
      exact ok_value Lat.refl (.int .i64 (j : Int)) (by simp [execOp, Act.eval, e29, go_sem]) (TV.mk rfl)
    · obtain rfl := Option.some.inj hi
      clear hi hlt
      intro a w1 hL hS hD
      have e10 : a.tmps.getD 10 undef = .pointer (some ⟨lb, 0, none⟩) := (hS.slot 10 (by kernel_rfl)).trans s10
      have d5 : a.tmps.getD 289 undef = .int .i64 (j : Int) := hD ⟨5, .data⟩ (by simp) rfl _ rfl _ rfl
      refine step_yes rfl ?_
      exact ok_value Lat.refl (.pointer (some ⟨lb, j * 2, none⟩)) (by simp [execOp, Act.eval, e10, d5, hj, hjj, go_sem]) (TV.mk rfl)
    · obtain rfl := Option.some.inj hi
      clear hi hlt
      intro a w1 hL hS hD
      have d6 : a.tmps.getD 290 undef = .pointer (some ⟨lb, j * 2, none⟩) := hD ⟨6, .data⟩ (by simp) rfl _ rfl _ rfl
      refine step_yes rfl ?_
      exact ok_value Lat.refl (.pointer (some ⟨lb, j * 2 + 1, none⟩)) (by simp [execOp, Act.eval, d6, go_sem]) (TV.mk rfl)
    · obtain rfl := Option.some.inj hi
      clear hi hlt
      intro a w1 hL hS hD
      have d7 : a.tmps.getD 291 undef = .pointer (some ⟨lb, j * 2 + 1, none⟩) := hD ⟨7, .data⟩ (by simp) rfl _ rfl _ rfl
      refine step_yes rfl ?_
      exact ok_value Lat.refl (.int .i64 (yn : Int)) (by simp [execOp, Act.eval, d7, he1 w1 hL, go_sem]) (TV.mk rfl)
    · obtain rfl := Option.some.inj hi
      clear hi hlt
      intro a w1 hL hS hD
      have d4 : a.tmps.getD 288 undef = .string sy := hD ⟨4, .data⟩ (by simp) rfl _ rfl _ rfl
      have d8 : a.tmps.getD 292 undef = .int .i64 (yn : Int) := hD ⟨8, .data⟩ (by simp) rfl _ rfl _ rfl
      refine step_yes rfl ?_
      exact ok_value Lat.refl (.string sy2) (by simp [execOp, Act.eval, d4, d8, hsl w1, go_sem]) (TV.mk rfl)
    · obtain rfl := Option.some.inj hi
      clear hi hlt
      intro a w1 hL hS hD
      have e10 : a.tmps.getD 10 undef = .pointer (some ⟨lb, 0, none⟩) := (hS.slot 10 (by kernel_rfl)).trans s10
      have d0 : a.tmps.getD 284 undef = .int .i64 (j : Int) := hD ⟨0, .data⟩ (by simp) rfl _ rfl _ rfl
      refine step_yes rfl ?_
      exact ok_value Lat.refl (.pointer (some ⟨lb, j * 2, none⟩)) (by simp [execOp, Act.eval, e10, d0, hj, hjj, go_sem]) (TV.mk rfl)
    · obtain rfl := Option.some.inj hi
      clear hi hlt
      intro a w1 hL hS hD
      have d10 : a.tmps.getD 294 undef = .pointer (some ⟨lb, j * 2, none⟩) := hD ⟨10, .data⟩ (by simp) rfl _ rfl _ rfl
      refine step_yes rfl ?_
      exact ok_value Lat.refl (.pointer (some ⟨lb, j * 2, none⟩)) (by simp [execOp, Act.eval, d10, go_sem]) (TV.mk rfl)

end Go.Proofs.Ytgmcfejmhlglkaa
