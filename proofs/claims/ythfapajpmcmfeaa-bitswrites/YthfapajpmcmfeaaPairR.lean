import Derived.Test.YthfapajpmcmfeaaPairS
import Derived.Test.YthfapajpmcmfeaaPairB
namespace Go.Proofs.Ythfapajpmcmfeaa
open Go.RowKit
set_option linter.unusedVariables false

theorem put_put (b : Act) (d : Tmp) (v x : Value) : (b.put (some d) v).put (some d) x = b.put (some d) x := by
  cases b
  simp [Act.put]
theorem wp_call_r {P : Program} {o : Oper} {a : Act} {w : World} {K : Act → World → Prop} {Q : Exit → Act → World → Prop} {f : FuncId} {args : Array Value} (h : (execOp a.eval o).run P w = .ok (.enter f args) w) (hc : Calls P f args w fun e w' => ∃ v, e = .returned v ∧ K (a.put o.dst v) w') : o.wp P a w K Q := by
  unfold Oper.wp
  rw [h]
  refine Calls.mono hc ?_
  rintro e w' ⟨v, rfl, hk⟩
  exact hk

set_option maxRecDepth 100000 in
set_option maxHeartbeats 2000000 in
theorem step_r3 (pp p ob V : Nat) (nn : Int) (R : World → Prop) (w : World) (a0 : Act) (Q : Exit → Act → World → Prop) (hsz : a0.tmps.size = 89)
    (s0 : a0.tmps.getD 0 undef = .pointer (some ⟨pp, 0, none⟩))
    (s3 : a0.tmps.getD 3 undef = .pointer (some ⟨ob, 0, none⟩))
    (hA : ∀ w1, Lat w w1 → w1.cell? ⟨pp, 0, none⟩ = some (.pointer (some ⟨p, 0, none⟩)))
    (h2 : ∀ w1, Lat w w1 → w1.cell? ⟨ob, 2, none⟩ = some (.int .u64 (V : Int)))
    (h3 : ∀ w1, Lat w w1 → w1.cell? ⟨ob, 3, none⟩ = some (.int .i64 nn))
    (hcall : ∀ w1, Lat w w1 → Calls Try.prog 17 #[.pointer (some ⟨p, 0, none⟩), .int .u64 (V : Int), .int .i64 nn] w1 fun e w2 => ∃ x, e = .returned x ∧ R w2)
    (hQ : ∀ (v10 v11 v12 v13 v14 v15 v16 v17 v18 : Value) (w2 : World), R w2 → Q .normal (((((((((a0.put (some 10) v10).put (some 11) v11).put (some 12) v12).put (some 13) v13).put (some 14) v14).put (some 15) v15).put (some 16) v16).put (some 17) v17).put (some 18) v18) w2) :
    Code.wp Try.prog ((Try.f9.body.bind (findRegion 3)).getD .skip) Q a0 w := by
  conv => arg 2; whnf
  refine wp_region_last 8 Lat (TV [.pointer (some ⟨pp, 0, none⟩), .pointer (some ⟨pp, 0, none⟩), .pointer (some ⟨pp, 0, none⟩), .pointer (some ⟨p, 0, none⟩), .pointer (some ⟨ob, 2, none⟩), .int .u64 (V : Int), .pointer (some ⟨ob, 3, none⟩), .int .i64 nn]) (by kernel_rfl) (by kernel_rfl) (by kernel_rfl) (by rw [hsz]; kernel_rfl) (by kernel_rfl) (by kernel_rfl) Lat.refl Lat.trans (TV.stable _) (Lat.draw w) ?hop ?hlast
  case hlast =>
    intro o a w1 ho hL hS hT
    obtain rfl := Option.some.inj ho
    have d3 : a.tmps.getD 13 undef = .pointer (some ⟨p, 0, none⟩) := hT 3 _ (by omega) rfl _ rfl
    have d5 : a.tmps.getD 15 undef = .int .u64 (V : Int) := hT 5 _ (by omega) rfl _ rfl
    have d7 : a.tmps.getD 17 undef = .int .i64 nn := hT 7 _ (by omega) rfl _ rfl
    have he := same_puts hS
    refine wp_call_r (f := 17) (args := #[.pointer (some ⟨p, 0, none⟩), .int .u64 (V : Int), .int .i64 nn]) (by simp [execOp, resolve, Act.eval, d3, d5, d7, go_sem]) ?_
    refine (hcall w1 hL).mono ?_
    rintro e w2 ⟨x, rfl, hR⟩
    refine ⟨x, rfl, ?_⟩
    have hQ2 := hQ (a.tmps.getD 10 undef) (a.tmps.getD 11 undef) (a.tmps.getD 12 undef) (a.tmps.getD 13 undef) (a.tmps.getD 14 undef) (a.tmps.getD 15 undef) (a.tmps.getD 16 undef) (a.tmps.getD 17 undef) x w2 hR
    have hp := congrArg (fun b : Act => b.put (some 18) x) he
    have hp2 : a.put (some 18) x = (((((((((a0.put (some 10) (a.tmps.getD 10 undef)).put (some 11) (a.tmps.getD 11 undef)).put (some 12) (a.tmps.getD 12 undef)).put (some 13) (a.tmps.getD 13 undef)).put (some 14) (a.tmps.getD 14 undef)).put (some 15) (a.tmps.getD 15 undef)).put (some 16) (a.tmps.getD 16 undef)).put (some 17) (a.tmps.getD 17 undef)).put (some 18) x) := hp.trans (put_put _ _ _ _)
    show Q .normal (a.put (some 18) x) w2
    rw [hp2]
    exact hQ2
  case hop =>
    intro i o hlt hi
    rcases (show i = 0 ∨ i = 1 ∨ i = 2 ∨ i = 3 ∨ i = 4 ∨ i = 5 ∨ i = 6 ∨ i = 7 by omega) with rfl | rfl | rfl | rfl | rfl | rfl | rfl | rfl
    · obtain rfl := Option.some.inj hi
      clear hi hlt
      intro a w1 hL hS hD
      have e0 : a.tmps.getD 0 undef = .pointer (some ⟨pp, 0, none⟩) := (hS.slot 0 (by kernel_rfl)).trans s0
      refine step_yes rfl ?_
      exact ok_value Lat.refl (.pointer (some ⟨pp, 0, none⟩)) (by simp [execOp, Act.eval, e0, go_sem]) (TV.mk rfl)
    · obtain rfl := Option.some.inj hi
      clear hi hlt
      intro a w1 hL hS hD
      have d0 : a.tmps.getD 10 undef = .pointer (some ⟨pp, 0, none⟩) := hD ⟨0, .data⟩ (by simp) rfl _ rfl _ rfl
      refine step_yes rfl ?_
      exact ok_value Lat.refl (.pointer (some ⟨pp, 0, none⟩)) (by simp [execOp, Act.eval, d0, go_sem]) (TV.mk rfl)
    · obtain rfl := Option.some.inj hi
      clear hi hlt
      intro a w1 hL hS hD
      have d1 : a.tmps.getD 11 undef = .pointer (some ⟨pp, 0, none⟩) := hD ⟨1, .data⟩ (by simp) rfl _ rfl _ rfl
      refine step_yes rfl ?_
      exact ok_value Lat.refl (.pointer (some ⟨pp, 0, none⟩)) (by simp [execOp, Act.eval, d1, go_sem]) (TV.mk rfl)
    · obtain rfl := Option.some.inj hi
      clear hi hlt
      intro a w1 hL hS hD
      have d2 : a.tmps.getD 12 undef = .pointer (some ⟨pp, 0, none⟩) := hD ⟨2, .data⟩ (by simp) rfl _ rfl _ rfl
      refine step_yes rfl ?_
      exact ok_value Lat.refl (.pointer (some ⟨p, 0, none⟩)) (by simp [execOp, Act.eval, d2, hA w1 hL, go_sem]) (TV.mk rfl)
    · obtain rfl := Option.some.inj hi
      clear hi hlt
      intro a w1 hL hS hD
      have e3 : a.tmps.getD 3 undef = .pointer (some ⟨ob, 0, none⟩) := (hS.slot 3 (by kernel_rfl)).trans s3
      refine step_yes rfl ?_
      exact ok_value Lat.refl (.pointer (some ⟨ob, 2, none⟩)) (by simp [execOp, Act.eval, e3, go_sem]) (TV.mk rfl)
    · obtain rfl := Option.some.inj hi
      clear hi hlt
      intro a w1 hL hS hD
      have d4 : a.tmps.getD 14 undef = .pointer (some ⟨ob, 2, none⟩) := hD ⟨4, .data⟩ (by simp) rfl _ rfl _ rfl
      refine step_yes rfl ?_
      exact ok_value Lat.refl (.int .u64 (V : Int)) (by simp [execOp, Act.eval, d4, h2 w1 hL, go_sem]) (TV.mk rfl)
    · obtain rfl := Option.some.inj hi
      clear hi hlt
      intro a w1 hL hS hD
      have e3 : a.tmps.getD 3 undef = .pointer (some ⟨ob, 0, none⟩) := (hS.slot 3 (by kernel_rfl)).trans s3
      refine step_yes rfl ?_
      exact ok_value Lat.refl (.pointer (some ⟨ob, 3, none⟩)) (by simp [execOp, Act.eval, e3, go_sem]) (TV.mk rfl)
    · obtain rfl := Option.some.inj hi
      clear hi hlt
      intro a w1 hL hS hD
      have d6 : a.tmps.getD 16 undef = .pointer (some ⟨ob, 3, none⟩) := hD ⟨6, .data⟩ (by simp) rfl _ rfl _ rfl
      refine step_yes rfl ?_
      exact ok_value Lat.refl (.int .i64 nn) (by simp [execOp, Act.eval, d6, h3 w1 hL, go_sem]) (TV.mk rfl)

set_option maxRecDepth 100000 in
set_option maxHeartbeats 2000000 in
theorem step_r4 (pp q ob V : Nat) (nn : Int) (R : World → Prop) (w : World) (a0 : Act) (Q : Exit → Act → World → Prop) (hsz : a0.tmps.size = 89)
    (s0 : a0.tmps.getD 0 undef = .pointer (some ⟨pp, 0, none⟩))
    (s3 : a0.tmps.getD 3 undef = .pointer (some ⟨ob, 0, none⟩))
    (hB : ∀ w1, Lat w w1 → w1.cell? ⟨pp, 1, none⟩ = some (.pointer (some ⟨q, 0, none⟩)))
    (h2 : ∀ w1, Lat w w1 → w1.cell? ⟨ob, 2, none⟩ = some (.int .u64 (V : Int)))
    (h3 : ∀ w1, Lat w w1 → w1.cell? ⟨ob, 3, none⟩ = some (.int .i64 nn))
    (hcall : ∀ w1, Lat w w1 → Calls Try.prog 21 #[.pointer (some ⟨q, 0, none⟩), .int .u64 (V : Int), .int .i64 nn] w1 fun e w2 => ∃ x, e = .returned x ∧ R w2)
    (hQ : ∀ (v19 v20 v21 v22 v23 v24 v25 v26 v27 : Value) (w2 : World), R w2 → Q .normal (((((((((a0.put (some 19) v19).put (some 20) v20).put (some 21) v21).put (some 22) v22).put (some 23) v23).put (some 24) v24).put (some 25) v25).put (some 26) v26).put (some 27) v27) w2) :
    Code.wp Try.prog ((Try.f9.body.bind (findRegion 4)).getD .skip) Q a0 w := by
  conv => arg 2; whnf
  refine wp_region_last 8 Lat (TV [.pointer (some ⟨pp, 0, none⟩), .pointer (some ⟨pp, 0, none⟩), .pointer (some ⟨pp, 1, none⟩), .pointer (some ⟨q, 0, none⟩), .pointer (some ⟨ob, 2, none⟩), .int .u64 (V : Int), .pointer (some ⟨ob, 3, none⟩), .int .i64 nn]) (by kernel_rfl) (by kernel_rfl) (by kernel_rfl) (by rw [hsz]; kernel_rfl) (by kernel_rfl) (by kernel_rfl) Lat.refl Lat.trans (TV.stable _) (Lat.draw w) ?hop ?hlast
  case hlast =>
    intro o a w1 ho hL hS hT
    obtain rfl := Option.some.inj ho
    have d3 : a.tmps.getD 22 undef = .pointer (some ⟨q, 0, none⟩) := hT 3 _ (by omega) rfl _ rfl
    have d5 : a.tmps.getD 24 undef = .int .u64 (V : Int) := hT 5 _ (by omega) rfl _ rfl
    have d7 : a.tmps.getD 26 undef = .int .i64 nn := hT 7 _ (by omega) rfl _ rfl
    have he := same_puts hS
    refine wp_call_r (f := 21) (args := #[.pointer (some ⟨q, 0, none⟩), .int .u64 (V : Int), .int .i64 nn]) (by simp [execOp, resolve, Act.eval, d3, d5, d7, go_sem]) ?_
    refine (hcall w1 hL).mono ?_
    rintro e w2 ⟨x, rfl, hR⟩
    refine ⟨x, rfl, ?_⟩
    have hQ2 := hQ (a.tmps.getD 19 undef) (a.tmps.getD 20 undef) (a.tmps.getD 21 undef) (a.tmps.getD 22 undef) (a.tmps.getD 23 undef) (a.tmps.getD 24 undef) (a.tmps.getD 25 undef) (a.tmps.getD 26 undef) x w2 hR
    have hp := congrArg (fun b : Act => b.put (some 27) x) he
    have hp2 : a.put (some 27) x = (((((((((a0.put (some 19) (a.tmps.getD 19 undef)).put (some 20) (a.tmps.getD 20 undef)).put (some 21) (a.tmps.getD 21 undef)).put (some 22) (a.tmps.getD 22 undef)).put (some 23) (a.tmps.getD 23 undef)).put (some 24) (a.tmps.getD 24 undef)).put (some 25) (a.tmps.getD 25 undef)).put (some 26) (a.tmps.getD 26 undef)).put (some 27) x) := hp.trans (put_put _ _ _ _)
    show Q .normal (a.put (some 27) x) w2
    rw [hp2]
    exact hQ2
  case hop =>
    intro i o hlt hi
    rcases (show i = 0 ∨ i = 1 ∨ i = 2 ∨ i = 3 ∨ i = 4 ∨ i = 5 ∨ i = 6 ∨ i = 7 by omega) with rfl | rfl | rfl | rfl | rfl | rfl | rfl | rfl
    · obtain rfl := Option.some.inj hi
      clear hi hlt
      intro a w1 hL hS hD
      have e0 : a.tmps.getD 0 undef = .pointer (some ⟨pp, 0, none⟩) := (hS.slot 0 (by kernel_rfl)).trans s0
      refine step_yes rfl ?_
      exact ok_value Lat.refl (.pointer (some ⟨pp, 0, none⟩)) (by simp [execOp, Act.eval, e0, go_sem]) (TV.mk rfl)
    · obtain rfl := Option.some.inj hi
      clear hi hlt
      intro a w1 hL hS hD
      have d0 : a.tmps.getD 19 undef = .pointer (some ⟨pp, 0, none⟩) := hD ⟨0, .data⟩ (by simp) rfl _ rfl _ rfl
      refine step_yes rfl ?_
      exact ok_value Lat.refl (.pointer (some ⟨pp, 0, none⟩)) (by simp [execOp, Act.eval, d0, go_sem]) (TV.mk rfl)
    · obtain rfl := Option.some.inj hi
      clear hi hlt
      intro a w1 hL hS hD
      have d1 : a.tmps.getD 20 undef = .pointer (some ⟨pp, 0, none⟩) := hD ⟨1, .data⟩ (by simp) rfl _ rfl _ rfl
      refine step_yes rfl ?_
      exact ok_value Lat.refl (.pointer (some ⟨pp, 1, none⟩)) (by simp [execOp, Act.eval, d1, go_sem]) (TV.mk rfl)
    · obtain rfl := Option.some.inj hi
      clear hi hlt
      intro a w1 hL hS hD
      have d2 : a.tmps.getD 21 undef = .pointer (some ⟨pp, 1, none⟩) := hD ⟨2, .data⟩ (by simp) rfl _ rfl _ rfl
      refine step_yes rfl ?_
      exact ok_value Lat.refl (.pointer (some ⟨q, 0, none⟩)) (by simp [execOp, Act.eval, d2, hB w1 hL, go_sem]) (TV.mk rfl)
    · obtain rfl := Option.some.inj hi
      clear hi hlt
      intro a w1 hL hS hD
      have e3 : a.tmps.getD 3 undef = .pointer (some ⟨ob, 0, none⟩) := (hS.slot 3 (by kernel_rfl)).trans s3
      refine step_yes rfl ?_
      exact ok_value Lat.refl (.pointer (some ⟨ob, 2, none⟩)) (by simp [execOp, Act.eval, e3, go_sem]) (TV.mk rfl)
    · obtain rfl := Option.some.inj hi
      clear hi hlt
      intro a w1 hL hS hD
      have d4 : a.tmps.getD 23 undef = .pointer (some ⟨ob, 2, none⟩) := hD ⟨4, .data⟩ (by simp) rfl _ rfl _ rfl
      refine step_yes rfl ?_
      exact ok_value Lat.refl (.int .u64 (V : Int)) (by simp [execOp, Act.eval, d4, h2 w1 hL, go_sem]) (TV.mk rfl)
    · obtain rfl := Option.some.inj hi
      clear hi hlt
      intro a w1 hL hS hD
      have e3 : a.tmps.getD 3 undef = .pointer (some ⟨ob, 0, none⟩) := (hS.slot 3 (by kernel_rfl)).trans s3
      refine step_yes rfl ?_
      exact ok_value Lat.refl (.pointer (some ⟨ob, 3, none⟩)) (by simp [execOp, Act.eval, e3, go_sem]) (TV.mk rfl)
    · obtain rfl := Option.some.inj hi
      clear hi hlt
      intro a w1 hL hS hD
      have d6 : a.tmps.getD 25 undef = .pointer (some ⟨ob, 3, none⟩) := hD ⟨6, .data⟩ (by simp) rfl _ rfl _ rfl
      refine step_yes rfl ?_
      exact ok_value Lat.refl (.int .i64 nn) (by simp [execOp, Act.eval, d6, h3 w1 hL, go_sem]) (TV.mk rfl)

set_option maxRecDepth 100000 in
set_option maxHeartbeats 2000000 in
theorem step_r6 (pp p ob : Nat) (nn : Int) (R : World → Prop) (w : World) (a0 : Act) (Q : Exit → Act → World → Prop) (hsz : a0.tmps.size = 89)
    (s0 : a0.tmps.getD 0 undef = .pointer (some ⟨pp, 0, none⟩))
    (s3 : a0.tmps.getD 3 undef = .pointer (some ⟨ob, 0, none⟩))
    (hA : ∀ w1, Lat w w1 → w1.cell? ⟨pp, 0, none⟩ = some (.pointer (some ⟨p, 0, none⟩)))
    (h3 : ∀ w1, Lat w w1 → w1.cell? ⟨ob, 3, none⟩ = some (.int .i64 nn))
    (hcall : ∀ w1, Lat w w1 → Calls Try.prog 19 #[.pointer (some ⟨p, 0, none⟩), .int .i64 nn] w1 fun e w2 => ∃ x, e = .returned x ∧ R w2)
    (hQ : ∀ (v30 v31 v32 v33 v34 v35 v36 : Value) (w2 : World), R w2 → Q .normal (((((((a0.put (some 30) v30).put (some 31) v31).put (some 32) v32).put (some 33) v33).put (some 34) v34).put (some 35) v35).put (some 36) v36) w2) :
    Code.wp Try.prog ((Try.f9.body.bind (findRegion 6)).getD .skip) Q a0 w := by
  conv => arg 2; whnf
  refine wp_region_last 6 Lat (TV [.pointer (some ⟨pp, 0, none⟩), .pointer (some ⟨pp, 0, none⟩), .pointer (some ⟨pp, 0, none⟩), .pointer (some ⟨p, 0, none⟩), .pointer (some ⟨ob, 3, none⟩), .int .i64 nn]) (by kernel_rfl) (by kernel_rfl) (by kernel_rfl) (by rw [hsz]; kernel_rfl) (by kernel_rfl) (by kernel_rfl) Lat.refl Lat.trans (TV.stable _) (Lat.draw w) ?hop ?hlast
  case hlast =>
    intro o a w1 ho hL hS hT
    obtain rfl := Option.some.inj ho
    have d3 : a.tmps.getD 33 undef = .pointer (some ⟨p, 0, none⟩) := hT 3 _ (by omega) rfl _ rfl
    have d5 : a.tmps.getD 35 undef = .int .i64 nn := hT 5 _ (by omega) rfl _ rfl
    have he := same_puts hS
    refine wp_call_r (f := 19) (args := #[.pointer (some ⟨p, 0, none⟩), .int .i64 nn]) (by simp [execOp, resolve, Act.eval, d3, d5, go_sem]) ?_
    refine (hcall w1 hL).mono ?_
    rintro e w2 ⟨x, rfl, hR⟩
    refine ⟨x, rfl, ?_⟩
    have hQ2 := hQ (a.tmps.getD 30 undef) (a.tmps.getD 31 undef) (a.tmps.getD 32 undef) (a.tmps.getD 33 undef) (a.tmps.getD 34 undef) (a.tmps.getD 35 undef) x w2 hR
    have hp := congrArg (fun b : Act => b.put (some 36) x) he
    have hp2 : a.put (some 36) x = (((((((a0.put (some 30) (a.tmps.getD 30 undef)).put (some 31) (a.tmps.getD 31 undef)).put (some 32) (a.tmps.getD 32 undef)).put (some 33) (a.tmps.getD 33 undef)).put (some 34) (a.tmps.getD 34 undef)).put (some 35) (a.tmps.getD 35 undef)).put (some 36) x) := hp.trans (put_put _ _ _ _)
    show Q .normal (a.put (some 36) x) w2
    rw [hp2]
    exact hQ2
  case hop =>
    intro i o hlt hi
    rcases (show i = 0 ∨ i = 1 ∨ i = 2 ∨ i = 3 ∨ i = 4 ∨ i = 5 by omega) with rfl | rfl | rfl | rfl | rfl | rfl
    · obtain rfl := Option.some.inj hi
      clear hi hlt
      intro a w1 hL hS hD
      have e0 : a.tmps.getD 0 undef = .pointer (some ⟨pp, 0, none⟩) := (hS.slot 0 (by kernel_rfl)).trans s0
      refine step_yes rfl ?_
      exact ok_value Lat.refl (.pointer (some ⟨pp, 0, none⟩)) (by simp [execOp, Act.eval, e0, go_sem]) (TV.mk rfl)
    · obtain rfl := Option.some.inj hi
      clear hi hlt
      intro a w1 hL hS hD
      have d0 : a.tmps.getD 30 undef = .pointer (some ⟨pp, 0, none⟩) := hD ⟨0, .data⟩ (by simp) rfl _ rfl _ rfl
      refine step_yes rfl ?_
      exact ok_value Lat.refl (.pointer (some ⟨pp, 0, none⟩)) (by simp [execOp, Act.eval, d0, go_sem]) (TV.mk rfl)
    · obtain rfl := Option.some.inj hi
      clear hi hlt
      intro a w1 hL hS hD
      have d1 : a.tmps.getD 31 undef = .pointer (some ⟨pp, 0, none⟩) := hD ⟨1, .data⟩ (by simp) rfl _ rfl _ rfl
      refine step_yes rfl ?_
      exact ok_value Lat.refl (.pointer (some ⟨pp, 0, none⟩)) (by simp [execOp, Act.eval, d1, go_sem]) (TV.mk rfl)
    · obtain rfl := Option.some.inj hi
      clear hi hlt
      intro a w1 hL hS hD
      have d2 : a.tmps.getD 32 undef = .pointer (some ⟨pp, 0, none⟩) := hD ⟨2, .data⟩ (by simp) rfl _ rfl _ rfl
      refine step_yes rfl ?_
      exact ok_value Lat.refl (.pointer (some ⟨p, 0, none⟩)) (by simp [execOp, Act.eval, d2, hA w1 hL, go_sem]) (TV.mk rfl)
    · obtain rfl := Option.some.inj hi
      clear hi hlt
      intro a w1 hL hS hD
      have e3 : a.tmps.getD 3 undef = .pointer (some ⟨ob, 0, none⟩) := (hS.slot 3 (by kernel_rfl)).trans s3
      refine step_yes rfl ?_
      exact ok_value Lat.refl (.pointer (some ⟨ob, 3, none⟩)) (by simp [execOp, Act.eval, e3, go_sem]) (TV.mk rfl)
    · obtain rfl := Option.some.inj hi
      clear hi hlt
      intro a w1 hL hS hD
      have d4 : a.tmps.getD 34 undef = .pointer (some ⟨ob, 3, none⟩) := hD ⟨4, .data⟩ (by simp) rfl _ rfl _ rfl
      refine step_yes rfl ?_
      exact ok_value Lat.refl (.int .i64 nn) (by simp [execOp, Act.eval, d4, h3 w1 hL, go_sem]) (TV.mk rfl)

set_option maxRecDepth 100000 in
set_option maxHeartbeats 2000000 in
theorem step_r7 (pp q ob : Nat) (nn : Int) (R : World → Prop) (w : World) (a0 : Act) (Q : Exit → Act → World → Prop) (hsz : a0.tmps.size = 89)
    (s0 : a0.tmps.getD 0 undef = .pointer (some ⟨pp, 0, none⟩))
    (s3 : a0.tmps.getD 3 undef = .pointer (some ⟨ob, 0, none⟩))
    (hB : ∀ w1, Lat w w1 → w1.cell? ⟨pp, 1, none⟩ = some (.pointer (some ⟨q, 0, none⟩)))
    (h3 : ∀ w1, Lat w w1 → w1.cell? ⟨ob, 3, none⟩ = some (.int .i64 nn))
    (hcall : ∀ w1, Lat w w1 → Calls Try.prog 22 #[.pointer (some ⟨q, 0, none⟩), .int .i64 nn] w1 fun e w2 => ∃ x, e = .returned x ∧ R w2)
    (hQ : ∀ (v37 v38 v39 v40 v41 v42 v43 : Value) (w2 : World), R w2 → Q .normal (((((((a0.put (some 37) v37).put (some 38) v38).put (some 39) v39).put (some 40) v40).put (some 41) v41).put (some 42) v42).put (some 43) v43) w2) :
    Code.wp Try.prog ((Try.f9.body.bind (findRegion 7)).getD .skip) Q a0 w := by
  conv => arg 2; whnf
  refine wp_region_last 6 Lat (TV [.pointer (some ⟨pp, 0, none⟩), .pointer (some ⟨pp, 0, none⟩), .pointer (some ⟨pp, 1, none⟩), .pointer (some ⟨q, 0, none⟩), .pointer (some ⟨ob, 3, none⟩), .int .i64 nn]) (by kernel_rfl) (by kernel_rfl) (by kernel_rfl) (by rw [hsz]; kernel_rfl) (by kernel_rfl) (by kernel_rfl) Lat.refl Lat.trans (TV.stable _) (Lat.draw w) ?hop ?hlast
  case hlast =>
    intro o a w1 ho hL hS hT
    obtain rfl := Option.some.inj ho
    have d3 : a.tmps.getD 40 undef = .pointer (some ⟨q, 0, none⟩) := hT 3 _ (by omega) rfl _ rfl
    have d5 : a.tmps.getD 42 undef = .int .i64 nn := hT 5 _ (by omega) rfl _ rfl
    have he := same_puts hS
    refine wp_call_r (f := 22) (args := #[.pointer (some ⟨q, 0, none⟩), .int .i64 nn]) (by simp [execOp, resolve, Act.eval, d3, d5, go_sem]) ?_
    refine (hcall w1 hL).mono ?_
    rintro e w2 ⟨x, rfl, hR⟩
    refine ⟨x, rfl, ?_⟩
    have hQ2 := hQ (a.tmps.getD 37 undef) (a.tmps.getD 38 undef) (a.tmps.getD 39 undef) (a.tmps.getD 40 undef) (a.tmps.getD 41 undef) (a.tmps.getD 42 undef) x w2 hR
    have hp := congrArg (fun b : Act => b.put (some 43) x) he
    have hp2 : a.put (some 43) x = (((((((a0.put (some 37) (a.tmps.getD 37 undef)).put (some 38) (a.tmps.getD 38 undef)).put (some 39) (a.tmps.getD 39 undef)).put (some 40) (a.tmps.getD 40 undef)).put (some 41) (a.tmps.getD 41 undef)).put (some 42) (a.tmps.getD 42 undef)).put (some 43) x) := hp.trans (put_put _ _ _ _)
    show Q .normal (a.put (some 43) x) w2
    rw [hp2]
    exact hQ2
  case hop =>
    intro i o hlt hi
    rcases (show i = 0 ∨ i = 1 ∨ i = 2 ∨ i = 3 ∨ i = 4 ∨ i = 5 by omega) with rfl | rfl | rfl | rfl | rfl | rfl
    · obtain rfl := Option.some.inj hi
      clear hi hlt
      intro a w1 hL hS hD
      have e0 : a.tmps.getD 0 undef = .pointer (some ⟨pp, 0, none⟩) := (hS.slot 0 (by kernel_rfl)).trans s0
      refine step_yes rfl ?_
      exact ok_value Lat.refl (.pointer (some ⟨pp, 0, none⟩)) (by simp [execOp, Act.eval, e0, go_sem]) (TV.mk rfl)
    · obtain rfl := Option.some.inj hi
      clear hi hlt
      intro a w1 hL hS hD
      have d0 : a.tmps.getD 37 undef = .pointer (some ⟨pp, 0, none⟩) := hD ⟨0, .data⟩ (by simp) rfl _ rfl _ rfl
      refine step_yes rfl ?_
      exact ok_value Lat.refl (.pointer (some ⟨pp, 0, none⟩)) (by simp [execOp, Act.eval, d0, go_sem]) (TV.mk rfl)
    · obtain rfl := Option.some.inj hi
      clear hi hlt
      intro a w1 hL hS hD
      have d1 : a.tmps.getD 38 undef = .pointer (some ⟨pp, 0, none⟩) := hD ⟨1, .data⟩ (by simp) rfl _ rfl _ rfl
      refine step_yes rfl ?_
      exact ok_value Lat.refl (.pointer (some ⟨pp, 1, none⟩)) (by simp [execOp, Act.eval, d1, go_sem]) (TV.mk rfl)
    · obtain rfl := Option.some.inj hi
      clear hi hlt
      intro a w1 hL hS hD
      have d2 : a.tmps.getD 39 undef = .pointer (some ⟨pp, 1, none⟩) := hD ⟨2, .data⟩ (by simp) rfl _ rfl _ rfl
      refine step_yes rfl ?_
      exact ok_value Lat.refl (.pointer (some ⟨q, 0, none⟩)) (by simp [execOp, Act.eval, d2, hB w1 hL, go_sem]) (TV.mk rfl)
    · obtain rfl := Option.some.inj hi
      clear hi hlt
      intro a w1 hL hS hD
      have e3 : a.tmps.getD 3 undef = .pointer (some ⟨ob, 0, none⟩) := (hS.slot 3 (by kernel_rfl)).trans s3
      refine step_yes rfl ?_
      exact ok_value Lat.refl (.pointer (some ⟨ob, 3, none⟩)) (by simp [execOp, Act.eval, e3, go_sem]) (TV.mk rfl)
    · obtain rfl := Option.some.inj hi
      clear hi hlt
      intro a w1 hL hS hD
      have d4 : a.tmps.getD 41 undef = .pointer (some ⟨ob, 3, none⟩) := hD ⟨4, .data⟩ (by simp) rfl _ rfl _ rfl
      refine step_yes rfl ?_
      exact ok_value Lat.refl (.int .i64 nn) (by simp [execOp, Act.eval, d4, h3 w1 hL, go_sem]) (TV.mk rfl)

set_option maxRecDepth 100000 in
set_option maxHeartbeats 2000000 in
theorem step_r9 (pp p : Nat) (ln : Int) (R : World → Prop) (w : World) (a0 : Act) (Q : Exit → Act → World → Prop) (hsz : a0.tmps.size = 89)
    (s0 : a0.tmps.getD 0 undef = .pointer (some ⟨pp, 0, none⟩))
    (hA : ∀ w1, Lat w w1 → w1.cell? ⟨pp, 0, none⟩ = some (.pointer (some ⟨p, 0, none⟩)))
    (h4 : ∀ w1, Lat w w1 → w1.cell? ⟨pp, 4, none⟩ = some (.int .i64 ln))
    (hcall : ∀ w1, Lat w w1 → Calls Try.prog 19 #[.pointer (some ⟨p, 0, none⟩), .int .i64 ln] w1 fun e w2 => ∃ x, e = .returned x ∧ R w2)
    (hQ : ∀ (v46 v47 v48 v49 v50 v51 v52 v53 v54 : Value) (w2 : World), R w2 → Q .normal (((((((((a0.put (some 46) v46).put (some 47) v47).put (some 48) v48).put (some 49) v49).put (some 50) v50).put (some 51) v51).put (some 52) v52).put (some 53) v53).put (some 54) v54) w2) :
    Code.wp Try.prog ((Try.f9.body.bind (findRegion 9)).getD .skip) Q a0 w := by
  conv => arg 2; whnf
  refine wp_region_last 8 Lat (TV [.pointer (some ⟨pp, 0, none⟩), .pointer (some ⟨pp, 0, none⟩), .pointer (some ⟨pp, 0, none⟩), .pointer (some ⟨p, 0, none⟩), .pointer (some ⟨pp, 0, none⟩), .pointer (some ⟨pp, 0, none⟩), .pointer (some ⟨pp, 4, none⟩), .int .i64 ln]) (by kernel_rfl) (by kernel_rfl) (by kernel_rfl) (by rw [hsz]; kernel_rfl) (by kernel_rfl) (by kernel_rfl) Lat.refl Lat.trans (TV.stable _) (Lat.draw w) ?hop ?hlast
  case hlast =>
    intro o a w1 ho hL hS hT
    obtain rfl := Option.some.inj ho
    have d3 : a.tmps.getD 49 undef = .pointer (some ⟨p, 0, none⟩) := hT 3 _ (by omega) rfl _ rfl
    have d7 : a.tmps.getD 53 undef = .int .i64 ln := hT 7 _ (by omega) rfl _ rfl
    have he := same_puts hS
    refine wp_call_r (f := 19) (args := #[.pointer (some ⟨p, 0, none⟩), .int .i64 ln]) (by simp [execOp, resolve, Act.eval, d3, d7, go_sem]) ?_
    refine (hcall w1 hL).mono ?_
    rintro e w2 ⟨x, rfl, hR⟩
    refine ⟨x, rfl, ?_⟩
    have hQ2 := hQ (a.tmps.getD 46 undef) (a.tmps.getD 47 undef) (a.tmps.getD 48 undef) (a.tmps.getD 49 undef) (a.tmps.getD 50 undef) (a.tmps.getD 51 undef) (a.tmps.getD 52 undef) (a.tmps.getD 53 undef) x w2 hR
    have hp := congrArg (fun b : Act => b.put (some 54) x) he
    have hp2 : a.put (some 54) x = (((((((((a0.put (some 46) (a.tmps.getD 46 undef)).put (some 47) (a.tmps.getD 47 undef)).put (some 48) (a.tmps.getD 48 undef)).put (some 49) (a.tmps.getD 49 undef)).put (some 50) (a.tmps.getD 50 undef)).put (some 51) (a.tmps.getD 51 undef)).put (some 52) (a.tmps.getD 52 undef)).put (some 53) (a.tmps.getD 53 undef)).put (some 54) x) := hp.trans (put_put _ _ _ _)
    show Q .normal (a.put (some 54) x) w2
    rw [hp2]
    exact hQ2
  case hop =>
    intro i o hlt hi
    rcases (show i = 0 ∨ i = 1 ∨ i = 2 ∨ i = 3 ∨ i = 4 ∨ i = 5 ∨ i = 6 ∨ i = 7 by omega) with rfl | rfl | rfl | rfl | rfl | rfl | rfl | rfl
    · obtain rfl := Option.some.inj hi
      clear hi hlt
      intro a w1 hL hS hD
      have e0 : a.tmps.getD 0 undef = .pointer (some ⟨pp, 0, none⟩) := (hS.slot 0 (by kernel_rfl)).trans s0
      refine step_yes rfl ?_
      exact ok_value Lat.refl (.pointer (some ⟨pp, 0, none⟩)) (by simp [execOp, Act.eval, e0, go_sem]) (TV.mk rfl)
    · obtain rfl := Option.some.inj hi
      clear hi hlt
      intro a w1 hL hS hD
      have d0 : a.tmps.getD 46 undef = .pointer (some ⟨pp, 0, none⟩) := hD ⟨0, .data⟩ (by simp) rfl _ rfl _ rfl
      refine step_yes rfl ?_
      exact ok_value Lat.refl (.pointer (some ⟨pp, 0, none⟩)) (by simp [execOp, Act.eval, d0, go_sem]) (TV.mk rfl)
    · obtain rfl := Option.some.inj hi
      clear hi hlt
      intro a w1 hL hS hD
      have d1 : a.tmps.getD 47 undef = .pointer (some ⟨pp, 0, none⟩) := hD ⟨1, .data⟩ (by simp) rfl _ rfl _ rfl
      refine step_yes rfl ?_
      exact ok_value Lat.refl (.pointer (some ⟨pp, 0, none⟩)) (by simp [execOp, Act.eval, d1, go_sem]) (TV.mk rfl)
    · obtain rfl := Option.some.inj hi
      clear hi hlt
      intro a w1 hL hS hD
      have d2 : a.tmps.getD 48 undef = .pointer (some ⟨pp, 0, none⟩) := hD ⟨2, .data⟩ (by simp) rfl _ rfl _ rfl
      refine step_yes rfl ?_
      exact ok_value Lat.refl (.pointer (some ⟨p, 0, none⟩)) (by simp [execOp, Act.eval, d2, hA w1 hL, go_sem]) (TV.mk rfl)
    · obtain rfl := Option.some.inj hi
      clear hi hlt
      intro a w1 hL hS hD
      have e0 : a.tmps.getD 0 undef = .pointer (some ⟨pp, 0, none⟩) := (hS.slot 0 (by kernel_rfl)).trans s0
      refine step_yes rfl ?_
      exact ok_value Lat.refl (.pointer (some ⟨pp, 0, none⟩)) (by simp [execOp, Act.eval, e0, go_sem]) (TV.mk rfl)
    · obtain rfl := Option.some.inj hi
      clear hi hlt
      intro a w1 hL hS hD
      have d4 : a.tmps.getD 50 undef = .pointer (some ⟨pp, 0, none⟩) := hD ⟨4, .data⟩ (by simp) rfl _ rfl _ rfl
      refine step_yes rfl ?_
      exact ok_value Lat.refl (.pointer (some ⟨pp, 0, none⟩)) (by simp [execOp, Act.eval, d4, go_sem]) (TV.mk rfl)
    · obtain rfl := Option.some.inj hi
      clear hi hlt
      intro a w1 hL hS hD
      have d5 : a.tmps.getD 51 undef = .pointer (some ⟨pp, 0, none⟩) := hD ⟨5, .data⟩ (by simp) rfl _ rfl _ rfl
      refine step_yes rfl ?_
      exact ok_value Lat.refl (.pointer (some ⟨pp, 4, none⟩)) (by simp [execOp, Act.eval, d5, go_sem]) (TV.mk rfl)
    · obtain rfl := Option.some.inj hi
      clear hi hlt
      intro a w1 hL hS hD
      have d6 : a.tmps.getD 52 undef = .pointer (some ⟨pp, 4, none⟩) := hD ⟨6, .data⟩ (by simp) rfl _ rfl _ rfl
      refine step_yes rfl ?_
      exact ok_value Lat.refl (.int .i64 ln) (by simp [execOp, Act.eval, d6, h4 w1 hL, go_sem]) (TV.mk rfl)

set_option maxRecDepth 100000 in
set_option maxHeartbeats 2000000 in
theorem step_r10 (pp q : Nat) (ln : Int) (R : World → Prop) (w : World) (a0 : Act) (Q : Exit → Act → World → Prop) (hsz : a0.tmps.size = 89)
    (s0 : a0.tmps.getD 0 undef = .pointer (some ⟨pp, 0, none⟩))
    (hB : ∀ w1, Lat w w1 → w1.cell? ⟨pp, 1, none⟩ = some (.pointer (some ⟨q, 0, none⟩)))
    (h4 : ∀ w1, Lat w w1 → w1.cell? ⟨pp, 4, none⟩ = some (.int .i64 ln))
    (hcall : ∀ w1, Lat w w1 → Calls Try.prog 22 #[.pointer (some ⟨q, 0, none⟩), .int .i64 ln] w1 fun e w2 => ∃ x, e = .returned x ∧ R w2)
    (hQ : ∀ (v55 v56 v57 v58 v59 v60 v61 v62 v63 : Value) (w2 : World), R w2 → Q .normal (((((((((a0.put (some 55) v55).put (some 56) v56).put (some 57) v57).put (some 58) v58).put (some 59) v59).put (some 60) v60).put (some 61) v61).put (some 62) v62).put (some 63) v63) w2) :
    Code.wp Try.prog ((Try.f9.body.bind (findRegion 10)).getD .skip) Q a0 w := by
  conv => arg 2; whnf
  refine wp_region_last 8 Lat (TV [.pointer (some ⟨pp, 0, none⟩), .pointer (some ⟨pp, 0, none⟩), .pointer (some ⟨pp, 1, none⟩), .pointer (some ⟨q, 0, none⟩), .pointer (some ⟨pp, 0, none⟩), .pointer (some ⟨pp, 0, none⟩), .pointer (some ⟨pp, 4, none⟩), .int .i64 ln]) (by kernel_rfl) (by kernel_rfl) (by kernel_rfl) (by rw [hsz]; kernel_rfl) (by kernel_rfl) (by kernel_rfl) Lat.refl Lat.trans (TV.stable _) (Lat.draw w) ?hop ?hlast
  case hlast =>
    intro o a w1 ho hL hS hT
    obtain rfl := Option.some.inj ho
    have d3 : a.tmps.getD 58 undef = .pointer (some ⟨q, 0, none⟩) := hT 3 _ (by omega) rfl _ rfl
    have d7 : a.tmps.getD 62 undef = .int .i64 ln := hT 7 _ (by omega) rfl _ rfl
    have he := same_puts hS
    refine wp_call_r (f := 22) (args := #[.pointer (some ⟨q, 0, none⟩), .int .i64 ln]) (by simp [execOp, resolve, Act.eval, d3, d7, go_sem]) ?_
    refine (hcall w1 hL).mono ?_
    rintro e w2 ⟨x, rfl, hR⟩
    refine ⟨x, rfl, ?_⟩
    have hQ2 := hQ (a.tmps.getD 55 undef) (a.tmps.getD 56 undef) (a.tmps.getD 57 undef) (a.tmps.getD 58 undef) (a.tmps.getD 59 undef) (a.tmps.getD 60 undef) (a.tmps.getD 61 undef) (a.tmps.getD 62 undef) x w2 hR
    have hp := congrArg (fun b : Act => b.put (some 63) x) he
    have hp2 : a.put (some 63) x = (((((((((a0.put (some 55) (a.tmps.getD 55 undef)).put (some 56) (a.tmps.getD 56 undef)).put (some 57) (a.tmps.getD 57 undef)).put (some 58) (a.tmps.getD 58 undef)).put (some 59) (a.tmps.getD 59 undef)).put (some 60) (a.tmps.getD 60 undef)).put (some 61) (a.tmps.getD 61 undef)).put (some 62) (a.tmps.getD 62 undef)).put (some 63) x) := hp.trans (put_put _ _ _ _)
    show Q .normal (a.put (some 63) x) w2
    rw [hp2]
    exact hQ2
  case hop =>
    intro i o hlt hi
    rcases (show i = 0 ∨ i = 1 ∨ i = 2 ∨ i = 3 ∨ i = 4 ∨ i = 5 ∨ i = 6 ∨ i = 7 by omega) with rfl | rfl | rfl | rfl | rfl | rfl | rfl | rfl
    · obtain rfl := Option.some.inj hi
      clear hi hlt
      intro a w1 hL hS hD
      have e0 : a.tmps.getD 0 undef = .pointer (some ⟨pp, 0, none⟩) := (hS.slot 0 (by kernel_rfl)).trans s0
      refine step_yes rfl ?_
      exact ok_value Lat.refl (.pointer (some ⟨pp, 0, none⟩)) (by simp [execOp, Act.eval, e0, go_sem]) (TV.mk rfl)
    · obtain rfl := Option.some.inj hi
      clear hi hlt
      intro a w1 hL hS hD
      have d0 : a.tmps.getD 55 undef = .pointer (some ⟨pp, 0, none⟩) := hD ⟨0, .data⟩ (by simp) rfl _ rfl _ rfl
      refine step_yes rfl ?_
      exact ok_value Lat.refl (.pointer (some ⟨pp, 0, none⟩)) (by simp [execOp, Act.eval, d0, go_sem]) (TV.mk rfl)
    · obtain rfl := Option.some.inj hi
      clear hi hlt
      intro a w1 hL hS hD
      have d1 : a.tmps.getD 56 undef = .pointer (some ⟨pp, 0, none⟩) := hD ⟨1, .data⟩ (by simp) rfl _ rfl _ rfl
      refine step_yes rfl ?_
      exact ok_value Lat.refl (.pointer (some ⟨pp, 1, none⟩)) (by simp [execOp, Act.eval, d1, go_sem]) (TV.mk rfl)
    · obtain rfl := Option.some.inj hi
      clear hi hlt
      intro a w1 hL hS hD
      have d2 : a.tmps.getD 57 undef = .pointer (some ⟨pp, 1, none⟩) := hD ⟨2, .data⟩ (by simp) rfl _ rfl _ rfl
      refine step_yes rfl ?_
      exact ok_value Lat.refl (.pointer (some ⟨q, 0, none⟩)) (by simp [execOp, Act.eval, d2, hB w1 hL, go_sem]) (TV.mk rfl)
    · obtain rfl := Option.some.inj hi
      clear hi hlt
      intro a w1 hL hS hD
      have e0 : a.tmps.getD 0 undef = .pointer (some ⟨pp, 0, none⟩) := (hS.slot 0 (by kernel_rfl)).trans s0
      refine step_yes rfl ?_
      exact ok_value Lat.refl (.pointer (some ⟨pp, 0, none⟩)) (by simp [execOp, Act.eval, e0, go_sem]) (TV.mk rfl)
    · obtain rfl := Option.some.inj hi
      clear hi hlt
      intro a w1 hL hS hD
      have d4 : a.tmps.getD 59 undef = .pointer (some ⟨pp, 0, none⟩) := hD ⟨4, .data⟩ (by simp) rfl _ rfl _ rfl
      refine step_yes rfl ?_
      exact ok_value Lat.refl (.pointer (some ⟨pp, 0, none⟩)) (by simp [execOp, Act.eval, d4, go_sem]) (TV.mk rfl)
    · obtain rfl := Option.some.inj hi
      clear hi hlt
      intro a w1 hL hS hD
      have d5 : a.tmps.getD 60 undef = .pointer (some ⟨pp, 0, none⟩) := hD ⟨5, .data⟩ (by simp) rfl _ rfl _ rfl
      refine step_yes rfl ?_
      exact ok_value Lat.refl (.pointer (some ⟨pp, 4, none⟩)) (by simp [execOp, Act.eval, d5, go_sem]) (TV.mk rfl)
    · obtain rfl := Option.some.inj hi
      clear hi hlt
      intro a w1 hL hS hD
      have d6 : a.tmps.getD 61 undef = .pointer (some ⟨pp, 4, none⟩) := hD ⟨6, .data⟩ (by simp) rfl _ rfl _ rfl
      refine step_yes rfl ?_
      exact ok_value Lat.refl (.int .i64 ln) (by simp [execOp, Act.eval, d6, h4 w1 hL, go_sem]) (TV.mk rfl)

set_option maxRecDepth 100000 in
set_option maxHeartbeats 2000000 in
theorem step_r16 (pp p q n : Nat) (w : World) (a0 : Act) (Q : Exit → Act → World → Prop) (hsz : a0.tmps.size = 89)
    (s0 : a0.tmps.getD 0 undef = .pointer (some ⟨pp, 0, none⟩))
    (hA : ∀ w1, Lat w w1 → w1.cell? ⟨pp, 0, none⟩ = some (.pointer (some ⟨p, 0, none⟩)))
    (hB : ∀ w1, Lat w w1 → w1.cell? ⟨pp, 1, none⟩ = some (.pointer (some ⟨q, 0, none⟩)))
    (h18 : ∀ w1, Lat w w1 → Calls Try.prog 18 #[.pointer (some ⟨p, 0, none⟩)] w1 fun e w2 => e = .returned (.int .i64 (n : Int)) ∧ w2 = w1)
    (h23 : ∀ w1, Lat w w1 → Calls Try.prog 23 #[.pointer (some ⟨q, 0, none⟩)] w1 fun e w2 => e = .returned (.int .i64 (n : Int)) ∧ w2 = w1)
    (hQ : ∀ (v78 v79 v80 v81 v82 v83 v84 v85 v86 v87 v88 : Value) (w1 : World), Lat w w1 → Q .normal ((((((((((((a0.put (some 78) v78).put (some 79) v79).put (some 80) v80).put (some 81) v81).put (some 82) v82).put (some 83) v83).put (some 84) v84).put (some 85) v85).put (some 86) v86).put (some 87) v87).put (some 88) v88).put (some 4) (.bool true)) w1) :
    Code.wp Try.prog ((Try.f9.body.bind (findRegion 16)).getD .skip) Q a0 w := by
  conv => arg 2; whnf
  refine wp_region_inv Lat (TV [.pointer (some ⟨pp, 0, none⟩), .pointer (some ⟨pp, 0, none⟩), .pointer (some ⟨pp, 0, none⟩), .pointer (some ⟨p, 0, none⟩), .int .i64 (n : Int), .pointer (some ⟨pp, 0, none⟩), .pointer (some ⟨pp, 0, none⟩), .pointer (some ⟨pp, 1, none⟩), .pointer (some ⟨q, 0, none⟩), .int .i64 (n : Int), .bool true, .bool true]) (by kernel_rfl) (by kernel_rfl) (by kernel_rfl) (by rw [hsz]; kernel_rfl) (by kernel_rfl) Lat.refl Lat.trans (TV.stable _) (Lat.draw w) ?hop ?hdone
  case hdone =>
    intro a w1 hL hS hT
    have k4 : a.tmps.getD 4 undef = .bool true := hT 11 _ rfl _ rfl
    have he := same_puts hS
    have hQ2 := hQ (a.tmps.getD 78 undef) (a.tmps.getD 79 undef) (a.tmps.getD 80 undef) (a.tmps.getD 81 undef) (a.tmps.getD 82 undef) (a.tmps.getD 83 undef) (a.tmps.getD 84 undef) (a.tmps.getD 85 undef) (a.tmps.getD 86 undef) (a.tmps.getD 87 undef) (a.tmps.getD 88 undef) w1 hL
    rw [← k4] at hQ2
    rw [he]
    exact hQ2
  case hop =>
    intro i o hi
    have hlt : i < 12 := (Array.getElem?_eq_some_iff.1 hi).1
    rcases (show i = 0 ∨ i = 1 ∨ i = 2 ∨ i = 3 ∨ i = 4 ∨ i = 5 ∨ i = 6 ∨ i = 7 ∨ i = 8 ∨ i = 9 ∨ i = 10 ∨ i = 11 by omega) with rfl | rfl | rfl | rfl | rfl | rfl | rfl | rfl | rfl | rfl | rfl | rfl
    · obtain rfl := Option.some.inj hi
      clear hi hlt
      intro a w1 hL hS hD
      have e0 : a.tmps.getD 0 undef = .pointer (some ⟨pp, 0, none⟩) := (hS.slot 0 (by kernel_rfl)).trans s0
      refine step_yes rfl ?_
      exact ok_value Lat.refl (.pointer (some ⟨pp, 0, none⟩)) (by simp [execOp, Act.eval, e0, go_sem]) (TV.mk rfl)
    · obtain rfl := Option.some.inj hi
      clear hi hlt
      intro a w1 hL hS hD
      have d0 : a.tmps.getD 78 undef = .pointer (some ⟨pp, 0, none⟩) := hD ⟨0, .data⟩ (by simp) rfl _ rfl _ rfl
      refine step_yes rfl ?_
      exact ok_value Lat.refl (.pointer (some ⟨pp, 0, none⟩)) (by simp [execOp, Act.eval, d0, go_sem]) (TV.mk rfl)
    · obtain rfl := Option.some.inj hi
      clear hi hlt
      intro a w1 hL hS hD
      have d1 : a.tmps.getD 79 undef = .pointer (some ⟨pp, 0, none⟩) := hD ⟨1, .data⟩ (by simp) rfl _ rfl _ rfl
      refine step_yes rfl ?_
      exact ok_value Lat.refl (.pointer (some ⟨pp, 0, none⟩)) (by simp [execOp, Act.eval, d1, go_sem]) (TV.mk rfl)
    · obtain rfl := Option.some.inj hi
      clear hi hlt
      intro a w1 hL hS hD
      have d2 : a.tmps.getD 80 undef = .pointer (some ⟨pp, 0, none⟩) := hD ⟨2, .data⟩ (by simp) rfl _ rfl _ rfl
      refine step_yes rfl ?_
      exact ok_value Lat.refl (.pointer (some ⟨p, 0, none⟩)) (by simp [execOp, Act.eval, d2, hA w1 hL, go_sem]) (TV.mk rfl)
    · obtain rfl := Option.some.inj hi
      clear hi hlt
      intro a w1 hL hS hD
      have d3 : a.tmps.getD 81 undef = .pointer (some ⟨p, 0, none⟩) := hD ⟨3, .data⟩ (by simp) rfl _ rfl _ rfl
      refine step_yes rfl ?_
      refine ok_call (f := 18) (args := #[.pointer (some ⟨p, 0, none⟩)]) (by simp [execOp, resolve, Act.eval, d3, go_sem]) ?_
      refine (h18 w1 hL).mono ?_
      rintro e w2 ⟨rfl, rfl⟩
      exact ⟨_, rfl, Lat.refl _, TV.mk rfl⟩
    · obtain rfl := Option.some.inj hi
      clear hi hlt
      intro a w1 hL hS hD
      have e0 : a.tmps.getD 0 undef = .pointer (some ⟨pp, 0, none⟩) := (hS.slot 0 (by kernel_rfl)).trans s0
      refine step_yes rfl ?_
      exact ok_value Lat.refl (.pointer (some ⟨pp, 0, none⟩)) (by simp [execOp, Act.eval, e0, go_sem]) (TV.mk rfl)
    · obtain rfl := Option.some.inj hi
      clear hi hlt
      intro a w1 hL hS hD
      have d5 : a.tmps.getD 83 undef = .pointer (some ⟨pp, 0, none⟩) := hD ⟨5, .data⟩ (by simp) rfl _ rfl _ rfl
      refine step_yes rfl ?_
      exact ok_value Lat.refl (.pointer (some ⟨pp, 0, none⟩)) (by simp [execOp, Act.eval, d5, go_sem]) (TV.mk rfl)
    · obtain rfl := Option.some.inj hi
      clear hi hlt
      intro a w1 hL hS hD
      have d6 : a.tmps.getD 84 undef = .pointer (some ⟨pp, 0, none⟩) := hD ⟨6, .data⟩ (by simp) rfl _ rfl _ rfl
      refine step_yes rfl ?_
      exact ok_value Lat.refl (.pointer (some ⟨pp, 1, none⟩)) (by simp [execOp, Act.eval, d6, go_sem]) (TV.mk rfl)
    · obtain rfl := Option.some.inj hi
      clear hi hlt
      intro a w1 hL hS hD
      have d7 : a.tmps.getD 85 undef = .pointer (some ⟨pp, 1, none⟩) := hD ⟨7, .data⟩ (by simp) rfl _ rfl _ rfl
      refine step_yes rfl ?_
      exact ok_value Lat.refl (.pointer (some ⟨q, 0, none⟩)) (by simp [execOp, Act.eval, d7, hB w1 hL, go_sem]) (TV.mk rfl)
    · obtain rfl := Option.some.inj hi
      clear hi hlt
      intro a w1 hL hS hD
      have d8 : a.tmps.getD 86 undef = .pointer (some ⟨q, 0, none⟩) := hD ⟨8, .data⟩ (by simp) rfl _ rfl _ rfl
      refine step_yes rfl ?_
      refine ok_call (f := 23) (args := #[.pointer (some ⟨q, 0, none⟩)]) (by simp [execOp, resolve, Act.eval, d8, go_sem]) ?_
      refine (h23 w1 hL).mono ?_
      rintro e w2 ⟨rfl, rfl⟩
      exact ⟨_, rfl, Lat.refl _, TV.mk rfl⟩
    · obtain rfl := Option.some.inj hi
      clear hi hlt
      intro a w1 hL hS hD
      have d4 : a.tmps.getD 82 undef = .int .i64 (n : Int) := hD ⟨4, .data⟩ (by simp) rfl _ rfl _ rfl
      have d9 : a.tmps.getD 87 undef = .int .i64 (n : Int) := hD ⟨9, .data⟩ (by simp) rfl _ rfl _ rfl
      refine step_yes rfl ?_
      exact ok_value Lat.refl (.bool true) (by simp [execOp, Act.eval, d4, d9, go_sem]) (TV.mk rfl)
    · obtain rfl := Option.some.inj hi
      clear hi hlt
      intro a w1 hL hS hD
      have d10 : a.tmps.getD 88 undef = .bool true := hD ⟨10, .data⟩ (by simp) rfl _ rfl _ rfl
      refine step_yes rfl ?_
      exact ok_value Lat.refl (.bool true) (by simp [execOp, Act.eval, d10, go_sem]) (TV.mk rfl)

end Go.Proofs.Ythfapajpmcmfeaa
