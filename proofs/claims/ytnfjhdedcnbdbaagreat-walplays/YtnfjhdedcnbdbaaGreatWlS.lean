/-
  Regions of the log that draw their order: calls.
-/
import Derived.Test.YtnfjhdedcnbdbaaGreatWlD
import Derived.Test.YtnfjhdedcnbdbaaGreatDkC
import Derived.Test.YtnfjhdedcnbdbaaGreatAnyW
namespace Go.Proofs.YtnfjhdedcnbdbaaGreat
open Go.RowKit
set_option linter.unusedVariables false
set_option linter.unusedSimpArgs false

theorem wp_call_r {P : Program} {o : Oper} {a : Act} {w : World} {K : Act → World → Prop} {Q : Exit → Act → World → Prop} {f : FuncId} {args : Array Value} (h : (execOp a.eval o).run P w = .ok (.enter f args) w) (hc : Calls P f args w fun e w' => ∃ v, e = .returned v ∧ K (a.put o.dst v) w') : o.wp P a w K Q := by
  unfold Oper.wp
  rw [h]
  refine Calls.mono hc ?_
  rintro e w' ⟨v, rfl, hk⟩
  exact hk

theorem wp_val {P : Program} {Q : Exit → Act → World → Prop} {K : Act → World → Prop} {o : Oper} {a : Act} {w w' : World} (v : Value) (h : (execOp a.eval o).run P w = .ok (.value v) w') (hk : K (a.put o.dst v) w') : o.wp P a w K Q := by
  unfold Oper.wp
  rw [h]
  exact hk

theorem put_comm (a : Act) (d e : Tmp) (v u : Value) (h : d ≠ e) : (a.put (some d) v).put (some e) u = (a.put (some e) u).put (some d) v := by
  cases a
  simp only [Act.put, Act.mk.injEq, and_true]
  exact (Array.setIfInBounds_comm _ _ h)
theorem put_size (a : Act) (d : Tmp) (v : Value) : (a.put (some d) v).tmps.size = a.tmps.size := by
  cases a
  simp [Act.put]
theorem wp_box_any {P : Program} {w : World} {o : Oper} {a : Act} {K : Act → World → Prop} {Q : Exit → Act → World → Prop} (ty : TypeId) (x : Operand) (ho : o.op = .box ty x) (l : List Value) (hx : a.eval x = .agg l.toArray)
    (h : ∀ w2, Blk w2 w.heap.size ty l → Below w.heap.size w w2 → K (a.put o.dst (.pointer (some ⟨w.heap.size, 0, none⟩))) w2) : o.wp P a w K Q := by
  unfold Oper.wp execOp
  simp only [ho, hx, Sem.run_bind, Instr.box, newVar, newRow, run_newObj_alloc, Sem.run_pure, Result.andThen_ok]
  exact h _ (Blk.new w ty l) ((Below.refl _ w).alloc (Nat.le_refl _) _)

set_option maxRecDepth 100000 in
set_option maxHeartbeats 2000000 in
theorem dead_r1_ne (lp p x y : Nat) (w : World) (a0 : Act) (Q : Exit → Act → World → Prop) (hsz : a0.tmps.size = 13)
    (s0 : a0.tmps.getD 0 undef = .pointer (some ⟨lp, 0, none⟩))
    (hA : ∀ w1, Lat w w1 → w1.cell? ⟨lp, 0, none⟩ = some (.pointer (some ⟨p, 0, none⟩)))
    (hB : ∀ w1, Lat w w1 → w1.cell? ⟨lp, 1, none⟩ = some (.int .i64 (y : Int)))
    (k1 : ∀ w1, Lat w w1 → Calls Tryz.prog 39 #[.pointer (some ⟨p, 0, none⟩)] w1 fun e w2 => e = .returned (.int .i64 (x : Int)) ∧ Lat w1 w2)
    (hxy : ¬ (x : Int) = (y : Int))
    (hQ : ∀ (v3 v4 v5 v6 v7 v8 v9 v10 v11 v12 : Value) (w1 : World), Lat w w1 → Q .normal (((((((((((a0.put (some 3) v3).put (some 4) v4).put (some 5) v5).put (some 6) v6).put (some 7) v7).put (some 8) v8).put (some 9) v9).put (some 10) v10).put (some 11) v11).put (some 12) v12).put (some 2) (.bool true)) w1) :
    Code.wp Tryz.prog ((Tryz.f46.body.bind (findRegion 1)).getD .skip) Q a0 w := by
  conv => arg 2; whnf
  refine wp_region_inv Lat (TV [.pointer (some ⟨lp, 0, none⟩), .pointer (some ⟨lp, 0, none⟩), .pointer (some ⟨lp, 0, none⟩), .pointer (some ⟨p, 0, none⟩), .int .i64 (x : Int), .pointer (some ⟨lp, 0, none⟩), .pointer (some ⟨lp, 0, none⟩), .pointer (some ⟨lp, 1, none⟩), .int .i64 (y : Int), .bool true, .bool true]) (by kernel_rfl) (by kernel_rfl) (by kernel_rfl) (by rw [hsz]; kernel_rfl) (by kernel_rfl) Lat.refl Lat.trans (TV.stable _) (Lat.draw w) ?hop ?hdone
  case hdone =>
    intro a w1 hL hS hT
    have k2 : a.tmps.getD 2 undef = .bool true := hT 10 _ rfl _ rfl
    have he := same_puts hS
    have hQ2 := hQ (a.tmps.getD 3 undef) (a.tmps.getD 4 undef) (a.tmps.getD 5 undef) (a.tmps.getD 6 undef) (a.tmps.getD 7 undef) (a.tmps.getD 8 undef) (a.tmps.getD 9 undef) (a.tmps.getD 10 undef) (a.tmps.getD 11 undef) (a.tmps.getD 12 undef) w1 hL
    rw [← k2] at hQ2
    rw [he]
    exact hQ2
  case hop =>
    intro i o hi
    have hlt : i < 11 := (Array.getElem?_eq_some_iff.1 hi).1
    rcases (show i = 0 ∨ i = 1 ∨ i = 2 ∨ i = 3 ∨ i = 4 ∨ i = 5 ∨ i = 6 ∨ i = 7 ∨ i = 8 ∨ i = 9 ∨ i = 10 by omega) with rfl | rfl | rfl | rfl | rfl | rfl | rfl | rfl | rfl | rfl | rfl
    · obtain rfl := Option.some.inj hi
      clear hi hlt
      intro a w1 hL hS hD
      have e0 : a.tmps.getD 0 undef = .pointer (some ⟨lp, 0, none⟩) := (hS.slot 0 (by kernel_rfl)).trans s0
      refine step_yes rfl ?_
      exact ok_value Lat.refl (.pointer (some ⟨lp, 0, none⟩)) (by simp [execOp, Act.eval, e0, go_sem]) (TV.mk rfl)
    · obtain rfl := Option.some.inj hi
      clear hi hlt
      intro a w1 hL hS hD
      have d0 : a.tmps.getD 3 undef = .pointer (some ⟨lp, 0, none⟩) := hD ⟨0, .data⟩ (by simp) rfl _ rfl _ rfl
      refine step_yes rfl ?_
      exact ok_value Lat.refl (.pointer (some ⟨lp, 0, none⟩)) (by simp [execOp, Act.eval, d0, go_sem]) (TV.mk rfl)
    · obtain rfl := Option.some.inj hi
      clear hi hlt
      intro a w1 hL hS hD
      have d1 : a.tmps.getD 4 undef = .pointer (some ⟨lp, 0, none⟩) := hD ⟨1, .data⟩ (by simp) rfl _ rfl _ rfl
      refine step_yes rfl ?_
      exact ok_value Lat.refl (.pointer (some ⟨lp, 0, none⟩)) (by simp [execOp, Act.eval, d1, go_sem]) (TV.mk rfl)
    · obtain rfl := Option.some.inj hi
      clear hi hlt
      intro a w1 hL hS hD
      have d2 : a.tmps.getD 5 undef = .pointer (some ⟨lp, 0, none⟩) := hD ⟨2, .data⟩ (by simp) rfl _ rfl _ rfl
      refine step_yes rfl ?_
      exact ok_value Lat.refl (.pointer (some ⟨p, 0, none⟩)) (by simp [execOp, Act.eval, d2, hA w1 hL, go_sem]) (TV.mk rfl)
    · obtain rfl := Option.some.inj hi
      clear hi hlt
      intro a w1 hL hS hD
      have d3 : a.tmps.getD 6 undef = .pointer (some ⟨p, 0, none⟩) := hD ⟨3, .data⟩ (by simp) rfl _ rfl _ rfl
      refine step_yes rfl ?_
      refine ok_call (f := 39) (args := #[.pointer (some ⟨p, 0, none⟩)]) (by simp [execOp, resolve, Act.eval, d3, go_sem]) ?_
      refine (k1 w1 hL).mono ?_
      rintro e w2 ⟨rfl, hb⟩
      exact ⟨_, rfl, hb, TV.mk rfl⟩
    · obtain rfl := Option.some.inj hi
      clear hi hlt
      intro a w1 hL hS hD
      have e0 : a.tmps.getD 0 undef = .pointer (some ⟨lp, 0, none⟩) := (hS.slot 0 (by kernel_rfl)).trans s0
      refine step_yes rfl ?_
      exact ok_value Lat.refl (.pointer (some ⟨lp, 0, none⟩)) (by simp [execOp, Act.eval, e0, go_sem]) (TV.mk rfl)
    · obtain rfl := Option.some.inj hi
      clear hi hlt
      intro a w1 hL hS hD
      have d5 : a.tmps.getD 8 undef = .pointer (some ⟨lp, 0, none⟩) := hD ⟨5, .data⟩ (by simp) rfl _ rfl _ rfl
      refine step_yes rfl ?_
      exact ok_value Lat.refl (.pointer (some ⟨lp, 0, none⟩)) (by simp [execOp, Act.eval, d5, go_sem]) (TV.mk rfl)
    · obtain rfl := Option.some.inj hi
      clear hi hlt
      intro a w1 hL hS hD
      have d6 : a.tmps.getD 9 undef = .pointer (some ⟨lp, 0, none⟩) := hD ⟨6, .data⟩ (by simp) rfl _ rfl _ rfl
      refine step_yes rfl ?_
      exact ok_value Lat.refl (.pointer (some ⟨lp, 1, none⟩)) (by simp [execOp, Act.eval, d6, go_sem]) (TV.mk rfl)
    · obtain rfl := Option.some.inj hi
      clear hi hlt
      intro a w1 hL hS hD
      have d7 : a.tmps.getD 10 undef = .pointer (some ⟨lp, 1, none⟩) := hD ⟨7, .data⟩ (by simp) rfl _ rfl _ rfl
      refine step_yes rfl ?_
      exact ok_value Lat.refl (.int .i64 (y : Int)) (by simp [execOp, Act.eval, d7, hB w1 hL, go_sem]) (TV.mk rfl)
    · obtain rfl := Option.some.inj hi
      clear hi hlt
      intro a w1 hL hS hD
      have d4 : a.tmps.getD 7 undef = .int .i64 (x : Int) := hD ⟨4, .data⟩ (by simp) rfl _ rfl _ rfl
      have d8 : a.tmps.getD 11 undef = .int .i64 (y : Int) := hD ⟨8, .data⟩ (by simp) rfl _ rfl _ rfl
      refine step_yes rfl ?_
      exact ok_value Lat.refl (.bool true) (by simp [execOp, Act.eval, d4, d8, hxy, go_sem]) (TV.mk rfl)
    · obtain rfl := Option.some.inj hi
      clear hi hlt
      intro a w1 hL hS hD
      have d9 : a.tmps.getD 12 undef = .bool true := hD ⟨9, .data⟩ (by simp) rfl _ rfl _ rfl
      refine step_yes rfl ?_
      exact ok_value Lat.refl (.bool true) (by simp [execOp, Act.eval, d9, go_sem]) (TV.mk rfl)

set_option maxRecDepth 100000 in
set_option maxHeartbeats 2000000 in
theorem dead_r1_eq (lp p x y : Nat) (w : World) (a0 : Act) (Q : Exit → Act → World → Prop) (hsz : a0.tmps.size = 13)
    (s0 : a0.tmps.getD 0 undef = .pointer (some ⟨lp, 0, none⟩))
    (hA : ∀ w1, Lat w w1 → w1.cell? ⟨lp, 0, none⟩ = some (.pointer (some ⟨p, 0, none⟩)))
    (hB : ∀ w1, Lat w w1 → w1.cell? ⟨lp, 1, none⟩ = some (.int .i64 (y : Int)))
    (k1 : ∀ w1, Lat w w1 → Calls Tryz.prog 39 #[.pointer (some ⟨p, 0, none⟩)] w1 fun e w2 => e = .returned (.int .i64 (x : Int)) ∧ Lat w1 w2)
    (hxy : (x : Int) = (y : Int))
    (hQ : ∀ (v3 v4 v5 v6 v7 v8 v9 v10 v11 v12 : Value) (w1 : World), Lat w w1 → Q .normal (((((((((((a0.put (some 3) v3).put (some 4) v4).put (some 5) v5).put (some 6) v6).put (some 7) v7).put (some 8) v8).put (some 9) v9).put (some 10) v10).put (some 11) v11).put (some 12) v12).put (some 2) (.bool false)) w1) :
    Code.wp Tryz.prog ((Tryz.f46.body.bind (findRegion 1)).getD .skip) Q a0 w := by
  conv => arg 2; whnf
  refine wp_region_inv Lat (TV [.pointer (some ⟨lp, 0, none⟩), .pointer (some ⟨lp, 0, none⟩), .pointer (some ⟨lp, 0, none⟩), .pointer (some ⟨p, 0, none⟩), .int .i64 (x : Int), .pointer (some ⟨lp, 0, none⟩), .pointer (some ⟨lp, 0, none⟩), .pointer (some ⟨lp, 1, none⟩), .int .i64 (y : Int), .bool false, .bool false]) (by kernel_rfl) (by kernel_rfl) (by kernel_rfl) (by rw [hsz]; kernel_rfl) (by kernel_rfl) Lat.refl Lat.trans (TV.stable _) (Lat.draw w) ?hop ?hdone
  case hdone =>
    intro a w1 hL hS hT
    have k2 : a.tmps.getD 2 undef = .bool false := hT 10 _ rfl _ rfl
    have he := same_puts hS
    have hQ2 := hQ (a.tmps.getD 3 undef) (a.tmps.getD 4 undef) (a.tmps.getD 5 undef) (a.tmps.getD 6 undef) (a.tmps.getD 7 undef) (a.tmps.getD 8 undef) (a.tmps.getD 9 undef) (a.tmps.getD 10 undef) (a.tmps.getD 11 undef) (a.tmps.getD 12 undef) w1 hL
    rw [← k2] at hQ2
    rw [he]
    exact hQ2
  case hop =>
    intro i o hi
    have hlt : i < 11 := (Array.getElem?_eq_some_iff.1 hi).1
    rcases (show i = 0 ∨ i = 1 ∨ i = 2 ∨ i = 3 ∨ i = 4 ∨ i = 5 ∨ i = 6 ∨ i = 7 ∨ i = 8 ∨ i = 9 ∨ i = 10 by omega) with rfl | rfl | rfl | rfl | rfl | rfl | rfl | rfl | rfl | rfl | rfl
    · obtain rfl := Option.some.inj hi
      clear hi hlt
      intro a w1 hL hS hD
      have e0 : a.tmps.getD 0 undef = .pointer (some ⟨lp, 0, none⟩) := (hS.slot 0 (by kernel_rfl)).trans s0
      refine step_yes rfl ?_
      exact ok_value Lat.refl (.pointer (some ⟨lp, 0, none⟩)) (by simp [execOp, Act.eval, e0, go_sem]) (TV.mk rfl)
    · obtain rfl := Option.some.inj hi
      clear hi hlt
      intro a w1 hL hS hD
      have d0 : a.tmps.getD 3 undef = .pointer (some ⟨lp, 0, none⟩) := hD ⟨0, .data⟩ (by simp) rfl _ rfl _ rfl
      refine step_yes rfl ?_
      exact ok_value Lat.refl (.pointer (some ⟨lp, 0, none⟩)) (by simp [execOp, Act.eval, d0, go_sem]) (TV.mk rfl)
    · obtain rfl := Option.some.inj hi
      clear hi hlt
      intro a w1 hL hS hD
      have d1 : a.tmps.getD 4 undef = .pointer (some ⟨lp, 0, none⟩) := hD ⟨1, .data⟩ (by simp) rfl _ rfl _ rfl
      refine step_yes rfl ?_
      exact ok_value Lat.refl (.pointer (some ⟨lp, 0, none⟩)) (by simp [execOp, Act.eval, d1, go_sem]) (TV.mk rfl)
    · obtain rfl := Option.some.inj hi
      clear hi hlt
      intro a w1 hL hS hD
      have d2 : a.tmps.getD 5 undef = .pointer (some ⟨lp, 0, none⟩) := hD ⟨2, .data⟩ (by simp) rfl _ rfl _ rfl
      refine step_yes rfl ?_
      exact ok_value Lat.refl (.pointer (some ⟨p, 0, none⟩)) (by simp [execOp, Act.eval, d2, hA w1 hL, go_sem]) (TV.mk rfl)
    · obtain rfl := Option.some.inj hi
      clear hi hlt
      intro a w1 hL hS hD
      have d3 : a.tmps.getD 6 undef = .pointer (some ⟨p, 0, none⟩) := hD ⟨3, .data⟩ (by simp) rfl _ rfl _ rfl
      refine step_yes rfl ?_
      refine ok_call (f := 39) (args := #[.pointer (some ⟨p, 0, none⟩)]) (by simp [execOp, resolve, Act.eval, d3, go_sem]) ?_
      refine (k1 w1 hL).mono ?_
      rintro e w2 ⟨rfl, hb⟩
      exact ⟨_, rfl, hb, TV.mk rfl⟩
    · obtain rfl := Option.some.inj hi
      clear hi hlt
      intro a w1 hL hS hD
      have e0 : a.tmps.getD 0 undef = .pointer (some ⟨lp, 0, none⟩) := (hS.slot 0 (by kernel_rfl)).trans s0
      refine step_yes rfl ?_
      exact ok_value Lat.refl (.pointer (some ⟨lp, 0, none⟩)) (by simp [execOp, Act.eval, e0, go_sem]) (TV.mk rfl)
    · obtain rfl := Option.some.inj hi
      clear hi hlt
      intro a w1 hL hS hD
      have d5 : a.tmps.getD 8 undef = .pointer (some ⟨lp, 0, none⟩) := hD ⟨5, .data⟩ (by simp) rfl _ rfl _ rfl
      refine step_yes rfl ?_
      exact ok_value Lat.refl (.pointer (some ⟨lp, 0, none⟩)) (by simp [execOp, Act.eval, d5, go_sem]) (TV.mk rfl)
    · obtain rfl := Option.some.inj hi
      clear hi hlt
      intro a w1 hL hS hD
      have d6 : a.tmps.getD 9 undef = .pointer (some ⟨lp, 0, none⟩) := hD ⟨6, .data⟩ (by simp) rfl _ rfl _ rfl
      refine step_yes rfl ?_
      exact ok_value Lat.refl (.pointer (some ⟨lp, 1, none⟩)) (by simp [execOp, Act.eval, d6, go_sem]) (TV.mk rfl)
    · obtain rfl := Option.some.inj hi
      clear hi hlt
      intro a w1 hL hS hD
      have d7 : a.tmps.getD 10 undef = .pointer (some ⟨lp, 1, none⟩) := hD ⟨7, .data⟩ (by simp) rfl _ rfl _ rfl
      refine step_yes rfl ?_
      exact ok_value Lat.refl (.int .i64 (y : Int)) (by simp [execOp, Act.eval, d7, hB w1 hL, go_sem]) (TV.mk rfl)
    · obtain rfl := Option.some.inj hi
      clear hi hlt
      intro a w1 hL hS hD
      have d4 : a.tmps.getD 7 undef = .int .i64 (x : Int) := hD ⟨4, .data⟩ (by simp) rfl _ rfl _ rfl
      have d8 : a.tmps.getD 11 undef = .int .i64 (y : Int) := hD ⟨8, .data⟩ (by simp) rfl _ rfl _ rfl
      refine step_yes rfl ?_
      exact ok_value Lat.refl (.bool false) (by simp [execOp, Act.eval, d4, d8, hxy, go_sem]) (TV.mk rfl)
    · obtain rfl := Option.some.inj hi
      clear hi hlt
      intro a w1 hL hS hD
      have d9 : a.tmps.getD 12 undef = .bool false := hD ⟨9, .data⟩ (by simp) rfl _ rfl _ rfl
      refine step_yes rfl ?_
      exact ok_value Lat.refl (.bool false) (by simp [execOp, Act.eval, d9, go_sem]) (TV.mk rfl)

set_option maxRecDepth 100000 in
set_option maxHeartbeats 2000000 in
theorem bytes_r3 (lp p v : Nat) (z : Int) (w : World) (a0 : Act) (Q : Exit → Act → World → Prop) (hsz : a0.tmps.size = 14)
    (s0 : a0.tmps.getD 0 undef = .pointer (some ⟨lp, 0, none⟩))
    (hA : ∀ w1, Lat w w1 → w1.cell? ⟨lp, 0, none⟩ = some (.pointer (some ⟨p, 0, none⟩)))
    (hV : ∀ w1, Lat w w1 → w1.cell? ⟨lp, 2, none⟩ = some (.int .i64 (v : Int)))
    (k1 : ∀ w1, Lat w w1 → Calls Tryz.prog 17 #[.pointer (some ⟨p, 0, none⟩), .int .i64 (v : Int)] w1 fun e w2 => e = .returned (.int .i64 z) ∧ Lat w1 w2)
    (hQ : ∀ (v5 v6 v7 v8 v9 v10 v11 v12 v13 : Value) (w1 : World), Lat w w1 → Q .normal ((((((((((a0.put (some 5) v5).put (some 6) v6).put (some 7) v7).put (some 8) v8).put (some 9) v9).put (some 10) v10).put (some 11) v11).put (some 12) v12).put (some 13) v13).put (some 2) (.int .i64 z)) w1) :
    Code.wp Tryz.prog ((Tryz.f10.body.bind (findRegion 3)).getD .skip) Q a0 w := by
  conv => arg 2; whnf
  refine wp_region_inv Lat (TV [.pointer (some ⟨lp, 0, none⟩), .pointer (some ⟨lp, 0, none⟩), .pointer (some ⟨lp, 0, none⟩), .pointer (some ⟨p, 0, none⟩), .pointer (some ⟨lp, 0, none⟩), .pointer (some ⟨lp, 0, none⟩), .pointer (some ⟨lp, 2, none⟩), .int .i64 (v : Int), .int .i64 z, .int .i64 z]) (by kernel_rfl) (by kernel_rfl) (by kernel_rfl) (by rw [hsz]; kernel_rfl) (by kernel_rfl) Lat.refl Lat.trans (TV.stable _) (Lat.draw w) ?hop ?hdone
  case hdone =>
    intro a w1 hL hS hT
    have k2 : a.tmps.getD 2 undef = .int .i64 z := hT 9 _ rfl _ rfl
    have he := same_puts hS
    have hQ2 := hQ (a.tmps.getD 5 undef) (a.tmps.getD 6 undef) (a.tmps.getD 7 undef) (a.tmps.getD 8 undef) (a.tmps.getD 9 undef) (a.tmps.getD 10 undef) (a.tmps.getD 11 undef) (a.tmps.getD 12 undef) (a.tmps.getD 13 undef) w1 hL
    rw [← k2] at hQ2
    rw [he]
    exact hQ2
  case hop =>
    intro i o hi
    have hlt : i < 10 := (Array.getElem?_eq_some_iff.1 hi).1
    rcases (show i = 0 ∨ i = 1 ∨ i = 2 ∨ i = 3 ∨ i = 4 ∨ i = 5 ∨ i = 6 ∨ i = 7 ∨ i = 8 ∨ i = 9 by omega) with rfl | rfl | rfl | rfl | rfl | rfl | rfl | rfl | rfl | rfl
    · obtain rfl := Option.some.inj hi
      clear hi hlt
      intro a w1 hL hS hD
      have e0 : a.tmps.getD 0 undef = .pointer (some ⟨lp, 0, none⟩) := (hS.slot 0 (by kernel_rfl)).trans s0
      refine step_yes rfl ?_
      exact ok_value Lat.refl (.pointer (some ⟨lp, 0, none⟩)) (by simp [execOp, Act.eval, e0, go_sem]) (TV.mk rfl)
    · obtain rfl := Option.some.inj hi
      clear hi hlt
      intro a w1 hL hS hD
      have d0 : a.tmps.getD 5 undef = .pointer (some ⟨lp, 0, none⟩) := hD ⟨0, .data⟩ (by simp) rfl _ rfl _ rfl
      refine step_yes rfl ?_
      exact ok_value Lat.refl (.pointer (some ⟨lp, 0, none⟩)) (by simp [execOp, Act.eval, d0, go_sem]) (TV.mk rfl)
    · obtain rfl := Option.some.inj hi
      clear hi hlt
      intro a w1 hL hS hD
      have d1 : a.tmps.getD 6 undef = .pointer (some ⟨lp, 0, none⟩) := hD ⟨1, .data⟩ (by simp) rfl _ rfl _ rfl
      refine step_yes rfl ?_
      exact ok_value Lat.refl (.pointer (some ⟨lp, 0, none⟩)) (by simp [execOp, Act.eval, d1, go_sem]) (TV.mk rfl)
    · obtain rfl := Option.some.inj hi
      clear hi hlt
      intro a w1 hL hS hD
      have d2 : a.tmps.getD 7 undef = .pointer (some ⟨lp, 0, none⟩) := hD ⟨2, .data⟩ (by simp) rfl _ rfl _ rfl
      refine step_yes rfl ?_
      exact ok_value Lat.refl (.pointer (some ⟨p, 0, none⟩)) (by simp [execOp, Act.eval, d2, hA w1 hL, go_sem]) (TV.mk rfl)
    · obtain rfl := Option.some.inj hi
      clear hi hlt
      intro a w1 hL hS hD
      have e0 : a.tmps.getD 0 undef = .pointer (some ⟨lp, 0, none⟩) := (hS.slot 0 (by kernel_rfl)).trans s0
      refine step_yes rfl ?_
      exact ok_value Lat.refl (.pointer (some ⟨lp, 0, none⟩)) (by simp [execOp, Act.eval, e0, go_sem]) (TV.mk rfl)
    · obtain rfl := Option.some.inj hi
      clear hi hlt
      intro a w1 hL hS hD
      have d4 : a.tmps.getD 9 undef = .pointer (some ⟨lp, 0, none⟩) := hD ⟨4, .data⟩ (by simp) rfl _ rfl _ rfl
      refine step_yes rfl ?_
      exact ok_value Lat.refl (.pointer (some ⟨lp, 0, none⟩)) (by simp [execOp, Act.eval, d4, go_sem]) (TV.mk rfl)
    · obtain rfl := Option.some.inj hi
      clear hi hlt
      intro a w1 hL hS hD
      have d5 : a.tmps.getD 10 undef = .pointer (some ⟨lp, 0, none⟩) := hD ⟨5, .data⟩ (by simp) rfl _ rfl _ rfl
      refine step_yes rfl ?_
      exact ok_value Lat.refl (.pointer (some ⟨lp, 2, none⟩)) (by simp [execOp, Act.eval, d5, go_sem]) (TV.mk rfl)
    · obtain rfl := Option.some.inj hi
      clear hi hlt
      intro a w1 hL hS hD
      have d6 : a.tmps.getD 11 undef = .pointer (some ⟨lp, 2, none⟩) := hD ⟨6, .data⟩ (by simp) rfl _ rfl _ rfl
      refine step_yes rfl ?_
      exact ok_value Lat.refl (.int .i64 (v : Int)) (by simp [execOp, Act.eval, d6, hV w1 hL, go_sem]) (TV.mk rfl)
    · obtain rfl := Option.some.inj hi
      clear hi hlt
      intro a w1 hL hS hD
      have d3 : a.tmps.getD 8 undef = .pointer (some ⟨p, 0, none⟩) := hD ⟨3, .data⟩ (by simp) rfl _ rfl _ rfl
      have d7 : a.tmps.getD 12 undef = .int .i64 (v : Int) := hD ⟨7, .data⟩ (by simp) rfl _ rfl _ rfl
      refine step_yes rfl ?_
      refine ok_call (f := 17) (args := #[.pointer (some ⟨p, 0, none⟩), .int .i64 (v : Int)]) (by simp [execOp, resolve, Act.eval, d3, d7, go_sem]) ?_
      refine (k1 w1 hL).mono ?_
      rintro e w2 ⟨rfl, hb⟩
      exact ⟨_, rfl, hb, TV.mk rfl⟩
    · obtain rfl := Option.some.inj hi
      clear hi hlt
      intro a w1 hL hS hD
      have d8 : a.tmps.getD 13 undef = .int .i64 z := hD ⟨8, .data⟩ (by simp) rfl _ rfl _ rfl
      refine step_yes rfl ?_
      exact ok_value Lat.refl (.int .i64 z) (by simp [execOp, Act.eval, d8, go_sem]) (TV.mk rfl)

set_option maxRecDepth 100000 in
set_option maxHeartbeats 2000000 in
theorem fits_r2_no (lp : Nat) (y z c : Int) (w : World) (a0 : Act) (Q : Exit → Act → World → Prop) (hsz : a0.tmps.size = 22)
    (s0 : a0.tmps.getD 0 undef = .pointer (some ⟨lp, 0, none⟩))
    (s5 : a0.tmps.getD 5 undef = .int .i64 z)
    (hz : ¬ 0 < z)
    (hQ : ∀ (v8 v9 v10 v11 v12 v13 v14 v15 v16 v17 v18 v19 v20 v21 : Value) (w1 : World), Lat w w1 → Q .normal (((((((((((((((a0.put (some 8) v8).put (some 9) v9).put (some 10) v10).put (some 11) v11).put (some 12) v12).put (some 13) v13).put (some 14) v14).put (some 15) v15).put (some 16) v16).put (some 17) v17).put (some 18) v18).put (some 19) v19).put (some 20) v20).put (some 21) v21).put (some 4) (.bool false)) w1) :
    Code.wp Tryz.prog ((Tryz.f12.body.bind (findRegion 2)).getD .skip) Q a0 w := by
  conv => arg 2; whnf
  refine wp_region_inv Lat (TV [.int .i64 z, .bool false, .bool false, undef, undef, undef, undef, undef, undef, undef, undef, undef, undef, .bool false, .bool false]) (by kernel_rfl) (by kernel_rfl) (by kernel_rfl) (by rw [hsz]; kernel_rfl) (by kernel_rfl) Lat.refl Lat.trans (TV.stable _) (Lat.draw w) ?hop ?hdone
  case hdone =>
    intro a w1 hL hS hT
    have k4 : a.tmps.getD 4 undef = .bool false := hT 14 _ rfl _ rfl
    have he := same_puts hS
    have hQ2 := hQ (a.tmps.getD 8 undef) (a.tmps.getD 9 undef) (a.tmps.getD 10 undef) (a.tmps.getD 11 undef) (a.tmps.getD 12 undef) (a.tmps.getD 13 undef) (a.tmps.getD 14 undef) (a.tmps.getD 15 undef) (a.tmps.getD 16 undef) (a.tmps.getD 17 undef) (a.tmps.getD 18 undef) (a.tmps.getD 19 undef) (a.tmps.getD 20 undef) (a.tmps.getD 21 undef) w1 hL
    rw [← k4] at hQ2
    rw [he]
    exact hQ2
  case hop =>
    intro i o hi
    have hlt : i < 15 := (Array.getElem?_eq_some_iff.1 hi).1
    rcases (show i = 0 ∨ i = 1 ∨ i = 2 ∨ i = 3 ∨ i = 4 ∨ i = 5 ∨ i = 6 ∨ i = 7 ∨ i = 8 ∨ i = 9 ∨ i = 10 ∨ i = 11 ∨ i = 12 ∨ i = 13 ∨ i = 14 by omega) with rfl | rfl | rfl | rfl | rfl | rfl | rfl | rfl | rfl | rfl | rfl | rfl | rfl | rfl | rfl
    · obtain rfl := Option.some.inj hi
      clear hi hlt
      intro a w1 hL hS hD
      have e5 : a.tmps.getD 5 undef = .int .i64 z := (hS.slot 5 (by kernel_rfl)).trans s5
      refine step_yes rfl ?_
      exact ok_value Lat.refl (.int .i64 z) (by simp [execOp, Act.eval, e5, go_sem]) (TV.mk rfl)
    · obtain rfl := Option.some.inj hi
      clear hi hlt
      intro a w1 hL hS hD
      have d0 : a.tmps.getD 8 undef = .int .i64 z := hD ⟨0, .data⟩ (by simp) rfl _ rfl _ rfl
      refine step_yes rfl ?_
      exact ok_value Lat.refl (.bool false) (by simp [execOp, Act.eval, d0, hz, go_sem]) (TV.mk rfl)
    · obtain rfl := Option.some.inj hi
      clear hi hlt
      intro a w1 hL hS hD
      have d1 : a.tmps.getD 9 undef = .bool false := hD ⟨1, .data⟩ (by simp) rfl _ rfl _ rfl
      refine step_yes rfl ?_
      exact ok_value Lat.refl (.bool false) (by simp [execOp, Act.eval, d1, go_sem]) (TV.mk rfl)
    · obtain rfl := Option.some.inj hi
      clear hi hlt
      intro a w1 hL hS hD
      have d2 : a.tmps.getD 10 undef = .bool false := hD ⟨2, .guard⟩ (by simp) rfl _ rfl _ rfl
      exact step_no (wanted_no rfl rfl rfl d2 rfl) (TV.mk rfl)
    · obtain rfl := Option.some.inj hi
      clear hi hlt
      intro a w1 hL hS hD
      have d2 : a.tmps.getD 10 undef = .bool false := hD ⟨2, .guard⟩ (by simp) rfl _ rfl _ rfl
      exact step_no (wanted_no rfl rfl rfl d2 rfl) (TV.mk rfl)
    · obtain rfl := Option.some.inj hi
      clear hi hlt
      intro a w1 hL hS hD
      have d2 : a.tmps.getD 10 undef = .bool false := hD ⟨2, .guard⟩ (by simp) rfl _ rfl _ rfl
      exact step_no (wanted_no rfl rfl rfl d2 rfl) (TV.mk rfl)
    · obtain rfl := Option.some.inj hi
      clear hi hlt
      intro a w1 hL hS hD
      have d2 : a.tmps.getD 10 undef = .bool false := hD ⟨2, .guard⟩ (by simp) rfl _ rfl _ rfl
      exact step_no (wanted_no rfl rfl rfl d2 rfl) (TV.mk rfl)
    · obtain rfl := Option.some.inj hi
      clear hi hlt
      intro a w1 hL hS hD
      have d2 : a.tmps.getD 10 undef = .bool false := hD ⟨2, .guard⟩ (by simp) rfl _ rfl _ rfl
      exact step_no (wanted_no rfl rfl rfl d2 rfl) (TV.mk rfl)
    · obtain rfl := Option.some.inj hi
      clear hi hlt
      intro a w1 hL hS hD
      have d2 : a.tmps.getD 10 undef = .bool false := hD ⟨2, .guard⟩ (by simp) rfl _ rfl _ rfl
      exact step_no (wanted_no rfl rfl rfl d2 rfl) (TV.mk rfl)
    · obtain rfl := Option.some.inj hi
      clear hi hlt
      intro a w1 hL hS hD
      have d2 : a.tmps.getD 10 undef = .bool false := hD ⟨2, .guard⟩ (by simp) rfl _ rfl _ rfl
      exact step_no (wanted_no rfl rfl rfl d2 rfl) (TV.mk rfl)
    · obtain rfl := Option.some.inj hi
      clear hi hlt
      intro a w1 hL hS hD
      have d2 : a.tmps.getD 10 undef = .bool false := hD ⟨2, .guard⟩ (by simp) rfl _ rfl _ rfl
      exact step_no (wanted_no rfl rfl rfl d2 rfl) (TV.mk rfl)
    · obtain rfl := Option.some.inj hi
      clear hi hlt
      intro a w1 hL hS hD
      have d2 : a.tmps.getD 10 undef = .bool false := hD ⟨2, .guard⟩ (by simp) rfl _ rfl _ rfl
      exact step_no (wanted_no rfl rfl rfl d2 rfl) (TV.mk rfl)
    · obtain rfl := Option.some.inj hi
      clear hi hlt
      intro a w1 hL hS hD
      have d2 : a.tmps.getD 10 undef = .bool false := hD ⟨2, .guard⟩ (by simp) rfl _ rfl _ rfl
      exact step_no (wanted_no rfl rfl rfl d2 rfl) (TV.mk rfl)
    · obtain rfl := Option.some.inj hi
      clear hi hlt
      intro a w1 hL hS hD
      have d2 : a.tmps.getD 10 undef = .bool false := hD ⟨2, .data⟩ (by simp) rfl _ rfl _ rfl
      have d12 : a.tmps.getD 20 undef = undef := hD ⟨12, .data⟩ (by simp) rfl _ rfl _ rfl
      refine step_yes rfl ?_
      exact ok_value Lat.refl (.bool false) (by simp [execOp, Act.eval, d2, d12, go_sem]) (TV.mk rfl)
    · obtain rfl := Option.some.inj hi
      clear hi hlt
      intro a w1 hL hS hD
      have d13 : a.tmps.getD 21 undef = .bool false := hD ⟨13, .data⟩ (by simp) rfl _ rfl _ rfl
      refine step_yes rfl ?_
      exact ok_value Lat.refl (.bool false) (by simp [execOp, Act.eval, d13, go_sem]) (TV.mk rfl)

set_option maxRecDepth 100000 in
set_option maxHeartbeats 2000000 in
theorem fits_r2_le (lp : Nat) (y z c : Int) (w : World) (a0 : Act) (Q : Exit → Act → World → Prop) (hsz : a0.tmps.size = 22)
    (s0 : a0.tmps.getD 0 undef = .pointer (some ⟨lp, 0, none⟩))
    (s5 : a0.tmps.getD 5 undef = .int .i64 z)
    (hz : 0 < z)
    (k1 : ∀ w1, Lat w w1 → Calls Tryz.prog 10 #[.pointer (some ⟨lp, 0, none⟩)] w1 fun e w2 => e = .returned (.int .i64 y) ∧ Lat w1 w2)
    (hw : IntKind.i64.wrap (y + z) = y + z)
    (hC : ∀ w1, Lat w w1 → w1.cell? ⟨lp, 4, none⟩ = some (.int .i64 c))
    (hle : y + z ≤ c)
    (hQ : ∀ (v8 v9 v10 v11 v12 v13 v14 v15 v16 v17 v18 v19 v20 v21 : Value) (w1 : World), Lat w w1 → Q .normal (((((((((((((((a0.put (some 8) v8).put (some 9) v9).put (some 10) v10).put (some 11) v11).put (some 12) v12).put (some 13) v13).put (some 14) v14).put (some 15) v15).put (some 16) v16).put (some 17) v17).put (some 18) v18).put (some 19) v19).put (some 20) v20).put (some 21) v21).put (some 4) (.bool true)) w1) :
    Code.wp Tryz.prog ((Tryz.f12.body.bind (findRegion 2)).getD .skip) Q a0 w := by
  conv => arg 2; whnf
  refine wp_region_inv Lat (TV [.int .i64 z, .bool true, .bool true, .pointer (some ⟨lp, 0, none⟩), .int .i64 y, .int .i64 z, .int .i64 (y + z), .pointer (some ⟨lp, 0, none⟩), .pointer (some ⟨lp, 0, none⟩), .pointer (some ⟨lp, 3, none⟩), .pointer (some ⟨lp, 4, none⟩), .int .i64 c, .bool true, .bool true, .bool true]) (by kernel_rfl) (by kernel_rfl) (by kernel_rfl) (by rw [hsz]; kernel_rfl) (by kernel_rfl) Lat.refl Lat.trans (TV.stable _) (Lat.draw w) ?hop ?hdone
  case hdone =>
    intro a w1 hL hS hT
    have k4 : a.tmps.getD 4 undef = .bool true := hT 14 _ rfl _ rfl
    have he := same_puts hS
    have hQ2 := hQ (a.tmps.getD 8 undef) (a.tmps.getD 9 undef) (a.tmps.getD 10 undef) (a.tmps.getD 11 undef) (a.tmps.getD 12 undef) (a.tmps.getD 13 undef) (a.tmps.getD 14 undef) (a.tmps.getD 15 undef) (a.tmps.getD 16 undef) (a.tmps.getD 17 undef) (a.tmps.getD 18 undef) (a.tmps.getD 19 undef) (a.tmps.getD 20 undef) (a.tmps.getD 21 undef) w1 hL
    rw [← k4] at hQ2
    rw [he]
    exact hQ2
  case hop =>
    intro i o hi
    have hlt : i < 15 := (Array.getElem?_eq_some_iff.1 hi).1
    rcases (show i = 0 ∨ i = 1 ∨ i = 2 ∨ i = 3 ∨ i = 4 ∨ i = 5 ∨ i = 6 ∨ i = 7 ∨ i = 8 ∨ i = 9 ∨ i = 10 ∨ i = 11 ∨ i = 12 ∨ i = 13 ∨ i = 14 by omega) with rfl | rfl | rfl | rfl | rfl | rfl | rfl | rfl | rfl | rfl | rfl | rfl | rfl | rfl | rfl
    · obtain rfl := Option.some.inj hi
      clear hi hlt
      intro a w1 hL hS hD
      have e5 : a.tmps.getD 5 undef = .int .i64 z := (hS.slot 5 (by kernel_rfl)).trans s5
      refine step_yes rfl ?_
      exact ok_value Lat.refl (.int .i64 z) (by simp [execOp, Act.eval, e5, go_sem]) (TV.mk rfl)
    · obtain rfl := Option.some.inj hi
      clear hi hlt
      intro a w1 hL hS hD
      have d0 : a.tmps.getD 8 undef = .int .i64 z := hD ⟨0, .data⟩ (by simp) rfl _ rfl _ rfl
      refine step_yes rfl ?_
      exact ok_value Lat.refl (.bool true) (by simp [execOp, Act.eval, d0, hz, go_sem]) (TV.mk rfl)
    · obtain rfl := Option.some.inj hi
      clear hi hlt
      intro a w1 hL hS hD
      have d1 : a.tmps.getD 9 undef = .bool true := hD ⟨1, .data⟩ (by simp) rfl _ rfl _ rfl
      refine step_yes rfl ?_
      exact ok_value Lat.refl (.bool true) (by simp [execOp, Act.eval, d1, go_sem]) (TV.mk rfl)
    · obtain rfl := Option.some.inj hi
      clear hi hlt
      intro a w1 hL hS hD
      have d2 : a.tmps.getD 10 undef = .bool true := hD ⟨2, .guard⟩ (by simp) rfl _ rfl _ rfl
      have e0 : a.tmps.getD 0 undef = .pointer (some ⟨lp, 0, none⟩) := (hS.slot 0 (by kernel_rfl)).trans s0
      refine step_yes (wanted_yes rfl rfl rfl d2) ?_
      exact ok_value Lat.refl (.pointer (some ⟨lp, 0, none⟩)) (by simp [execOp, Act.eval, e0, go_sem]) (TV.mk rfl)
    · obtain rfl := Option.some.inj hi
      clear hi hlt
      intro a w1 hL hS hD
      have d2 : a.tmps.getD 10 undef = .bool true := hD ⟨2, .guard⟩ (by simp) rfl _ rfl _ rfl
      have d3 : a.tmps.getD 11 undef = .pointer (some ⟨lp, 0, none⟩) := hD ⟨3, .data⟩ (by simp) rfl _ rfl _ rfl
      refine step_yes (wanted_yes rfl rfl rfl d2) ?_
      refine ok_call (f := 10) (args := #[.pointer (some ⟨lp, 0, none⟩)]) (by simp [execOp, resolve, Act.eval, d3, go_sem]) ?_
      refine (k1 w1 hL).mono ?_
      rintro e w2 ⟨rfl, hb⟩
      exact ⟨_, rfl, hb, TV.mk rfl⟩
    · obtain rfl := Option.some.inj hi
      clear hi hlt
      intro a w1 hL hS hD
      have d2 : a.tmps.getD 10 undef = .bool true := hD ⟨2, .guard⟩ (by simp) rfl _ rfl _ rfl
      have e5 : a.tmps.getD 5 undef = .int .i64 z := (hS.slot 5 (by kernel_rfl)).trans s5
      refine step_yes (wanted_yes rfl rfl rfl d2) ?_
      exact ok_value Lat.refl (.int .i64 z) (by simp [execOp, Act.eval, e5, go_sem]) (TV.mk rfl)
    · obtain rfl := Option.some.inj hi
      clear hi hlt
      intro a w1 hL hS hD
      have d2 : a.tmps.getD 10 undef = .bool true := hD ⟨2, .guard⟩ (by simp) rfl _ rfl _ rfl
      have d4 : a.tmps.getD 12 undef = .int .i64 y := hD ⟨4, .data⟩ (by simp) rfl _ rfl _ rfl
      have d5 : a.tmps.getD 13 undef = .int .i64 z := hD ⟨5, .data⟩ (by simp) rfl _ rfl _ rfl
      refine step_yes (wanted_yes rfl rfl rfl d2) ?_
      exact ok_value Lat.refl (.int .i64 (y + z)) (by simp [execOp, Act.eval, d4, d5, hw, go_sem]) (TV.mk rfl)
    · obtain rfl := Option.some.inj hi
      clear hi hlt
      intro a w1 hL hS hD
      have d2 : a.tmps.getD 10 undef = .bool true := hD ⟨2, .guard⟩ (by simp) rfl _ rfl _ rfl
      have e0 : a.tmps.getD 0 undef = .pointer (some ⟨lp, 0, none⟩) := (hS.slot 0 (by kernel_rfl)).trans s0
      refine step_yes (wanted_yes rfl rfl rfl d2) ?_
      exact ok_value Lat.refl (.pointer (some ⟨lp, 0, none⟩)) (by simp [execOp, Act.eval, e0, go_sem]) (TV.mk rfl)
    · obtain rfl := Option.some.inj hi
      clear hi hlt
      intro a w1 hL hS hD
      have d2 : a.tmps.getD 10 undef = .bool true := hD ⟨2, .guard⟩ (by simp) rfl _ rfl _ rfl
      have d7 : a.tmps.getD 15 undef = .pointer (some ⟨lp, 0, none⟩) := hD ⟨7, .data⟩ (by simp) rfl _ rfl _ rfl
      refine step_yes (wanted_yes rfl rfl rfl d2) ?_
      exact ok_value Lat.refl (.pointer (some ⟨lp, 0, none⟩)) (by simp [execOp, Act.eval, d7, go_sem]) (TV.mk rfl)
    · obtain rfl := Option.some.inj hi
      clear hi hlt
      intro a w1 hL hS hD
      have d2 : a.tmps.getD 10 undef = .bool true := hD ⟨2, .guard⟩ (by simp) rfl _ rfl _ rfl
      have d8 : a.tmps.getD 16 undef = .pointer (some ⟨lp, 0, none⟩) := hD ⟨8, .data⟩ (by simp) rfl _ rfl _ rfl
      refine step_yes (wanted_yes rfl rfl rfl d2) ?_
      exact ok_value Lat.refl (.pointer (some ⟨lp, 3, none⟩)) (by simp [execOp, Act.eval, d8, go_sem]) (TV.mk rfl)
    · obtain rfl := Option.some.inj hi
      clear hi hlt
      intro a w1 hL hS hD
      have d2 : a.tmps.getD 10 undef = .bool true := hD ⟨2, .guard⟩ (by simp) rfl _ rfl _ rfl
      have d9 : a.tmps.getD 17 undef = .pointer (some ⟨lp, 3, none⟩) := hD ⟨9, .data⟩ (by simp) rfl _ rfl _ rfl
      refine step_yes (wanted_yes rfl rfl rfl d2) ?_
      exact ok_value Lat.refl (.pointer (some ⟨lp, 4, none⟩)) (by simp [execOp, Act.eval, d9, go_sem]) (TV.mk rfl)
    · obtain rfl := Option.some.inj hi
      clear hi hlt
      intro a w1 hL hS hD
      have d2 : a.tmps.getD 10 undef = .bool true := hD ⟨2, .guard⟩ (by simp) rfl _ rfl _ rfl
      have d10 : a.tmps.getD 18 undef = .pointer (some ⟨lp, 4, none⟩) := hD ⟨10, .data⟩ (by simp) rfl _ rfl _ rfl
      refine step_yes (wanted_yes rfl rfl rfl d2) ?_
      exact ok_value Lat.refl (.int .i64 c) (by simp [execOp, Act.eval, d10, hC w1 hL, go_sem]) (TV.mk rfl)
    · obtain rfl := Option.some.inj hi
      clear hi hlt
      intro a w1 hL hS hD
      have d2 : a.tmps.getD 10 undef = .bool true := hD ⟨2, .guard⟩ (by simp) rfl _ rfl _ rfl
      have d6 : a.tmps.getD 14 undef = .int .i64 (y + z) := hD ⟨6, .data⟩ (by simp) rfl _ rfl _ rfl
      have d11 : a.tmps.getD 19 undef = .int .i64 c := hD ⟨11, .data⟩ (by simp) rfl _ rfl _ rfl
      refine step_yes (wanted_yes rfl rfl rfl d2) ?_
      exact ok_value Lat.refl (.bool true) (by simp [execOp, Act.eval, d6, d11, hle, go_sem]) (TV.mk rfl)
    · obtain rfl := Option.some.inj hi
      clear hi hlt
      intro a w1 hL hS hD
      have d2 : a.tmps.getD 10 undef = .bool true := hD ⟨2, .data⟩ (by simp) rfl _ rfl _ rfl
      have d12 : a.tmps.getD 20 undef = .bool true := hD ⟨12, .data⟩ (by simp) rfl _ rfl _ rfl
      refine step_yes rfl ?_
      exact ok_value Lat.refl (.bool true) (by simp [execOp, Act.eval, d2, d12, go_sem]) (TV.mk rfl)
    · obtain rfl := Option.some.inj hi
      clear hi hlt
      intro a w1 hL hS hD
      have d13 : a.tmps.getD 21 undef = .bool true := hD ⟨13, .data⟩ (by simp) rfl _ rfl _ rfl
      refine step_yes rfl ?_
      exact ok_value Lat.refl (.bool true) (by simp [execOp, Act.eval, d13, go_sem]) (TV.mk rfl)

set_option maxRecDepth 100000 in
set_option maxHeartbeats 2000000 in
theorem fits_r2_gt (lp : Nat) (y z c : Int) (w : World) (a0 : Act) (Q : Exit → Act → World → Prop) (hsz : a0.tmps.size = 22)
    (s0 : a0.tmps.getD 0 undef = .pointer (some ⟨lp, 0, none⟩))
    (s5 : a0.tmps.getD 5 undef = .int .i64 z)
    (hz : 0 < z)
    (k1 : ∀ w1, Lat w w1 → Calls Tryz.prog 10 #[.pointer (some ⟨lp, 0, none⟩)] w1 fun e w2 => e = .returned (.int .i64 y) ∧ Lat w1 w2)
    (hw : IntKind.i64.wrap (y + z) = y + z)
    (hC : ∀ w1, Lat w w1 → w1.cell? ⟨lp, 4, none⟩ = some (.int .i64 c))
    (hle : ¬ y + z ≤ c)
    (hQ : ∀ (v8 v9 v10 v11 v12 v13 v14 v15 v16 v17 v18 v19 v20 v21 : Value) (w1 : World), Lat w w1 → Q .normal (((((((((((((((a0.put (some 8) v8).put (some 9) v9).put (some 10) v10).put (some 11) v11).put (some 12) v12).put (some 13) v13).put (some 14) v14).put (some 15) v15).put (some 16) v16).put (some 17) v17).put (some 18) v18).put (some 19) v19).put (some 20) v20).put (some 21) v21).put (some 4) (.bool false)) w1) :
    Code.wp Tryz.prog ((Tryz.f12.body.bind (findRegion 2)).getD .skip) Q a0 w := by
  conv => arg 2; whnf
  refine wp_region_inv Lat (TV [.int .i64 z, .bool true, .bool true, .pointer (some ⟨lp, 0, none⟩), .int .i64 y, .int .i64 z, .int .i64 (y + z), .pointer (some ⟨lp, 0, none⟩), .pointer (some ⟨lp, 0, none⟩), .pointer (some ⟨lp, 3, none⟩), .pointer (some ⟨lp, 4, none⟩), .int .i64 c, .bool false, .bool false, .bool false]) (by kernel_rfl) (by kernel_rfl) (by kernel_rfl) (by rw [hsz]; kernel_rfl) (by kernel_rfl) Lat.refl Lat.trans (TV.stable _) (Lat.draw w) ?hop ?hdone
  case hdone =>
    intro a w1 hL hS hT
    have k4 : a.tmps.getD 4 undef = .bool false := hT 14 _ rfl _ rfl
    have he := same_puts hS
    have hQ2 := hQ (a.tmps.getD 8 undef) (a.tmps.getD 9 undef) (a.tmps.getD 10 undef) (a.tmps.getD 11 undef) (a.tmps.getD 12 undef) (a.tmps.getD 13 undef) (a.tmps.getD 14 undef) (a.tmps.getD 15 undef) (a.tmps.getD 16 undef) (a.tmps.getD 17 undef) (a.tmps.getD 18 undef) (a.tmps.getD 19 undef) (a.tmps.getD 20 undef) (a.tmps.getD 21 undef) w1 hL
    rw [← k4] at hQ2
    rw [he]
    exact hQ2
  case hop =>
    intro i o hi
    have hlt : i < 15 := (Array.getElem?_eq_some_iff.1 hi).1
    rcases (show i = 0 ∨ i = 1 ∨ i = 2 ∨ i = 3 ∨ i = 4 ∨ i = 5 ∨ i = 6 ∨ i = 7 ∨ i = 8 ∨ i = 9 ∨ i = 10 ∨ i = 11 ∨ i = 12 ∨ i = 13 ∨ i = 14 by omega) with rfl | rfl | rfl | rfl | rfl | rfl | rfl | rfl | rfl | rfl | rfl | rfl | rfl | rfl | rfl
    · obtain rfl := Option.some.inj hi
      clear hi hlt
      intro a w1 hL hS hD
      have e5 : a.tmps.getD 5 undef = .int .i64 z := (hS.slot 5 (by kernel_rfl)).trans s5
      refine step_yes rfl ?_
      exact ok_value Lat.refl (.int .i64 z) (by simp [execOp, Act.eval, e5, go_sem]) (TV.mk rfl)
    · obtain rfl := Option.some.inj hi
      clear hi hlt
      intro a w1 hL hS hD
      have d0 : a.tmps.getD 8 undef = .int .i64 z := hD ⟨0, .data⟩ (by simp) rfl _ rfl _ rfl
      refine step_yes rfl ?_
      exact ok_value Lat.refl (.bool true) (by simp [execOp, Act.eval, d0, hz, go_sem]) (TV.mk rfl)
    · obtain rfl := Option.some.inj hi
      clear hi hlt
      intro a w1 hL hS hD
      have d1 : a.tmps.getD 9 undef = .bool true := hD ⟨1, .data⟩ (by simp) rfl _ rfl _ rfl
      refine step_yes rfl ?_
      exact ok_value Lat.refl (.bool true) (by simp [execOp, Act.eval, d1, go_sem]) (TV.mk rfl)
    · obtain rfl := Option.some.inj hi
      clear hi hlt
      intro a w1 hL hS hD
      have d2 : a.tmps.getD 10 undef = .bool true := hD ⟨2, .guard⟩ (by simp) rfl _ rfl _ rfl
      have e0 : a.tmps.getD 0 undef = .pointer (some ⟨lp, 0, none⟩) := (hS.slot 0 (by kernel_rfl)).trans s0
      refine step_yes (wanted_yes rfl rfl rfl d2) ?_
      exact ok_value Lat.refl (.pointer (some ⟨lp, 0, none⟩)) (by simp [execOp, Act.eval, e0, go_sem]) (TV.mk rfl)
    · obtain rfl := Option.some.inj hi
      clear hi hlt
      intro a w1 hL hS hD
      have d2 : a.tmps.getD 10 undef = .bool true := hD ⟨2, .guard⟩ (by simp) rfl _ rfl _ rfl
      have d3 : a.tmps.getD 11 undef = .pointer (some ⟨lp, 0, none⟩) := hD ⟨3, .data⟩ (by simp) rfl _ rfl _ rfl
      refine step_yes (wanted_yes rfl rfl rfl d2) ?_
      refine ok_call (f := 10) (args := #[.pointer (some ⟨lp, 0, none⟩)]) (by simp [execOp, resolve, Act.eval, d3, go_sem]) ?_
      refine (k1 w1 hL).mono ?_
      rintro e w2 ⟨rfl, hb⟩
      exact ⟨_, rfl, hb, TV.mk rfl⟩
    · obtain rfl := Option.some.inj hi
      clear hi hlt
      intro a w1 hL hS hD
      have d2 : a.tmps.getD 10 undef = .bool true := hD ⟨2, .guard⟩ (by simp) rfl _ rfl _ rfl
      have e5 : a.tmps.getD 5 undef = .int .i64 z := (hS.slot 5 (by kernel_rfl)).trans s5
      refine step_yes (wanted_yes rfl rfl rfl d2) ?_
      exact ok_value Lat.refl (.int .i64 z) (by simp [execOp, Act.eval, e5, go_sem]) (TV.mk rfl)
    · obtain rfl := Option.some.inj hi
      clear hi hlt
      intro a w1 hL hS hD
      have d2 : a.tmps.getD 10 undef = .bool true := hD ⟨2, .guard⟩ (by simp) rfl _ rfl _ rfl
      have d4 : a.tmps.getD 12 undef = .int .i64 y := hD ⟨4, .data⟩ (by simp) rfl _ rfl _ rfl
      have d5 : a.tmps.getD 13 undef = .int .i64 z := hD ⟨5, .data⟩ (by simp) rfl _ rfl _ rfl
      refine step_yes (wanted_yes rfl rfl rfl d2) ?_
      exact ok_value Lat.refl (.int .i64 (y + z)) (by simp [execOp, Act.eval, d4, d5, hw, go_sem]) (TV.mk rfl)
    · obtain rfl := Option.some.inj hi
      clear hi hlt
      intro a w1 hL hS hD
      have d2 : a.tmps.getD 10 undef = .bool true := hD ⟨2, .guard⟩ (by simp) rfl _ rfl _ rfl
      have e0 : a.tmps.getD 0 undef = .pointer (some ⟨lp, 0, none⟩) := (hS.slot 0 (by kernel_rfl)).trans s0
      refine step_yes (wanted_yes rfl rfl rfl d2) ?_
      exact ok_value Lat.refl (.pointer (some ⟨lp, 0, none⟩)) (by simp [execOp, Act.eval, e0, go_sem]) (TV.mk rfl)
    · obtain rfl := Option.some.inj hi
      clear hi hlt
      intro a w1 hL hS hD
      have d2 : a.tmps.getD 10 undef = .bool true := hD ⟨2, .guard⟩ (by simp) rfl _ rfl _ rfl
      have d7 : a.tmps.getD 15 undef = .pointer (some ⟨lp, 0, none⟩) := hD ⟨7, .data⟩ (by simp) rfl _ rfl _ rfl
      refine step_yes (wanted_yes rfl rfl rfl d2) ?_
      exact ok_value Lat.refl (.pointer (some ⟨lp, 0, none⟩)) (by simp [execOp, Act.eval, d7, go_sem]) (TV.mk rfl)
    · obtain rfl := Option.some.inj hi
      clear hi hlt
      intro a w1 hL hS hD
      have d2 : a.tmps.getD 10 undef = .bool true := hD ⟨2, .guard⟩ (by simp) rfl _ rfl _ rfl
      have d8 : a.tmps.getD 16 undef = .pointer (some ⟨lp, 0, none⟩) := hD ⟨8, .data⟩ (by simp) rfl _ rfl _ rfl
      refine step_yes (wanted_yes rfl rfl rfl d2) ?_
      exact ok_value Lat.refl (.pointer (some ⟨lp, 3, none⟩)) (by simp [execOp, Act.eval, d8, go_sem]) (TV.mk rfl)
    · obtain rfl := Option.some.inj hi
      clear hi hlt
      intro a w1 hL hS hD
      have d2 : a.tmps.getD 10 undef = .bool true := hD ⟨2, .guard⟩ (by simp) rfl _ rfl _ rfl
      have d9 : a.tmps.getD 17 undef = .pointer (some ⟨lp, 3, none⟩) := hD ⟨9, .data⟩ (by simp) rfl _ rfl _ rfl
      refine step_yes (wanted_yes rfl rfl rfl d2) ?_
      exact ok_value Lat.refl (.pointer (some ⟨lp, 4, none⟩)) (by simp [execOp, Act.eval, d9, go_sem]) (TV.mk rfl)
    · obtain rfl := Option.some.inj hi
      clear hi hlt
      intro a w1 hL hS hD
      have d2 : a.tmps.getD 10 undef = .bool true := hD ⟨2, .guard⟩ (by simp) rfl _ rfl _ rfl
      have d10 : a.tmps.getD 18 undef = .pointer (some ⟨lp, 4, none⟩) := hD ⟨10, .data⟩ (by simp) rfl _ rfl _ rfl
      refine step_yes (wanted_yes rfl rfl rfl d2) ?_
      exact ok_value Lat.refl (.int .i64 c) (by simp [execOp, Act.eval, d10, hC w1 hL, go_sem]) (TV.mk rfl)
    · obtain rfl := Option.some.inj hi
      clear hi hlt
      intro a w1 hL hS hD
      have d2 : a.tmps.getD 10 undef = .bool true := hD ⟨2, .guard⟩ (by simp) rfl _ rfl _ rfl
      have d6 : a.tmps.getD 14 undef = .int .i64 (y + z) := hD ⟨6, .data⟩ (by simp) rfl _ rfl _ rfl
      have d11 : a.tmps.getD 19 undef = .int .i64 c := hD ⟨11, .data⟩ (by simp) rfl _ rfl _ rfl
      refine step_yes (wanted_yes rfl rfl rfl d2) ?_
      exact ok_value Lat.refl (.bool false) (by simp [execOp, Act.eval, d6, d11, hle, go_sem]) (TV.mk rfl)
    · obtain rfl := Option.some.inj hi
      clear hi hlt
      intro a w1 hL hS hD
      have d2 : a.tmps.getD 10 undef = .bool true := hD ⟨2, .data⟩ (by simp) rfl _ rfl _ rfl
      have d12 : a.tmps.getD 20 undef = .bool false := hD ⟨12, .data⟩ (by simp) rfl _ rfl _ rfl
      refine step_yes rfl ?_
      exact ok_value Lat.refl (.bool false) (by simp [execOp, Act.eval, d2, d12, go_sem]) (TV.mk rfl)
    · obtain rfl := Option.some.inj hi
      clear hi hlt
      intro a w1 hL hS hD
      have d13 : a.tmps.getD 21 undef = .bool false := hD ⟨13, .data⟩ (by simp) rfl _ rfl _ rfl
      refine step_yes rfl ?_
      exact ok_value Lat.refl (.bool false) (by simp [execOp, Act.eval, d13, go_sem]) (TV.mk rfl)

set_option maxRecDepth 100000 in
set_option maxHeartbeats 2000000 in
theorem append_r5 (lp p v n c : Nat) (ad : Option Addr) (R : Value → World → Prop) (w : World) (a0 : Act) (Q : Exit → Act → World → Prop) (hsz : a0.tmps.size = 22)
    (s0 : a0.tmps.getD 0 undef = .pointer (some ⟨lp, 0, none⟩))
    (s1 : a0.tmps.getD 1 undef = .slice ad n c)
    (hA : ∀ w1, Lat w w1 → w1.cell? ⟨lp, 0, none⟩ = some (.pointer (some ⟨p, 0, none⟩)))
    (hV : ∀ w1, Lat w w1 → w1.cell? ⟨lp, 2, none⟩ = some (.int .i64 (v : Int)))
    (hcall : ∀ w1, Lat w w1 → Calls Tryz.prog 44 #[.pointer (some ⟨p, 0, none⟩), .int .i64 (v : Int), .int .u8 2, .slice ad n c] w1 fun e w2 => ∃ x, e = .returned x ∧ R x w2)
    (hQ : ∀ (v12 v13 v14 v15 v16 v17 v18 v19 v20 v21 v4 : Value) (x : Value) (w2 : World), R x w2 → Q .normal (((((((((((((a0.put (some 12) v12).put (some 13) v13).put (some 14) v14).put (some 15) v15).put (some 16) v16).put (some 17) v17).put (some 18) v18).put (some 19) v19).put (some 20) v20).put (some 21) v21).put (some 4) v4).put (some 21) (x)).put (some 4) (x)) w2) :
    Code.wp Tryz.prog ((Tryz.f11.body.bind (findRegion 5)).getD .skip) Q a0 w := by
  conv => arg 2; whnf
  refine wp_region_tail 9 Lat (TE [Ent.val (.pointer (some ⟨lp, 0, none⟩)), Ent.val (.pointer (some ⟨lp, 0, none⟩)), Ent.val (.pointer (some ⟨lp, 0, none⟩)), Ent.val (.pointer (some ⟨p, 0, none⟩)), Ent.val (.pointer (some ⟨lp, 0, none⟩)), Ent.val (.pointer (some ⟨lp, 0, none⟩)), Ent.val (.pointer (some ⟨lp, 2, none⟩)), Ent.val (.int .i64 (v : Int)), Ent.val (.slice ad n c)]) (by kernel_rfl) (by kernel_rfl) (by kernel_rfl) (by rw [hsz]; kernel_rfl) (by kernel_rfl) (by kernel_rfl) Lat.refl Lat.trans (TE_stable _) (Lat.draw w) ?hop ?hlast
  case hlast =>
    intro a w1 hL hS hT
    have k15 : a.tmps.getD 15 undef = .pointer (some ⟨p, 0, none⟩) := hT 3 _ (by omega) rfl
    have k19 : a.tmps.getD 19 undef = .int .i64 (v : Int) := hT 7 _ (by omega) rfl
    have k20 : a.tmps.getD 20 undef = .slice ad n c := hT 8 _ (by omega) rfl
    refine wpAny_one 9 _ rfl rfl (by kernel_rfl) ?_
    refine wp_call_r (f := 44) (args := #[.pointer (some ⟨p, 0, none⟩), .int .i64 (v : Int), .int .u8 2, .slice ad n c]) (by simp [execOp, resolve, Act.eval, k15, k19, k20, go_sem]) ?_
    refine (hcall w1 hL).mono ?_
    rintro e w2 ⟨x, rfl, hR⟩
    refine ⟨x, rfl, ?_⟩
    show wpAny Tryz.prog .any _ Q _ _ (a.put (some 21) (x)) w2
    obtain ⟨fr1, hfr1⟩ : ∃ y, a.put (some 21) (x) = y := ⟨_, rfl⟩
    rw [hfr1]
    have zfr1 : fr1.tmps.size = 22 := by rw [← hfr1, put_size]; exact (hS.size.trans hsz)
    have c1_15 : fr1.tmps.getD 15 undef = .pointer (some ⟨p, 0, none⟩) := by rw [← hfr1]; exact (put_slot _ 21 15 _ (by decide)).trans k15
    have c1_19 : fr1.tmps.getD 19 undef = .int .i64 (v : Int) := by rw [← hfr1]; exact (put_slot _ 21 19 _ (by decide)).trans k19
    have c1_20 : fr1.tmps.getD 20 undef = .slice ad n c := by rw [← hfr1]; exact (put_slot _ 21 20 _ (by decide)).trans k20
    have c1_21 : fr1.tmps.getD 21 undef = x := by rw [← hfr1]; exact put_same _ 21 _ (by rw [(hS.size.trans hsz)]; decide)
    refine wpAny_one 10 _ rfl rfl (by kernel_rfl) ?_
    refine wp_val (x) (w' := w2) (by simp only [Array.getD_eq_getD_getElem?] at c1_21; simp [execOp, Act.eval, c1_21, go_sem]) ?_
    show wpAny Tryz.prog .any _ Q _ _ (fr1.put (some 4) (x)) w2
    obtain ⟨fr2, hfr2⟩ : ∃ y, fr1.put (some 4) (x) = y := ⟨_, rfl⟩
    rw [hfr2]
    have zfr2 : fr2.tmps.size = 22 := by rw [← hfr2, put_size]; exact zfr1
    have c2_15 : fr2.tmps.getD 15 undef = .pointer (some ⟨p, 0, none⟩) := by rw [← hfr2]; exact (put_slot _ 4 15 _ (by decide)).trans c1_15
    have c2_19 : fr2.tmps.getD 19 undef = .int .i64 (v : Int) := by rw [← hfr2]; exact (put_slot _ 4 19 _ (by decide)).trans c1_19
    have c2_20 : fr2.tmps.getD 20 undef = .slice ad n c := by rw [← hfr2]; exact (put_slot _ 4 20 _ (by decide)).trans c1_20
    have c2_21 : fr2.tmps.getD 21 undef = x := by rw [← hfr2]; exact (put_slot _ 4 21 _ (by decide)).trans c1_21
    have c2_4 : fr2.tmps.getD 4 undef = x := by rw [← hfr2]; exact put_same _ 4 _ (by rw [zfr1]; decide)
    refine wpAny_nil (by kernel_rfl) ?_
    show Q .normal _ w2
    rw [← hfr2, ← hfr1]
    rw [same_puts hS]
    exact hQ (a.tmps.getD 12 undef) (a.tmps.getD 13 undef) (a.tmps.getD 14 undef) (a.tmps.getD 15 undef) (a.tmps.getD 16 undef) (a.tmps.getD 17 undef) (a.tmps.getD 18 undef) (a.tmps.getD 19 undef) (a.tmps.getD 20 undef) (a.tmps.getD 21 undef) (a.tmps.getD 4 undef) x w2 hR
  case hop =>
    intro i o hlt hi
    rcases (show i = 0 ∨ i = 1 ∨ i = 2 ∨ i = 3 ∨ i = 4 ∨ i = 5 ∨ i = 6 ∨ i = 7 ∨ i = 8 by omega) with rfl | rfl | rfl | rfl | rfl | rfl | rfl | rfl | rfl
    · obtain rfl := Option.some.inj hi
      clear hi hlt
      intro a w1 hL hS hD
      have e0 : a.tmps.getD 0 undef = .pointer (some ⟨lp, 0, none⟩) := (hS.slot 0 (by kernel_rfl)).trans s0
      refine step_yes rfl ?_
      exact ok_value Lat.refl (.pointer (some ⟨lp, 0, none⟩)) (by simp [execOp, Act.eval, e0, go_sem]) rfl
    · obtain rfl := Option.some.inj hi
      clear hi hlt
      intro a w1 hL hS hD
      have d0 : a.tmps.getD 12 undef = .pointer (some ⟨lp, 0, none⟩) := hD ⟨0, .data⟩ (by simp) rfl _ rfl
      refine step_yes rfl ?_
      exact ok_value Lat.refl (.pointer (some ⟨lp, 0, none⟩)) (by simp [execOp, Act.eval, d0, go_sem]) rfl
    · obtain rfl := Option.some.inj hi
      clear hi hlt
      intro a w1 hL hS hD
      have d1 : a.tmps.getD 13 undef = .pointer (some ⟨lp, 0, none⟩) := hD ⟨1, .data⟩ (by simp) rfl _ rfl
      refine step_yes rfl ?_
      exact ok_value Lat.refl (.pointer (some ⟨lp, 0, none⟩)) (by simp [execOp, Act.eval, d1, go_sem]) rfl
    · obtain rfl := Option.some.inj hi
      clear hi hlt
      intro a w1 hL hS hD
      have d2 : a.tmps.getD 14 undef = .pointer (some ⟨lp, 0, none⟩) := hD ⟨2, .data⟩ (by simp) rfl _ rfl
      refine step_yes rfl ?_
      exact ok_value Lat.refl (.pointer (some ⟨p, 0, none⟩)) (by simp [execOp, Act.eval, d2, hA w1 hL, go_sem]) rfl
    · obtain rfl := Option.some.inj hi
      clear hi hlt
      intro a w1 hL hS hD
      have e0 : a.tmps.getD 0 undef = .pointer (some ⟨lp, 0, none⟩) := (hS.slot 0 (by kernel_rfl)).trans s0
      refine step_yes rfl ?_
      exact ok_value Lat.refl (.pointer (some ⟨lp, 0, none⟩)) (by simp [execOp, Act.eval, e0, go_sem]) rfl
    · obtain rfl := Option.some.inj hi
      clear hi hlt
      intro a w1 hL hS hD
      have d4 : a.tmps.getD 16 undef = .pointer (some ⟨lp, 0, none⟩) := hD ⟨4, .data⟩ (by simp) rfl _ rfl
      refine step_yes rfl ?_
      exact ok_value Lat.refl (.pointer (some ⟨lp, 0, none⟩)) (by simp [execOp, Act.eval, d4, go_sem]) rfl
    · obtain rfl := Option.some.inj hi
      clear hi hlt
      intro a w1 hL hS hD
      have d5 : a.tmps.getD 17 undef = .pointer (some ⟨lp, 0, none⟩) := hD ⟨5, .data⟩ (by simp) rfl _ rfl
      refine step_yes rfl ?_
      exact ok_value Lat.refl (.pointer (some ⟨lp, 2, none⟩)) (by simp [execOp, Act.eval, d5, go_sem]) rfl
    · obtain rfl := Option.some.inj hi
      clear hi hlt
      intro a w1 hL hS hD
      have d6 : a.tmps.getD 18 undef = .pointer (some ⟨lp, 2, none⟩) := hD ⟨6, .data⟩ (by simp) rfl _ rfl
      refine step_yes rfl ?_
      exact ok_value Lat.refl (.int .i64 (v : Int)) (by simp [execOp, Act.eval, d6, hV w1 hL, go_sem]) rfl
    · obtain rfl := Option.some.inj hi
      clear hi hlt
      intro a w1 hL hS hD
      have e1 : a.tmps.getD 1 undef = .slice ad n c := (hS.slot 1 (by kernel_rfl)).trans s1
      refine step_yes rfl ?_
      exact ok_value Lat.refl (.slice ad n c) (by simp [execOp, Act.eval, e1, go_sem]) rfl

set_option maxRecDepth 100000 in
set_option maxHeartbeats 2000000 in
theorem check_r10 (lp p hb g cp sl n c B m : Nat) (o : Int) (ad : Option Addr) (xs : List Int) (R : Value → World → Prop) (w : World) (a0 : Act) (Q : Exit → Act → World → Prop) (hsz : a0.tmps.size = 74)
    (s0 : a0.tmps.getD 0 undef = .pointer (some ⟨lp, 0, none⟩))
    (s1 : a0.tmps.getD 1 undef = .slice ad n c)
    (s5 : a0.tmps.getD 5 undef = .pointer (some ⟨hb, 0, none⟩))
    (s6 : a0.tmps.getD 6 undef = .int .i64 o)
    (hA : ∀ w1, Lat w w1 → w1.cell? ⟨lp, 0, none⟩ = some (.pointer (some ⟨p, 0, none⟩)))
    (hB : ∀ w1, Lat w w1 → Blk w1 hb 66 [.int .u64 (g : Int), .int .i64 (cp : Int), .int .i64 (sl : Int)])
    (k1 : ∀ w1, Lat w w1 → Calls Tryz.prog 45 #[.agg #[.int .u64 (g : Int), .int .i64 (cp : Int), .int .i64 (sl : Int)], .slice ad n c] w1 fun e w2 => ∃ v, e = .returned v ∧ Lat w1 w2 ∧ RowE B m xs v w2)
    (hcall : ∀ w1, Lat w w1 → ∀ ag cg, RowE B m xs (.slice ag m cg) w1 → Calls Tryz.prog 44 #[.pointer (some ⟨p, 0, none⟩), .int .i64 o, .int .u8 1, .slice ag m cg] w1 fun e w2 => ∃ x, e = .returned x ∧ R x w2)
    (hQ : ∀ (v42 v43 v44 v45 v46 v47 v48 v49 v50 v8 : Value) (x : Value) (w2 : World), R x w2 → Q .normal ((((((((((((a0.put (some 42) v42).put (some 43) v43).put (some 44) v44).put (some 45) v45).put (some 46) v46).put (some 47) v47).put (some 48) v48).put (some 49) v49).put (some 50) v50).put (some 8) v8).put (some 50) (x)).put (some 8) (x)) w2) :
    Code.wp Tryz.prog ((Tryz.f13.body.bind (findRegion 10)).getD .skip) Q a0 w := by
  conv => arg 2; whnf
  refine wp_region_tail 8 Lat (TE [Ent.val (.pointer (some ⟨lp, 0, none⟩)), Ent.val (.pointer (some ⟨lp, 0, none⟩)), Ent.val (.pointer (some ⟨lp, 0, none⟩)), Ent.val (.pointer (some ⟨p, 0, none⟩)), Ent.val (.int .i64 o), Ent.val (.agg #[.int .u64 (g : Int), .int .i64 (cp : Int), .int .i64 (sl : Int)]), Ent.val (.slice ad n c), rowE B m xs]) (by kernel_rfl) (by kernel_rfl) (by kernel_rfl) (by rw [hsz]; kernel_rfl) (by kernel_rfl) (by kernel_rfl) Lat.refl Lat.trans (TE_stable _) (Lat.draw w) ?hop ?hlast
  case hlast =>
    intro a w1 hL hS hT
    have k45 : a.tmps.getD 45 undef = .pointer (some ⟨p, 0, none⟩) := hT 3 _ (by omega) rfl
    have k46 : a.tmps.getD 46 undef = .int .i64 o := hT 4 _ (by omega) rfl
    have kk49 := hT 7 _ (by omega) rfl
    obtain ⟨ag, cg, k49, hr49⟩ := kk49
    have k49 : a.tmps.getD 49 undef = .slice ag m cg := k49
    refine wpAny_one 8 _ rfl rfl (by kernel_rfl) ?_
    refine wp_call_r (f := 44) (args := #[.pointer (some ⟨p, 0, none⟩), .int .i64 o, .int .u8 1, .slice ag m cg]) (by simp [execOp, resolve, Act.eval, k45, k46, k49, go_sem]) ?_
    refine (hcall w1 hL ag cg ⟨ag, cg, rfl, k49 ▸ hr49⟩).mono ?_
    rintro e w2 ⟨x, rfl, hR⟩
    refine ⟨x, rfl, ?_⟩
    show wpAny Tryz.prog .any _ Q _ _ (a.put (some 50) (x)) w2
    obtain ⟨fr1, hfr1⟩ : ∃ y, a.put (some 50) (x) = y := ⟨_, rfl⟩
    rw [hfr1]
    have zfr1 : fr1.tmps.size = 74 := by rw [← hfr1, put_size]; exact (hS.size.trans hsz)
    have c1_45 : fr1.tmps.getD 45 undef = .pointer (some ⟨p, 0, none⟩) := by rw [← hfr1]; exact (put_slot _ 50 45 _ (by decide)).trans k45
    have c1_46 : fr1.tmps.getD 46 undef = .int .i64 o := by rw [← hfr1]; exact (put_slot _ 50 46 _ (by decide)).trans k46
    have c1_49 : fr1.tmps.getD 49 undef = .slice ag m cg := by rw [← hfr1]; exact (put_slot _ 50 49 _ (by decide)).trans k49
    have c1_50 : fr1.tmps.getD 50 undef = x := by rw [← hfr1]; exact put_same _ 50 _ (by rw [(hS.size.trans hsz)]; decide)
    refine wpAny_one 9 _ rfl rfl (by kernel_rfl) ?_
    refine wp_val (x) (w' := w2) (by simp only [Array.getD_eq_getD_getElem?] at c1_50; simp [execOp, Act.eval, c1_50, go_sem]) ?_
    show wpAny Tryz.prog .any _ Q _ _ (fr1.put (some 8) (x)) w2
    obtain ⟨fr2, hfr2⟩ : ∃ y, fr1.put (some 8) (x) = y := ⟨_, rfl⟩
    rw [hfr2]
    have zfr2 : fr2.tmps.size = 74 := by rw [← hfr2, put_size]; exact zfr1
    have c2_45 : fr2.tmps.getD 45 undef = .pointer (some ⟨p, 0, none⟩) := by rw [← hfr2]; exact (put_slot _ 8 45 _ (by decide)).trans c1_45
    have c2_46 : fr2.tmps.getD 46 undef = .int .i64 o := by rw [← hfr2]; exact (put_slot _ 8 46 _ (by decide)).trans c1_46
    have c2_49 : fr2.tmps.getD 49 undef = .slice ag m cg := by rw [← hfr2]; exact (put_slot _ 8 49 _ (by decide)).trans c1_49
    have c2_50 : fr2.tmps.getD 50 undef = x := by rw [← hfr2]; exact (put_slot _ 8 50 _ (by decide)).trans c1_50
    have c2_8 : fr2.tmps.getD 8 undef = x := by rw [← hfr2]; exact put_same _ 8 _ (by rw [zfr1]; decide)
    refine wpAny_nil (by kernel_rfl) ?_
    show Q .normal _ w2
    rw [← hfr2, ← hfr1]
    rw [same_puts hS]
    exact hQ (a.tmps.getD 42 undef) (a.tmps.getD 43 undef) (a.tmps.getD 44 undef) (a.tmps.getD 45 undef) (a.tmps.getD 46 undef) (a.tmps.getD 47 undef) (a.tmps.getD 48 undef) (a.tmps.getD 49 undef) (a.tmps.getD 50 undef) (a.tmps.getD 8 undef) x w2 hR
  case hop =>
    intro i o hlt hi
    rcases (show i = 0 ∨ i = 1 ∨ i = 2 ∨ i = 3 ∨ i = 4 ∨ i = 5 ∨ i = 6 ∨ i = 7 by omega) with rfl | rfl | rfl | rfl | rfl | rfl | rfl | rfl
    · obtain rfl := Option.some.inj hi
      clear hi hlt
      intro a w1 hL hS hD
      have e0 : a.tmps.getD 0 undef = .pointer (some ⟨lp, 0, none⟩) := (hS.slot 0 (by kernel_rfl)).trans s0
      refine step_yes rfl ?_
      exact ok_value Lat.refl (.pointer (some ⟨lp, 0, none⟩)) (by simp [execOp, Act.eval, e0, go_sem]) rfl
    · obtain rfl := Option.some.inj hi
      clear hi hlt
      intro a w1 hL hS hD
      have d0 : a.tmps.getD 42 undef = .pointer (some ⟨lp, 0, none⟩) := hD ⟨0, .data⟩ (by simp) rfl _ rfl
      refine step_yes rfl ?_
      exact ok_value Lat.refl (.pointer (some ⟨lp, 0, none⟩)) (by simp [execOp, Act.eval, d0, go_sem]) rfl
    · obtain rfl := Option.some.inj hi
      clear hi hlt
      intro a w1 hL hS hD
      have d1 : a.tmps.getD 43 undef = .pointer (some ⟨lp, 0, none⟩) := hD ⟨1, .data⟩ (by simp) rfl _ rfl
      refine step_yes rfl ?_
      exact ok_value Lat.refl (.pointer (some ⟨lp, 0, none⟩)) (by simp [execOp, Act.eval, d1, go_sem]) rfl
    · obtain rfl := Option.some.inj hi
      clear hi hlt
      intro a w1 hL hS hD
      have d2 : a.tmps.getD 44 undef = .pointer (some ⟨lp, 0, none⟩) := hD ⟨2, .data⟩ (by simp) rfl _ rfl
      refine step_yes rfl ?_
      exact ok_value Lat.refl (.pointer (some ⟨p, 0, none⟩)) (by simp [execOp, Act.eval, d2, hA w1 hL, go_sem]) rfl
    · obtain rfl := Option.some.inj hi
      clear hi hlt
      intro a w1 hL hS hD
      have e6 : a.tmps.getD 6 undef = .int .i64 o := (hS.slot 6 (by kernel_rfl)).trans s6
      refine step_yes rfl ?_
      exact ok_value Lat.refl (.int .i64 o) (by simp [execOp, Act.eval, e6, go_sem]) rfl
    · obtain rfl := Option.some.inj hi
      clear hi hlt
      intro a w1 hL hS hD
      have e5 : a.tmps.getD 5 undef = .pointer (some ⟨hb, 0, none⟩) := (hS.slot 5 (by kernel_rfl)).trans s5
      refine step_yes rfl ?_
      refine wp_load_mid 66 (.tmp 5) rfl hb 0 e5 [.int .u64 (g : Int), .int .i64 (cp : Int), .int .i64 (sl : Int)] _ (hB w1 hL).all Tryz.underlying66 rfl size83 ?_
      exact ⟨_, rfl, Lat.refl _, rfl⟩
    · obtain rfl := Option.some.inj hi
      clear hi hlt
      intro a w1 hL hS hD
      have e1 : a.tmps.getD 1 undef = .slice ad n c := (hS.slot 1 (by kernel_rfl)).trans s1
      refine step_yes rfl ?_
      exact ok_value Lat.refl (.slice ad n c) (by simp [execOp, Act.eval, e1, go_sem]) rfl
    · obtain rfl := Option.some.inj hi
      clear hi hlt
      intro a w1 hL hS hD
      have d5 : a.tmps.getD 47 undef = .agg #[.int .u64 (g : Int), .int .i64 (cp : Int), .int .i64 (sl : Int)] := hD ⟨5, .data⟩ (by simp) rfl _ rfl
      have d6 : a.tmps.getD 48 undef = .slice ad n c := hD ⟨6, .data⟩ (by simp) rfl _ rfl
      refine step_yes rfl ?_
      refine ok_call (f := 45) (args := #[.agg #[.int .u64 (g : Int), .int .i64 (cp : Int), .int .i64 (sl : Int)], .slice ad n c]) (by simp [execOp, resolve, Act.eval, d5, d6, go_sem]) ?_
      refine (k1 w1 hL).mono ?_
      rintro e w2 ⟨v, rfl, hb, hr⟩
      exact ⟨v, rfl, hb, hr⟩

set_option maxRecDepth 100000 in
set_option maxHeartbeats 2000000 in
theorem check_r13 (lp p v : Nat) (R : Value → World → Prop) (w : World) (a0 : Act) (Q : Exit → Act → World → Prop) (hsz : a0.tmps.size = 74)
    (s0 : a0.tmps.getD 0 undef = .pointer (some ⟨lp, 0, none⟩))
    (hA : ∀ w1, Lat w w1 → w1.cell? ⟨lp, 0, none⟩ = some (.pointer (some ⟨p, 0, none⟩)))
    (hV : ∀ w1, Lat w w1 → w1.cell? ⟨lp, 2, none⟩ = some (.int .i64 (v : Int)))
    (hcall : ∀ w1, Lat w w1 → Calls Tryz.prog 43 #[.pointer (some ⟨p, 0, none⟩), .int .i64 (v : Int), .int .i64 0] w1 fun e w2 => ∃ x, e = .returned x ∧ R x w2)
    (hQ : ∀ (v54 v55 v56 v57 v58 v59 v60 v61 v62 v9 : Value) (x : Value) (w2 : World), R x w2 → Q .normal ((((((((((((a0.put (some 54) v54).put (some 55) v55).put (some 56) v56).put (some 57) v57).put (some 58) v58).put (some 59) v59).put (some 60) v60).put (some 61) v61).put (some 62) v62).put (some 9) v9).put (some 62) (x)).put (some 9) (x)) w2) :
    Code.wp Tryz.prog ((Tryz.f13.body.bind (findRegion 13)).getD .skip) Q a0 w := by
  conv => arg 2; whnf
  refine wp_region_tail 8 Lat (TE [Ent.val (.pointer (some ⟨lp, 0, none⟩)), Ent.val (.pointer (some ⟨lp, 0, none⟩)), Ent.val (.pointer (some ⟨lp, 0, none⟩)), Ent.val (.pointer (some ⟨p, 0, none⟩)), Ent.val (.pointer (some ⟨lp, 0, none⟩)), Ent.val (.pointer (some ⟨lp, 0, none⟩)), Ent.val (.pointer (some ⟨lp, 2, none⟩)), Ent.val (.int .i64 (v : Int))]) (by kernel_rfl) (by kernel_rfl) (by kernel_rfl) (by rw [hsz]; kernel_rfl) (by kernel_rfl) (by kernel_rfl) Lat.refl Lat.trans (TE_stable _) (Lat.draw w) ?hop ?hlast
  case hlast =>
    intro a w1 hL hS hT
    have k57 : a.tmps.getD 57 undef = .pointer (some ⟨p, 0, none⟩) := hT 3 _ (by omega) rfl
    have k61 : a.tmps.getD 61 undef = .int .i64 (v : Int) := hT 7 _ (by omega) rfl
    refine wpAny_one 8 _ rfl rfl (by kernel_rfl) ?_
    refine wp_call_r (f := 43) (args := #[.pointer (some ⟨p, 0, none⟩), .int .i64 (v : Int), .int .i64 0]) (by simp [execOp, resolve, Act.eval, k57, k61, go_sem]) ?_
    refine (hcall w1 hL).mono ?_
    rintro e w2 ⟨x, rfl, hR⟩
    refine ⟨x, rfl, ?_⟩
    show wpAny Tryz.prog .any _ Q _ _ (a.put (some 62) (x)) w2
    obtain ⟨fr1, hfr1⟩ : ∃ y, a.put (some 62) (x) = y := ⟨_, rfl⟩
    rw [hfr1]
    have zfr1 : fr1.tmps.size = 74 := by rw [← hfr1, put_size]; exact (hS.size.trans hsz)
    have c1_57 : fr1.tmps.getD 57 undef = .pointer (some ⟨p, 0, none⟩) := by rw [← hfr1]; exact (put_slot _ 62 57 _ (by decide)).trans k57
    have c1_61 : fr1.tmps.getD 61 undef = .int .i64 (v : Int) := by rw [← hfr1]; exact (put_slot _ 62 61 _ (by decide)).trans k61
    have c1_62 : fr1.tmps.getD 62 undef = x := by rw [← hfr1]; exact put_same _ 62 _ (by rw [(hS.size.trans hsz)]; decide)
    refine wpAny_one 9 _ rfl rfl (by kernel_rfl) ?_
    refine wp_val (x) (w' := w2) (by simp only [Array.getD_eq_getD_getElem?] at c1_62; simp [execOp, Act.eval, c1_62, go_sem]) ?_
    show wpAny Tryz.prog .any _ Q _ _ (fr1.put (some 9) (x)) w2
    obtain ⟨fr2, hfr2⟩ : ∃ y, fr1.put (some 9) (x) = y := ⟨_, rfl⟩
    rw [hfr2]
    have zfr2 : fr2.tmps.size = 74 := by rw [← hfr2, put_size]; exact zfr1
    have c2_57 : fr2.tmps.getD 57 undef = .pointer (some ⟨p, 0, none⟩) := by rw [← hfr2]; exact (put_slot _ 9 57 _ (by decide)).trans c1_57
    have c2_61 : fr2.tmps.getD 61 undef = .int .i64 (v : Int) := by rw [← hfr2]; exact (put_slot _ 9 61 _ (by decide)).trans c1_61
    have c2_62 : fr2.tmps.getD 62 undef = x := by rw [← hfr2]; exact (put_slot _ 9 62 _ (by decide)).trans c1_62
    have c2_9 : fr2.tmps.getD 9 undef = x := by rw [← hfr2]; exact put_same _ 9 _ (by rw [zfr1]; decide)
    refine wpAny_nil (by kernel_rfl) ?_
    show Q .normal _ w2
    rw [← hfr2, ← hfr1]
    rw [same_puts hS]
    exact hQ (a.tmps.getD 54 undef) (a.tmps.getD 55 undef) (a.tmps.getD 56 undef) (a.tmps.getD 57 undef) (a.tmps.getD 58 undef) (a.tmps.getD 59 undef) (a.tmps.getD 60 undef) (a.tmps.getD 61 undef) (a.tmps.getD 62 undef) (a.tmps.getD 9 undef) x w2 hR
  case hop =>
    intro i o hlt hi
    rcases (show i = 0 ∨ i = 1 ∨ i = 2 ∨ i = 3 ∨ i = 4 ∨ i = 5 ∨ i = 6 ∨ i = 7 by omega) with rfl | rfl | rfl | rfl | rfl | rfl | rfl | rfl
    · obtain rfl := Option.some.inj hi
      clear hi hlt
      intro a w1 hL hS hD
      have e0 : a.tmps.getD 0 undef = .pointer (some ⟨lp, 0, none⟩) := (hS.slot 0 (by kernel_rfl)).trans s0
      refine step_yes rfl ?_
      exact ok_value Lat.refl (.pointer (some ⟨lp, 0, none⟩)) (by simp [execOp, Act.eval, e0, go_sem]) rfl
    · obtain rfl := Option.some.inj hi
      clear hi hlt
      intro a w1 hL hS hD
      have d0 : a.tmps.getD 54 undef = .pointer (some ⟨lp, 0, none⟩) := hD ⟨0, .data⟩ (by simp) rfl _ rfl
      refine step_yes rfl ?_
      exact ok_value Lat.refl (.pointer (some ⟨lp, 0, none⟩)) (by simp [execOp, Act.eval, d0, go_sem]) rfl
    · obtain rfl := Option.some.inj hi
      clear hi hlt
      intro a w1 hL hS hD
      have d1 : a.tmps.getD 55 undef = .pointer (some ⟨lp, 0, none⟩) := hD ⟨1, .data⟩ (by simp) rfl _ rfl
      refine step_yes rfl ?_
      exact ok_value Lat.refl (.pointer (some ⟨lp, 0, none⟩)) (by simp [execOp, Act.eval, d1, go_sem]) rfl
    · obtain rfl := Option.some.inj hi
      clear hi hlt
      intro a w1 hL hS hD
      have d2 : a.tmps.getD 56 undef = .pointer (some ⟨lp, 0, none⟩) := hD ⟨2, .data⟩ (by simp) rfl _ rfl
      refine step_yes rfl ?_
      exact ok_value Lat.refl (.pointer (some ⟨p, 0, none⟩)) (by simp [execOp, Act.eval, d2, hA w1 hL, go_sem]) rfl
    · obtain rfl := Option.some.inj hi
      clear hi hlt
      intro a w1 hL hS hD
      have e0 : a.tmps.getD 0 undef = .pointer (some ⟨lp, 0, none⟩) := (hS.slot 0 (by kernel_rfl)).trans s0
      refine step_yes rfl ?_
      exact ok_value Lat.refl (.pointer (some ⟨lp, 0, none⟩)) (by simp [execOp, Act.eval, e0, go_sem]) rfl
    · obtain rfl := Option.some.inj hi
      clear hi hlt
      intro a w1 hL hS hD
      have d4 : a.tmps.getD 58 undef = .pointer (some ⟨lp, 0, none⟩) := hD ⟨4, .data⟩ (by simp) rfl _ rfl
      refine step_yes rfl ?_
      exact ok_value Lat.refl (.pointer (some ⟨lp, 0, none⟩)) (by simp [execOp, Act.eval, d4, go_sem]) rfl
    · obtain rfl := Option.some.inj hi
      clear hi hlt
      intro a w1 hL hS hD
      have d5 : a.tmps.getD 59 undef = .pointer (some ⟨lp, 0, none⟩) := hD ⟨5, .data⟩ (by simp) rfl _ rfl
      refine step_yes rfl ?_
      exact ok_value Lat.refl (.pointer (some ⟨lp, 2, none⟩)) (by simp [execOp, Act.eval, d5, go_sem]) rfl
    · obtain rfl := Option.some.inj hi
      clear hi hlt
      intro a w1 hL hS hD
      have d6 : a.tmps.getD 60 undef = .pointer (some ⟨lp, 2, none⟩) := hD ⟨6, .data⟩ (by simp) rfl _ rfl
      refine step_yes rfl ?_
      exact ok_value Lat.refl (.int .i64 (v : Int)) (by simp [execOp, Act.eval, d6, hV w1 hL, go_sem]) rfl

/-- A new log. -/
def NewL (B : Nat) (l : List Value) (v : Value) (w : World) : Prop := ∃ lp, v = .pointer (some ⟨lp, 0, none⟩) ∧ B ≤ lp ∧ Blk w lp 73 l
def newL (B : Nat) (l : List Value) : Ent Lat := ⟨NewL B l, fun v a b h k => by obtain ⟨lp, h1, h2, h3⟩ := h; exact ⟨lp, h1, h2, h3.later k⟩⟩
theorem built94 (p fa v g cp sl : Nat) : Tryz.prog.built 73 [(0, .pointer (some ⟨p, 0, none⟩)), (1, .int .i64 (fa : Int)), (2, .int .i64 (v : Int)), (3, .agg #[.int .u64 (g : Int), .int .i64 (cp : Int), .int .i64 (sl : Int)])] = some #[.pointer (some ⟨p, 0, none⟩), .int .i64 (fa : Int), .int .i64 (v : Int), .int .u64 (g : Int), .int .i64 (cp : Int), .int .i64 (sl : Int)] := by kernel_rfl

set_option maxRecDepth 100000 in
set_option maxHeartbeats 2000000 in
theorem open_r6 (p fb fa v g cp sl sn sc rn rc : Nat) (sa ra : Option Addr) (w : World) (a0 : Act) (Q : Exit → Act → World → Prop) (hsz : a0.tmps.size = 36)
    (s0 : a0.tmps.getD 0 undef = .pointer (some ⟨p, 0, none⟩))
    (s6 : a0.tmps.getD 6 undef = .int .i64 (v : Int))
    (s7 : a0.tmps.getD 7 undef = .pointer (some ⟨fb, 0, none⟩))
    (k1 : ∀ w1, Lat w w1 → Calls Tryz.prog 39 #[.pointer (some ⟨p, 0, none⟩)] w1 fun e w2 => e = .returned (.int .i64 (fa : Int)) ∧ Lat w1 w2)
    (hH : ∀ w1, Lat w w1 → w1.rangeAt fb 0 [.int .u64 (g : Int), .int .i64 (cp : Int), .int .i64 (sl : Int)])
    (hs : ∀ w1, Lat w w1 → w1.cell? ⟨fb, 3, none⟩ = some (.slice sa sn sc))
    (hr : ∀ w1, Lat w w1 → w1.cell? ⟨fb, 4, none⟩ = some (.slice ra rn rc))
    (hQ : ∀ (v24 v25 v26 v27 v28 v29 v30 v31 v32 v33 v34 v35 v2 v3 v4 v5 : Value) (w1 : World), Lat w w1 → NewL w.heap.size [.pointer (some ⟨p, 0, none⟩), .int .i64 (fa : Int), .int .i64 (v : Int), .int .u64 (g : Int), .int .i64 (cp : Int), .int .i64 (sl : Int)] v2 w1 ∧ v3 = .slice sa sn sc ∧ v4 = .slice ra rn rc ∧ v5 = .int .i64 0 → Q .normal ((((((((((((((((a0.put (some 24) v24).put (some 25) v25).put (some 26) v26).put (some 27) v27).put (some 28) v28).put (some 29) v29).put (some 30) v30).put (some 31) v31).put (some 32) v32).put (some 33) v33).put (some 34) v34).put (some 35) v35).put (some 2) v2).put (some 3) v3).put (some 4) v4).put (some 5) v5) w1) :
    Code.wp Tryz.prog ((Tryz.f8.body.bind (findRegion 6)).getD .skip) Q a0 w := by
  conv => arg 2; whnf
  refine wp_region_inv Lat (TE [Ent.val (.pointer (some ⟨p, 0, none⟩)), Ent.val (.pointer (some ⟨p, 0, none⟩)), Ent.val (.int .i64 (fa : Int)), Ent.val (.int .i64 (v : Int)), Ent.val (.pointer (some ⟨fb, 0, none⟩)), Ent.val (.agg #[.int .u64 (g : Int), .int .i64 (cp : Int), .int .i64 (sl : Int)]), Ent.val (.agg #[.pointer (some ⟨p, 0, none⟩), .int .i64 (fa : Int), .int .i64 (v : Int), .int .u64 (g : Int), .int .i64 (cp : Int), .int .i64 (sl : Int)]), newL w.heap.size [.pointer (some ⟨p, 0, none⟩), .int .i64 (fa : Int), .int .i64 (v : Int), .int .u64 (g : Int), .int .i64 (cp : Int), .int .i64 (sl : Int)], Ent.val (.pointer (some ⟨fb, 3, none⟩)), Ent.val (.slice sa sn sc), Ent.val (.pointer (some ⟨fb, 4, none⟩)), Ent.val (.slice ra rn rc), newL w.heap.size [.pointer (some ⟨p, 0, none⟩), .int .i64 (fa : Int), .int .i64 (v : Int), .int .u64 (g : Int), .int .i64 (cp : Int), .int .i64 (sl : Int)], Ent.val (.slice sa sn sc), Ent.val (.slice ra rn rc), Ent.val (.int .i64 0)]) (by kernel_rfl) (by kernel_rfl) (by kernel_rfl) (by rw [hsz]; kernel_rfl) (by kernel_rfl) Lat.refl Lat.trans (TE_stable _) (Lat.draw w) ?hop ?hdone
  case hdone =>
    intro a w1 hL hS hT
    have he := same_puts hS
    rw [he]
    exact hQ (a.tmps.getD 24 undef) (a.tmps.getD 25 undef) (a.tmps.getD 26 undef) (a.tmps.getD 27 undef) (a.tmps.getD 28 undef) (a.tmps.getD 29 undef) (a.tmps.getD 30 undef) (a.tmps.getD 31 undef) (a.tmps.getD 32 undef) (a.tmps.getD 33 undef) (a.tmps.getD 34 undef) (a.tmps.getD 35 undef) (a.tmps.getD 2 undef) (a.tmps.getD 3 undef) (a.tmps.getD 4 undef) (a.tmps.getD 5 undef) w1 hL (⟨hT 12 _ rfl, hT 13 _ rfl, hT 14 _ rfl, hT 15 _ rfl⟩)
  case hop =>
    intro i o hi
    have hlt : i < 16 := (Array.getElem?_eq_some_iff.1 hi).1
    rcases (show i = 0 ∨ i = 1 ∨ i = 2 ∨ i = 3 ∨ i = 4 ∨ i = 5 ∨ i = 6 ∨ i = 7 ∨ i = 8 ∨ i = 9 ∨ i = 10 ∨ i = 11 ∨ i = 12 ∨ i = 13 ∨ i = 14 ∨ i = 15 by omega) with rfl | rfl | rfl | rfl | rfl | rfl | rfl | rfl | rfl | rfl | rfl | rfl | rfl | rfl | rfl | rfl
    · obtain rfl := Option.some.inj hi
      clear hi hlt
      intro a w1 hL hS hD
      have e0 : a.tmps.getD 0 undef = .pointer (some ⟨p, 0, none⟩) := (hS.slot 0 (by kernel_rfl)).trans s0
      refine step_yes rfl ?_
      exact ok_value Lat.refl (.pointer (some ⟨p, 0, none⟩)) (by simp [execOp, Act.eval, e0, go_sem]) rfl
    · obtain rfl := Option.some.inj hi
      clear hi hlt
      intro a w1 hL hS hD
      have e0 : a.tmps.getD 0 undef = .pointer (some ⟨p, 0, none⟩) := (hS.slot 0 (by kernel_rfl)).trans s0
      refine step_yes rfl ?_
      exact ok_value Lat.refl (.pointer (some ⟨p, 0, none⟩)) (by simp [execOp, Act.eval, e0, go_sem]) rfl
    · obtain rfl := Option.some.inj hi
      clear hi hlt
      intro a w1 hL hS hD
      have d1 : a.tmps.getD 25 undef = .pointer (some ⟨p, 0, none⟩) := hD ⟨1, .data⟩ (by simp) rfl _ rfl
      refine step_yes rfl ?_
      refine ok_call (f := 39) (args := #[.pointer (some ⟨p, 0, none⟩)]) (by simp [execOp, resolve, Act.eval, d1, go_sem]) ?_
      refine (k1 w1 hL).mono ?_
      rintro e w2 ⟨rfl, hb⟩
      exact ⟨_, rfl, hb, rfl⟩
    · obtain rfl := Option.some.inj hi
      clear hi hlt
      intro a w1 hL hS hD
      have e6 : a.tmps.getD 6 undef = .int .i64 (v : Int) := (hS.slot 6 (by kernel_rfl)).trans s6
      refine step_yes rfl ?_
      exact ok_value Lat.refl (.int .i64 (v : Int)) (by simp [execOp, Act.eval, e6, go_sem]) rfl
    · obtain rfl := Option.some.inj hi
      clear hi hlt
      intro a w1 hL hS hD
      have e7 : a.tmps.getD 7 undef = .pointer (some ⟨fb, 0, none⟩) := (hS.slot 7 (by kernel_rfl)).trans s7
      refine step_yes rfl ?_
      exact ok_value Lat.refl (.pointer (some ⟨fb, 0, none⟩)) (by simp [execOp, Act.eval, e7, go_sem]) rfl
    · obtain rfl := Option.some.inj hi
      clear hi hlt
      intro a w1 hL hS hD
      have d4 : a.tmps.getD 28 undef = .pointer (some ⟨fb, 0, none⟩) := hD ⟨4, .data⟩ (by simp) rfl _ rfl
      refine step_yes rfl ?_
      refine wp_load_mid 66 (.tmp 28) rfl fb 0 d4 [.int .u64 (g : Int), .int .i64 (cp : Int), .int .i64 (sl : Int)] _ (hH w1 hL) Tryz.underlying66 rfl size83 ?_
      exact ⟨_, rfl, Lat.refl _, rfl⟩
    · obtain rfl := Option.some.inj hi
      clear hi hlt
      intro a w1 hL hS hD
      have d0 : a.tmps.getD 24 undef = .pointer (some ⟨p, 0, none⟩) := hD ⟨0, .data⟩ (by simp) rfl _ rfl
      have d2 : a.tmps.getD 26 undef = .int .i64 (fa : Int) := hD ⟨2, .data⟩ (by simp) rfl _ rfl
      have d3 : a.tmps.getD 27 undef = .int .i64 (v : Int) := hD ⟨3, .data⟩ (by simp) rfl _ rfl
      have d5 : a.tmps.getD 29 undef = .agg #[.int .u64 (g : Int), .int .i64 (cp : Int), .int .i64 (sl : Int)] := hD ⟨5, .data⟩ (by simp) rfl _ rfl
      refine step_yes rfl ?_
      exact ok_build Lat.refl 73 #[(0, .tmp 24), (1, .tmp 26), (2, .tmp 27), (3, .tmp 29)] rfl [(0, .pointer (some ⟨p, 0, none⟩)), (1, .int .i64 (fa : Int)), (2, .int .i64 (v : Int)), (3, .agg #[.int .u64 (g : Int), .int .i64 (cp : Int), .int .i64 (sl : Int)])] #[.pointer (some ⟨p, 0, none⟩), .int .i64 (fa : Int), .int .i64 (v : Int), .int .u64 (g : Int), .int .i64 (cp : Int), .int .i64 (sl : Int)] (by simp [Act.eval]; simp only [Array.getD_eq_getD_getElem?] at d0 d2 d3 d5; exact ⟨d0, d2, d3, d5⟩) (built94 _ _ _ _ _ _) rfl
    · obtain rfl := Option.some.inj hi
      clear hi hlt
      intro a w1 hL hS hD
      have d6 : a.tmps.getD 30 undef = .agg #[.pointer (some ⟨p, 0, none⟩), .int .i64 (fa : Int), .int .i64 (v : Int), .int .u64 (g : Int), .int .i64 (cp : Int), .int .i64 (sl : Int)] := hD ⟨6, .data⟩ (by simp) rfl _ rfl
      refine step_yes rfl ?_
      have hwz := hL.size
      refine wp_box_any 73 (.tmp 30) rfl [.pointer (some ⟨p, 0, none⟩), .int .i64 (fa : Int), .int .i64 (v : Int), .int .u64 (g : Int), .int .i64 (cp : Int), .int .i64 (sl : Int)] d6 ?_
      intro w2 hB2 hb2
      exact ⟨_, rfl, hb2, w1.heap.size, rfl, hwz, hB2⟩
    · obtain rfl := Option.some.inj hi
      clear hi hlt
      intro a w1 hL hS hD
      have e7 : a.tmps.getD 7 undef = .pointer (some ⟨fb, 0, none⟩) := (hS.slot 7 (by kernel_rfl)).trans s7
      refine step_yes rfl ?_
      exact ok_value Lat.refl (.pointer (some ⟨fb, 3, none⟩)) (by simp [execOp, Act.eval, e7, go_sem]) rfl
    · obtain rfl := Option.some.inj hi
      clear hi hlt
      intro a w1 hL hS hD
      have d8 : a.tmps.getD 32 undef = .pointer (some ⟨fb, 3, none⟩) := hD ⟨8, .data⟩ (by simp) rfl _ rfl
      refine step_yes rfl ?_
      exact ok_value Lat.refl (.slice sa sn sc) (by simp [execOp, Act.eval, d8, hs w1 hL, go_sem]) rfl
    · obtain rfl := Option.some.inj hi
      clear hi hlt
      intro a w1 hL hS hD
      have e7 : a.tmps.getD 7 undef = .pointer (some ⟨fb, 0, none⟩) := (hS.slot 7 (by kernel_rfl)).trans s7
      refine step_yes rfl ?_
      exact ok_value Lat.refl (.pointer (some ⟨fb, 4, none⟩)) (by simp [execOp, Act.eval, e7, go_sem]) rfl
    · obtain rfl := Option.some.inj hi
      clear hi hlt
      intro a w1 hL hS hD
      have d10 : a.tmps.getD 34 undef = .pointer (some ⟨fb, 4, none⟩) := hD ⟨10, .data⟩ (by simp) rfl _ rfl
      refine step_yes rfl ?_
      exact ok_value Lat.refl (.slice ra rn rc) (by simp [execOp, Act.eval, d10, hr w1 hL, go_sem]) rfl
    · obtain rfl := Option.some.inj hi
      clear hi hlt
      intro a w1 hL hS hD
      have d7 := hD ⟨7, .data⟩ (by simp) rfl _ rfl
      refine step_yes rfl ?_
      exact ok_value Lat.refl (a.tmps.getD 31 undef) (by simp [execOp, Act.eval, go_sem]) d7
    · obtain rfl := Option.some.inj hi
      clear hi hlt
      intro a w1 hL hS hD
      have d9 : a.tmps.getD 33 undef = .slice sa sn sc := hD ⟨9, .data⟩ (by simp) rfl _ rfl
      refine step_yes rfl ?_
      exact ok_value Lat.refl (.slice sa sn sc) (by simp [execOp, Act.eval, d9, go_sem]) rfl
    · obtain rfl := Option.some.inj hi
      clear hi hlt
      intro a w1 hL hS hD
      have d11 : a.tmps.getD 35 undef = .slice ra rn rc := hD ⟨11, .data⟩ (by simp) rfl _ rfl
      refine step_yes rfl ?_
      exact ok_value Lat.refl (.slice ra rn rc) (by simp [execOp, Act.eval, d11, go_sem]) rfl
    · obtain rfl := Option.some.inj hi
      clear hi hlt
      intro a w1 hL hS hD
      refine step_yes rfl ?_
      exact ok_value Lat.refl (.int .i64 0) (by simp [execOp, Act.eval, go_sem]) rfl


end Go.Proofs.YtnfjhdedcnbdbaaGreat
