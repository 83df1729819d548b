import Derived.Test.YtlppibigceeimaaDoorWrA
namespace Go.Proofs.YtlppibigceeimaaDoor
open Go.RowKit
set_option linter.unusedVariables false

theorem under29 : Tryd.prog.underlying 70 = some (.slice (Tryd.prog.elem 70)) := by kernel_rfl
theorem size29 (w : World) : (sizeOf (Tryd.prog.elem 70)).run Tryd.prog w = .ok 1 w := by kernel_rfl
theorem run_slice_ab (w : World) (g n c ca cb : Nat) (hab : ca ≤ cb) (hbc : cb ≤ c) :
    (Instr.sliceAt 70 (.slice (some ⟨g, 0, none⟩) n c) (some (.int .i64 (ca : Int))) (some (.int .i64 (cb : Int))) Option.none).run Tryd.prog w = .ok (.slice (if c = ca then some ⟨g, 0, none⟩ else some ⟨g, ca, none⟩) (cb - ca) (c - ca)) w := by
  rw [run_sliceAt_slice w 70 _ _ _ _ under29, run_slice_lh w 70 _ n c under29 .i64 .i64 ca cb (by omega) (by omega) (by omega), size29]
  simp [Result.andThen, sliced, Addr.add_lit]

set_option maxRecDepth 100000 in
set_option maxHeartbeats 2000000 in
theorem cut_r2 (p g n c k s ca cb : Nat) (AA : Option Addr) (F : World → World) (w : World) (a0 : Act) (Q : Exit → Act → World → Prop) (hsz : a0.tmps.size = 47)
    (s0 : a0.tmps.getD 0 undef = .pointer (some ⟨p, 0, none⟩))
    (s1 : a0.tmps.getD 1 undef = .int .i64 (k : Int))
    (hc0 : ∀ w1, Lat w w1 → w1.cell? ⟨p, 0, none⟩ = some (.slice (some ⟨g, 0, none⟩) n c)) (hc1 : ∀ w1, Lat w w1 → w1.cell? ⟨p, 1, none⟩ = some (.int .i64 (s : Int)))
    (h27a : ∀ w1, Calls Tryd.prog 68 #[.int .i64 (k : Int)] w1 fun e w2 => e = .returned (.int .i64 (ca : Int)) ∧ w2 = w1) (h27b : ∀ w1, Calls Tryd.prog 68 #[.int .i64 (s : Int)] w1 fun e w2 => e = .returned (.int .i64 (cb : Int)) ∧ w2 = w1)
    (hsl : ∀ w1, (Instr.sliceAt 70 (.slice (some ⟨g, 0, none⟩) n c) (some (.int .i64 (ca : Int))) (some (.int .i64 (cb : Int))) Option.none).run Tryd.prog w1 = .ok (.slice AA (cb - ca) (c - ca)) w1)
    (hclr : ∀ w1, Lat w w1 → (Builtin.clear_ #[70] 0 #[.slice AA (cb - ca) (c - ca)]).run Tryd.prog w1 = .ok (.tuple #[]) (F w1))
    (hQ : ∀ (v13 v14 v15 v16 v17 v18 v19 v20 v21 v22 v23 v24 : Value) (w1 : World), Lat w w1 → Q .normal ((((((((((((a0.put (some 13) v13).put (some 14) v14).put (some 15) v15).put (some 16) v16).put (some 17) v17).put (some 18) v18).put (some 19) v19).put (some 20) v20).put (some 21) v21).put (some 22) v22).put (some 23) v23).put (some 24) v24) (F w1)) :
    Code.wp Tryd.prog ((Tryd.f55.body.bind (findRegion 2)).getD .skip) Q a0 w := by
  conv => arg 2; whnf
  refine wp_region_last 12 Lat (TV [.pointer (some ⟨p, 0, none⟩), .pointer (some ⟨p, 0, none⟩), .pointer (some ⟨p, 0, none⟩), .slice (some ⟨g, 0, none⟩) n c, .int .i64 (k : Int), .int .i64 (ca : Int), .pointer (some ⟨p, 0, none⟩), .pointer (some ⟨p, 0, none⟩), .pointer (some ⟨p, 1, none⟩), .int .i64 (s : Int), .int .i64 (cb : Int), .slice AA (cb - ca) (c - ca)]) (by kernel_rfl) (by kernel_rfl) (by kernel_rfl) (by rw [hsz]; kernel_rfl) (by kernel_rfl) (by kernel_rfl) Lat.refl Lat.trans (TV.stable _) (Lat.draw w) ?hop ?hlast
  case hlast =>
    intro o a w1 ho hL hS hT
    obtain rfl := Option.some.inj ho
    have d11 : a.tmps.getD 24 undef = .slice AA (cb - ca) (c - ca) := hT 11 _ (by omega) rfl _ rfl
    have he := same_puts hS
    have hQ2 := hQ (a.tmps.getD 13 undef) (a.tmps.getD 14 undef) (a.tmps.getD 15 undef) (a.tmps.getD 16 undef) (a.tmps.getD 17 undef) (a.tmps.getD 18 undef) (a.tmps.getD 19 undef) (a.tmps.getD 20 undef) (a.tmps.getD 21 undef) (a.tmps.getD 22 undef) (a.tmps.getD 23 undef) (a.tmps.getD 24 undef) w1 hL
    have hr := hclr w1 hL
    unfold Oper.wp
    simp [execOp, resolve, invoke, builtin, Act.eval, d11, hr, Result.andThen]
    show Q .normal a (F w1)
    rw [he]
    exact hQ2
  case hop =>
    intro i o hlt hi
    rcases (show i = 0 ∨ i = 1 ∨ i = 2 ∨ i = 3 ∨ i = 4 ∨ i = 5 ∨ i = 6 ∨ i = 7 ∨ i = 8 ∨ i = 9 ∨ i = 10 ∨ i = 11 by omega) with rfl | rfl | rfl | rfl | rfl | rfl | rfl | rfl | rfl | rfl | rfl | rfl
    · obtain rfl := Option.some.inj hi
      clear hi hlt
      intro a w1 hL hS hD
      have e0 : a.tmps.getD 0 undef = .pointer (some ⟨p, 0, none⟩) := (hS.slot 0 (by kernel_rfl)).trans s0
      refine step_yes rfl ?_
      exact ok_value Lat.refl (.pointer (some ⟨p, 0, none⟩)) (by simp [execOp, Act.eval, e0, go_sem]) (TV.mk rfl)
    · obtain rfl := Option.some.inj hi
      clear hi hlt
      intro a w1 hL hS hD
      have d0 : a.tmps.getD 13 undef = .pointer (some ⟨p, 0, none⟩) := hD ⟨0, .data⟩ (by simp) rfl _ rfl _ rfl
      refine step_yes rfl ?_
      exact ok_value Lat.refl (.pointer (some ⟨p, 0, none⟩)) (by simp [execOp, Act.eval, d0, go_sem]) (TV.mk rfl)
    · obtain rfl := Option.some.inj hi
      clear hi hlt
      intro a w1 hL hS hD
      have d1 : a.tmps.getD 14 undef = .pointer (some ⟨p, 0, none⟩) := hD ⟨1, .data⟩ (by simp) rfl _ rfl _ rfl
      refine step_yes rfl ?_
      exact ok_value Lat.refl (.pointer (some ⟨p, 0, none⟩)) (by simp [execOp, Act.eval, d1, go_sem]) (TV.mk rfl)
    · obtain rfl := Option.some.inj hi
      clear hi hlt
      intro a w1 hL hS hD
      have d2 : a.tmps.getD 15 undef = .pointer (some ⟨p, 0, none⟩) := hD ⟨2, .data⟩ (by simp) rfl _ rfl _ rfl
      refine step_yes rfl ?_
      exact ok_value Lat.refl (.slice (some ⟨g, 0, none⟩) n c) (by simp [execOp, Act.eval, d2, hc0 w1 hL, go_sem]) (TV.mk rfl)
    · obtain rfl := Option.some.inj hi
      clear hi hlt
      intro a w1 hL hS hD
      have e1 : a.tmps.getD 1 undef = .int .i64 (k : Int) := (hS.slot 1 (by kernel_rfl)).trans s1
      refine step_yes rfl ?_
      exact ok_value Lat.refl (.int .i64 (k : Int)) (by simp [execOp, Act.eval, e1, go_sem]) (TV.mk rfl)
    · obtain rfl := Option.some.inj hi
      clear hi hlt
      intro a w1 hL hS hD
      have d4 : a.tmps.getD 17 undef = .int .i64 (k : Int) := hD ⟨4, .data⟩ (by simp) rfl _ rfl _ rfl
      refine step_yes rfl ?_
      refine ok_call (f := 68) (args := #[.int .i64 (k : Int)]) (by simp [execOp, resolve, Act.eval, d4, go_sem]) ?_
      refine (h27a w1).mono ?_
      rintro e w2 ⟨rfl, rfl⟩
      exact ⟨_, rfl, Lat.refl _, TV.mk rfl⟩
    · obtain rfl := Option.some.inj hi
      clear hi hlt
      intro a w1 hL hS hD
      have e0 : a.tmps.getD 0 undef = .pointer (some ⟨p, 0, none⟩) := (hS.slot 0 (by kernel_rfl)).trans s0
      refine step_yes rfl ?_
      exact ok_value Lat.refl (.pointer (some ⟨p, 0, none⟩)) (by simp [execOp, Act.eval, e0, go_sem]) (TV.mk rfl)
    · obtain rfl := Option.some.inj hi
      clear hi hlt
      intro a w1 hL hS hD
      have d6 : a.tmps.getD 19 undef = .pointer (some ⟨p, 0, none⟩) := hD ⟨6, .data⟩ (by simp) rfl _ rfl _ rfl
      refine step_yes rfl ?_
      exact ok_value Lat.refl (.pointer (some ⟨p, 0, none⟩)) (by simp [execOp, Act.eval, d6, go_sem]) (TV.mk rfl)
    · obtain rfl := Option.some.inj hi
      clear hi hlt
      intro a w1 hL hS hD
      have d7 : a.tmps.getD 20 undef = .pointer (some ⟨p, 0, none⟩) := hD ⟨7, .data⟩ (by simp) rfl _ rfl _ rfl
      refine step_yes rfl ?_
      exact ok_value Lat.refl (.pointer (some ⟨p, 1, none⟩)) (by simp [execOp, Act.eval, d7, go_sem]) (TV.mk rfl)
    · obtain rfl := Option.some.inj hi
      clear hi hlt
      intro a w1 hL hS hD
      have d8 : a.tmps.getD 21 undef = .pointer (some ⟨p, 1, none⟩) := hD ⟨8, .data⟩ (by simp) rfl _ rfl _ rfl
      refine step_yes rfl ?_
      exact ok_value Lat.refl (.int .i64 (s : Int)) (by simp [execOp, Act.eval, d8, hc1 w1 hL, go_sem]) (TV.mk rfl)
    · obtain rfl := Option.some.inj hi
      clear hi hlt
      intro a w1 hL hS hD
      have d9 : a.tmps.getD 22 undef = .int .i64 (s : Int) := hD ⟨9, .data⟩ (by simp) rfl _ rfl _ rfl
      refine step_yes rfl ?_
      refine ok_call (f := 68) (args := #[.int .i64 (s : Int)]) (by simp [execOp, resolve, Act.eval, d9, go_sem]) ?_
      refine (h27b w1).mono ?_
      rintro e w2 ⟨rfl, rfl⟩
      exact ⟨_, rfl, Lat.refl _, TV.mk rfl⟩
    · obtain rfl := Option.some.inj hi
      clear hi hlt
      intro a w1 hL hS hD
      have d3 : a.tmps.getD 16 undef = .slice (some ⟨g, 0, none⟩) n c := hD ⟨3, .data⟩ (by simp) rfl _ rfl _ rfl
      have d5 : a.tmps.getD 18 undef = .int .i64 (ca : Int) := hD ⟨5, .data⟩ (by simp) rfl _ rfl _ rfl
      have d10 : a.tmps.getD 23 undef = .int .i64 (cb : Int) := hD ⟨10, .data⟩ (by simp) rfl _ rfl _ rfl
      refine step_yes rfl ?_
      exact ok_value Lat.refl (.slice AA (cb - ca) (c - ca)) (by simp [execOp, Act.eval, d3, d5, d10, hsl w1, go_sem]) (TV.mk rfl)

end Go.Proofs.YtlppibigceeimaaDoor
