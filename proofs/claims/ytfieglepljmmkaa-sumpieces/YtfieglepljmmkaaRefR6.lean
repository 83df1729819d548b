import Derived.Test.YtfieglepljmmkaaRefBlk
import Derived.Test.YtfieglepljmmkaaRefPad
namespace Go.Proofs.Ytfieglepljmmkaa
open Go.RowKit
set_option linter.unusedVariables false

set_option maxRecDepth 100000 in
set_option maxHeartbeats 2000000 in
theorem of_r6 (gs b off n c i c2 : Nat) (S D : List Value) (w : World) (a0 : Act) (Q : Exit → Act → World → Prop) (hsz : a0.tmps.size = 41)
    (s3 : a0.tmps.getD 3 undef = .pointer (some ⟨gs, 0, none⟩))
    (s4 : a0.tmps.getD 4 undef = .slice (some ⟨b, off, none⟩) n c)
    (s5 : a0.tmps.getD 5 undef = .int .i64 (i : Int))
    (hS : ∀ w1, Lat w w1 → w1.rangeAt gs 0 S)
    (hSi : (Try.prog.info? 47).map (·.size) = some S.length)
    (hw : IntKind.i64.wrap ((i : Int) + 64) = (i : Int) + 64)
    (hsl : ∀ w1, (Instr.sliceAt 22 (.slice (some ⟨b, off, none⟩) n c) (some (.int .i64 (i : Int))) (some (.int .i64 ((i : Int) + 64))) Option.none).run Try.prog w1 = .ok (.slice (some ⟨b, off + i, none⟩) 64 c2) w1)
    (h26 : ∀ w1, Lat w w1 → Calls Try.prog 26 #[.agg S.toArray, .slice (some ⟨b, off + i, none⟩) 64 c2] w1 fun e w2 => e = .returned (.agg D.toArray) ∧ Below w1.heap.size w1 w2)
    (hth : ∀ w1, Lat w w1 → w1.there gs 0 D.length)
    (hDi : (Try.prog.info? 47).map (·.size) = some D.length)
    (hone : ∀ v ∈ D, v.oneCell' = true)
    (hQ : ∀ (v17 v18 v19 v20 v21 v22 v23 : Value) (w1 : World), Lat w w1 → Q .normal (((((((a0.put (some 17) v17).put (some 18) v18).put (some 19) v19).put (some 20) v20).put (some 21) v21).put (some 22) v22).put (some 23) v23) (w1.setCells gs 0 D)) :
    Code.wp Try.prog ((Try.f13.body.bind (findRegion 6)).getD .skip) Q a0 w := by
  conv => arg 2; whnf
  refine wp_region_last 7 Lat (TV [.agg S.toArray, .slice (some ⟨b, off, none⟩) n c, .int .i64 (i : Int), .int .i64 (i : Int), .int .i64 ((i : Int) + 64), .slice (some ⟨b, off + i, none⟩) 64 c2, .agg D.toArray]) (by kernel_rfl) (by kernel_rfl) (by kernel_rfl) (by rw [hsz]; kernel_rfl) (by kernel_rfl) (by kernel_rfl) Lat.refl Lat.trans (TV.stable _) (Lat.draw w) ?hop ?hlast
  case hlast =>
    intro o a w1 ho hL hS1 hT
    obtain rfl := Option.some.inj ho
    have he := same_puts hS1
    have hQ2 := hQ (a.tmps.getD 17 undef) (a.tmps.getD 18 undef) (a.tmps.getD 19 undef) (a.tmps.getD 20 undef) (a.tmps.getD 21 undef) (a.tmps.getD 22 undef) (a.tmps.getD 23 undef) w1 hL
    have e3 : a.tmps.getD 3 undef = .pointer (some ⟨gs, 0, none⟩) := (hS1.slot 3 (by kernel_rfl)).trans s3
    have d6 : a.tmps.getD 23 undef = .agg D.toArray := hT 6 _ (by omega) rfl _ rfl
    refine wp_store_mid 47 (.tmp 3) (.tmp 23) rfl gs 0 D.toArray e3 d6 (by simpa using hth w1 hL) (by simpa using hDi) (all_oneCell_toArray hone) ?_
    show Q .normal a (w1.setCells gs 0 D)
    rw [he]
    exact hQ2
  case hop =>
    intro i o hlt hi
    rcases (show i = 0 ∨ i = 1 ∨ i = 2 ∨ i = 3 ∨ i = 4 ∨ i = 5 ∨ i = 6 by omega) with rfl | rfl | rfl | rfl | rfl | rfl | rfl
    · obtain rfl := Option.some.inj hi
      clear hi hlt
      intro a w1 hL hS1 hD
      have e3 : a.tmps.getD 3 undef = .pointer (some ⟨gs, 0, none⟩) := (hS1.slot 3 (by kernel_rfl)).trans s3
      refine step_yes rfl ?_
      exact wp_load_mid 47 (.tmp 3) rfl gs 0 e3 S _ (hS w1 hL) Try.underlying47 rfl hSi ⟨_, rfl, Lat.refl _, TV.mk rfl⟩
    · obtain rfl := Option.some.inj hi
      clear hi hlt
      intro a w1 hL hS1 hD
      have e4 : a.tmps.getD 4 undef = .slice (some ⟨b, off, none⟩) n c := (hS1.slot 4 (by kernel_rfl)).trans s4
      refine step_yes rfl ?_
      exact ok_value Lat.refl (.slice (some ⟨b, off, none⟩) n c) (by simp [execOp, Act.eval, e4, go_sem]) (TV.mk rfl)
    · obtain rfl := Option.some.inj hi
      clear hi hlt
      intro a w1 hL hS1 hD
      have e5 : a.tmps.getD 5 undef = .int .i64 (i : Int) := (hS1.slot 5 (by kernel_rfl)).trans s5
      refine step_yes rfl ?_
      exact ok_value Lat.refl (.int .i64 (i : Int)) (by simp [execOp, Act.eval, e5, go_sem]) (TV.mk rfl)
    · obtain rfl := Option.some.inj hi
      clear hi hlt
      intro a w1 hL hS1 hD
      have e5 : a.tmps.getD 5 undef = .int .i64 (i : Int) := (hS1.slot 5 (by kernel_rfl)).trans s5
      refine step_yes rfl ?_
      exact ok_value Lat.refl (.int .i64 (i : Int)) (by simp [execOp, Act.eval, e5, go_sem]) (TV.mk rfl)
    · obtain rfl := Option.some.inj hi
      clear hi hlt
      intro a w1 hL hS1 hD
      have d3 : a.tmps.getD 20 undef = .int .i64 (i : Int) := hD ⟨3, .data⟩ (by simp) rfl _ rfl _ rfl
      refine step_yes rfl ?_
      exact ok_value Lat.refl (.int .i64 ((i : Int) + 64)) (by simp [execOp, Act.eval, d3, hw, go_sem]) (TV.mk rfl)
    · obtain rfl := Option.some.inj hi
      clear hi hlt
      intro a w1 hL hS1 hD
      have d1 : a.tmps.getD 18 undef = .slice (some ⟨b, off, none⟩) n c := hD ⟨1, .data⟩ (by simp) rfl _ rfl _ rfl
      have d2 : a.tmps.getD 19 undef = .int .i64 (i : Int) := hD ⟨2, .data⟩ (by simp) rfl _ rfl _ rfl
      have d4 : a.tmps.getD 21 undef = .int .i64 ((i : Int) + 64) := hD ⟨4, .data⟩ (by simp) rfl _ rfl _ rfl
      refine step_yes rfl ?_
      exact ok_value Lat.refl (.slice (some ⟨b, off + i, none⟩) 64 c2) (by simp [execOp, Act.eval, d1, d2, d4, hsl w1, go_sem]) (TV.mk rfl)
    · obtain rfl := Option.some.inj hi
      clear hi hlt
      intro a w1 hL hS1 hD
      have d0 : a.tmps.getD 17 undef = .agg S.toArray := hD ⟨0, .data⟩ (by simp) rfl _ rfl _ rfl
      have d5 : a.tmps.getD 22 undef = .slice (some ⟨b, off + i, none⟩) 64 c2 := hD ⟨5, .data⟩ (by simp) rfl _ rfl _ rfl
      refine step_yes rfl ?_
      refine ok_call (f := 26) (args := #[.agg S.toArray, .slice (some ⟨b, off + i, none⟩) 64 c2]) (by simp [execOp, resolve, Act.eval, d0, d5, go_sem]) ?_
      refine (h26 w1 hL).mono ?_
      rintro e w2 ⟨rfl, hb⟩
      exact ⟨_, rfl, hb, TV.mk rfl⟩

end Go.Proofs.Ytfieglepljmmkaa
