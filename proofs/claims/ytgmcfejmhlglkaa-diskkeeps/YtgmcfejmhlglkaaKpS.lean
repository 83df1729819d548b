import Derived.Test.YtgmcfejmhlglkaaKpB
namespace Go.Proofs.Ytgmcfejmhlglkaa
open Go.RowKit
set_option linter.unusedVariables false
set_option linter.unusedSimpArgs false

set_option maxRecDepth 100000 in
set_option maxHeartbeats 2000000 in
theorem keeps_r39 (lb j my yn st z tq : Nat) (sy sy2 : ByteArray) (w : World) (a0 : Act) (Q : Exit → Act → World → Prop) (hsz : a0.tmps.size = 327)
    (s20 : a0.tmps.getD 20 undef = .int .i64 (j : Int))
    (s10 : a0.tmps.getD 10 undef = .pointer (some ⟨lb, 0, none⟩))
    (s21 : a0.tmps.getD 21 undef = .int .i64 (st : Int))
    (hj : j < 3) (hjj : (j : Int) < 3) (hss : sy.size = my) (hz : (yn : Int) + (st : Int) = (z : Int)) (hw64 : IntKind.i64.wrap (z : Int) = (z : Int)) (hmin : min (my : Int) (z : Int) = (tq : Int)) (hmin2 : ∀ w1 : World, (Builtin.min_ #[3, 3] 3 #[.int .i64 (my : Int), .int .i64 (z : Int)]).run Try.prog w1 = .ok (.int .i64 (tq : Int)) w1)
    (hsl : ∀ w1, (Instr.sliceAt 9 (.string sy) none (some (.int .i64 (tq : Int))) none).run Try.prog w1 = .ok (.string sy2) w1)
    (he0 : ∀ w1, Lat w w1 → w1.cell? ⟨lb, j * 2, none⟩ = some (.string sy)) (he1 : ∀ w1, Lat w w1 → w1.cell? ⟨lb, j * 2 + 1, none⟩ = some (.int .i64 (yn : Int)))
    (u : Value) (hcell : ∀ w1, Lat w w1 → w1.cell? ⟨lb, j * 2, none⟩ = some u) (hfrz : ∀ w1, Lat w w1 → w1.frozen? ⟨lb, j * 2, none⟩ = false)
    (hQ : ∀ (v179 v180 v181 v182 v183 v184 v185 v186 v187 v188 v189 v190 v191 v192 v193 v194 v195 v196 v197 v198 : Value) (w1 : World), Lat w w1 → Q .normal ((((((((((((((((((((a0.put (some 179) v179).put (some 180) v180).put (some 181) v181).put (some 182) v182).put (some 183) v183).put (some 184) v184).put (some 185) v185).put (some 186) v186).put (some 187) v187).put (some 188) v188).put (some 189) v189).put (some 190) v190).put (some 191) v191).put (some 192) v192).put (some 193) v193).put (some 194) v194).put (some 195) v195).put (some 196) v196).put (some 197) v197).put (some 198) v198) (w1.setCell ⟨lb, j * 2, none⟩ (.string sy2))) :
    Code.wp Try.prog ((Try.f4.body.bind (findRegion 39)).getD .skip) Q a0 w := by
  conv => arg 2; whnf
  refine wp_region_last 20 Lat (TV [.int .i64 (j : Int), .int .i64 (j : Int), .pointer (some ⟨lb, j * 2, none⟩), .pointer (some ⟨lb, j * 2, none⟩), .string sy, .int .i64 (j : Int), .pointer (some ⟨lb, j * 2, none⟩), .pointer (some ⟨lb, j * 2, none⟩), .string sy, .int .i64 (my : Int), .int .i64 (j : Int), .pointer (some ⟨lb, j * 2, none⟩), .pointer (some ⟨lb, j * 2 + 1, none⟩), .int .i64 (yn : Int), .int .i64 (st : Int), .int .i64 (z : Int), .int .i64 (tq : Int), .string sy2, .pointer (some ⟨lb, j * 2, none⟩), .pointer (some ⟨lb, j * 2, none⟩)]) (by kernel_rfl) (by kernel_rfl) (by kernel_rfl) (by rw [hsz]; kernel_rfl) (by kernel_rfl) (by kernel_rfl) Lat.refl Lat.trans (TV.stable _) (Lat.draw w) ?hop ?hlast
  case hlast =>
    intro o a w1 ho hL hS hT
    obtain rfl := Option.some.inj ho
    have he := same_puts hS
    have hQ2 := hQ (a.tmps.getD 179 undef) (a.tmps.getD 180 undef) (a.tmps.getD 181 undef) (a.tmps.getD 182 undef) (a.tmps.getD 183 undef) (a.tmps.getD 184 undef) (a.tmps.getD 185 undef) (a.tmps.getD 186 undef) (a.tmps.getD 187 undef) (a.tmps.getD 188 undef) (a.tmps.getD 189 undef) (a.tmps.getD 190 undef) (a.tmps.getD 191 undef) (a.tmps.getD 192 undef) (a.tmps.getD 193 undef) (a.tmps.getD 194 undef) (a.tmps.getD 195 undef) (a.tmps.getD 196 undef) (a.tmps.getD 197 undef) (a.tmps.getD 198 undef) w1 hL
    have dA : a.tmps.getD 198 undef = .pointer (some ⟨lb, j * 2, none⟩) := hT 19 _ (by omega) rfl _ rfl
    have dV : a.tmps.getD 196 undef = .string sy2 := hT 17 _ (by omega) rfl _ rfl
    have hc1 := hcell w1 hL
    have hf1 := hfrz w1 hL
    unfold Oper.wp
    simp [execOp, Act.eval, dA, dV, hc1, hf1, Result.andThen, go_sem]
    show Q .normal a _
    rw [he]
    exact hQ2
  case hop =>
    intro i o hlt hi
    rcases (show i = 0 ∨ i = 1 ∨ i = 2 ∨ i = 3 ∨ i = 4 ∨ i = 5 ∨ i = 6 ∨ i = 7 ∨ i = 8 ∨ i = 9 ∨ i = 10 ∨ i = 11 ∨ i = 12 ∨ i = 13 ∨ i = 14 ∨ i = 15 ∨ i = 16 ∨ i = 17 ∨ i = 18 ∨ i = 19 by omega) with rfl | rfl | rfl | rfl | rfl | rfl | rfl | rfl | rfl | rfl | rfl | rfl | rfl | rfl | rfl | rfl | rfl | rfl | rfl | rfl
    · obtain rfl := Option.some.inj hi
      clear hi hlt
      intro a w1 hL hS hD
      have e20 : a.tmps.getD 20 undef = .int .i64 (j : Int) := (hS.slot 20 (by kernel_rfl)).trans s20
      refine step_yes rfl ?_
      exact ok_value Lat.refl (.int .i64 (j : Int)) (by simp [execOp, Act.eval, e20, go_sem]) (TV.mk rfl)
    · obtain rfl := Option.some.inj hi
      clear hi hlt
      intro a w1 hL hS hD
      have e20 : a.tmps.getD 20 undef = .int .i64 (j : Int) := (hS.slot 20 (by kernel_rfl)).trans s20
      refine step_yes rfl ?_
      exact ok_value Lat.refl (.int .i64 (j : Int)) (by simp [execOp, Act.eval, e20, go_sem]) (TV.mk rfl)
    · obtain rfl := Option.some.inj hi
      clear hi hlt
      intro a w1 hL hS hD
      have e10 : a.tmps.getD 10 undef = .pointer (some ⟨lb, 0, none⟩) := (hS.slot 10 (by kernel_rfl)).trans s10
      have d1 : a.tmps.getD 180 undef = .int .i64 (j : Int) := hD ⟨1, .data⟩ (by simp) rfl _ rfl _ rfl
      refine step_yes rfl ?_
      exact ok_value Lat.refl (.pointer (some ⟨lb, j * 2, none⟩)) (by simp [execOp, Act.eval, e10, d1, hj, hjj, go_sem]) (TV.mk rfl)
    · obtain rfl := Option.some.inj hi
      clear hi hlt
      intro a w1 hL hS hD
      have d2 : a.tmps.getD 181 undef = .pointer (some ⟨lb, j * 2, none⟩) := hD ⟨2, .data⟩ (by simp) rfl _ rfl _ rfl
      refine step_yes rfl ?_
      exact ok_value Lat.refl (.pointer (some ⟨lb, j * 2, none⟩)) (by simp [execOp, Act.eval, d2, go_sem]) (TV.mk rfl)
    · obtain rfl := Option.some.inj hi
      clear hi hlt
      intro a w1 hL hS hD
      have d3 : a.tmps.getD 182 undef = .pointer (some ⟨lb, j * 2, none⟩) := hD ⟨3, .data⟩ (by simp) rfl _ rfl _ rfl
      refine step_yes rfl ?_
      exact ok_value Lat.refl (.string sy) (by simp [execOp, Act.eval, d3, he0 w1 hL, go_sem]) (TV.mk rfl)
    · obtain rfl := Option.some.inj hi
      clear hi hlt
      intro a w1 hL hS hD
      have e20 : a.tmps.getD 20 undef = .int .i64 (j : Int) := (hS.slot 20 (by kernel_rfl)).trans s20
      refine step_yes rfl ?_
      exact ok_value Lat.refl (.int .i64 (j : Int)) (by simp [execOp, Act.eval, e20, go_sem]) (TV.mk rfl)
    · obtain rfl := Option.some.inj hi
      clear hi hlt
      intro a w1 hL hS hD
      have e10 : a.tmps.getD 10 undef = .pointer (some ⟨lb, 0, none⟩) := (hS.slot 10 (by kernel_rfl)).trans s10
      have d5 : a.tmps.getD 184 undef = .int .i64 (j : Int) := hD ⟨5, .data⟩ (by simp) rfl _ rfl _ rfl
      refine step_yes rfl ?_
      exact ok_value Lat.refl (.pointer (some ⟨lb, j * 2, none⟩)) (by simp [execOp, Act.eval, e10, d5, hj, hjj, go_sem]) (TV.mk rfl)
    · obtain rfl := Option.some.inj hi
      clear hi hlt
      intro a w1 hL hS hD
      have d6 : a.tmps.getD 185 undef = .pointer (some ⟨lb, j * 2, none⟩) := hD ⟨6, .data⟩ (by simp) rfl _ rfl _ rfl
      refine step_yes rfl ?_
      exact ok_value Lat.refl (.pointer (some ⟨lb, j * 2, none⟩)) (by simp [execOp, Act.eval, d6, go_sem]) (TV.mk rfl)
    · obtain rfl := Option.some.inj hi
      clear hi hlt
      intro a w1 hL hS hD
      have d7 : a.tmps.getD 186 undef = .pointer (some ⟨lb, j * 2, none⟩) := hD ⟨7, .data⟩ (by simp) rfl _ rfl _ rfl
      refine step_yes rfl ?_
      exact ok_value Lat.refl (.string sy) (by simp [execOp, Act.eval, d7, he0 w1 hL, go_sem]) (TV.mk rfl)
    · obtain rfl := Option.some.inj hi
      clear hi hlt
      intro a w1 hL hS hD
      have d8 : a.tmps.getD 187 undef = .string sy := hD ⟨8, .data⟩ (by simp) rfl _ rfl _ rfl
      refine step_yes rfl ?_
      exact ok_value Lat.refl (.int .i64 (my : Int)) (by simp [execOp, Act.eval, d8, hss, go_sem]) (TV.mk rfl)
    · obtain rfl := Option.some.inj hi
      clear hi hlt
      intro a w1 hL hS hD
      have e20 : a.tmps.getD 20 undef = .int .i64 (j : Int) := (hS.slot 20 (by kernel_rfl)).trans s20
      refine step_yes rfl ?_
      exact ok_value Lat.refl (.int .i64 (j : Int)) (by simp [execOp, Act.eval, e20, go_sem]) (TV.mk rfl)
    · obtain rfl := Option.some.inj hi
      clear hi hlt
      intro a w1 hL hS hD
      have e10 : a.tmps.getD 10 undef = .pointer (some ⟨lb, 0, none⟩) := (hS.slot 10 (by kernel_rfl)).trans s10
      have d10 : a.tmps.getD 189 undef = .int .i64 (j : Int) := hD ⟨10, .data⟩ (by simp) rfl _ rfl _ rfl
      refine step_yes rfl ?_
      exact ok_value Lat.refl (.pointer (some ⟨lb, j * 2, none⟩)) (by simp [execOp, Act.eval, e10, d10, hj, hjj, go_sem]) (TV.mk rfl)
    · obtain rfl := Option.some.inj hi
      clear hi hlt
      intro a w1 hL hS hD
      have d11 : a.tmps.getD 190 undef = .pointer (some ⟨lb, j * 2, none⟩) := hD ⟨11, .data⟩ (by simp) rfl _ rfl _ rfl
      refine step_yes rfl ?_
      exact ok_value Lat.refl (.pointer (some ⟨lb, j * 2 + 1, none⟩)) (by simp [execOp, Act.eval, d11, go_sem]) (TV.mk rfl)
    · obtain rfl := Option.some.inj hi
      clear hi hlt
      intro a w1 hL hS hD
      have d12 : a.tmps.getD 191 undef = .pointer (some ⟨lb, j * 2 + 1, none⟩) := hD ⟨12, .data⟩ (by simp) rfl _ rfl _ rfl
      refine step_yes rfl ?_
      exact ok_value Lat.refl (.int .i64 (yn : Int)) (by simp [execOp, Act.eval, d12, he1 w1 hL, go_sem]) (TV.mk rfl)
    · obtain rfl := Option.some.inj hi
      clear hi hlt
      intro a w1 hL hS hD
      have e21 : a.tmps.getD 21 undef = .int .i64 (st : Int) := (hS.slot 21 (by kernel_rfl)).trans s21
      refine step_yes rfl ?_
      exact ok_value Lat.refl (.int .i64 (st : Int)) (by simp [execOp, Act.eval, e21, go_sem]) (TV.mk rfl)
    · obtain rfl := Option.some.inj hi
      clear hi hlt
      intro a w1 hL hS hD
      have d13 : a.tmps.getD 192 undef = .int .i64 (yn : Int) := hD ⟨13, .data⟩ (by simp) rfl _ rfl _ rfl
      have d14 : a.tmps.getD 193 undef = .int .i64 (st : Int) := hD ⟨14, .data⟩ (by simp) rfl _ rfl _ rfl
      refine step_yes rfl ?_
      exact ok_value Lat.refl (.int .i64 (z : Int)) (by simp [execOp, Act.eval, d13, d14, hz, hw64, go_sem]) (TV.mk rfl)
    · obtain rfl := Option.some.inj hi
      clear hi hlt
      intro a w1 hL hS hD
      have d9 : a.tmps.getD 188 undef = .int .i64 (my : Int) := hD ⟨9, .data⟩ (by simp) rfl _ rfl _ rfl
      have d15 : a.tmps.getD 194 undef = .int .i64 (z : Int) := hD ⟨15, .data⟩ (by simp) rfl _ rfl _ rfl
      refine step_yes rfl ?_
      exact ok_value Lat.refl (.int .i64 (tq : Int)) (by simp [execOp, Act.eval, d9, d15, hmin, hmin2, go_sem]) (TV.mk rfl)
    · obtain rfl := Option.some.inj hi
      clear hi hlt
      intro a w1 hL hS hD
      have d4 : a.tmps.getD 183 undef = .string sy := hD ⟨4, .data⟩ (by simp) rfl _ rfl _ rfl
      have d16 : a.tmps.getD 195 undef = .int .i64 (tq : Int) := hD ⟨16, .data⟩ (by simp) rfl _ rfl _ rfl
      refine step_yes rfl ?_
      exact ok_value Lat.refl (.string sy2) (by simp [execOp, Act.eval, d4, d16, hsl w1, go_sem]) (TV.mk rfl)
    · obtain rfl := Option.some.inj hi
      clear hi hlt
      intro a w1 hL hS hD
      have e10 : a.tmps.getD 10 undef = .pointer (some ⟨lb, 0, none⟩) := (hS.slot 10 (by kernel_rfl)).trans s10
      have d0 : a.tmps.getD 179 undef = .int .i64 (j : Int) := hD ⟨0, .data⟩ (by simp) rfl _ rfl _ rfl
      refine step_yes rfl ?_
      exact ok_value Lat.refl (.pointer (some ⟨lb, j * 2, none⟩)) (by simp [execOp, Act.eval, e10, d0, hj, hjj, go_sem]) (TV.mk rfl)
    · obtain rfl := Option.some.inj hi
      clear hi hlt
      intro a w1 hL hS hD
      have d18 : a.tmps.getD 197 undef = .pointer (some ⟨lb, j * 2, none⟩) := hD ⟨18, .data⟩ (by simp) rfl _ rfl _ rfl
      refine step_yes rfl ?_
      exact ok_value Lat.refl (.pointer (some ⟨lb, j * 2, none⟩)) (by simp [execOp, Act.eval, d18, go_sem]) (TV.mk rfl)

end Go.Proofs.Ytgmcfejmhlglkaa
