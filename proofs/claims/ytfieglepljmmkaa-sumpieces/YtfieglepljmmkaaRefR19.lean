import Derived.Test.YtfieglepljmmkaaAnyT
import Derived.Test.YtfieglepljmmkaaRefR18
namespace Go.Proofs.Ytfieglepljmmkaa
open Go.RowKit
set_option linter.unusedVariables false

theorem ok_build {P : Program} {Q : Exit → Act → World → Prop} {Later : World → World → Prop} {T : Nat → Value → World → Prop} {i : Nat} {o : Oper} {a : Act} {w : World} (hrf : ∀ a, Later a a) (t : TypeId) (parts : Array (Nat × Operand)) (ho : o.op = .build t parts) (vals : List (Nat × Value)) (cells : Array Value)
    (hv : (parts.map fun (i, x) => (i, a.eval x)).toList = vals) (hc : P.built t vals = some cells) (hT : T i (.agg cells) w) : o.wp P a w (fun a' w' => ∃ v, a' = a.put o.dst v ∧ Later w w' ∧ T i v w') Q := by
  have hr := run_build (P := P) w t (parts.map fun (i, x) => (i, a.eval x)) cells (by rw [hv]; exact hc)
  refine ok_value hrf (.agg cells) ?_ hT
  simp only [execOp, ho, Sem.run_bind, hr, Result.andThen_ok, Sem.run_pure]

set_option maxRecDepth 100000 in
set_option maxHeartbeats 2000000 in
theorem block_r19 (gs : Nat) (t u xa xb xc xd xe xf xg : BitVec 32) (TL : List Value) (w : World) (a0 : Act) (Q : Exit → Act → World → Prop) (hsz : a0.tmps.size = 201)
    (s11 : a0.tmps.getD 11 undef = .pointer (some ⟨gs, 0, none⟩))
    (s13 : a0.tmps.getD 13 undef = .int .u32 (N t))
    (s14 : a0.tmps.getD 14 undef = .int .u32 (N u))
    (h0 : ∀ w1, Lat w w1 → w1.cell? ⟨gs, 0, none⟩ = some (.int .u32 (N xa)))
    (h1 : ∀ w1, Lat w w1 → w1.cell? ⟨gs, 1, none⟩ = some (.int .u32 (N xb)))
    (h2 : ∀ w1, Lat w w1 → w1.cell? ⟨gs, 2, none⟩ = some (.int .u32 (N xc)))
    (h3 : ∀ w1, Lat w w1 → w1.cell? ⟨gs, 3, none⟩ = some (.int .u32 (N xd)))
    (h4 : ∀ w1, Lat w w1 → w1.cell? ⟨gs, 4, none⟩ = some (.int .u32 (N xe)))
    (h5 : ∀ w1, Lat w w1 → w1.cell? ⟨gs, 5, none⟩ = some (.int .u32 (N xf)))
    (h6 : ∀ w1, Lat w w1 → w1.cell? ⟨gs, 6, none⟩ = some (.int .u32 (N xg)))
    (hTB : Try.prog.built 47 [(0, .int .u32 (N (t + u))), (1, .int .u32 (N xa)), (2, .int .u32 (N xb)), (3, .int .u32 (N xc)), (4, .int .u32 (N (xd + t))), (5, .int .u32 (N xe)), (6, .int .u32 (N xf)), (7, .int .u32 (N xg))] = some TL.toArray)
    (hth : ∀ w1, Lat w w1 → w1.there gs 0 TL.length)
    (hDi : (Try.prog.info? 47).map (·.size) = some TL.length)
    (hone : ∀ v ∈ TL, v.oneCell' = true)
    (hQ : ∀ (v167 v168 v169 v170 v171 v172 v173 v174 v175 v176 v177 v178 v179 v180 v181 v182 v183 v184 v185 v186 : Value) (w1 : World), Lat w w1 → Q .normal ((((((((((((((((((((a0.put (some 167) v167).put (some 168) v168).put (some 169) v169).put (some 170) v170).put (some 171) v171).put (some 172) v172).put (some 173) v173).put (some 174) v174).put (some 175) v175).put (some 176) v176).put (some 177) v177).put (some 178) v178).put (some 179) v179).put (some 180) v180).put (some 181) v181).put (some 182) v182).put (some 183) v183).put (some 184) v184).put (some 185) v185).put (some 186) v186) (w1.setCells gs 0 TL)) :
    Code.wp Try.prog ((Try.f26.body.bind (findRegion 19)).getD .skip) Q a0 w := by
  conv => arg 2; whnf
  refine wp_region_text 20 Lat (TV [.int .u32 (N t), .int .u32 (N u), .int .u32 (N (t + u)), .pointer (some ⟨gs, 0, none⟩), .int .u32 (N xa), .pointer (some ⟨gs, 1, none⟩), .int .u32 (N xb), .pointer (some ⟨gs, 2, none⟩), .int .u32 (N xc), .pointer (some ⟨gs, 3, none⟩), .int .u32 (N xd), .int .u32 (N t), .int .u32 (N (xd + t)), .pointer (some ⟨gs, 4, none⟩), .int .u32 (N xe), .pointer (some ⟨gs, 5, none⟩), .int .u32 (N xf), .pointer (some ⟨gs, 6, none⟩), .int .u32 (N xg), .agg TL.toArray]) (by kernel_rfl) (by kernel_rfl) (by rw [hsz]; kernel_rfl) (by kernel_rfl) (by kernel_rfl) Lat.refl Lat.trans (TV.stable _) ?hop ?hlast
  case hlast =>
    intro o a w1 ho hL hS hT
    obtain rfl := Option.some.inj ho
    have he := same_puts hS
    have hQ2 := hQ (a.tmps.getD 167 undef) (a.tmps.getD 168 undef) (a.tmps.getD 169 undef) (a.tmps.getD 170 undef) (a.tmps.getD 171 undef) (a.tmps.getD 172 undef) (a.tmps.getD 173 undef) (a.tmps.getD 174 undef) (a.tmps.getD 175 undef) (a.tmps.getD 176 undef) (a.tmps.getD 177 undef) (a.tmps.getD 178 undef) (a.tmps.getD 179 undef) (a.tmps.getD 180 undef) (a.tmps.getD 181 undef) (a.tmps.getD 182 undef) (a.tmps.getD 183 undef) (a.tmps.getD 184 undef) (a.tmps.getD 185 undef) (a.tmps.getD 186 undef) w1 hL
    have e11 : a.tmps.getD 11 undef = .pointer (some ⟨gs, 0, none⟩) := (hS.slot 11 (by kernel_rfl)).trans s11
    have d19 : a.tmps.getD 186 undef = .agg TL.toArray := hT 19 _ (by omega) rfl _ rfl
    refine wp_store_mid 47 (.tmp 11) (.tmp 186) rfl gs 0 TL.toArray e11 d19 (by simpa using hth w1 hL) (by simpa using hDi) (all_oneCell_toArray hone) ?_
    show Q .normal a (w1.setCells gs 0 TL)
    rw [he]
    exact hQ2
  case hop =>
    intro i o hlt hi
    rcases (show i = 0 ∨ i = 1 ∨ i = 2 ∨ i = 3 ∨ i = 4 ∨ i = 5 ∨ i = 6 ∨ i = 7 ∨ i = 8 ∨ i = 9 ∨ i = 10 ∨ i = 11 ∨ i = 12 ∨ i = 13 ∨ i = 14 ∨ i = 15 ∨ i = 16 ∨ i = 17 ∨ i = 18 ∨ i = 19 by omega) with rfl | rfl | rfl | rfl | rfl | rfl | rfl | rfl | rfl | rfl | rfl | rfl | rfl | rfl | rfl | rfl | rfl | rfl | rfl | rfl
    · obtain rfl := Option.some.inj hi
      clear hi hlt
      intro a w1 hL hS hD
      have e13 : a.tmps.getD 13 undef = .int .u32 (N t) := (hS.slot 13 (by kernel_rfl)).trans s13
      refine step_yes rfl ?_
      exact ok_value Lat.refl (.int .u32 (N t)) (by simp [execOp, Act.eval, e13, go_sem]) (TV.mk rfl)
    · obtain rfl := Option.some.inj hi
      clear hi hlt
      intro a w1 hL hS hD
      have e14 : a.tmps.getD 14 undef = .int .u32 (N u) := (hS.slot 14 (by kernel_rfl)).trans s14
      refine step_yes rfl ?_
      exact ok_value Lat.refl (.int .u32 (N u)) (by simp [execOp, Act.eval, e14, go_sem]) (TV.mk rfl)
    · obtain rfl := Option.some.inj hi
      clear hi hlt
      intro a w1 hL hS hD
      have d0 : a.tmps.getD 167 undef = .int .u32 (N t) := hD ⟨0, .data⟩ (by simp) rfl _ rfl _ rfl
      have d1 : a.tmps.getD 168 undef = .int .u32 (N u) := hD ⟨1, .data⟩ (by simp) rfl _ rfl _ rfl
      refine step_yes rfl ?_
      exact ok_value Lat.refl (.int .u32 (N (t + u))) (by simp [execOp, Act.eval, d0, d1, N_add, go_sem]) (TV.mk rfl)
    · obtain rfl := Option.some.inj hi
      clear hi hlt
      intro a w1 hL hS hD
      have e11 : a.tmps.getD 11 undef = .pointer (some ⟨gs, 0, none⟩) := (hS.slot 11 (by kernel_rfl)).trans s11
      refine step_yes rfl ?_
      exact ok_value Lat.refl (.pointer (some ⟨gs, 0, none⟩)) (by simp [execOp, Act.eval, e11, go_sem]) (TV.mk rfl)
    · obtain rfl := Option.some.inj hi
      clear hi hlt
      intro a w1 hL hS hD
      have d3 : a.tmps.getD 170 undef = .pointer (some ⟨gs, 0, none⟩) := hD ⟨3, .data⟩ (by simp) rfl _ rfl _ rfl
      refine step_yes rfl ?_
      exact ok_value Lat.refl (.int .u32 (N xa)) (by simp [execOp, Act.eval, d3, h0 w1 hL, go_sem]) (TV.mk rfl)
    · obtain rfl := Option.some.inj hi
      clear hi hlt
      intro a w1 hL hS hD
      have e11 : a.tmps.getD 11 undef = .pointer (some ⟨gs, 0, none⟩) := (hS.slot 11 (by kernel_rfl)).trans s11
      refine step_yes rfl ?_
      exact ok_value Lat.refl (.pointer (some ⟨gs, 1, none⟩)) (by simp [execOp, Act.eval, e11, go_sem]) (TV.mk rfl)
    · obtain rfl := Option.some.inj hi
      clear hi hlt
      intro a w1 hL hS hD
      have d5 : a.tmps.getD 172 undef = .pointer (some ⟨gs, 1, none⟩) := hD ⟨5, .data⟩ (by simp) rfl _ rfl _ rfl
      refine step_yes rfl ?_
      exact ok_value Lat.refl (.int .u32 (N xb)) (by simp [execOp, Act.eval, d5, h1 w1 hL, go_sem]) (TV.mk rfl)
    · obtain rfl := Option.some.inj hi
      clear hi hlt
      intro a w1 hL hS hD
      have e11 : a.tmps.getD 11 undef = .pointer (some ⟨gs, 0, none⟩) := (hS.slot 11 (by kernel_rfl)).trans s11
      refine step_yes rfl ?_
      exact ok_value Lat.refl (.pointer (some ⟨gs, 2, none⟩)) (by simp [execOp, Act.eval, e11, go_sem]) (TV.mk rfl)
    · obtain rfl := Option.some.inj hi
      clear hi hlt
      intro a w1 hL hS hD
      have d7 : a.tmps.getD 174 undef = .pointer (some ⟨gs, 2, none⟩) := hD ⟨7, .data⟩ (by simp) rfl _ rfl _ rfl
      refine step_yes rfl ?_
      exact ok_value Lat.refl (.int .u32 (N xc)) (by simp [execOp, Act.eval, d7, h2 w1 hL, go_sem]) (TV.mk rfl)
    · obtain rfl := Option.some.inj hi
      clear hi hlt
      intro a w1 hL hS hD
      have e11 : a.tmps.getD 11 undef = .pointer (some ⟨gs, 0, none⟩) := (hS.slot 11 (by kernel_rfl)).trans s11
      refine step_yes rfl ?_
      exact ok_value Lat.refl (.pointer (some ⟨gs, 3, none⟩)) (by simp [execOp, Act.eval, e11, go_sem]) (TV.mk rfl)
    · obtain rfl := Option.some.inj hi
      clear hi hlt
      intro a w1 hL hS hD
      have d9 : a.tmps.getD 176 undef = .pointer (some ⟨gs, 3, none⟩) := hD ⟨9, .data⟩ (by simp) rfl _ rfl _ rfl
      refine step_yes rfl ?_
      exact ok_value Lat.refl (.int .u32 (N xd)) (by simp [execOp, Act.eval, d9, h3 w1 hL, go_sem]) (TV.mk rfl)
    · obtain rfl := Option.some.inj hi
      clear hi hlt
      intro a w1 hL hS hD
      have e13 : a.tmps.getD 13 undef = .int .u32 (N t) := (hS.slot 13 (by kernel_rfl)).trans s13
      refine step_yes rfl ?_
      exact ok_value Lat.refl (.int .u32 (N t)) (by simp [execOp, Act.eval, e13, go_sem]) (TV.mk rfl)
    · obtain rfl := Option.some.inj hi
      clear hi hlt
      intro a w1 hL hS hD
      have d10 : a.tmps.getD 177 undef = .int .u32 (N xd) := hD ⟨10, .data⟩ (by simp) rfl _ rfl _ rfl
      have d11 : a.tmps.getD 178 undef = .int .u32 (N t) := hD ⟨11, .data⟩ (by simp) rfl _ rfl _ rfl
      refine step_yes rfl ?_
      exact ok_value Lat.refl (.int .u32 (N (xd + t))) (by simp [execOp, Act.eval, d10, d11, N_add, go_sem]) (TV.mk rfl)
    · obtain rfl := Option.some.inj hi
      clear hi hlt
      intro a w1 hL hS hD
      have e11 : a.tmps.getD 11 undef = .pointer (some ⟨gs, 0, none⟩) := (hS.slot 11 (by kernel_rfl)).trans s11
      refine step_yes rfl ?_
      exact ok_value Lat.refl (.pointer (some ⟨gs, 4, none⟩)) (by simp [execOp, Act.eval, e11, go_sem]) (TV.mk rfl)
    · obtain rfl := Option.some.inj hi
      clear hi hlt
      intro a w1 hL hS hD
      have d13 : a.tmps.getD 180 undef = .pointer (some ⟨gs, 4, none⟩) := hD ⟨13, .data⟩ (by simp) rfl _ rfl _ rfl
      refine step_yes rfl ?_
      exact ok_value Lat.refl (.int .u32 (N xe)) (by simp [execOp, Act.eval, d13, h4 w1 hL, go_sem]) (TV.mk rfl)
    · obtain rfl := Option.some.inj hi
      clear hi hlt
      intro a w1 hL hS hD
      have e11 : a.tmps.getD 11 undef = .pointer (some ⟨gs, 0, none⟩) := (hS.slot 11 (by kernel_rfl)).trans s11
      refine step_yes rfl ?_
      exact ok_value Lat.refl (.pointer (some ⟨gs, 5, none⟩)) (by simp [execOp, Act.eval, e11, go_sem]) (TV.mk rfl)
    · obtain rfl := Option.some.inj hi
      clear hi hlt
      intro a w1 hL hS hD
      have d15 : a.tmps.getD 182 undef = .pointer (some ⟨gs, 5, none⟩) := hD ⟨15, .data⟩ (by simp) rfl _ rfl _ rfl
      refine step_yes rfl ?_
      exact ok_value Lat.refl (.int .u32 (N xf)) (by simp [execOp, Act.eval, d15, h5 w1 hL, go_sem]) (TV.mk rfl)
    · obtain rfl := Option.some.inj hi
      clear hi hlt
      intro a w1 hL hS hD
      have e11 : a.tmps.getD 11 undef = .pointer (some ⟨gs, 0, none⟩) := (hS.slot 11 (by kernel_rfl)).trans s11
      refine step_yes rfl ?_
      exact ok_value Lat.refl (.pointer (some ⟨gs, 6, none⟩)) (by simp [execOp, Act.eval, e11, go_sem]) (TV.mk rfl)
    · obtain rfl := Option.some.inj hi
      clear hi hlt
      intro a w1 hL hS hD
      have d17 : a.tmps.getD 184 undef = .pointer (some ⟨gs, 6, none⟩) := hD ⟨17, .data⟩ (by simp) rfl _ rfl _ rfl
      refine step_yes rfl ?_
      exact ok_value Lat.refl (.int .u32 (N xg)) (by simp [execOp, Act.eval, d17, h6 w1 hL, go_sem]) (TV.mk rfl)
    · obtain rfl := Option.some.inj hi
      clear hi hlt
      intro a w1 hL hS hD
      have d2 : a.tmps.getD 169 undef = .int .u32 (N (t + u)) := hD ⟨2, .data⟩ (by simp) rfl _ rfl _ rfl
      have d4 : a.tmps.getD 171 undef = .int .u32 (N xa) := hD ⟨4, .data⟩ (by simp) rfl _ rfl _ rfl
      have d6 : a.tmps.getD 173 undef = .int .u32 (N xb) := hD ⟨6, .data⟩ (by simp) rfl _ rfl _ rfl
      have d8 : a.tmps.getD 175 undef = .int .u32 (N xc) := hD ⟨8, .data⟩ (by simp) rfl _ rfl _ rfl
      have d12 : a.tmps.getD 179 undef = .int .u32 (N (xd + t)) := hD ⟨12, .data⟩ (by simp) rfl _ rfl _ rfl
      have d14 : a.tmps.getD 181 undef = .int .u32 (N xe) := hD ⟨14, .data⟩ (by simp) rfl _ rfl _ rfl
      have d16 : a.tmps.getD 183 undef = .int .u32 (N xf) := hD ⟨16, .data⟩ (by simp) rfl _ rfl _ rfl
      have d18 : a.tmps.getD 185 undef = .int .u32 (N xg) := hD ⟨18, .data⟩ (by simp) rfl _ rfl _ rfl
      refine step_yes rfl ?_
      have hv : ((#[(0, Operand.tmp 169), (1, Operand.tmp 171), (2, Operand.tmp 173), (3, Operand.tmp 175), (4, Operand.tmp 179), (5, Operand.tmp 181), (6, Operand.tmp 183), (7, Operand.tmp 185)] : Array (Nat × Operand)).map fun (i, x) => (i, a.eval x)).toList = [(0, .int .u32 (N (t + u))), (1, .int .u32 (N xa)), (2, .int .u32 (N xb)), (3, .int .u32 (N xc)), (4, .int .u32 (N (xd + t))), (5, .int .u32 (N xe)), (6, .int .u32 (N xf)), (7, .int .u32 (N xg))] := by
        simp only [Array.getD_eq_getD_getElem?] at d2 d4 d6 d8 d12 d14 d16 d18
        simp [Act.eval]
        exact ⟨d2, d4, d6, d8, d12, d14, d16, d18⟩
      exact ok_build Lat.refl 47 #[(0, Operand.tmp 169), (1, Operand.tmp 171), (2, Operand.tmp 173), (3, Operand.tmp 175), (4, Operand.tmp 179), (5, Operand.tmp 181), (6, Operand.tmp 183), (7, Operand.tmp 185)] rfl [(0, .int .u32 (N (t + u))), (1, .int .u32 (N xa)), (2, .int .u32 (N xb)), (3, .int .u32 (N xc)), (4, .int .u32 (N (xd + t))), (5, .int .u32 (N xe)), (6, .int .u32 (N xf)), (7, .int .u32 (N xg))] TL.toArray hv hTB (TV.mk rfl)

end Go.Proofs.Ytfieglepljmmkaa
