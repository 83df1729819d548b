/-
  DiskPlays: regions that draw their order.
-/
import Derived.Test.YtgmcfejmhlglkaaPrD
namespace Go.Proofs.Ytgmcfejmhlglkaa
open Go.RowKit
set_option linter.unusedVariables false
set_option linter.unusedSimpArgs false

set_option maxRecDepth 100000 in
set_option maxHeartbeats 2000000 in
theorem plays_r30 (gl pp rb N rc j k sp : Nat) (w : World) (a0 : Act) (Q : Exit → Act → World → Prop) (hsz : a0.tmps.size = 191)
    (s15 : a0.tmps.getD 15 undef = .slice (some ⟨gl, 0, none⟩) 2 2)
    (s16 : a0.tmps.getD 16 undef = .int .i64 (j : Int))
    (s17 : a0.tmps.getD 17 undef = .int .i64 (k : Int))
    (hj : (j : Int) < 2)
    (hjN : j < 2)
    (hp : ∀ w1, Lat w w1 → w1.cell? ⟨gl, j, none⟩ = some (.pointer (some ⟨pp, 0, none⟩)))
    (hr : ∀ w1, Lat w w1 → w1.cell? ⟨pp, 2, none⟩ = some (.slice (some ⟨rb, 0, none⟩) N rc))
    (hk : (k : Int) < (N : Int))
    (hkN : k < N)
    (hs : ∀ w1, Lat w w1 → w1.cell? ⟨rb, k, none⟩ = some (.pointer (some ⟨sp, 0, none⟩)))
    (u : Value) (hcell : ∀ w1, Lat w w1 → w1.cell? ⟨pp, 0, none⟩ = some u) (hfrz : ∀ w1, Lat w w1 → w1.frozen? ⟨pp, 0, none⟩ = false)
    (hQ : ∀ (v147 v148 v149 v150 v151 v152 v153 v154 v155 v156 v157 v158 v159 v160 v161 v162 : Value) (w1 : World), Lat w w1 → Q .normal ((((((((((((((((a0.put (some 147) v147).put (some 148) v148).put (some 149) v149).put (some 150) v150).put (some 151) v151).put (some 152) v152).put (some 153) v153).put (some 154) v154).put (some 155) v155).put (some 156) v156).put (some 157) v157).put (some 158) v158).put (some 159) v159).put (some 160) v160).put (some 161) v161).put (some 162) v162) (w1.setCell ⟨pp, 0, none⟩ (.pointer (some ⟨sp, 0, none⟩)))) :
    Code.wp Try.prog ((Try.f3.body.bind (findRegion 30)).getD .skip) Q a0 w := by
  conv => arg 2; whnf
  refine wp_region_last 16 Lat (TV [.slice (some ⟨gl, 0, none⟩) 2 2, .int .i64 (j : Int), .pointer (some ⟨gl, j, none⟩), .pointer (some ⟨pp, 0, none⟩), .slice (some ⟨gl, 0, none⟩) 2 2, .int .i64 (j : Int), .pointer (some ⟨gl, j, none⟩), .pointer (some ⟨pp, 0, none⟩), .pointer (some ⟨pp, 0, none⟩), .pointer (some ⟨pp, 2, none⟩), .slice (some ⟨rb, 0, none⟩) N rc, .int .i64 (k : Int), .pointer (some ⟨rb, k, none⟩), .pointer (some ⟨sp, 0, none⟩), .pointer (some ⟨pp, 0, none⟩), .pointer (some ⟨pp, 0, none⟩)]) (by kernel_rfl) (by kernel_rfl) (by kernel_rfl) (by rw [hsz]; kernel_rfl) (by kernel_rfl) (by kernel_rfl) Lat.refl Lat.trans (TV.stable _) (Lat.draw w) ?hop ?hlast
  case hlast =>
    intro o a w1 ho hL hS hT
    obtain rfl := Option.some.inj ho
    have he := same_puts hS
    have hQ2 := hQ (a.tmps.getD 147 undef) (a.tmps.getD 148 undef) (a.tmps.getD 149 undef) (a.tmps.getD 150 undef) (a.tmps.getD 151 undef) (a.tmps.getD 152 undef) (a.tmps.getD 153 undef) (a.tmps.getD 154 undef) (a.tmps.getD 155 undef) (a.tmps.getD 156 undef) (a.tmps.getD 157 undef) (a.tmps.getD 158 undef) (a.tmps.getD 159 undef) (a.tmps.getD 160 undef) (a.tmps.getD 161 undef) (a.tmps.getD 162 undef) w1 hL
    have dA : a.tmps.getD 162 undef = .pointer (some ⟨pp, 0, none⟩) := hT 15 _ (by omega) rfl _ rfl
    have dV : a.tmps.getD 160 undef = .pointer (some ⟨sp, 0, none⟩) := hT 13 _ (by omega) rfl _ rfl
    have hc1 := hcell w1 hL
    have hf1 := hfrz w1 hL
    unfold Oper.wp
    simp [execOp, Act.eval, dA, dV, hc1, hf1, Result.andThen, go_sem]
    show Q .normal a _
    rw [he]
    exact hQ2
  case hop =>
    intro i o hlt hi
    rcases (show i = 0 ∨ i = 1 ∨ i = 2 ∨ i = 3 ∨ i = 4 ∨ i = 5 ∨ i = 6 ∨ i = 7 ∨ i = 8 ∨ i = 9 ∨ i = 10 ∨ i = 11 ∨ i = 12 ∨ i = 13 ∨ i = 14 ∨ i = 15 by omega) with rfl | rfl | rfl | rfl | rfl | rfl | rfl | rfl | rfl | rfl | rfl | rfl | rfl | rfl | rfl | rfl
    · obtain rfl := Option.some.inj hi
      clear hi hlt
      intro a w1 hL hS hD
      have e15 : a.tmps.getD 15 undef = .slice (some ⟨gl, 0, none⟩) 2 2 := (hS.slot 15 (by kernel_rfl)).trans s15
      refine step_yes rfl ?_
      exact ok_value Lat.refl (.slice (some ⟨gl, 0, none⟩) 2 2) (by simp [execOp, Act.eval, e15, go_sem]) (TV.mk rfl)
    · obtain rfl := Option.some.inj hi
      clear hi hlt
      intro a w1 hL hS hD
      have e16 : a.tmps.getD 16 undef = .int .i64 (j : Int) := (hS.slot 16 (by kernel_rfl)).trans s16
      refine step_yes rfl ?_
      exact ok_value Lat.refl (.int .i64 (j : Int)) (by simp [execOp, Act.eval, e16, go_sem]) (TV.mk rfl)
    · obtain rfl := Option.some.inj hi
      clear hi hlt
      intro a w1 hL hS hD
      have d0 : a.tmps.getD 147 undef = .slice (some ⟨gl, 0, none⟩) 2 2 := hD ⟨0, .data⟩ (by simp) rfl _ rfl _ rfl
      have d1 : a.tmps.getD 148 undef = .int .i64 (j : Int) := hD ⟨1, .data⟩ (by simp) rfl _ rfl _ rfl
      refine step_yes rfl ?_
      exact ok_value Lat.refl (.pointer (some ⟨gl, j, none⟩)) (by simp [execOp, Act.eval, d0, d1, hj, hjN, go_sem]) (TV.mk rfl)
    · obtain rfl := Option.some.inj hi
      clear hi hlt
      intro a w1 hL hS hD
      have d2 : a.tmps.getD 149 undef = .pointer (some ⟨gl, j, none⟩) := hD ⟨2, .data⟩ (by simp) rfl _ rfl _ rfl
      refine step_yes rfl ?_
      exact ok_value Lat.refl (.pointer (some ⟨pp, 0, none⟩)) (by simp [execOp, Act.eval, d2, hp w1 hL, go_sem]) (TV.mk rfl)
    · obtain rfl := Option.some.inj hi
      clear hi hlt
      intro a w1 hL hS hD
      have e15 : a.tmps.getD 15 undef = .slice (some ⟨gl, 0, none⟩) 2 2 := (hS.slot 15 (by kernel_rfl)).trans s15
      refine step_yes rfl ?_
      exact ok_value Lat.refl (.slice (some ⟨gl, 0, none⟩) 2 2) (by simp [execOp, Act.eval, e15, go_sem]) (TV.mk rfl)
    · obtain rfl := Option.some.inj hi
      clear hi hlt
      intro a w1 hL hS hD
      have e16 : a.tmps.getD 16 undef = .int .i64 (j : Int) := (hS.slot 16 (by kernel_rfl)).trans s16
      refine step_yes rfl ?_
      exact ok_value Lat.refl (.int .i64 (j : Int)) (by simp [execOp, Act.eval, e16, go_sem]) (TV.mk rfl)
    · obtain rfl := Option.some.inj hi
      clear hi hlt
      intro a w1 hL hS hD
      have d4 : a.tmps.getD 151 undef = .slice (some ⟨gl, 0, none⟩) 2 2 := hD ⟨4, .data⟩ (by simp) rfl _ rfl _ rfl
      have d5 : a.tmps.getD 152 undef = .int .i64 (j : Int) := hD ⟨5, .data⟩ (by simp) rfl _ rfl _ rfl
      refine step_yes rfl ?_
      exact ok_value Lat.refl (.pointer (some ⟨gl, j, none⟩)) (by simp [execOp, Act.eval, d4, d5, hj, hjN, go_sem]) (TV.mk rfl)
    · obtain rfl := Option.some.inj hi
      clear hi hlt
      intro a w1 hL hS hD
      have d6 : a.tmps.getD 153 undef = .pointer (some ⟨gl, j, none⟩) := hD ⟨6, .data⟩ (by simp) rfl _ rfl _ rfl
      refine step_yes rfl ?_
      exact ok_value Lat.refl (.pointer (some ⟨pp, 0, none⟩)) (by simp [execOp, Act.eval, d6, hp w1 hL, go_sem]) (TV.mk rfl)
    · obtain rfl := Option.some.inj hi
      clear hi hlt
      intro a w1 hL hS hD
      have d7 : a.tmps.getD 154 undef = .pointer (some ⟨pp, 0, none⟩) := hD ⟨7, .data⟩ (by simp) rfl _ rfl _ rfl
      refine step_yes rfl ?_
      exact ok_value Lat.refl (.pointer (some ⟨pp, 0, none⟩)) (by simp [execOp, Act.eval, d7, go_sem]) (TV.mk rfl)
    · obtain rfl := Option.some.inj hi
      clear hi hlt
      intro a w1 hL hS hD
      have d8 : a.tmps.getD 155 undef = .pointer (some ⟨pp, 0, none⟩) := hD ⟨8, .data⟩ (by simp) rfl _ rfl _ rfl
      refine step_yes rfl ?_
      exact ok_value Lat.refl (.pointer (some ⟨pp, 2, none⟩)) (by simp [execOp, Act.eval, d8, go_sem]) (TV.mk rfl)
    · obtain rfl := Option.some.inj hi
      clear hi hlt
      intro a w1 hL hS hD
      have d9 : a.tmps.getD 156 undef = .pointer (some ⟨pp, 2, none⟩) := hD ⟨9, .data⟩ (by simp) rfl _ rfl _ rfl
      refine step_yes rfl ?_
      exact ok_value Lat.refl (.slice (some ⟨rb, 0, none⟩) N rc) (by simp [execOp, Act.eval, d9, hr w1 hL, go_sem]) (TV.mk rfl)
    · obtain rfl := Option.some.inj hi
      clear hi hlt
      intro a w1 hL hS hD
      have e17 : a.tmps.getD 17 undef = .int .i64 (k : Int) := (hS.slot 17 (by kernel_rfl)).trans s17
      refine step_yes rfl ?_
      exact ok_value Lat.refl (.int .i64 (k : Int)) (by simp [execOp, Act.eval, e17, go_sem]) (TV.mk rfl)
    · obtain rfl := Option.some.inj hi
      clear hi hlt
      intro a w1 hL hS hD
      have d10 : a.tmps.getD 157 undef = .slice (some ⟨rb, 0, none⟩) N rc := hD ⟨10, .data⟩ (by simp) rfl _ rfl _ rfl
      have d11 : a.tmps.getD 158 undef = .int .i64 (k : Int) := hD ⟨11, .data⟩ (by simp) rfl _ rfl _ rfl
      refine step_yes rfl ?_
      exact ok_value Lat.refl (.pointer (some ⟨rb, k, none⟩)) (by simp [execOp, Act.eval, d10, d11, hk, hkN, go_sem]) (TV.mk rfl)
    · obtain rfl := Option.some.inj hi
      clear hi hlt
      intro a w1 hL hS hD
      have d12 : a.tmps.getD 159 undef = .pointer (some ⟨rb, k, none⟩) := hD ⟨12, .data⟩ (by simp) rfl _ rfl _ rfl
      refine step_yes rfl ?_
      exact ok_value Lat.refl (.pointer (some ⟨sp, 0, none⟩)) (by simp [execOp, Act.eval, d12, hs w1 hL, go_sem]) (TV.mk rfl)
    · obtain rfl := Option.some.inj hi
      clear hi hlt
      intro a w1 hL hS hD
      have d3 : a.tmps.getD 150 undef = .pointer (some ⟨pp, 0, none⟩) := hD ⟨3, .data⟩ (by simp) rfl _ rfl _ rfl
      refine step_yes rfl ?_
      exact ok_value Lat.refl (.pointer (some ⟨pp, 0, none⟩)) (by simp [execOp, Act.eval, d3, go_sem]) (TV.mk rfl)
    · obtain rfl := Option.some.inj hi
      clear hi hlt
      intro a w1 hL hS hD
      have d14 : a.tmps.getD 161 undef = .pointer (some ⟨pp, 0, none⟩) := hD ⟨14, .data⟩ (by simp) rfl _ rfl _ rfl
      refine step_yes rfl ?_
      exact ok_value Lat.refl (.pointer (some ⟨pp, 0, none⟩)) (by simp [execOp, Act.eval, d14, go_sem]) (TV.mk rfl)

set_option maxRecDepth 100000 in
set_option maxHeartbeats 2000000 in
theorem plays_r31 (gl pp rb N rc j k sp : Nat) (w : World) (a0 : Act) (Q : Exit → Act → World → Prop) (hsz : a0.tmps.size = 191)
    (s15 : a0.tmps.getD 15 undef = .slice (some ⟨gl, 0, none⟩) 2 2)
    (s16 : a0.tmps.getD 16 undef = .int .i64 (j : Int))
    (s17 : a0.tmps.getD 17 undef = .int .i64 (k : Int))
    (hj : (j : Int) < 2)
    (hjN : j < 2)
    (hp : ∀ w1, Lat w w1 → w1.cell? ⟨gl, j, none⟩ = some (.pointer (some ⟨pp, 0, none⟩)))
    (hr : ∀ w1, Lat w w1 → w1.cell? ⟨pp, 3, none⟩ = some (.slice (some ⟨rb, 0, none⟩) N rc))
    (hk : (k : Int) < (N : Int))
    (hkN : k < N)
    (hs : ∀ w1, Lat w w1 → w1.cell? ⟨rb, k, none⟩ = some (.pointer (some ⟨sp, 0, none⟩)))
    (u : Value) (hcell : ∀ w1, Lat w w1 → w1.cell? ⟨pp, 1, none⟩ = some u) (hfrz : ∀ w1, Lat w w1 → w1.frozen? ⟨pp, 1, none⟩ = false)
    (hQ : ∀ (v163 v164 v165 v166 v167 v168 v169 v170 v171 v172 v173 v174 v175 v176 v177 v178 : Value) (w1 : World), Lat w w1 → Q .normal ((((((((((((((((a0.put (some 163) v163).put (some 164) v164).put (some 165) v165).put (some 166) v166).put (some 167) v167).put (some 168) v168).put (some 169) v169).put (some 170) v170).put (some 171) v171).put (some 172) v172).put (some 173) v173).put (some 174) v174).put (some 175) v175).put (some 176) v176).put (some 177) v177).put (some 178) v178) (w1.setCell ⟨pp, 1, none⟩ (.pointer (some ⟨sp, 0, none⟩)))) :
    Code.wp Try.prog ((Try.f3.body.bind (findRegion 31)).getD .skip) Q a0 w := by
  conv => arg 2; whnf
  refine wp_region_last 16 Lat (TV [.slice (some ⟨gl, 0, none⟩) 2 2, .int .i64 (j : Int), .pointer (some ⟨gl, j, none⟩), .pointer (some ⟨pp, 0, none⟩), .slice (some ⟨gl, 0, none⟩) 2 2, .int .i64 (j : Int), .pointer (some ⟨gl, j, none⟩), .pointer (some ⟨pp, 0, none⟩), .pointer (some ⟨pp, 0, none⟩), .pointer (some ⟨pp, 3, none⟩), .slice (some ⟨rb, 0, none⟩) N rc, .int .i64 (k : Int), .pointer (some ⟨rb, k, none⟩), .pointer (some ⟨sp, 0, none⟩), .pointer (some ⟨pp, 0, none⟩), .pointer (some ⟨pp, 1, none⟩)]) (by kernel_rfl) (by kernel_rfl) (by kernel_rfl) (by rw [hsz]; kernel_rfl) (by kernel_rfl) (by kernel_rfl) Lat.refl Lat.trans (TV.stable _) (Lat.draw w) ?hop ?hlast
  case hlast =>
    intro o a w1 ho hL hS hT
    obtain rfl := Option.some.inj ho
    have he := same_puts hS
    have hQ2 := hQ (a.tmps.getD 163 undef) (a.tmps.getD 164 undef) (a.tmps.getD 165 undef) (a.tmps.getD 166 undef) (a.tmps.getD 167 undef) (a.tmps.getD 168 undef) (a.tmps.getD 169 undef) (a.tmps.getD 170 undef) (a.tmps.getD 171 undef) (a.tmps.getD 172 undef) (a.tmps.getD 173 undef) (a.tmps.getD 174 undef) (a.tmps.getD 175 undef) (a.tmps.getD 176 undef) (a.tmps.getD 177 undef) (a.tmps.getD 178 undef) w1 hL
    have dA : a.tmps.getD 178 undef = .pointer (some ⟨pp, 1, none⟩) := hT 15 _ (by omega) rfl _ rfl
    have dV : a.tmps.getD 176 undef = .pointer (some ⟨sp, 0, none⟩) := hT 13 _ (by omega) rfl _ rfl
    have hc1 := hcell w1 hL
    have hf1 := hfrz w1 hL
    unfold Oper.wp
    simp [execOp, Act.eval, dA, dV, hc1, hf1, Result.andThen, go_sem]
    show Q .normal a _
    rw [he]
    exact hQ2
  case hop =>
    intro i o hlt hi
    rcases (show i = 0 ∨ i = 1 ∨ i = 2 ∨ i = 3 ∨ i = 4 ∨ i = 5 ∨ i = 6 ∨ i = 7 ∨ i = 8 ∨ i = 9 ∨ i = 10 ∨ i = 11 ∨ i = 12 ∨ i = 13 ∨ i = 14 ∨ i = 15 by omega) with rfl | rfl | rfl | rfl | rfl | rfl | rfl | rfl | rfl | rfl | rfl | rfl | rfl | rfl | rfl | rfl
    · obtain rfl := Option.some.inj hi
      clear hi hlt
      intro a w1 hL hS hD
      have e15 : a.tmps.getD 15 undef = .slice (some ⟨gl, 0, none⟩) 2 2 := (hS.slot 15 (by kernel_rfl)).trans s15
      refine step_yes rfl ?_
      exact ok_value Lat.refl (.slice (some ⟨gl, 0, none⟩) 2 2) (by simp [execOp, Act.eval, e15, go_sem]) (TV.mk rfl)
    · obtain rfl := Option.some.inj hi
      clear hi hlt
      intro a w1 hL hS hD
      have e16 : a.tmps.getD 16 undef = .int .i64 (j : Int) := (hS.slot 16 (by kernel_rfl)).trans s16
      refine step_yes rfl ?_
      exact ok_value Lat.refl (.int .i64 (j : Int)) (by simp [execOp, Act.eval, e16, go_sem]) (TV.mk rfl)
    · obtain rfl := Option.some.inj hi
      clear hi hlt
      intro a w1 hL hS hD
      have d0 : a.tmps.getD 163 undef = .slice (some ⟨gl, 0, none⟩) 2 2 := hD ⟨0, .data⟩ (by simp) rfl _ rfl _ rfl
      have d1 : a.tmps.getD 164 undef = .int .i64 (j : Int) := hD ⟨1, .data⟩ (by simp) rfl _ rfl _ rfl
      refine step_yes rfl ?_
      exact ok_value Lat.refl (.pointer (some ⟨gl, j, none⟩)) (by simp [execOp, Act.eval, d0, d1, hj, hjN, go_sem]) (TV.mk rfl)
    · obtain rfl := Option.some.inj hi
      clear hi hlt
      intro a w1 hL hS hD
      have d2 : a.tmps.getD 165 undef = .pointer (some ⟨gl, j, none⟩) := hD ⟨2, .data⟩ (by simp) rfl _ rfl _ rfl
      refine step_yes rfl ?_
      exact ok_value Lat.refl (.pointer (some ⟨pp, 0, none⟩)) (by simp [execOp, Act.eval, d2, hp w1 hL, go_sem]) (TV.mk rfl)
    · obtain rfl := Option.some.inj hi
      clear hi hlt
      intro a w1 hL hS hD
      have e15 : a.tmps.getD 15 undef = .slice (some ⟨gl, 0, none⟩) 2 2 := (hS.slot 15 (by kernel_rfl)).trans s15
      refine step_yes rfl ?_
      exact ok_value Lat.refl (.slice (some ⟨gl, 0, none⟩) 2 2) (by simp [execOp, Act.eval, e15, go_sem]) (TV.mk rfl)
    · obtain rfl := Option.some.inj hi
      clear hi hlt
      intro a w1 hL hS hD
      have e16 : a.tmps.getD 16 undef = .int .i64 (j : Int) := (hS.slot 16 (by kernel_rfl)).trans s16
      refine step_yes rfl ?_
      exact ok_value Lat.refl (.int .i64 (j : Int)) (by simp [execOp, Act.eval, e16, go_sem]) (TV.mk rfl)
    · obtain rfl := Option.some.inj hi
      clear hi hlt
      intro a w1 hL hS hD
      have d4 : a.tmps.getD 167 undef = .slice (some ⟨gl, 0, none⟩) 2 2 := hD ⟨4, .data⟩ (by simp) rfl _ rfl _ rfl
      have d5 : a.tmps.getD 168 undef = .int .i64 (j : Int) := hD ⟨5, .data⟩ (by simp) rfl _ rfl _ rfl
      refine step_yes rfl ?_
      exact ok_value Lat.refl (.pointer (some ⟨gl, j, none⟩)) (by simp [execOp, Act.eval, d4, d5, hj, hjN, go_sem]) (TV.mk rfl)
    · obtain rfl := Option.some.inj hi
      clear hi hlt
      intro a w1 hL hS hD
      have d6 : a.tmps.getD 169 undef = .pointer (some ⟨gl, j, none⟩) := hD ⟨6, .data⟩ (by simp) rfl _ rfl _ rfl
      refine step_yes rfl ?_
      exact ok_value Lat.refl (.pointer (some ⟨pp, 0, none⟩)) (by simp [execOp, Act.eval, d6, hp w1 hL, go_sem]) (TV.mk rfl)
    · obtain rfl := Option.some.inj hi
      clear hi hlt
      intro a w1 hL hS hD
      have d7 : a.tmps.getD 170 undef = .pointer (some ⟨pp, 0, none⟩) := hD ⟨7, .data⟩ (by simp) rfl _ rfl _ rfl
      refine step_yes rfl ?_
      exact ok_value Lat.refl (.pointer (some ⟨pp, 0, none⟩)) (by simp [execOp, Act.eval, d7, go_sem]) (TV.mk rfl)
    · obtain rfl := Option.some.inj hi
      clear hi hlt
      intro a w1 hL hS hD
      have d8 : a.tmps.getD 171 undef = .pointer (some ⟨pp, 0, none⟩) := hD ⟨8, .data⟩ (by simp) rfl _ rfl _ rfl
      refine step_yes rfl ?_
      exact ok_value Lat.refl (.pointer (some ⟨pp, 3, none⟩)) (by simp [execOp, Act.eval, d8, go_sem]) (TV.mk rfl)
    · obtain rfl := Option.some.inj hi
      clear hi hlt
      intro a w1 hL hS hD
      have d9 : a.tmps.getD 172 undef = .pointer (some ⟨pp, 3, none⟩) := hD ⟨9, .data⟩ (by simp) rfl _ rfl _ rfl
      refine step_yes rfl ?_
      exact ok_value Lat.refl (.slice (some ⟨rb, 0, none⟩) N rc) (by simp [execOp, Act.eval, d9, hr w1 hL, go_sem]) (TV.mk rfl)
    · obtain rfl := Option.some.inj hi
      clear hi hlt
      intro a w1 hL hS hD
      have e17 : a.tmps.getD 17 undef = .int .i64 (k : Int) := (hS.slot 17 (by kernel_rfl)).trans s17
      refine step_yes rfl ?_
      exact ok_value Lat.refl (.int .i64 (k : Int)) (by simp [execOp, Act.eval, e17, go_sem]) (TV.mk rfl)
    · obtain rfl := Option.some.inj hi
      clear hi hlt
      intro a w1 hL hS hD
      have d10 : a.tmps.getD 173 undef = .slice (some ⟨rb, 0, none⟩) N rc := hD ⟨10, .data⟩ (by simp) rfl _ rfl _ rfl
      have d11 : a.tmps.getD 174 undef = .int .i64 (k : Int) := hD ⟨11, .data⟩ (by simp) rfl _ rfl _ rfl
      refine step_yes rfl ?_
      exact ok_value Lat.refl (.pointer (some ⟨rb, k, none⟩)) (by simp [execOp, Act.eval, d10, d11, hk, hkN, go_sem]) (TV.mk rfl)
    · obtain rfl := Option.some.inj hi
      clear hi hlt
      intro a w1 hL hS hD
      have d12 : a.tmps.getD 175 undef = .pointer (some ⟨rb, k, none⟩) := hD ⟨12, .data⟩ (by simp) rfl _ rfl _ rfl
      refine step_yes rfl ?_
      exact ok_value Lat.refl (.pointer (some ⟨sp, 0, none⟩)) (by simp [execOp, Act.eval, d12, hs w1 hL, go_sem]) (TV.mk rfl)
    · obtain rfl := Option.some.inj hi
      clear hi hlt
      intro a w1 hL hS hD
      have d3 : a.tmps.getD 166 undef = .pointer (some ⟨pp, 0, none⟩) := hD ⟨3, .data⟩ (by simp) rfl _ rfl _ rfl
      refine step_yes rfl ?_
      exact ok_value Lat.refl (.pointer (some ⟨pp, 0, none⟩)) (by simp [execOp, Act.eval, d3, go_sem]) (TV.mk rfl)
    · obtain rfl := Option.some.inj hi
      clear hi hlt
      intro a w1 hL hS hD
      have d14 : a.tmps.getD 177 undef = .pointer (some ⟨pp, 0, none⟩) := hD ⟨14, .data⟩ (by simp) rfl _ rfl _ rfl
      refine step_yes rfl ?_
      exact ok_value Lat.refl (.pointer (some ⟨pp, 1, none⟩)) (by simp [execOp, Act.eval, d14, go_sem]) (TV.mk rfl)

end Go.Proofs.Ytgmcfejmhlglkaa
