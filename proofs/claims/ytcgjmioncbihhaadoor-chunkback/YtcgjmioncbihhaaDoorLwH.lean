/-
  ChunkBack: a region that draws its order.
-/
import Derived.Test.YtcgjmioncbihhaaDoorLwD
import Derived.Test.YtcgjmioncbihhaaDoorAnyB
import Derived.Test.YtcgjmioncbihhaaDoorAnyM
namespace Go.Proofs.YtcgjmioncbihhaaDoor
open Go.RowKit
set_option linter.unusedVariables false
set_option linter.unusedSimpArgs false

set_option maxRecDepth 100000 in
set_option maxHeartbeats 2000000 in
theorem back_r34 (d j g n c9 S0 : Nat) (w : World) (a0 : Act) (Q : Exit → Act → World → Prop) (hsz : a0.tmps.size = 232)
    (s15 : a0.tmps.getD 15 undef = .pointer (some ⟨d, 0, none⟩))
    (s16 : a0.tmps.getD 16 undef = .int .i64 (j : Int))
    (s9 : a0.tmps.getD 9 undef = .slice (some ⟨g, 0, none⟩) (n + 1) c9)
    (hj1 : (j : Int) < (n : Int) + 1)
    (hj2 : ¬ (j : Int) < 0)
    (hc : ∀ w1, Lat w w1 → w1.cell? ⟨g, j, none⟩ = some (.int .i64 (S0 : Int)))
    (hle : ∀ wx, Lat w wx → Calls Tryd.prog 10 #[.pointer (some ⟨d, 0, none⟩)] wx fun e w' => e = .returned (.int .i64 (j : Int)) ∧ Lat wx w')
    (hby : ∀ wx, Lat w wx → Calls Tryd.prog 18 #[.pointer (some ⟨d, 0, none⟩)] wx fun e w' => ∃ ad c', e = .returned (.slice ad S0 c') ∧ Lat wx w')
    (hQ : ∀ (v171 v172 v173 v174 v175 v176 v177 v178 v179 v180 v181 v182 v183 v184 : Value) (w1 : World), Lat w w1 → v184 = .bool false → Q .normal ((((((((((((((a0.put (some 171) v171).put (some 172) v172).put (some 173) v173).put (some 174) v174).put (some 175) v175).put (some 176) v176).put (some 177) v177).put (some 178) v178).put (some 179) v179).put (some 180) v180).put (some 181) v181).put (some 182) v182).put (some 183) v183).put (some 184) v184) w1) :
    Code.wp Tryd.prog ((Tryd.f5.body.bind (findRegion 34)).getD .skip) Q a0 w := by
  conv => arg 2; whnf
  refine wp_region_inv Lat (TE [Ent.val (.pointer (some ⟨d, 0, none⟩)), Ent.val (.int .i64 (j : Int)), Ent.val (.int .i64 (j : Int)), Ent.val (.bool false), Ent.val (.bool false), Ent.val (.pointer (some ⟨d, 0, none⟩)), EntS S0, Ent.val (.int .i64 (S0 : Int)), Ent.val (.slice (some ⟨g, 0, none⟩) (n + 1) c9), Ent.val (.int .i64 (j : Int)), Ent.val (.pointer (some ⟨g, j, none⟩)), Ent.val (.int .i64 (S0 : Int)), Ent.val (.bool false), Ent.val (.bool false)]) (by kernel_rfl) (by kernel_rfl) (by kernel_rfl) (by rw [hsz]; kernel_rfl) (by kernel_rfl) Lat.refl Lat.trans (TE_stable _) (Lat.draw w) ?hop ?hdone
  case hdone =>
    intro a w1 hL hS hT
    have he := same_puts hS
    rw [he]
    exact hQ (a.tmps.getD 171 undef) (a.tmps.getD 172 undef) (a.tmps.getD 173 undef) (a.tmps.getD 174 undef) (a.tmps.getD 175 undef) (a.tmps.getD 176 undef) (a.tmps.getD 177 undef) (a.tmps.getD 178 undef) (a.tmps.getD 179 undef) (a.tmps.getD 180 undef) (a.tmps.getD 181 undef) (a.tmps.getD 182 undef) (a.tmps.getD 183 undef) (a.tmps.getD 184 undef) w1 hL (hT 13 _ rfl)
  case hop =>
    intro i o hi
    have hlt : i < 14 := (Array.getElem?_eq_some_iff.1 hi).1
    rcases (show i = 0 ∨ i = 1 ∨ i = 2 ∨ i = 3 ∨ i = 4 ∨ i = 5 ∨ i = 6 ∨ i = 7 ∨ i = 8 ∨ i = 9 ∨ i = 10 ∨ i = 11 ∨ i = 12 ∨ i = 13 by omega) with rfl | rfl | rfl | rfl | rfl | rfl | rfl | rfl | rfl | rfl | rfl | rfl | rfl | rfl
    · obtain rfl := Option.some.inj hi
      clear hi hlt
      intro a w1 hL hS hD
      have e15 : a.tmps.getD 15 undef = .pointer (some ⟨d, 0, none⟩) := (hS.slot 15 (by kernel_rfl)).trans s15
      refine step_yes rfl ?_
      exact ok_value Lat.refl (.pointer (some ⟨d, 0, none⟩)) (by simp [execOp, Act.eval, e15, go_sem]) rfl
    · obtain rfl := Option.some.inj hi
      clear hi hlt
      intro a w1 hL hS hD
      have d0 : a.tmps.getD 171 undef = .pointer (some ⟨d, 0, none⟩) := hD ⟨0, .data⟩ (by simp) rfl _ rfl
      refine step_yes rfl ?_
      refine ok_call (f := 10) (args := #[.pointer (some ⟨d, 0, none⟩)]) (by simp [execOp, resolve, Act.eval, d0, go_sem]) ?_
      refine (hle w1 hL).mono ?_
      rintro e w2 ⟨rfl, b5⟩
      exact ⟨_, rfl, b5, rfl⟩
    · obtain rfl := Option.some.inj hi
      clear hi hlt
      intro a w1 hL hS hD
      have e16 : a.tmps.getD 16 undef = .int .i64 (j : Int) := (hS.slot 16 (by kernel_rfl)).trans s16
      refine step_yes rfl ?_
      exact ok_value Lat.refl (.int .i64 (j : Int)) (by simp [execOp, Act.eval, e16, go_sem]) rfl
    · obtain rfl := Option.some.inj hi
      clear hi hlt
      intro a w1 hL hS hD
      have d1 : a.tmps.getD 172 undef = .int .i64 (j : Int) := hD ⟨1, .data⟩ (by simp) rfl _ rfl
      have d2 : a.tmps.getD 173 undef = .int .i64 (j : Int) := hD ⟨2, .data⟩ (by simp) rfl _ rfl
      refine step_yes rfl ?_
      exact ok_value Lat.refl (.bool false) (by simp [execOp, Act.eval, d1, d2, go_sem]) rfl
    · obtain rfl := Option.some.inj hi
      clear hi hlt
      intro a w1 hL hS hD
      have d3 : a.tmps.getD 174 undef = .bool false := hD ⟨3, .data⟩ (by simp) rfl _ rfl
      refine step_yes rfl ?_
      exact ok_value Lat.refl (.bool false) (by simp [execOp, Act.eval, d3, go_sem]) rfl
    · obtain rfl := Option.some.inj hi
      clear hi hlt
      intro a w1 hL hS hD
      have e15 : a.tmps.getD 15 undef = .pointer (some ⟨d, 0, none⟩) := (hS.slot 15 (by kernel_rfl)).trans s15
      have d4 : a.tmps.getD 175 undef = .bool false := hD ⟨4, .guard⟩ (by simp) rfl _ rfl
      refine step_yes (wanted_yes rfl rfl rfl d4) ?_
      exact ok_value Lat.refl (.pointer (some ⟨d, 0, none⟩)) (by simp [execOp, Act.eval, e15, go_sem]) rfl
    · obtain rfl := Option.some.inj hi
      clear hi hlt
      intro a w1 hL hS hD
      have d4 : a.tmps.getD 175 undef = .bool false := hD ⟨4, .guard⟩ (by simp) rfl _ rfl
      have d5 : a.tmps.getD 176 undef = .pointer (some ⟨d, 0, none⟩) := hD ⟨5, .data⟩ (by simp) rfl _ rfl
      refine step_yes (wanted_yes rfl rfl rfl d4) ?_
      refine ok_call (f := 18) (args := #[.pointer (some ⟨d, 0, none⟩)]) (by simp [execOp, resolve, Act.eval, d5, go_sem]) ?_
      refine (hby w1 hL).mono ?_
      rintro e w2 ⟨ad5, c5, rfl, b5⟩
      exact ⟨_, rfl, b5, ad5, c5, rfl⟩
    · obtain rfl := Option.some.inj hi
      clear hi hlt
      intro a w1 hL hS hD
      have d4 : a.tmps.getD 175 undef = .bool false := hD ⟨4, .guard⟩ (by simp) rfl _ rfl
      have d6 := hD ⟨6, .data⟩ (by simp) rfl _ rfl
      refine step_yes (wanted_yes rfl rfl rfl d4) ?_
      obtain ⟨ad5, c5, h5⟩ := d6
      have h7 : a.tmps.getD 177 undef = .slice ad5 S0 c5 := h5
      have h6 : a.tmps[177]?.getD undef = .slice ad5 S0 c5 := by simpa using h7
      exact ok_value Lat.refl (.int .i64 (S0 : Int)) (by simp [execOp, resolve, invoke, builtin, Act.eval, h6, go_sem]) rfl
    · obtain rfl := Option.some.inj hi
      clear hi hlt
      intro a w1 hL hS hD
      have e9 : a.tmps.getD 9 undef = .slice (some ⟨g, 0, none⟩) (n + 1) c9 := (hS.slot 9 (by kernel_rfl)).trans s9
      have d4 : a.tmps.getD 175 undef = .bool false := hD ⟨4, .guard⟩ (by simp) rfl _ rfl
      refine step_yes (wanted_yes rfl rfl rfl d4) ?_
      exact ok_value Lat.refl (.slice (some ⟨g, 0, none⟩) (n + 1) c9) (by simp [execOp, Act.eval, e9, go_sem]) rfl
    · obtain rfl := Option.some.inj hi
      clear hi hlt
      intro a w1 hL hS hD
      have e16 : a.tmps.getD 16 undef = .int .i64 (j : Int) := (hS.slot 16 (by kernel_rfl)).trans s16
      have d4 : a.tmps.getD 175 undef = .bool false := hD ⟨4, .guard⟩ (by simp) rfl _ rfl
      refine step_yes (wanted_yes rfl rfl rfl d4) ?_
      exact ok_value Lat.refl (.int .i64 (j : Int)) (by simp [execOp, Act.eval, e16, go_sem]) rfl
    · obtain rfl := Option.some.inj hi
      clear hi hlt
      intro a w1 hL hS hD
      have d4 : a.tmps.getD 175 undef = .bool false := hD ⟨4, .guard⟩ (by simp) rfl _ rfl
      have d8 : a.tmps.getD 179 undef = .slice (some ⟨g, 0, none⟩) (n + 1) c9 := hD ⟨8, .data⟩ (by simp) rfl _ rfl
      have d9 : a.tmps.getD 180 undef = .int .i64 (j : Int) := hD ⟨9, .data⟩ (by simp) rfl _ rfl
      refine step_yes (wanted_yes rfl rfl rfl d4) ?_
      exact ok_value Lat.refl (.pointer (some ⟨g, j, none⟩)) (by simp [execOp, Act.eval, d8, d9, hj1, hj2, go_sem]) rfl
    · obtain rfl := Option.some.inj hi
      clear hi hlt
      intro a w1 hL hS hD
      have d4 : a.tmps.getD 175 undef = .bool false := hD ⟨4, .guard⟩ (by simp) rfl _ rfl
      have d10 : a.tmps.getD 181 undef = .pointer (some ⟨g, j, none⟩) := hD ⟨10, .data⟩ (by simp) rfl _ rfl
      refine step_yes (wanted_yes rfl rfl rfl d4) ?_
      exact ok_value Lat.refl (.int .i64 (S0 : Int)) (by simp [execOp, Act.eval, d10, hc w1 hL, go_sem]) rfl
    · obtain rfl := Option.some.inj hi
      clear hi hlt
      intro a w1 hL hS hD
      have d4 : a.tmps.getD 175 undef = .bool false := hD ⟨4, .guard⟩ (by simp) rfl _ rfl
      have d7 : a.tmps.getD 178 undef = .int .i64 (S0 : Int) := hD ⟨7, .data⟩ (by simp) rfl _ rfl
      have d11 : a.tmps.getD 182 undef = .int .i64 (S0 : Int) := hD ⟨11, .data⟩ (by simp) rfl _ rfl
      refine step_yes (wanted_yes rfl rfl rfl d4) ?_
      exact ok_value Lat.refl (.bool false) (by simp [execOp, Act.eval, d7, d11, go_sem]) rfl
    · obtain rfl := Option.some.inj hi
      clear hi hlt
      intro a w1 hL hS hD
      have d4 : a.tmps.getD 175 undef = .bool false := hD ⟨4, .data⟩ (by simp) rfl _ rfl
      have d12 : a.tmps.getD 183 undef = .bool false := hD ⟨12, .data⟩ (by simp) rfl _ rfl
      refine step_yes rfl ?_
      exact ok_value Lat.refl (.bool false) (by simp [execOp, Act.eval, d4, d12, go_sem]) rfl

end Go.Proofs.YtcgjmioncbihhaaDoor
