import Derived.Test.YtalmpmhnkilalaaGreatDoorRqD
import Derived.Test.YtalmpmhnkilalaaGreatDoorAny
import Derived.Test.YtalmpmhnkilalaaGreatDoorBlk
import Derived.Test.YtalmpmhnkilalaaGreatDoorAnyB
/-
  Package wire: responseParts: a region of 37 operations that draws its order. By genrqf19.py.
-/
namespace Go.Proofs.YtalmpmhnkilalaaGreatDoor
open Go Go.RowKit
set_option linter.unusedVariables false
set_option linter.unusedSimpArgs false

theorem wp_valP {P : Program} {Q : Exit → Act → World → Prop} {K : Act → World → Prop} {o : Oper} {a : Act} {w w' : World} (v : Value) (h : (execOp a.eval o).run P w = .ok (.value v) w') (hk : K (a.put o.dst v) w') : o.wp P a w K Q := by
  unfold Oper.wp
  rw [h]
  exact hk
theorem Act.size_put (a : Act) (d : Tmp) (v : Value) : (a.put (some d) v).tmps.size = a.tmps.size := by simp [Act.put]
theorem built139 (z : Bool) (f g : FuncId) (x : Value) : Tryz.prog.built 139 [(0, .bool z), (1, .func (.func f) #[] #[x]), (2, .func (.func g) #[] #[x])] = some #[.bool z, .func (.func f) #[] #[x], .func (.func g) #[] #[x]] := by kernel_rfl

def cells75 (q bx : Nat) (n1 n2 : Nat) (m3 : Int) (n4 : Nat) : List Value := [.bool ((n1 : Int) == 0), .func (.func 130) #[] #[.pointer (some ⟨bx, 0, none⟩)], .func (.func 132) #[] #[.pointer (some ⟨bx, 0, none⟩)], .bool ((n2 : Int) == 0), .func (.func 134) #[] #[.pointer (some ⟨bx, 0, none⟩)], .func (.func 136) #[] #[.pointer (some ⟨bx, 0, none⟩)], .bool (m3 == 0), .func (.func 138) #[] #[.pointer (some ⟨bx, 0, none⟩)], .func (.func 140) #[] #[.pointer (some ⟨bx, 0, none⟩)], .bool ((n4 : Int) == 0), .func (.func 142) #[] #[.pointer (some ⟨bx, 0, none⟩)], .func (.func 144) #[] #[.pointer (some ⟨bx, 0, none⟩)]]
set_option maxRecDepth 100000 in
theorem buildS75 (q bx : Nat) (n1 n2 : Nat) (m3 : Int) (n4 : Nat) (w1 : World) : (Instr.buildSlice 111 4 #[(0, .agg #[.bool ((n1 : Int) == 0), .func (.func 130) #[] #[.pointer (some ⟨bx, 0, none⟩)], .func (.func 132) #[] #[.pointer (some ⟨bx, 0, none⟩)]]), (1, .agg #[.bool ((n2 : Int) == 0), .func (.func 134) #[] #[.pointer (some ⟨bx, 0, none⟩)], .func (.func 136) #[] #[.pointer (some ⟨bx, 0, none⟩)]]), (2, .agg #[.bool (m3 == 0), .func (.func 138) #[] #[.pointer (some ⟨bx, 0, none⟩)], .func (.func 140) #[] #[.pointer (some ⟨bx, 0, none⟩)]]), (3, .agg #[.bool ((n4 : Int) == 0), .func (.func 142) #[] #[.pointer (some ⟨bx, 0, none⟩)], .func (.func 144) #[] #[.pointer (some ⟨bx, 0, none⟩)]])]).run Tryz.prog w1 = .ok (.slice (some ⟨w1.heap.size, 0, none⟩) 4 4) (w1.alloc (.cells (cells75 q bx n1 n2 m3 n4).toArray 139)) := by
  simp [go_sem, cells75]
set_option maxRecDepth 100000 in
set_option maxHeartbeats 8000000 in
theorem parts75_r1 (q bx : Nat) (a1 : Option Addr) (n1 c1 : Nat) (a2 : Option Addr) (n2 c2 : Nat) (m3 : Int) (a4 : Option Addr) (n4 c4 : Nat) (w : World) (a0 : Act) (Q : Exit → Act → World → Prop) (hsz : a0.tmps.size = 39) (s1 : a0.tmps.getD 1 undef = .pointer (some ⟨bx, 0, none⟩))
    (hbx : ∀ w1, Lat w w1 → w1.cell? ⟨bx, 0, none⟩ = some (.pointer (some ⟨q, 0, none⟩)))
    (hc2 : ∀ w1, Lat w w1 → w1.cell? ⟨q, 2, none⟩ = some (.slice a1 n1 c1))
    (hc3 : ∀ w1, Lat w w1 → w1.cell? ⟨q, 3, none⟩ = some (.slice a2 n2 c2))
    (hc4 : ∀ w1, Lat w w1 → w1.cell? ⟨q, 4, none⟩ = some (.int .i64 m3))
    (hc5 : ∀ w1, Lat w w1 → w1.cell? ⟨q, 5, none⟩ = some (.slice a4 n4 c4))
    (hQ : ∀ (a : Act) (w1 : World) (g : Nat), a.tmps.size = 39 → a.defers = a0.defers → a.tmps.getD 2 undef = .slice (some ⟨g, 0, none⟩) 4 4 → w.heap.size ≤ g → Blk w1 g 139 (cells75 q bx n1 n2 m3 n4) → Lat w w1 → Q .normal a w1) :
    Code.wp Tryz.prog ((Tryz.f75.body.bind (findRegion 1)).getD .skip) Q a0 w := by
  conv => arg 2; whnf
  refine wp_region_last 36 Lat (TE [Ent.val (.pointer (some ⟨q, 0, none⟩)), Ent.val (.pointer (some ⟨q, 0, none⟩)), Ent.val (.pointer (some ⟨q, 2, none⟩)), Ent.val (.slice a1 n1 c1), Ent.val (.int .i64 (n1 : Int)), Ent.val (.bool ((n1 : Int) == 0)), Ent.val (.func (.func 130) #[] #[.pointer (some ⟨bx, 0, none⟩)]), Ent.val (.func (.func 132) #[] #[.pointer (some ⟨bx, 0, none⟩)]), Ent.val (.agg #[.bool ((n1 : Int) == 0), .func (.func 130) #[] #[.pointer (some ⟨bx, 0, none⟩)], .func (.func 132) #[] #[.pointer (some ⟨bx, 0, none⟩)]]), Ent.val (.pointer (some ⟨q, 0, none⟩)), Ent.val (.pointer (some ⟨q, 0, none⟩)), Ent.val (.pointer (some ⟨q, 3, none⟩)), Ent.val (.slice a2 n2 c2), Ent.val (.int .i64 (n2 : Int)), Ent.val (.bool ((n2 : Int) == 0)), Ent.val (.func (.func 134) #[] #[.pointer (some ⟨bx, 0, none⟩)]), Ent.val (.func (.func 136) #[] #[.pointer (some ⟨bx, 0, none⟩)]), Ent.val (.agg #[.bool ((n2 : Int) == 0), .func (.func 134) #[] #[.pointer (some ⟨bx, 0, none⟩)], .func (.func 136) #[] #[.pointer (some ⟨bx, 0, none⟩)]]), Ent.val (.pointer (some ⟨q, 0, none⟩)), Ent.val (.pointer (some ⟨q, 0, none⟩)), Ent.val (.pointer (some ⟨q, 4, none⟩)), Ent.val (.int .i64 m3), Ent.val (.bool (m3 == 0)), Ent.val (.func (.func 138) #[] #[.pointer (some ⟨bx, 0, none⟩)]), Ent.val (.func (.func 140) #[] #[.pointer (some ⟨bx, 0, none⟩)]), Ent.val (.agg #[.bool (m3 == 0), .func (.func 138) #[] #[.pointer (some ⟨bx, 0, none⟩)], .func (.func 140) #[] #[.pointer (some ⟨bx, 0, none⟩)]]), Ent.val (.pointer (some ⟨q, 0, none⟩)), Ent.val (.pointer (some ⟨q, 0, none⟩)), Ent.val (.pointer (some ⟨q, 5, none⟩)), Ent.val (.slice a4 n4 c4), Ent.val (.int .i64 (n4 : Int)), Ent.val (.bool ((n4 : Int) == 0)), Ent.val (.func (.func 142) #[] #[.pointer (some ⟨bx, 0, none⟩)]), Ent.val (.func (.func 144) #[] #[.pointer (some ⟨bx, 0, none⟩)]), Ent.val (.agg #[.bool ((n4 : Int) == 0), .func (.func 142) #[] #[.pointer (some ⟨bx, 0, none⟩)], .func (.func 144) #[] #[.pointer (some ⟨bx, 0, none⟩)]]), (⟨fun v w1 => ∃ g, v = .slice (some ⟨g, 0, none⟩) 4 4 ∧ w.heap.size ≤ g ∧ Blk w1 g 139 (cells75 q bx n1 n2 m3 n4), fun v x y h hl => by obtain ⟨g, h1, h3, h2⟩ := h; exact ⟨g, h1, h3, h2.later hl⟩⟩ : Ent Lat)]) (by kernel_rfl) (by kernel_rfl) (by kernel_rfl) (by rw [hsz]; kernel_rfl) (by kernel_rfl) (by kernel_rfl) Lat.refl Lat.trans (TE_stable _) (Lat.draw w) ?hop ?hlast
  case hlast =>
    intro o a w1 ho hL hS hT
    obtain rfl := Option.some.inj ho
    obtain ⟨g, dq, hg, hB⟩ := hT 35 _ (by omega) rfl
    have dS : a.tmps.getD 38 undef = .slice (some ⟨g, 0, none⟩) 4 4 := dq
    have dS' : a.tmps[38]?.getD undef = .slice (some ⟨g, 0, none⟩) 4 4 := by simpa using dS
    refine wp_valP (.slice (some ⟨g, 0, none⟩) 4 4) (w' := w1) (by simp [execOp, Act.eval, dS', go_sem]) ?_
    exact hQ _ w1 g ((Act.size_put _ 2 _).trans (hS.size.trans hsz)) hS.defers (put_same _ 2 _ (by rw [hS.size, hsz]; decide)) hg hB hL
  case hop =>
    intro i o hlt hi
    rcases (show i = 0 ∨ i = 1 ∨ i = 2 ∨ i = 3 ∨ i = 4 ∨ i = 5 ∨ i = 6 ∨ i = 7 ∨ i = 8 ∨ i = 9 ∨ i = 10 ∨ i = 11 ∨ i = 12 ∨ i = 13 ∨ i = 14 ∨ i = 15 ∨ i = 16 ∨ i = 17 ∨ i = 18 ∨ i = 19 ∨ i = 20 ∨ i = 21 ∨ i = 22 ∨ i = 23 ∨ i = 24 ∨ i = 25 ∨ i = 26 ∨ i = 27 ∨ i = 28 ∨ i = 29 ∨ i = 30 ∨ i = 31 ∨ i = 32 ∨ i = 33 ∨ i = 34 ∨ i = 35 by omega) with rfl | rfl | rfl | rfl | rfl | rfl | rfl | rfl | rfl | rfl | rfl | rfl | rfl | rfl | rfl | rfl | rfl | rfl | rfl | rfl | rfl | rfl | rfl | rfl | rfl | rfl | rfl | rfl | rfl | rfl | rfl | rfl | rfl | rfl | rfl | rfl
    · obtain rfl := Option.some.inj hi
      clear hi hlt
      intro a w1 hL hS hD
      have e1 : a.tmps.getD 1 undef = .pointer (some ⟨bx, 0, none⟩) := (hS.slot 1 (by kernel_rfl)).trans s1
      refine step_yes rfl ?_
      simp only [Array.getD_eq_getD_getElem?] at e1
      exact ok_value Lat.refl (.pointer (some ⟨q, 0, none⟩)) (by simp [execOp, resolve, invoke, builtin, Act.eval, e1, hbx w1 hL, go_sem]) rfl
    · obtain rfl := Option.some.inj hi
      clear hi hlt
      intro a w1 hL hS hD
      have d0 : a.tmps.getD 3 undef = .pointer (some ⟨q, 0, none⟩) := hD ⟨0, .data⟩ (by simp) rfl _ rfl
      refine step_yes rfl ?_
      simp only [Array.getD_eq_getD_getElem?] at d0
      exact ok_value Lat.refl (.pointer (some ⟨q, 0, none⟩)) (by simp [execOp, resolve, invoke, builtin, Act.eval, d0, go_sem]) rfl
    · obtain rfl := Option.some.inj hi
      clear hi hlt
      intro a w1 hL hS hD
      have d1 : a.tmps.getD 4 undef = .pointer (some ⟨q, 0, none⟩) := hD ⟨1, .data⟩ (by simp) rfl _ rfl
      refine step_yes rfl ?_
      simp only [Array.getD_eq_getD_getElem?] at d1
      exact ok_value Lat.refl (.pointer (some ⟨q, 2, none⟩)) (by simp [execOp, resolve, invoke, builtin, Act.eval, d1, go_sem]) rfl
    · obtain rfl := Option.some.inj hi
      clear hi hlt
      intro a w1 hL hS hD
      have d2 : a.tmps.getD 5 undef = .pointer (some ⟨q, 2, none⟩) := hD ⟨2, .data⟩ (by simp) rfl _ rfl
      refine step_yes rfl ?_
      simp only [Array.getD_eq_getD_getElem?] at d2
      exact ok_value Lat.refl (.slice a1 n1 c1) (by simp [execOp, resolve, invoke, builtin, Act.eval, d2, hc2 w1 hL, go_sem]) rfl
    · obtain rfl := Option.some.inj hi
      clear hi hlt
      intro a w1 hL hS hD
      have d3 : a.tmps.getD 6 undef = .slice a1 n1 c1 := hD ⟨3, .data⟩ (by simp) rfl _ rfl
      refine step_yes rfl ?_
      simp only [Array.getD_eq_getD_getElem?] at d3
      exact ok_value Lat.refl (.int .i64 (n1 : Int)) (by simp [execOp, resolve, invoke, builtin, Act.eval, d3, go_sem]) rfl
    · obtain rfl := Option.some.inj hi
      clear hi hlt
      intro a w1 hL hS hD
      have d4 : a.tmps.getD 7 undef = .int .i64 (n1 : Int) := hD ⟨4, .data⟩ (by simp) rfl _ rfl
      refine step_yes rfl ?_
      simp only [Array.getD_eq_getD_getElem?] at d4
      exact ok_value Lat.refl (.bool ((n1 : Int) == 0)) (by simp [execOp, resolve, invoke, builtin, Act.eval, d4, go_sem]) rfl
    · obtain rfl := Option.some.inj hi
      clear hi hlt
      intro a w1 hL hS hD
      have e1 : a.tmps.getD 1 undef = .pointer (some ⟨bx, 0, none⟩) := (hS.slot 1 (by kernel_rfl)).trans s1
      refine step_yes rfl ?_
      simp only [Array.getD_eq_getD_getElem?] at e1
      exact ok_value Lat.refl (.func (.func 130) #[] #[.pointer (some ⟨bx, 0, none⟩)]) (by simp [execOp, resolve, invoke, builtin, Act.eval, e1, go_sem]) rfl
    · obtain rfl := Option.some.inj hi
      clear hi hlt
      intro a w1 hL hS hD
      have e1 : a.tmps.getD 1 undef = .pointer (some ⟨bx, 0, none⟩) := (hS.slot 1 (by kernel_rfl)).trans s1
      refine step_yes rfl ?_
      simp only [Array.getD_eq_getD_getElem?] at e1
      exact ok_value Lat.refl (.func (.func 132) #[] #[.pointer (some ⟨bx, 0, none⟩)]) (by simp [execOp, resolve, invoke, builtin, Act.eval, e1, go_sem]) rfl
    · obtain rfl := Option.some.inj hi
      clear hi hlt
      intro a w1 hL hS hD
      have d5 : a.tmps.getD 8 undef = .bool ((n1 : Int) == 0) := hD ⟨5, .data⟩ (by simp) rfl _ rfl
      have d6 : a.tmps.getD 9 undef = .func (.func 130) #[] #[.pointer (some ⟨bx, 0, none⟩)] := hD ⟨6, .data⟩ (by simp) rfl _ rfl
      have d7 : a.tmps.getD 10 undef = .func (.func 132) #[] #[.pointer (some ⟨bx, 0, none⟩)] := hD ⟨7, .data⟩ (by simp) rfl _ rfl
      refine step_yes rfl ?_
      refine ok_value Lat.refl (.agg #[.bool ((n1 : Int) == 0), .func (.func 130) #[] #[.pointer (some ⟨bx, 0, none⟩)], .func (.func 132) #[] #[.pointer (some ⟨bx, 0, none⟩)]]) ?_ rfl
      simp only [Array.getD_eq_getD_getElem?] at d5 d6 d7
      have hb := built139 (((n1 : Int) == 0)) 130 132 (.pointer (some ⟨bx, 0, none⟩))
      simp [execOp, Act.eval, d5, d6, d7, Instr.build, hb, go_sem]
    · obtain rfl := Option.some.inj hi
      clear hi hlt
      intro a w1 hL hS hD
      have e1 : a.tmps.getD 1 undef = .pointer (some ⟨bx, 0, none⟩) := (hS.slot 1 (by kernel_rfl)).trans s1
      refine step_yes rfl ?_
      simp only [Array.getD_eq_getD_getElem?] at e1
      exact ok_value Lat.refl (.pointer (some ⟨q, 0, none⟩)) (by simp [execOp, resolve, invoke, builtin, Act.eval, e1, hbx w1 hL, go_sem]) rfl
    · obtain rfl := Option.some.inj hi
      clear hi hlt
      intro a w1 hL hS hD
      have d9 : a.tmps.getD 12 undef = .pointer (some ⟨q, 0, none⟩) := hD ⟨9, .data⟩ (by simp) rfl _ rfl
      refine step_yes rfl ?_
      simp only [Array.getD_eq_getD_getElem?] at d9
      exact ok_value Lat.refl (.pointer (some ⟨q, 0, none⟩)) (by simp [execOp, resolve, invoke, builtin, Act.eval, d9, go_sem]) rfl
    · obtain rfl := Option.some.inj hi
      clear hi hlt
      intro a w1 hL hS hD
      have d10 : a.tmps.getD 13 undef = .pointer (some ⟨q, 0, none⟩) := hD ⟨10, .data⟩ (by simp) rfl _ rfl
      refine step_yes rfl ?_
      simp only [Array.getD_eq_getD_getElem?] at d10
      exact ok_value Lat.refl (.pointer (some ⟨q, 3, none⟩)) (by simp [execOp, resolve, invoke, builtin, Act.eval, d10, go_sem]) rfl
    · obtain rfl := Option.some.inj hi
      clear hi hlt
      intro a w1 hL hS hD
      have d11 : a.tmps.getD 14 undef = .pointer (some ⟨q, 3, none⟩) := hD ⟨11, .data⟩ (by simp) rfl _ rfl
      refine step_yes rfl ?_
      simp only [Array.getD_eq_getD_getElem?] at d11
      exact ok_value Lat.refl (.slice a2 n2 c2) (by simp [execOp, resolve, invoke, builtin, Act.eval, d11, hc3 w1 hL, go_sem]) rfl
    · obtain rfl := Option.some.inj hi
      clear hi hlt
      intro a w1 hL hS hD
      have d12 : a.tmps.getD 15 undef = .slice a2 n2 c2 := hD ⟨12, .data⟩ (by simp) rfl _ rfl
      refine step_yes rfl ?_
      simp only [Array.getD_eq_getD_getElem?] at d12
      exact ok_value Lat.refl (.int .i64 (n2 : Int)) (by simp [execOp, resolve, invoke, builtin, Act.eval, d12, go_sem]) rfl
    · obtain rfl := Option.some.inj hi
      clear hi hlt
      intro a w1 hL hS hD
      have d13 : a.tmps.getD 16 undef = .int .i64 (n2 : Int) := hD ⟨13, .data⟩ (by simp) rfl _ rfl
      refine step_yes rfl ?_
      simp only [Array.getD_eq_getD_getElem?] at d13
      exact ok_value Lat.refl (.bool ((n2 : Int) == 0)) (by simp [execOp, resolve, invoke, builtin, Act.eval, d13, go_sem]) rfl
    · obtain rfl := Option.some.inj hi
      clear hi hlt
      intro a w1 hL hS hD
      have e1 : a.tmps.getD 1 undef = .pointer (some ⟨bx, 0, none⟩) := (hS.slot 1 (by kernel_rfl)).trans s1
      refine step_yes rfl ?_
      simp only [Array.getD_eq_getD_getElem?] at e1
      exact ok_value Lat.refl (.func (.func 134) #[] #[.pointer (some ⟨bx, 0, none⟩)]) (by simp [execOp, resolve, invoke, builtin, Act.eval, e1, go_sem]) rfl
    · obtain rfl := Option.some.inj hi
      clear hi hlt
      intro a w1 hL hS hD
      have e1 : a.tmps.getD 1 undef = .pointer (some ⟨bx, 0, none⟩) := (hS.slot 1 (by kernel_rfl)).trans s1
      refine step_yes rfl ?_
      simp only [Array.getD_eq_getD_getElem?] at e1
      exact ok_value Lat.refl (.func (.func 136) #[] #[.pointer (some ⟨bx, 0, none⟩)]) (by simp [execOp, resolve, invoke, builtin, Act.eval, e1, go_sem]) rfl
    · obtain rfl := Option.some.inj hi
      clear hi hlt
      intro a w1 hL hS hD
      have d14 : a.tmps.getD 17 undef = .bool ((n2 : Int) == 0) := hD ⟨14, .data⟩ (by simp) rfl _ rfl
      have d15 : a.tmps.getD 18 undef = .func (.func 134) #[] #[.pointer (some ⟨bx, 0, none⟩)] := hD ⟨15, .data⟩ (by simp) rfl _ rfl
      have d16 : a.tmps.getD 19 undef = .func (.func 136) #[] #[.pointer (some ⟨bx, 0, none⟩)] := hD ⟨16, .data⟩ (by simp) rfl _ rfl
      refine step_yes rfl ?_
      refine ok_value Lat.refl (.agg #[.bool ((n2 : Int) == 0), .func (.func 134) #[] #[.pointer (some ⟨bx, 0, none⟩)], .func (.func 136) #[] #[.pointer (some ⟨bx, 0, none⟩)]]) ?_ rfl
      simp only [Array.getD_eq_getD_getElem?] at d14 d15 d16
      have hb := built139 (((n2 : Int) == 0)) 134 136 (.pointer (some ⟨bx, 0, none⟩))
      simp [execOp, Act.eval, d14, d15, d16, Instr.build, hb, go_sem]
    · obtain rfl := Option.some.inj hi
      clear hi hlt
      intro a w1 hL hS hD
      have e1 : a.tmps.getD 1 undef = .pointer (some ⟨bx, 0, none⟩) := (hS.slot 1 (by kernel_rfl)).trans s1
      refine step_yes rfl ?_
      simp only [Array.getD_eq_getD_getElem?] at e1
      exact ok_value Lat.refl (.pointer (some ⟨q, 0, none⟩)) (by simp [execOp, resolve, invoke, builtin, Act.eval, e1, hbx w1 hL, go_sem]) rfl
    · obtain rfl := Option.some.inj hi
      clear hi hlt
      intro a w1 hL hS hD
      have d18 : a.tmps.getD 21 undef = .pointer (some ⟨q, 0, none⟩) := hD ⟨18, .data⟩ (by simp) rfl _ rfl
      refine step_yes rfl ?_
      simp only [Array.getD_eq_getD_getElem?] at d18
      exact ok_value Lat.refl (.pointer (some ⟨q, 0, none⟩)) (by simp [execOp, resolve, invoke, builtin, Act.eval, d18, go_sem]) rfl
    · obtain rfl := Option.some.inj hi
      clear hi hlt
      intro a w1 hL hS hD
      have d19 : a.tmps.getD 22 undef = .pointer (some ⟨q, 0, none⟩) := hD ⟨19, .data⟩ (by simp) rfl _ rfl
      refine step_yes rfl ?_
      simp only [Array.getD_eq_getD_getElem?] at d19
      exact ok_value Lat.refl (.pointer (some ⟨q, 4, none⟩)) (by simp [execOp, resolve, invoke, builtin, Act.eval, d19, go_sem]) rfl
    · obtain rfl := Option.some.inj hi
      clear hi hlt
      intro a w1 hL hS hD
      have d20 : a.tmps.getD 23 undef = .pointer (some ⟨q, 4, none⟩) := hD ⟨20, .data⟩ (by simp) rfl _ rfl
      refine step_yes rfl ?_
      simp only [Array.getD_eq_getD_getElem?] at d20
      exact ok_value Lat.refl (.int .i64 m3) (by simp [execOp, resolve, invoke, builtin, Act.eval, d20, hc4 w1 hL, go_sem]) rfl
    · obtain rfl := Option.some.inj hi
      clear hi hlt
      intro a w1 hL hS hD
      have d21 : a.tmps.getD 24 undef = .int .i64 m3 := hD ⟨21, .data⟩ (by simp) rfl _ rfl
      refine step_yes rfl ?_
      simp only [Array.getD_eq_getD_getElem?] at d21
      exact ok_value Lat.refl (.bool (m3 == 0)) (by simp [execOp, resolve, invoke, builtin, Act.eval, d21, go_sem]) rfl
    · obtain rfl := Option.some.inj hi
      clear hi hlt
      intro a w1 hL hS hD
      have e1 : a.tmps.getD 1 undef = .pointer (some ⟨bx, 0, none⟩) := (hS.slot 1 (by kernel_rfl)).trans s1
      refine step_yes rfl ?_
      simp only [Array.getD_eq_getD_getElem?] at e1
      exact ok_value Lat.refl (.func (.func 138) #[] #[.pointer (some ⟨bx, 0, none⟩)]) (by simp [execOp, resolve, invoke, builtin, Act.eval, e1, go_sem]) rfl
    · obtain rfl := Option.some.inj hi
      clear hi hlt
      intro a w1 hL hS hD
      have e1 : a.tmps.getD 1 undef = .pointer (some ⟨bx, 0, none⟩) := (hS.slot 1 (by kernel_rfl)).trans s1
      refine step_yes rfl ?_
      simp only [Array.getD_eq_getD_getElem?] at e1
      exact ok_value Lat.refl (.func (.func 140) #[] #[.pointer (some ⟨bx, 0, none⟩)]) (by simp [execOp, resolve, invoke, builtin, Act.eval, e1, go_sem]) rfl
    · obtain rfl := Option.some.inj hi
      clear hi hlt
      intro a w1 hL hS hD
      have d22 : a.tmps.getD 25 undef = .bool (m3 == 0) := hD ⟨22, .data⟩ (by simp) rfl _ rfl
      have d23 : a.tmps.getD 26 undef = .func (.func 138) #[] #[.pointer (some ⟨bx, 0, none⟩)] := hD ⟨23, .data⟩ (by simp) rfl _ rfl
      have d24 : a.tmps.getD 27 undef = .func (.func 140) #[] #[.pointer (some ⟨bx, 0, none⟩)] := hD ⟨24, .data⟩ (by simp) rfl _ rfl
      refine step_yes rfl ?_
      refine ok_value Lat.refl (.agg #[.bool (m3 == 0), .func (.func 138) #[] #[.pointer (some ⟨bx, 0, none⟩)], .func (.func 140) #[] #[.pointer (some ⟨bx, 0, none⟩)]]) ?_ rfl
      simp only [Array.getD_eq_getD_getElem?] at d22 d23 d24
      have hb := built139 ((m3 == 0)) 138 140 (.pointer (some ⟨bx, 0, none⟩))
      simp [execOp, Act.eval, d22, d23, d24, Instr.build, hb, go_sem]
    · obtain rfl := Option.some.inj hi
      clear hi hlt
      intro a w1 hL hS hD
      have e1 : a.tmps.getD 1 undef = .pointer (some ⟨bx, 0, none⟩) := (hS.slot 1 (by kernel_rfl)).trans s1
      refine step_yes rfl ?_
      simp only [Array.getD_eq_getD_getElem?] at e1
      exact ok_value Lat.refl (.pointer (some ⟨q, 0, none⟩)) (by simp [execOp, resolve, invoke, builtin, Act.eval, e1, hbx w1 hL, go_sem]) rfl
    · obtain rfl := Option.some.inj hi
      clear hi hlt
      intro a w1 hL hS hD
      have d26 : a.tmps.getD 29 undef = .pointer (some ⟨q, 0, none⟩) := hD ⟨26, .data⟩ (by simp) rfl _ rfl
      refine step_yes rfl ?_
      simp only [Array.getD_eq_getD_getElem?] at d26
      exact ok_value Lat.refl (.pointer (some ⟨q, 0, none⟩)) (by simp [execOp, resolve, invoke, builtin, Act.eval, d26, go_sem]) rfl
    · obtain rfl := Option.some.inj hi
      clear hi hlt
      intro a w1 hL hS hD
      have d27 : a.tmps.getD 30 undef = .pointer (some ⟨q, 0, none⟩) := hD ⟨27, .data⟩ (by simp) rfl _ rfl
      refine step_yes rfl ?_
      simp only [Array.getD_eq_getD_getElem?] at d27
      exact ok_value Lat.refl (.pointer (some ⟨q, 5, none⟩)) (by simp [execOp, resolve, invoke, builtin, Act.eval, d27, go_sem]) rfl
    · obtain rfl := Option.some.inj hi
      clear hi hlt
      intro a w1 hL hS hD
      have d28 : a.tmps.getD 31 undef = .pointer (some ⟨q, 5, none⟩) := hD ⟨28, .data⟩ (by simp) rfl _ rfl
      refine step_yes rfl ?_
      simp only [Array.getD_eq_getD_getElem?] at d28
      exact ok_value Lat.refl (.slice a4 n4 c4) (by simp [execOp, resolve, invoke, builtin, Act.eval, d28, hc5 w1 hL, go_sem]) rfl
    · obtain rfl := Option.some.inj hi
      clear hi hlt
      intro a w1 hL hS hD
      have d29 : a.tmps.getD 32 undef = .slice a4 n4 c4 := hD ⟨29, .data⟩ (by simp) rfl _ rfl
      refine step_yes rfl ?_
      simp only [Array.getD_eq_getD_getElem?] at d29
      exact ok_value Lat.refl (.int .i64 (n4 : Int)) (by simp [execOp, resolve, invoke, builtin, Act.eval, d29, go_sem]) rfl
    · obtain rfl := Option.some.inj hi
      clear hi hlt
      intro a w1 hL hS hD
      have d30 : a.tmps.getD 33 undef = .int .i64 (n4 : Int) := hD ⟨30, .data⟩ (by simp) rfl _ rfl
      refine step_yes rfl ?_
      simp only [Array.getD_eq_getD_getElem?] at d30
      exact ok_value Lat.refl (.bool ((n4 : Int) == 0)) (by simp [execOp, resolve, invoke, builtin, Act.eval, d30, go_sem]) rfl
    · obtain rfl := Option.some.inj hi
      clear hi hlt
      intro a w1 hL hS hD
      have e1 : a.tmps.getD 1 undef = .pointer (some ⟨bx, 0, none⟩) := (hS.slot 1 (by kernel_rfl)).trans s1
      refine step_yes rfl ?_
      simp only [Array.getD_eq_getD_getElem?] at e1
      exact ok_value Lat.refl (.func (.func 142) #[] #[.pointer (some ⟨bx, 0, none⟩)]) (by simp [execOp, resolve, invoke, builtin, Act.eval, e1, go_sem]) rfl
    · obtain rfl := Option.some.inj hi
      clear hi hlt
      intro a w1 hL hS hD
      have e1 : a.tmps.getD 1 undef = .pointer (some ⟨bx, 0, none⟩) := (hS.slot 1 (by kernel_rfl)).trans s1
      refine step_yes rfl ?_
      simp only [Array.getD_eq_getD_getElem?] at e1
      exact ok_value Lat.refl (.func (.func 144) #[] #[.pointer (some ⟨bx, 0, none⟩)]) (by simp [execOp, resolve, invoke, builtin, Act.eval, e1, go_sem]) rfl
    · obtain rfl := Option.some.inj hi
      clear hi hlt
      intro a w1 hL hS hD
      have d31 : a.tmps.getD 34 undef = .bool ((n4 : Int) == 0) := hD ⟨31, .data⟩ (by simp) rfl _ rfl
      have d32 : a.tmps.getD 35 undef = .func (.func 142) #[] #[.pointer (some ⟨bx, 0, none⟩)] := hD ⟨32, .data⟩ (by simp) rfl _ rfl
      have d33 : a.tmps.getD 36 undef = .func (.func 144) #[] #[.pointer (some ⟨bx, 0, none⟩)] := hD ⟨33, .data⟩ (by simp) rfl _ rfl
      refine step_yes rfl ?_
      refine ok_value Lat.refl (.agg #[.bool ((n4 : Int) == 0), .func (.func 142) #[] #[.pointer (some ⟨bx, 0, none⟩)], .func (.func 144) #[] #[.pointer (some ⟨bx, 0, none⟩)]]) ?_ rfl
      simp only [Array.getD_eq_getD_getElem?] at d31 d32 d33
      have hb := built139 (((n4 : Int) == 0)) 142 144 (.pointer (some ⟨bx, 0, none⟩))
      simp [execOp, Act.eval, d31, d32, d33, Instr.build, hb, go_sem]
    · obtain rfl := Option.some.inj hi
      clear hi hlt
      intro a w1 hL hS hD
      have d8 : a.tmps.getD 11 undef = .agg #[.bool ((n1 : Int) == 0), .func (.func 130) #[] #[.pointer (some ⟨bx, 0, none⟩)], .func (.func 132) #[] #[.pointer (some ⟨bx, 0, none⟩)]] := hD ⟨8, .data⟩ (by simp) rfl _ rfl
      have d17 : a.tmps.getD 20 undef = .agg #[.bool ((n2 : Int) == 0), .func (.func 134) #[] #[.pointer (some ⟨bx, 0, none⟩)], .func (.func 136) #[] #[.pointer (some ⟨bx, 0, none⟩)]] := hD ⟨17, .data⟩ (by simp) rfl _ rfl
      have d25 : a.tmps.getD 28 undef = .agg #[.bool (m3 == 0), .func (.func 138) #[] #[.pointer (some ⟨bx, 0, none⟩)], .func (.func 140) #[] #[.pointer (some ⟨bx, 0, none⟩)]] := hD ⟨25, .data⟩ (by simp) rfl _ rfl
      have d34 : a.tmps.getD 37 undef = .agg #[.bool ((n4 : Int) == 0), .func (.func 142) #[] #[.pointer (some ⟨bx, 0, none⟩)], .func (.func 144) #[] #[.pointer (some ⟨bx, 0, none⟩)]] := hD ⟨34, .data⟩ (by simp) rfl _ rfl
      refine step_yes rfl ?_
      simp only [Array.getD_eq_getD_getElem?] at d8 d17 d25 d34
      have hbs := buildS75 q bx n1 n2 m3 n4 w1
      refine wp_valP (.slice (some ⟨w1.heap.size, 0, none⟩) 4 4) (w' := w1.alloc (.cells (cells75 q bx n1 n2 m3 n4).toArray 139)) (by simp [execOp, Act.eval, d8, d17, d25, d34, hbs, Result.andThen]) ?_
      exact ⟨_, rfl, (Below.refl _ _).alloc (Nat.le_refl _) _, ⟨w1.heap.size, rfl, Below.size hL, Blk.new w1 139 _⟩⟩

end Go.Proofs.YtalmpmhnkilalaaGreatDoor

/-
  Package wire: a response's parts.
-/
namespace Go.Proofs.YtalmpmhnkilalaaGreatDoor
open Go Go.RowKit
set_option linter.unusedVariables false

def pfA : Nat → FuncId
  | 0 => 130 | 1 => 134 | 2 => 138 | _ => 142
def tfA : Nat → FuncId
  | 0 => 132 | 1 => 136 | 2 => 140 | _ => 144
/-- A response's cells. -/
def cA (e k : Int) (fm : Nat → FM) : List Value := .int .i64 e :: .int .i64 k :: (List.range 4).map (fun i => (fm i).val)
theorem cA_at (e k : Int) (fm : Nat → FM) (i : Nat) (h : i < 4) : (cA e k fm)[i + 2]? = some (fm i).val := by
  unfold cA
  simp [h]
theorem beq0 (n : Nat) : ((n : Int) == 0) = decide (n = 0) := by
  rw [Bool.eq_iff_iff]
  simp
theorem beqi (n : Int) : (n == 0) = decide (n = 0) := by
  rw [Bool.eq_iff_iff]
  simp
theorem lat_cell {w w1 : World} (hL : Lat w w1) {a : Addr} {v : Value} (h : w.cell? a = some v) : w1.cell? a = some v := by
  have := Below.cell hL (p := a) (World.block_lt_of_cell? w a h)
  rw [this]
  exact h

set_option maxHeartbeats 2000000 in
set_option maxRecDepth 20000 in
theorem responsePartsP (q : Nat) (e k : Int) (fm : Nat → FM) (w : World) (hq : Blk w q 57 (cA e k fm)) (hk : ∀ i, i < 4 → (fm i).fv.kd = kdA i) :
    Calls Tryz.prog 75 #[.pointer (some ⟨q, 0, none⟩)] w fun e w' => ∃ a, e = .returned (.slice (some ⟨a, 0, none⟩) 4 4) ∧ w.heap.size < a ∧ Below w.heap.size w w' ∧ Blk w' w.heap.size 103 [.pointer (some ⟨q, 0, none⟩)] ∧ PartsM w' a 0 w.heap.size 4 (fun i => (fm i).fv) pfA tfA ∧ Ty w' a 139 := by
  have cc : ∀ i, i < 4 → (w.alloc (.cells #[.pointer (some ⟨q, 0, none⟩)] 103)).cell? ⟨q, i + 2, none⟩ = some (fm i).val := fun i hi => by
    rw [(hq.alloc _).cell, cA_at e k fm i hi]
  obtain ⟨a0, c0, l0, h0⟩ : ∃ a c l, fm 0 = .se a c l := by have := hk 0 (by omega); cases h : fm 0 <;> rw [h] at this <;> first | (cases this; done) | exact ⟨_, _, _, rfl⟩
  obtain ⟨a1, c1, l1, h1⟩ : ∃ a c l, fm 1 = .ro a c l := by have := hk 1 (by omega); cases h : fm 1 <;> rw [h] at this <;> first | (cases this; done) | exact ⟨_, _, _, rfl⟩
  obtain ⟨m2, h2⟩ : ∃ d, fm 2 = .nu d := by have := hk 2 (by omega); cases h : fm 2 <;> rw [h] at this <;> first | (cases this; done) | exact ⟨_, rfl⟩
  obtain ⟨a3, c3, l3, h3⟩ : ∃ a c l, fm 3 = .ts a c l := by have := hk 3 (by omega); cases h : fm 3 <;> rw [h] at this <;> first | (cases this; done) | exact ⟨_, _, _, rfl⟩
  have e0 := cc 0 (by omega)
  have e1 := cc 1 (by omega)
  have e2 := cc 2 (by omega)
  have e3 := cc 3 (by omega)
  rw [h0] at e0
  rw [h1] at e1
  rw [h2] at e2
  rw [h3] at e3
  simp only [FM.val, Nat.reduceAdd] at e0 e1 e2 e3
  have HB : Hid ((w.alloc (.cells #[.pointer (some ⟨q, 0, none⟩)] 103)).cell? ⟨w.heap.size, 0, none⟩ = some (.pointer (some ⟨q, 0, none⟩))) := hidden ((Blk.new w 103 [.pointer (some ⟨q, 0, none⟩)]).cell 0)
  have HBB := hidden (Blk.new w 103 [.pointer (some ⟨q, 0, none⟩)])
  have HE := hidden (And.intro e0 (And.intro e1 (And.intro e2 e3)))
  have HH := hidden (And.intro h0 (And.intro h1 (And.intro h2 h3)))
  clear h0 h1 h2 h3 cc hk hq e0 e1 e2 e3
  go_enter Tryz.func75, Tryz.ntmps75
  go_wp2_with (refine parts75_r1 q w.heap.size a0 l0.length c0 a1 l1.length c1 m2 a3 l3.length c3 _ _ _ rfl rfl (fun w1 hL => lat_cell hL HB.out) (fun w1 hL => lat_cell hL HE.out.1) (fun w1 hL => lat_cell hL HE.out.2.1) (fun w1 hL => lat_cell hL HE.out.2.2.1) (fun w1 hL => lat_cell hL HE.out.2.2.2) ?_; intro a w1 g hsz hde hS hg hB hL)
  refine bodyPost_ret (results_tmp (t := 2) (by kernel_rfl) _ _ _) hde ?_
  rw [hS]
  rw [World.size_alloc] at hg
  have hbl : Below w.heap.size w w1 := ((Below.refl _ _).alloc (Nat.le_refl _) _).trans (Below.mono hL (by simp))
  refine ⟨g, rfl, by omega, hbl, HBB.out.later hL, fun i hi => ?_, ty_blk hB⟩
  obtain ⟨h0, h1, h2, h3⟩ := HH.out
  rw [hB.cell, hB.cell, hB.cell]
  rcases (show i = 0 ∨ i = 1 ∨ i = 2 ∨ i = 3 by omega) with rfl | rfl | rfl | rfl
  · refine ⟨?_, rfl, rfl⟩
    show some (Value.bool _) = some (.bool (isZ (fm 0).fv))
    rw [h0]
    show some (Value.bool _) = some (.bool (decide ((l0.map prS).length = 0)))
    rw [List.length_map, beq0]
  · refine ⟨?_, rfl, rfl⟩
    show some (Value.bool _) = some (.bool (isZ (fm 1).fv))
    rw [h1]
    show some (Value.bool _) = some (.bool (decide ((l1.map prR).length = 0)))
    rw [List.length_map, beq0]
  · refine ⟨?_, rfl, rfl⟩
    show some (Value.bool _) = some (.bool (isZ (fm 2).fv))
    rw [h2]
    show some (Value.bool _) = some (.bool (decide (m2 = 0)))
    rw [beqi]
  · refine ⟨?_, rfl, rfl⟩
    show some (Value.bool _) = some (.bool (isZ (fm 3).fv))
    rw [h3]
    show some (Value.bool _) = some (.bool (decide (l3.length = 0)))
    rw [beq0]

end Go.Proofs.YtalmpmhnkilalaaGreatDoor

/-
  Package wire: a response written.
-/
namespace Go.Proofs.YtalmpmhnkilalaaGreatDoor
open Go Go.RowKit
set_option linter.unusedVariables false

theorem Wt.keepTy {w : World} {p : Nat} {rb : Option Nat} {s : Ws} (h : Wt w p rb s) {g : Nat} {t : TypeId} (hT : Ty w g t) (h1 : t ≠ 72) (h2 : t ≠ 5) : ¬ fpt p rb g := by
  obtain ⟨v, h⟩ := h
  rintro (rfl | e)
  · exact h1 (hT.ne (ty_blk h.blk))
  · exact h2 (hT.ne (ty_owns h.row (by rw [h.own]; exact e)))
theorem PartsM.keep {w wx : World} {F : Nat → Prop} {a off bx n : Nat} {f : Nat → FV} {pf tf : Nat → FuncId} (h : PartsM w a off bx n f pf tf) (hc : Chg F w wx) (ha : ¬ F a) : PartsM wx a off bx n f pf tf := by
  intro i hi
  obtain ⟨k0, k1, k2⟩ := h i hi
  have hab : wx.heap[a]? = w.heap[a]? := hc.block a (World.block_lt_of_cell? w _ k0) ha
  exact ⟨(World.cell?_of_block hab).trans k0, (World.cell?_of_block hab).trans k1, (World.cell?_of_block hab).trans k2⟩
theorem putsA (p q bx : Nat) (e k : Int) (fm : Nat → FM) (hk : ∀ i, i < 4 → (fm i).fv.kd = kdA i) : ∀ i, i < 4 → ∀ s1 rb1 wx, Wt wx p rb1 s1 → Blk wx q 57 (cA e k fm) → Blk wx bx 103 [.pointer (some ⟨q, 0, none⟩)] → (∀ wy, Chg (fpt p rb1) wx wy → (fm i).mem wy ∧ Gv wy) →
    Calls Tryz.prog (pfA i) #[.pointer (some ⟨p, 0, none⟩), .pointer (some ⟨bx, 0, none⟩)] wx (WQ wx p rb1 (putV (fm i).fv s1)) := by
  intro i hi s1 rb1 wx hW hq hb hm
  have hkk := hk i hi
  have hv := cA_at e k fm i hi
  rcases (show i = 0 ∨ i = 1 ∨ i = 2 ∨ i = 3 by omega) with rfl | rfl | rfl | rfl
  · exact put130 p rb1 s1 q bx _ _ wx hW hq hb hv hkk hm
  · exact put134 p rb1 s1 q bx _ _ wx hW hq hb hv hkk hm
  · exact put138 p rb1 s1 q bx _ _ wx hW hq hb hv hkk hm
  · exact put142 p rb1 s1 q bx _ _ wx hW hq hb hv hkk hm
theorem cfA (i : Nat) (hi : i < 4) (a : Array Value) (w : World) : (callFunc (pfA i) a).run Tryz.prog w = .ok (.enter (pfA i) a) w := by
  rcases (show i = 0 ∨ i = 1 ∨ i = 2 ∨ i = 3 by omega) with rfl | rfl | rfl | rfl <;> kernel_rfl
theorem cfAt (i : Nat) (hi : i < 4) (a : Array Value) (w : World) : (callFunc (tfA i) a).run Tryz.prog w = .ok (.enter (tfA i) a) w := by
  rcases (show i = 0 ∨ i = 1 ∨ i = 2 ∨ i = 3 by omega) with rfl | rfl | rfl | rfl <;> kernel_rfl

/-- Which fields a kind uses. -/
def FldQ (w : World) (used : List Nat) (known : Bool) (e : Ending) (w' : World) : Prop :=
  Below w.heap.size w w' ∧ ∃ uad uc, (∀ y, uad = some y → w.heap.size ≤ y.block ∧ Ty w' y.block 3) ∧ In w' uad used ∧ e = .returned (.tuple #[.slice uad used.length uc, .bool known])
theorem in_nil (w : World) (ad : Option Addr) : In w ad [] := fun h => absurd rfl h
theorem fldQ_nil (w : World) (used : List Nat) (known : Bool) (hu : used = []) : FldQ w used known (.returned (.tuple #[.slice none 0 0, .bool known])) w := by
  subst hu
  exact ⟨Below.refl _ _, none, 0, fun y h => (by cases h), in_nil _ _, rfl⟩
theorem fldQ_lit (w : World) (used l : List Nat) (known : Bool) (hu : used = l) (n : Nat) (hn : l.length = n) (C : Array Value) (hC : C = (l.map (fun (n : Nat) => Value.int .i64 (n : Int))).toArray) : FldQ w used known (.returned (.tuple #[.slice (some ⟨w.heap.size, 0, none⟩) n n, .bool known])) (w.alloc (.cells C 3)) := by
  subst hu hn hC
  exact ⟨(Below.refl _ _).alloc (Nat.le_refl _) _, some ⟨w.heap.size, 0, none⟩, _, fun y h => (by cases h; exact ⟨Nat.le_refl _, ty_blk (Blk.new w 3 _)⟩), in_lit w _ _ rfl _, rfl⟩
theorem fieldsOfAnswerP (k : Int) (w : World) (h0 : -9223372036854775808 ≤ k) (h1 : k ≤ 9223372036854775807) : Calls Tryz.prog 76 #[.int .i64 k] w (FldQ w (usedA k) (fieldsA k).isSome) := by
  by_cases k0 : k = 0
  · subst k0
    go_enter Tryz.func76, Tryz.ntmps76
    go_wp2_with fail
    go_ret2
    exact fldQ_nil w _ _ rfl
  by_cases k1 : k = 1
  · subst k1
    go_enter Tryz.func76, Tryz.ntmps76
    go_wp2_with fail
    go_ret2
    exact fldQ_lit w _ [0] _ rfl 1 rfl _ rfl
  by_cases k2 : k = 2
  · subst k2
    go_enter Tryz.func76, Tryz.ntmps76
    go_wp2_with fail
    go_ret2
    exact fldQ_lit w _ [1] _ rfl 1 rfl _ rfl
  by_cases k3 : k = 3
  · subst k3
    go_enter Tryz.func76, Tryz.ntmps76
    go_wp2_with fail
    go_ret2
    exact fldQ_lit w _ [2] _ rfl 1 rfl _ rfl
  by_cases k4 : k = 4
  · subst k4
    go_enter Tryz.func76, Tryz.ntmps76
    go_wp2_with fail
    go_ret2
    exact fldQ_lit w _ [3] _ rfl 1 rfl _ rfl
  have hk : fieldsA k = none := by
    unfold fieldsA
    rw [if_neg k0, if_neg k1, if_neg k2, if_neg k3, if_neg k4]
  have hu : usedA k = [] := by unfold usedA; rw [hk]; rfl
  rw [hk]
  go_enter Tryz.func76, Tryz.ntmps76
  go_wp2_with fail
  go_ret2
  exact fldQ_nil w _ _ hu
theorem fieldsOfR (k : Int) (w : World) (h0 : -9223372036854775808 ≤ k) (h1 : k ≤ 9223372036854775807) : Calls Tryz.prog 55 #[.int .i64 k] w (FldQ w (usedQ k) (fieldsK k).isSome) := by
  by_cases k1 : k = 1
  · subst k1
    go_enter Tryz.func55, Tryz.ntmps55
    go_wp2_with fail
    go_ret2
    exact fldQ_lit w _ [0, 1, 2] _ rfl 3 rfl _ rfl
  by_cases k2 : k = 2
  · subst k2
    go_enter Tryz.func55, Tryz.ntmps55
    go_wp2_with fail
    go_ret2
    exact fldQ_lit w _ [0, 1, 3, 4, 5] _ rfl 5 rfl _ rfl
  by_cases k3 : k = 3
  · subst k3
    go_enter Tryz.func55, Tryz.ntmps55
    go_wp2_with fail
    go_ret2
    exact fldQ_lit w _ [0, 1, 6] _ rfl 3 rfl _ rfl
  by_cases k4 : k = 4
  · subst k4
    go_enter Tryz.func55, Tryz.ntmps55
    go_wp2_with fail
    go_ret2
    exact fldQ_lit w _ [0, 1, 3] _ rfl 3 rfl _ rfl
  by_cases k5 : k = 5
  · subst k5
    go_enter Tryz.func55, Tryz.ntmps55
    go_wp2_with fail
    go_ret2
    exact fldQ_lit w _ [0, 1, 3] _ rfl 3 rfl _ rfl
  by_cases k6 : k = 6
  · subst k6
    go_enter Tryz.func55, Tryz.ntmps55
    go_wp2_with fail
    go_ret2
    exact fldQ_lit w _ [0, 1, 3, 7] _ rfl 4 rfl _ rfl
  by_cases k7 : k = 7
  · subst k7
    go_enter Tryz.func55, Tryz.ntmps55
    go_wp2_with fail
    go_ret2
    exact fldQ_lit w _ [0, 1] _ rfl 2 rfl _ rfl
  by_cases k17 : k = 17
  · subst k17
    go_enter Tryz.func55, Tryz.ntmps55
    go_wp2_with fail
    go_ret2
    exact fldQ_lit w _ [0, 1] _ rfl 2 rfl _ rfl
  by_cases k16 : k = 16
  · subst k16
    go_enter Tryz.func55, Tryz.ntmps55
    go_wp2_with fail
    go_ret2
    exact fldQ_lit w _ [0, 1, 8, 9] _ rfl 4 rfl _ rfl
  by_cases k18 : k = 18
  · subst k18
    go_enter Tryz.func55, Tryz.ntmps55
    go_wp2_with fail
    go_ret2
    exact fldQ_lit w _ [0, 1, 11, 10, 3] _ rfl 5 rfl _ rfl
  by_cases k19 : k = 19
  · subst k19
    go_enter Tryz.func55, Tryz.ntmps55
    go_wp2_with fail
    go_ret2
    exact fldQ_lit w _ [0, 1, 11] _ rfl 3 rfl _ rfl
  have hk : fieldsK k = none := by
    unfold fieldsK
    rw [if_neg k1, if_neg k2, if_neg k3, if_neg (by omega), if_neg k6, if_neg (by omega), if_neg k16, if_neg k18, if_neg k19]
  have hu : usedQ k = [] := by unfold usedQ; rw [hk]; rfl
  rw [hk]
  go_enter Tryz.func55, Tryz.ntmps55
  go_wp2_with fail
  go_ret2
  exact fldQ_nil w _ _ hu

/-! ### a writer, from a world on -/
structure WX (w0 w : World) (p : Nat) (rb0 rb : Option Nat) (s : Ws) : Prop where
  wt : Wt w p rb s
  chg : Chg (fpt p rb0) w0 w
  mv : Moved w0 rb0 rb
theorem WX.start {w : World} {p : Nat} {rb : Option Nat} {s : Ws} (h : Wt w p rb s) : WX w w p rb rb s := ⟨h, Chg.refl _ _, .inl rfl⟩
theorem WX.later {w0 w w1 : World} {p : Nat} {rb0 rb : Option Nat} {s : Ws} (h : WX w0 w p rb0 rb s) (hb : Below w.heap.size w w1) : WX w0 w1 p rb0 rb s :=
  ⟨h.wt.later hb, h.chg.trans (Chg.of_below (F := fpt p rb) hb) (fun i hi hf => fpt_moved h.mv i hi hf), h.mv⟩
/-- What every call of the writer lets be. -/
structure Kpt (w w' : World) : Prop where
  blk : ∀ g ty l, Blk w g ty l → ty ≠ 72 → ty ≠ 5 → Blk w' g ty l
  ty : ∀ g t, Ty w g t → t ≠ 72 → t ≠ 5 → Ty w' g t ∧ w'.heap[g]? = w.heap[g]?
theorem WX.step {w0 w w' : World} {p : Nat} {rb0 rb : Option Nat} {s s' : Ws} {e : Ending} (h : WX w0 w p rb0 rb s) (hQ : WQ w p rb s' e w') : e = .returned (.tuple #[]) ∧ (∃ rb', WX w0 w' p rb0 rb' s') ∧ Kpt w w' := by
  obtain ⟨rfl, rb', hW, hC, hM⟩ := hQ
  refine ⟨rfl, ⟨rb', hW, h.chg.trans hC (fun i hi hf => fpt_moved h.mv i hi hf), h.mv.trans hM h.chg.size⟩, fun g ty l hB h1 h2 => h.wt.keepBlk hC hB h1 h2, fun g t hT h1 h2 => ?_⟩
  obtain ⟨C, fz, hg⟩ := hT
  have : w'.heap[g]? = w.heap[g]? := hC.block g (Array.getElem?_eq_some_iff.1 hg).1 (h.wt.keepTy ⟨C, fz, hg⟩ h1 h2)
  exact ⟨⟨C, fz, by rw [this]; exact hg⟩, this⟩
theorem WX.done {w0 w : World} {p : Nat} {rb0 rb : Option Nat} {s : Ws} (h : WX w0 w p rb0 rb s) : WQ w0 p rb0 s (.returned (.tuple #[])) w := ⟨rfl, rb, h.wt, h.chg, h.mv⟩
theorem Kpt.in' {w w' : World} (h : Kpt w w') {uad : Option Addr} {l : List Nat} (hI : In w uad l) (hT : ∀ y, uad = some y → Ty w y.block 3) : In w' uad l ∧ ∀ y, uad = some y → Ty w' y.block 3 := by
  refine ⟨fun h0 => ?_, fun y hy => (h.ty _ _ (hT y hy) (by decide) (by decide)).1⟩
  obtain ⟨b, off, e, hlt, hc⟩ := hI h0
  have hb := (h.ty b 3 (hT _ e) (by decide) (by decide)).2
  refine ⟨b, off, e, ?_, fun i x hx j v hv => (World.cell?_of_block hb).trans (hc i x hx j v hv)⟩
  obtain ⟨C, fz, hg⟩ := (h.ty b 3 (hT _ e) (by decide) (by decide)).1
  exact (Array.getElem?_eq_some_iff.1 hg).1
theorem Kpt.parts {w w' : World} (h : Kpt w w') {a off bx n : Nat} {f : Nat → FV} {pf tf : Nat → FuncId} (hP : PartsM w a off bx n f pf tf) (hT : Ty w a 139) : PartsM w' a off bx n f pf tf := by
  intro i hi
  obtain ⟨k0, k1, k2⟩ := hP i hi
  have hab := (h.ty a 139 hT (by decide) (by decide)).2
  exact ⟨(World.cell?_of_block hab).trans k0, (World.cell?_of_block hab).trans k1, (World.cell?_of_block hab).trans k2⟩
theorem kpt_chg {w wx : World} {p : Nat} {rb : Option Nat} {s : Ws} (h : Wt w p rb s) (hC : Chg (fpt p rb) w wx) : Kpt w wx := by
  refine ⟨fun g ty l hB h1 h2 => h.keepBlk hC hB h1 h2, fun g t hT h1 h2 => ?_⟩
  obtain ⟨C, fz, hg⟩ := hT
  have : wx.heap[g]? = w.heap[g]? := hC.block g (Array.getElem?_eq_some_iff.1 hg).1 (h.keepTy ⟨C, fz, hg⟩ h1 h2)
  exact ⟨⟨C, fz, by rw [this]; exact hg⟩, this⟩
theorem kpt_below {w wx : World} (hb : Below w.heap.size w wx) : Kpt w wx := by
  refine ⟨fun g ty l hB h1 h2 => hB.later hb, fun g t hT h1 h2 => ?_⟩
  obtain ⟨C, fz, hg⟩ := hT
  have : wx.heap[g]? = w.heap[g]? := hb.block g (Array.getElem?_eq_some_iff.1 hg).1
  exact ⟨⟨C, fz, by rw [this]; exact hg⟩, this⟩

end Go.Proofs.YtalmpmhnkilalaaGreatDoor
