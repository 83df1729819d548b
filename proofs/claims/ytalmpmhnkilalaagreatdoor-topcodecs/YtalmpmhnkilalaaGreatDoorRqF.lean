/-
  Package wire: responseParts: a region of 37 operations that draws its order. By genrqf19.py.
-/
import Derived.Test.YtalmpmhnkilalaaGreatDoorRqD
import Derived.Test.YtalmpmhnkilalaaGreatDoorAny
import Derived.Test.YtalmpmhnkilalaaGreatDoorBlk
import Derived.Test.YtalmpmhnkilalaaGreatDoorAnyB
namespace Go.Proofs.YtalmpmhnkilalaaGreatDoor
open Go Go.RowKit
set_option linter.unusedVariables false
set_option linter.unusedSimpArgs false

theorem wp_valP {P : Program} {Q : Exit → Act → World → Prop} {K : Act → World → Prop} {o : Oper} {a : Act} {w w' : World} (v : Value) (h : (execOp a.eval o).run P w = .ok (.value v) w') (hk : K (a.put o.dst v) w') : o.wp P a w K Q := by
  unfold Oper.wp
  rw [h]
  exact hk
theorem Act.size_put (a : Act) (d : Tmp) (v : Value) : (a.put (some d) v).tmps.size = a.tmps.size := by simp [Act.put]
theorem built139 (z : Bool) (f g : FuncId) (x : Value) : Tryz.prog.built 139 [(0, .bool z), (1, .func (.func f) #[] #[x]), (2, .func (.func g) #[] #[x])] = some #[.bool z, .func (.func f) #[] #[x], .func (.func g) #[] #[x]] := by kernel_rfl

def cells75 (q bx : Nat) (n1 n2 : Nat) (m3 : Int) (n4 : Nat) : List Value := [.bool ((n1 : Int) == 0), .func (.func 130) #[] #[.pointer (some ⟨bx, 0, none⟩)], .func (.func 132) #[] #[.pointer (some ⟨bx, 0, none⟩)], .bool ((n2 : Int) == 0), .func (.func 134) #[] #[.pointer (some ⟨bx, 0, none⟩)], .func (.func 136) #[] #[.pointer (some ⟨bx, 0, none⟩)], .bool (m3 == 0), .func (.func 138) #[] #[.pointer (some ⟨bx, 0, none⟩)], .func (.func 140) #[] #[.pointer (some ⟨bx, 0, none⟩)], .bool ((n4 : Int) == 0), .func (.func 142) #[] #[.pointer (some ⟨bx, 0, none⟩)], .func (.func 144) #[] #[.pointer (some ⟨bx, 0, none⟩)]]
set_option maxRecDepth 100000 in
theorem buildS75 (q bx : Nat) (n1 n2 : Nat) (m3 : Int) (n4 : Nat) (w1 : World) : (Instr.buildSlice 111 4 #[(0, .agg #[.bool ((n1 : Int) == 0), .func (.func 130) #[] #[.pointer (some ⟨bx, 0, none⟩)], .func (.func 132) #[] #[.pointer (some ⟨bx, 0, none⟩)]]), (1, .agg #[.bool ((n2 : Int) == 0), .func (.func 134) #[] #[.pointer (some ⟨bx, 0, none⟩)], .func (.func 136) #[] #[.pointer (some ⟨bx, 0, none⟩)]]), (2, .agg #[.bool (m3 == 0), .func (.func 138) #[] #[.pointer (some ⟨bx, 0, none⟩)], .func (.func 140) #[] #[.pointer (some ⟨bx, 0, none⟩)]]), (3, .agg #[.bool ((n4 : Int) == 0), .func (.func 142) #[] #[.pointer (some ⟨bx, 0, none⟩)], .func (.func 144) #[] #[.pointer (some ⟨bx, 0, none⟩)]])]).run Tryz.prog w1 = .ok (.slice (some ⟨w1.heap.size, 0, none⟩) 4 4) (w1.alloc (.cells (cells75 q bx n1 n2 m3 n4).toArray 139)) := by
  simp [go_sem, cells75]
set_option maxRecDepth 100000 in
set_option maxHeartbeats 8000000 in
theorem parts75_r1 (q bx : Nat) (a1 : Option Addr) (n1 c1 : Nat) (a2 : Option Addr) (n2 c2 : Nat) (m3 : Int) (a4 : Option Addr) (n4 c4 : Nat) (w : World) (a0 : Act) (Q : Exit → Act → World → Prop) (hsz : a0.tmps.size = 39) (s1 : a0.tmps.getD 1 undef = .pointer (some ⟨bx, 0, none⟩))
    (hbx : ∀ w1, Lat w w1 → w1.cell? ⟨bx, 0, none⟩ = some (.pointer (some ⟨q, 0, none⟩)))
    (hc2 : ∀ w1, Lat w w1 → w1.cell? ⟨q, 2, none⟩ = some (.slice a1 n1 c1))
    (hc3 : ∀ w1, Lat w w1 → w1.cell? ⟨q, 3, none⟩ = some (.slice a2 n2 c2))
    (hc4 : ∀ w1, Lat w w1 → w1.cell? ⟨q, 4, none⟩ = some (.int .i64 m3))
    (hc5 : ∀ w1, Lat w w1 → w1.cell? ⟨q, 5, none⟩ = some (.slice a4 n4 c4))
    (hQ : ∀ (a : Act) (w1 : World) (g : Nat), a.tmps.size = 39 → a.defers = a0.defers → a.tmps.getD 2 undef = .slice (some ⟨g, 0, none⟩) 4 4 → w.heap.size ≤ g → Blk w1 g 139 (cells75 q bx n1 n2 m3 n4) → Lat w w1 → Q .normal a w1) :
    Code.wp Tryz.prog ((Tryz.f75.body.bind (findRegion 1)).getD .skip) Q a0 w := by
  conv => arg 2; whnf
  refine wp_region_last 36 Lat (TE [Ent.val (.pointer (some ⟨q, 0, none⟩)), Ent.val (.pointer (some ⟨q, 0, none⟩)), Ent.val (.pointer (some ⟨q, 2, none⟩)), Ent.val (.slice a1 n1 c1), Ent.val (.int .i64 (n1 : Int)), Ent.val (.bool ((n1 : Int) == 0)), Ent.val (.func (.func 130) #[] #[.pointer (some ⟨bx, 0, none⟩)]), Ent.val (.func (.func 132) #[] #[.pointer (some ⟨bx, 0, none⟩)]), Ent.val (.agg #[.bool ((n1 : Int) == 0), .func (.func 130) #[] #[.pointer (some ⟨bx, 0, none⟩)], .func (.func 132) #[] #[.pointer (some ⟨bx, 0, none⟩)]]), Ent.val (.pointer (some ⟨q, 0, none⟩)), Ent.val (.pointer (some ⟨q, 0, none⟩)), Ent.val (.pointer (some ⟨q, 3, none⟩)), Ent.val (.slice a2 n2 c2), Ent.val (.int .i64 (n2 : Int)), Ent.val (.bool ((n2 : Int) == 0)), Ent.val (.func (.func 134) #[] #[.pointer (some ⟨bx, 0, none⟩)]), Ent.val (.func (.func 136) #[] #[.pointer (some ⟨bx, 0, none⟩)]), Ent.val (.agg #[.bool ((n2 : Int) == 0), .func (.func 134) #[] #[.pointer (some ⟨bx, 0, none⟩)], .func (.func 136) #[] #[.pointer (some ⟨bx, 0, none⟩)]]), Ent.val (.pointer (some ⟨q, 0, none⟩)), Ent.val (.pointer (some ⟨q, 0, none⟩)), Ent.val (.pointer (some ⟨q, 4, none⟩)), Ent.val (.int .i64 m3), Ent.val (.bool (m3 == 0)), Ent.val (.func (.func 138) #[] #[.pointer (some ⟨bx, 0, none⟩)]), Ent.val (.func (.func 140) #[] #[.pointer (some ⟨bx, 0, none⟩)]), Ent.val (.agg #[.bool (m3 == 0), .func (.func 138) #[] #[.pointer (some ⟨bx, 0, none⟩)], .func (.func 140) #[] #[.pointer (some ⟨bx, 0, none⟩)]]), Ent.val (.pointer (some ⟨q, 0, none⟩)), Ent.val (.pointer (some ⟨q, 0, none⟩)), Ent.val (.pointer (some ⟨q, 5, none⟩)), Ent.val (.slice a4 n4 c4), Ent.val (.int .i64 (n4 : Int)), Ent.val (.bool ((n4 : Int) == 0)), Ent.val (.func (.func 142) #[] #[.pointer (some ⟨bx, 0, none⟩)]), Ent.val (.func (.func 144) #[] #[.pointer (some ⟨bx, 0, none⟩)]), Ent.val (.agg #[.bool ((n4 : Int) == 0), .func (.func 142) #[] #[.pointer (some ⟨bx, 0, none⟩)], .func (.func 144) #[] #[.pointer (some ⟨bx, 0, none⟩)]]), (⟨fun v w1 => ∃ g, v = .slice (some ⟨g, 0, none⟩) 4 4 ∧ w.heap.size ≤ g ∧ Blk w1 g 139 (cells75 q bx n1 n2 m3 n4), fun v x y h hl => by obtain ⟨g, h1, h3, h2⟩ := h; exact ⟨g, h1, h3, h2.later hl⟩⟩ : Ent Lat)]) (by kernel_rfl) (by kernel_rfl) (by kernel_rfl) (by rw [hsz]; kernel_rfl) (by kernel_rfl) (by kernel_rfl) Lat.refl Lat.trans (TE_stable _) (Lat.draw w) ?hop ?hlast
  case hlast =>
    intro o a w1 ho hL hS hT
    obtain rfl := Option.some.inj ho
    obtain ⟨g, dq, hg, hB⟩ := hT 35 _ (by omega) rfl
    have dS : a.tmps.getD 38 undef = .slice (some ⟨g, 0, none⟩) 4 4 := dq
    have dS' : a.tmps[38]?.getD undef = .slice (some ⟨g, 0, none⟩) 4 4 := by simpa using dS
    refine wp_valP (.slice (some ⟨g, 0, none⟩) 4 4) (w' := w1) (by simp [execOp, Act.eval, dS', go_sem]) ?_
    exact hQ _ w1 g ((Act.size_put _ 2 _).trans (hS.size.trans hsz)) hS.defers (put_same _ 2 _ (by rw [hS.size, hsz]; decide)) hg hB hL
  case hop =>
    intro i o hlt hi
    rcases (show i = 0 ∨ i = 1 ∨ i = 2 ∨ i = 3 ∨ i = 4 ∨ i = 5 ∨ i = 6 ∨ i = 7 ∨ i = 8 ∨ i = 9 ∨ i = 10 ∨ i = 11 ∨ i = 12 ∨ i = 13 ∨ i = 14 ∨ i = 15 ∨ i = 16 ∨ i = 17 ∨ i = 18 ∨ i = 19 ∨ i = 20 ∨ i = 21 ∨ i = 22 ∨ i = 23 ∨ i = 24 ∨ i = 25 ∨ i = 26 ∨ i = 27 ∨ i = 28 ∨ i = 29 ∨ i = 30 ∨ i = 31 ∨ i = 32 ∨ i = 33 ∨ i = 34 ∨ i = 35 by omega) with rfl | rfl | rfl | rfl | rfl | rfl | rfl | rfl | rfl | rfl | rfl | rfl | rfl | rfl | rfl | rfl | rfl | rfl | rfl | rfl | rfl | rfl | rfl | rfl | rfl | rfl | rfl | rfl | rfl | rfl | rfl | rfl | rfl | rfl | rfl | rfl
    · obtain rfl := Option.some.inj hi
      clear hi hlt
      intro a w1 hL hS hD
      have e1 : a.tmps.getD 1 undef = .pointer (some ⟨bx, 0, none⟩) := (hS.slot 1 (by kernel_rfl)).trans s1
      refine step_yes rfl ?_
      simp only [Array.getD_eq_getD_getElem?] at e1
      exact ok_value Lat.refl (.pointer (some ⟨q, 0, none⟩)) (by simp [execOp, resolve, invoke, builtin, Act.eval, e1, hbx w1 hL, go_sem]) rfl
    · obtain rfl := Option.some.inj hi
      clear hi hlt
      intro a w1 hL hS hD
      have d0 : a.tmps.getD 3 undef = .pointer (some ⟨q, 0, none⟩) := hD ⟨0, .data⟩ (by simp) rfl _ rfl
      refine step_yes rfl ?_
      simp only [Array.getD_eq_getD_getElem?] at d0
      exact ok_value Lat.refl (.pointer (some ⟨q, 0, none⟩)) (by simp [execOp, resolve, invoke, builtin, Act.eval, d0, go_sem]) rfl
    · obtain rfl := Option.some.inj hi
      clear hi hlt
      intro a w1 hL hS hD
      have d1 : a.tmps.getD 4 undef = .pointer (some ⟨q, 0, none⟩) := hD ⟨1, .data⟩ (by simp) rfl _ rfl
      refine step_yes rfl ?_
      simp only [Array.getD_eq_getD_getElem?] at d1
      exact ok_value Lat.refl (.pointer (some ⟨q, 2, none⟩)) (by simp [execOp, resolve, invoke, builtin, Act.eval, d1, go_sem]) rfl
    · obtain rfl := Option.some.inj hi
      clear hi hlt
      intro a w1 hL hS hD
      have d2 : a.tmps.getD 5 undef = .pointer (some ⟨q, 2, none⟩) := hD ⟨2, .data⟩ (by simp) rfl _ rfl
      refine step_yes rfl ?_
      simp only [Array.getD_eq_getD_getElem?] at d2
      exact ok_value Lat.refl (.slice a1 n1 c1) (by simp [execOp, resolve, invoke, builtin, Act.eval, d2, hc2 w1 hL, go_sem]) rfl
    · obtain rfl := Option.some.inj hi
      clear hi hlt
      intro a w1 hL hS hD
      have d3 : a.tmps.getD 6 undef = .slice a1 n1 c1 := hD ⟨3, .data⟩ (by simp) rfl _ rfl
      refine step_yes rfl ?_
      simp only [Array.getD_eq_getD_getElem?] at d3
      exact ok_value Lat.refl (.int .i64 (n1 : Int)) (by simp [execOp, resolve, invoke, builtin, Act.eval, d3, go_sem]) rfl
    · obtain rfl := Option.some.inj hi
      clear hi hlt
      intro a w1 hL hS hD
      have d4 : a.tmps.getD 7 undef = .int .i64 (n1 : Int) := hD ⟨4, .data⟩ (by simp) rfl _ rfl
      refine step_yes rfl ?_
      simp only [Array.getD_eq_getD_getElem?] at d4
      exact ok_value Lat.refl (.bool ((n1 : Int) == 0)) (by simp [execOp, resolve, invoke, builtin, Act.eval, d4, go_sem]) rfl
    · obtain rfl := Option.some.inj hi
      clear hi hlt
      intro a w1 hL hS hD
      have e1 : a.tmps.getD 1 undef = .pointer (some ⟨bx, 0, none⟩) := (hS.slot 1 (by kernel_rfl)).trans s1
      refine step_yes rfl ?_
      simp only [Array.getD_eq_getD_getElem?] at e1
      exact ok_value Lat.refl (.func (.func 130) #[] #[.pointer (some ⟨bx, 0, none⟩)]) (by simp [execOp, resolve, invoke, builtin, Act.eval, e1, go_sem]) rfl
    · obtain rfl := Option.some.inj hi
      clear hi hlt
      intro a w1 hL hS hD
      have e1 : a.tmps.getD 1 undef = .pointer (some ⟨bx, 0, none⟩) := (hS.slot 1 (by kernel_rfl)).trans s1
      refine step_yes rfl ?_
      simp only [Array.getD_eq_getD_getElem?] at e1
      exact ok_value Lat.refl (.func (.func 132) #[] #[.pointer (some ⟨bx, 0, none⟩)]) (by simp [execOp, resolve, invoke, builtin, Act.eval, e1, go_sem]) rfl
    · obtain rfl := Option.some.inj hi
      clear hi hlt
      intro a w1 hL hS hD
      have d5 : a.tmps.getD 8 undef = .bool ((n1 : Int) == 0) := hD ⟨5, .data⟩ (by simp) rfl _ rfl
      have d6 : a.tmps.getD 9 undef = .func (.func 130) #[] #[.pointer (some ⟨bx, 0, none⟩)] := hD ⟨6, .data⟩ (by simp) rfl _ rfl
      have d7 : a.tmps.getD 10 undef = .func (.func 132) #[] #[.pointer (some ⟨bx, 0, none⟩)] := hD ⟨7, .data⟩ (by simp) rfl _ rfl
      refine step_yes rfl ?_
      refine ok_value Lat.refl (.agg #[.bool ((n1 : Int) == 0), .func (.func 130) #[] #[.pointer (some ⟨bx, 0, none⟩)], .func (.func 132) #[] #[.pointer (some ⟨bx, 0, none⟩)]]) ?_ rfl
      simp only [Array.getD_eq_getD_getElem?] at d5 d6 d7
      have hb := built139 (((n1 : Int) == 0)) 130 132 (.pointer (some ⟨bx, 0, none⟩))
      simp [execOp, Act.eval, d5, d6, d7, Instr.build, hb, go_sem]
    · obtain rfl := Option.some.inj hi
      clear hi hlt
      intro a w1 hL hS hD
      have e1 : a.tmps.getD 1 undef = .pointer (some ⟨bx, 0, none⟩) := (hS.slot 1 (by kernel_rfl)).trans s1
      refine step_yes rfl ?_
      simp only [Array.getD_eq_getD_getElem?] at e1
      exact ok_value Lat.refl (.pointer (some ⟨q, 0, none⟩)) (by simp [execOp, resolve, invoke, builtin, Act.eval, e1, hbx w1 hL, go_sem]) rfl
    · obtain rfl := Option.some.inj hi
      clear hi hlt
      intro a w1 hL hS hD
      have d9 : a.tmps.getD 12 undef = .pointer (some ⟨q, 0, none⟩) := hD ⟨9, .data⟩ (by simp) rfl _ rfl
      refine step_yes rfl ?_
      simp only [Array.getD_eq_getD_getElem?] at d9
      exact ok_value Lat.refl (.pointer (some ⟨q, 0, none⟩)) (by simp [execOp, resolve, invoke, builtin, Act.eval, d9, go_sem]) rfl
    · obtain rfl := Option.some.inj hi
      clear hi hlt
      intro a w1 hL hS hD
      have d10 : a.tmps.getD 13 undef = .pointer (some ⟨q, 0, none⟩) := hD ⟨10, .data⟩ (by simp) rfl _ rfl
      refine step_yes rfl ?_
      simp only [Array.getD_eq_getD_getElem?] at d10
      exact ok_value Lat.refl (.pointer (some ⟨q, 3, none⟩)) (by simp [execOp, resolve, invoke, builtin, Act.eval, d10, go_sem]) rfl
    · obtain rfl := Option.some.inj hi
      clear hi hlt
      intro a w1 hL hS hD
      have d11 : a.tmps.getD 14 undef = .pointer (some ⟨q, 3, none⟩) := hD ⟨11, .data⟩ (by simp) rfl _ rfl
      refine step_yes rfl ?_
      simp only [Array.getD_eq_getD_getElem?] at d11
      exact ok_value Lat.refl (.slice a2 n2 c2) (by simp [execOp, resolve, invoke, builtin, Act.eval, d11, hc3 w1 hL, go_sem]) rfl
    · obtain rfl := Option.some.inj hi
      clear hi hlt
      intro a w1 hL hS hD
      have d12 : a.tmps.getD 15 undef = .slice a2 n2 c2 := hD ⟨12, .data⟩ (by simp) rfl _ rfl
      refine step_yes rfl ?_
      simp only [Array.getD_eq_getD_getElem?] at d12
      exact ok_value Lat.refl (.int .i64 (n2 : Int)) (by simp [execOp, resolve, invoke, builtin, Act.eval, d12, go_sem]) rfl
    · obtain rfl := Option.some.inj hi
      clear hi hlt
      intro a w1 hL hS hD
      have d13 : a.tmps.getD 16 undef = .int .i64 (n2 : Int) := hD ⟨13, .data⟩ (by simp) rfl _ rfl
      refine step_yes rfl ?_
      simp only [Array.getD_eq_getD_getElem?] at d13
      exact ok_value Lat.refl (.bool ((n2 : Int) == 0)) (by simp [execOp, resolve, invoke, builtin, Act.eval, d13, go_sem]) rfl
    · obtain rfl := Option.some.inj hi
      clear hi hlt
      intro a w1 hL hS hD
      have e1 : a.tmps.getD 1 undef = .pointer (some ⟨bx, 0, none⟩) := (hS.slot 1 (by kernel_rfl)).trans s1
      refine step_yes rfl ?_
      simp only [Array.getD_eq_getD_getElem?] at e1
      exact ok_value Lat.refl (.func (.func 134) #[] #[.pointer (some ⟨bx, 0, none⟩)]) (by simp [execOp, resolve, invoke, builtin, Act.eval, e1, go_sem]) rfl
    · obtain rfl := Option.some.inj hi
      clear hi hlt
      intro a w1 hL hS hD
      have e1 : a.tmps.getD 1 undef = .pointer (some ⟨bx, 0, none⟩) := (hS.slot 1 (by kernel_rfl)).trans s1
      refine step_yes rfl ?_
      simp only [Array.getD_eq_getD_getElem?] at e1
      exact ok_value Lat.refl (.func (.func 136) #[] #[.pointer (some ⟨bx, 0, none⟩)]) (by simp [execOp, resolve, invoke, builtin, Act.eval, e1, go_sem]) rfl
    · obtain rfl := Option.some.inj hi
      clear hi hlt
      intro a w1 hL hS hD
      have d14 : a.tmps.getD 17 undef = .bool ((n2 : Int) == 0) := hD ⟨14, .data⟩ (by simp) rfl _ rfl
      have d15 : a.tmps.getD 18 undef = .func (.func 134) #[] #[.pointer (some ⟨bx, 0, none⟩)] := hD ⟨15, .data⟩ (by simp) rfl _ rfl
      have d16 : a.tmps.getD 19 undef = .func (.func 136) #[] #[.pointer (some ⟨bx, 0, none⟩)] := hD ⟨16, .data⟩ (by simp) rfl _ rfl
      refine step_yes rfl ?_
      refine ok_value Lat.refl (.agg #[.bool ((n2 : Int) == 0), .func (.func 134) #[] #[.pointer (some ⟨bx, 0, none⟩)], .func (.func 136) #[] #[.pointer (some ⟨bx, 0, none⟩)]]) ?_ rfl
      simp only [Array.getD_eq_getD_getElem?] at d14 d15 d16
      have hb := built139 (((n2 : Int) == 0)) 134 136 (.pointer (some ⟨bx, 0, none⟩))
      simp [execOp, Act.eval, d14, d15, d16, Instr.build, hb, go_sem]
    · obtain rfl := Option.some.inj hi
      clear hi hlt
      intro a w1 hL hS hD
      have e1 : a.tmps.getD 1 undef = .pointer (some ⟨bx, 0, none⟩) := (hS.slot 1 (by kernel_rfl)).trans s1
      refine step_yes rfl ?_
      simp only [Array.getD_eq_getD_getElem?] at e1
      exact ok_value Lat.refl (.pointer (some ⟨q, 0, none⟩)) (by simp [execOp, resolve, invoke, builtin, Act.eval, e1, hbx w1 hL, go_sem]) rfl
    · obtain rfl := Option.some.inj hi
      clear hi hlt
      intro a w1 hL hS hD
      have d18 : a.tmps.getD 21 undef = .pointer (some ⟨q, 0, none⟩) := hD ⟨18, .data⟩ (by simp) rfl _ rfl
      refine step_yes rfl ?_
      simp only [Array.getD_eq_getD_getElem?] at d18
      exact ok_value Lat.refl (.pointer (some ⟨q, 0, none⟩)) (by simp [execOp, resolve, invoke, builtin, Act.eval, d18, go_sem]) rfl
    · obtain rfl := Option.some.inj hi
      clear hi hlt
      intro a w1 hL hS hD
      have d19 : a.tmps.getD 22 undef = .pointer (some ⟨q, 0, none⟩) := hD ⟨19, .data⟩ (by simp) rfl _ rfl
      refine step_yes rfl ?_
      simp only [Array.getD_eq_getD_getElem?] at d19
      exact ok_value Lat.refl (.pointer (some ⟨q, 4, none⟩)) (by simp [execOp, resolve, invoke, builtin, Act.eval, d19, go_sem]) rfl
    · obtain rfl := Option.some.inj hi
      clear hi hlt
      intro a w1 hL hS hD
      have d20 : a.tmps.getD 23 undef = .pointer (some ⟨q, 4, none⟩) := hD ⟨20, .data⟩ (by simp) rfl _ rfl
      refine step_yes rfl ?_
      simp only [Array.getD_eq_getD_getElem?] at d20
      exact ok_value Lat.refl (.int .i64 m3) (by simp [execOp, resolve, invoke, builtin, Act.eval, d20, hc4 w1 hL, go_sem]) rfl
    · obtain rfl := Option.some.inj hi
      clear hi hlt
      intro a w1 hL hS hD
      have d21 : a.tmps.getD 24 undef = .int .i64 m3 := hD ⟨21, .data⟩ (by simp) rfl _ rfl
      refine step_yes rfl ?_
      simp only [Array.getD_eq_getD_getElem?] at d21
      exact ok_value Lat.refl (.bool (m3 == 0)) (by simp [execOp, resolve, invoke, builtin, Act.eval, d21, go_sem]) rfl
    · obtain rfl := Option.some.inj hi
      clear hi hlt
      intro a w1 hL hS hD
      have e1 : a.tmps.getD 1 undef = .pointer (some ⟨bx, 0, none⟩) := (hS.slot 1 (by kernel_rfl)).trans s1
      refine step_yes rfl ?_
      simp only [Array.getD_eq_getD_getElem?] at e1
      exact ok_value Lat.refl (.func (.func 138) #[] #[.pointer (some ⟨bx, 0, none⟩)]) (by simp [execOp, resolve, invoke, builtin, Act.eval, e1, go_sem]) rfl
    · obtain rfl := Option.some.inj hi
      clear hi hlt
      intro a w1 hL hS hD
      have e1 : a.tmps.getD 1 undef = .pointer (some ⟨bx, 0, none⟩) := (hS.slot 1 (by kernel_rfl)).trans s1
      refine step_yes rfl ?_
      simp only [Array.getD_eq_getD_getElem?] at e1
      exact ok_value Lat.refl (.func (.func 140) #[] #[.pointer (some ⟨bx, 0, none⟩)]) (by simp [execOp, resolve, invoke, builtin, Act.eval, e1, go_sem]) rfl
    · obtain rfl := Option.some.inj hi
      clear hi hlt
      intro a w1 hL hS hD
      have d22 : a.tmps.getD 25 undef = .bool (m3 == 0) := hD ⟨22, .data⟩ (by simp) rfl _ rfl
      have d23 : a.tmps.getD 26 undef = .func (.func 138) #[] #[.pointer (some ⟨bx, 0, none⟩)] := hD ⟨23, .data⟩ (by simp) rfl _ rfl
      have d24 : a.tmps.getD 27 undef = .func (.func 140) #[] #[.pointer (some ⟨bx, 0, none⟩)] := hD ⟨24, .data⟩ (by simp) rfl _ rfl
      refine step_yes rfl ?_
      refine ok_value Lat.refl (.agg #[.bool (m3 == 0), .func (.func 138) #[] #[.pointer (some ⟨bx, 0, none⟩)], .func (.func 140) #[] #[.pointer (some ⟨bx, 0, none⟩)]]) ?_ rfl
      simp only [Array.getD_eq_getD_getElem?] at d22 d23 d24
      have hb := built139 ((m3 == 0)) 138 140 (.pointer (some ⟨bx, 0, none⟩))
      simp [execOp, Act.eval, d22, d23, d24, Instr.build, hb, go_sem]
    · obtain rfl := Option.some.inj hi
      clear hi hlt
      intro a w1 hL hS hD
      have e1 : a.tmps.getD 1 undef = .pointer (some ⟨bx, 0, none⟩) := (hS.slot 1 (by kernel_rfl)).trans s1
      refine step_yes rfl ?_
      simp only [Array.getD_eq_getD_getElem?] at e1
      exact ok_value Lat.refl (.pointer (some ⟨q, 0, none⟩)) (by simp [execOp, resolve, invoke, builtin, Act.eval, e1, hbx w1 hL, go_sem]) rfl
    · obtain rfl := Option.some.inj hi
      clear hi hlt
      intro a w1 hL hS hD
      have d26 : a.tmps.getD 29 undef = .pointer (some ⟨q, 0, none⟩) := hD ⟨26, .data⟩ (by simp) rfl _ rfl
      refine step_yes rfl ?_
      simp only [Array.getD_eq_getD_getElem?] at d26
      exact ok_value Lat.refl (.pointer (some ⟨q, 0, none⟩)) (by simp [execOp, resolve, invoke, builtin, Act.eval, d26, go_sem]) rfl
    · obtain rfl := Option.some.inj hi
      clear hi hlt
      intro a w1 hL hS hD
      have d27 : a.tmps.getD 30 undef = .pointer (some ⟨q, 0, none⟩) := hD ⟨27, .data⟩ (by simp) rfl _ rfl
      refine step_yes rfl ?_
      simp only [Array.getD_eq_getD_getElem?] at d27
      exact ok_value Lat.refl (.pointer (some ⟨q, 5, none⟩)) (by simp [execOp, resolve, invoke, builtin, Act.eval, d27, go_sem]) rfl
    · obtain rfl := Option.some.inj hi
      clear hi hlt
      intro a w1 hL hS hD
      have d28 : a.tmps.getD 31 undef = .pointer (some ⟨q, 5, none⟩) := hD ⟨28, .data⟩ (by simp) rfl _ rfl
      refine step_yes rfl ?_
      simp only [Array.getD_eq_getD_getElem?] at d28
      exact ok_value Lat.refl (.slice a4 n4 c4) (by simp [execOp, resolve, invoke, builtin, Act.eval, d28, hc5 w1 hL, go_sem]) rfl
    · obtain rfl := Option.some.inj hi
      clear hi hlt
      intro a w1 hL hS hD
      have d29 : a.tmps.getD 32 undef = .slice a4 n4 c4 := hD ⟨29, .data⟩ (by simp) rfl _ rfl
      refine step_yes rfl ?_
      simp only [Array.getD_eq_getD_getElem?] at d29
      exact ok_value Lat.refl (.int .i64 (n4 : Int)) (by simp [execOp, resolve, invoke, builtin, Act.eval, d29, go_sem]) rfl
    · obtain rfl := Option.some.inj hi
      clear hi hlt
      intro a w1 hL hS hD
      have d30 : a.tmps.getD 33 undef = .int .i64 (n4 : Int) := hD ⟨30, .data⟩ (by simp) rfl _ rfl
      refine step_yes rfl ?_
      simp only [Array.getD_eq_getD_getElem?] at d30
      exact ok_value Lat.refl (.bool ((n4 : Int) == 0)) (by simp [execOp, resolve, invoke, builtin, Act.eval, d30, go_sem]) rfl
    · obtain rfl := Option.some.inj hi
      clear hi hlt
      intro a w1 hL hS hD
      have e1 : a.tmps.getD 1 undef = .pointer (some ⟨bx, 0, none⟩) := (hS.slot 1 (by kernel_rfl)).trans s1
      refine step_yes rfl ?_
      simp only [Array.getD_eq_getD_getElem?] at e1
      exact ok_value Lat.refl (.func (.func 142) #[] #[.pointer (some ⟨bx, 0, none⟩)]) (by simp [execOp, resolve, invoke, builtin, Act.eval, e1, go_sem]) rfl
    · obtain rfl := Option.some.inj hi
      clear hi hlt
      intro a w1 hL hS hD
      have e1 : a.tmps.getD 1 undef = .pointer (some ⟨bx, 0, none⟩) := (hS.slot 1 (by kernel_rfl)).trans s1
      refine step_yes rfl ?_
      simp only [Array.getD_eq_getD_getElem?] at e1
      exact ok_value Lat.refl (.func (.func 144) #[] #[.pointer (some ⟨bx, 0, none⟩)]) (by simp [execOp, resolve, invoke, builtin, Act.eval, e1, go_sem]) rfl
    · obtain rfl := Option.some.inj hi
      clear hi hlt
      intro a w1 hL hS hD
      have d31 : a.tmps.getD 34 undef = .bool ((n4 : Int) == 0) := hD ⟨31, .data⟩ (by simp) rfl _ rfl
      have d32 : a.tmps.getD 35 undef = .func (.func 142) #[] #[.pointer (some ⟨bx, 0, none⟩)] := hD ⟨32, .data⟩ (by simp) rfl _ rfl
      have d33 : a.tmps.getD 36 undef = .func (.func 144) #[] #[.pointer (some ⟨bx, 0, none⟩)] := hD ⟨33, .data⟩ (by simp) rfl _ rfl
      refine step_yes rfl ?_
      refine ok_value Lat.refl (.agg #[.bool ((n4 : Int) == 0), .func (.func 142) #[] #[.pointer (some ⟨bx, 0, none⟩)], .func (.func 144) #[] #[.pointer (some ⟨bx, 0, none⟩)]]) ?_ rfl
      simp only [Array.getD_eq_getD_getElem?] at d31 d32 d33
      have hb := built139 (((n4 : Int) == 0)) 142 144 (.pointer (some ⟨bx, 0, none⟩))
      simp [execOp, Act.eval, d31, d32, d33, Instr.build, hb, go_sem]
    · obtain rfl := Option.some.inj hi
      clear hi hlt
      intro a w1 hL hS hD
      have d8 : a.tmps.getD 11 undef = .agg #[.bool ((n1 : Int) == 0), .func (.func 130) #[] #[.pointer (some ⟨bx, 0, none⟩)], .func (.func 132) #[] #[.pointer (some ⟨bx, 0, none⟩)]] := hD ⟨8, .data⟩ (by simp) rfl _ rfl
      have d17 : a.tmps.getD 20 undef = .agg #[.bool ((n2 : Int) == 0), .func (.func 134) #[] #[.pointer (some ⟨bx, 0, none⟩)], .func (.func 136) #[] #[.pointer (some ⟨bx, 0, none⟩)]] := hD ⟨17, .data⟩ (by simp) rfl _ rfl
      have d25 : a.tmps.getD 28 undef = .agg #[.bool (m3 == 0), .func (.func 138) #[] #[.pointer (some ⟨bx, 0, none⟩)], .func (.func 140) #[] #[.pointer (some ⟨bx, 0, none⟩)]] := hD ⟨25, .data⟩ (by simp) rfl _ rfl
      have d34 : a.tmps.getD 37 undef = .agg #[.bool ((n4 : Int) == 0), .func (.func 142) #[] #[.pointer (some ⟨bx, 0, none⟩)], .func (.func 144) #[] #[.pointer (some ⟨bx, 0, none⟩)]] := hD ⟨34, .data⟩ (by simp) rfl _ rfl
      refine step_yes rfl ?_
      simp only [Array.getD_eq_getD_getElem?] at d8 d17 d25 d34
      have hbs := buildS75 q bx n1 n2 m3 n4 w1
      refine wp_valP (.slice (some ⟨w1.heap.size, 0, none⟩) 4 4) (w' := w1.alloc (.cells (cells75 q bx n1 n2 m3 n4).toArray 139)) (by simp [execOp, Act.eval, d8, d17, d25, d34, hbs, Result.andThen]) ?_
      exact ⟨_, rfl, (Below.refl _ _).alloc (Nat.le_refl _) _, ⟨w1.heap.size, rfl, Below.size hL, Blk.new w1 139 _⟩⟩

end Go.Proofs.YtalmpmhnkilalaaGreatDoor
