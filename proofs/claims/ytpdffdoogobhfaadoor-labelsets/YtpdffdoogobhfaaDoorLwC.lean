/-
  LabelOrders: its region that draws its order.
-/
import Derived.Test.YtpdffdoogobhfaaDoorLwB
import Derived.Test.YtpdffdoogobhfaaDoorAnyW
namespace Go.Proofs.YtpdffdoogobhfaaDoor
open Go Go.RowKit
set_option linter.unusedVariables false
set_option linter.unusedSimpArgs false

set_option maxRecDepth 100000 in
set_option maxHeartbeats 2000000 in
theorem orders_r17 (b off n c i : Nat) (xn xv : ByteArray) (w : World) (a0 : Act) (Q : Exit → Act → World → Prop) (hsz : a0.tmps.size = 138)
    (s12 : a0.tmps.getD 12 undef = .slice (some ⟨b, off, none⟩) n c)
    (s15 : a0.tmps.getD 15 undef = .int .i64 (i : Int))
    (hin : (i : Int) < (n : Int)) (hinN : i < n)
    (c0 : ∀ w1, Lat w w1 → w1.cell? ⟨b, off + i * 2, none⟩ = some (.string xn)) (c1 : ∀ w1, Lat w w1 → w1.cell? ⟨b, off + i * 2 + 1, none⟩ = some (.string xv))
    (hcall : ∀ w1, Lat w w1 → Calls Tryd.prog 16 #[.slice (some ⟨b, off, none⟩) n c, .string xn] w1 fun e w' => e = .returned (.string xv) ∧ Below w1.heap.size w1 w')
    (hQ : ∀ (v85 v86 v87 v88 v89 v90 v91 v92 v93 v94 v95 v96 : Value) (w1 : World), Lat w w1 → Q .normal (((((((((((((a0.put (some 85) v85).put (some 86) v86).put (some 87) v87).put (some 88) v88).put (some 89) v89).put (some 90) v90).put (some 91) v91).put (some 92) v92).put (some 93) v93).put (some 94) v94).put (some 95) v95).put (some 96) v96).put (some 97) (.bool false)) w1) :
    Code.wp Tryd.prog ((Tryd.f6.body.bind (findRegion 17)).getD .skip) Q a0 w := by
  conv => arg 2; whnf
  refine wp_region_inv Lat (TV [.slice (some ⟨b, off, none⟩) n c, .slice (some ⟨b, off, none⟩) n c, .int .i64 (i : Int), .pointer (some ⟨b, off + i * 2, none⟩), .pointer (some ⟨b, off + i * 2, none⟩), .string xn, .string xv, .slice (some ⟨b, off, none⟩) n c, .int .i64 (i : Int), .pointer (some ⟨b, off + i * 2, none⟩), .pointer (some ⟨b, off + i * 2 + 1, none⟩), .string xv, .bool false]) (by kernel_rfl) (by kernel_rfl) (by kernel_rfl) (by rw [hsz]; kernel_rfl) (by kernel_rfl) Lat.refl Lat.trans (TV.stable _) (Lat.draw w) ?hop ?hdone
  case hdone =>
    intro a w1 hL hS hT
    have k97 : a.tmps.getD 97 undef = .bool false := hT 12 _ rfl _ rfl
    have he := same_puts hS
    have hQ2 := hQ (a.tmps.getD 85 undef) (a.tmps.getD 86 undef) (a.tmps.getD 87 undef) (a.tmps.getD 88 undef) (a.tmps.getD 89 undef) (a.tmps.getD 90 undef) (a.tmps.getD 91 undef) (a.tmps.getD 92 undef) (a.tmps.getD 93 undef) (a.tmps.getD 94 undef) (a.tmps.getD 95 undef) (a.tmps.getD 96 undef) w1 hL
    rw [← k97] at hQ2
    rw [he]
    exact hQ2
  case hop =>
    intro i o hi
    have hlt : i < 13 := (Array.getElem?_eq_some_iff.1 hi).1
    rcases (show i = 0 ∨ i = 1 ∨ i = 2 ∨ i = 3 ∨ i = 4 ∨ i = 5 ∨ i = 6 ∨ i = 7 ∨ i = 8 ∨ i = 9 ∨ i = 10 ∨ i = 11 ∨ i = 12 by omega) with rfl | rfl | rfl | rfl | rfl | rfl | rfl | rfl | rfl | rfl | rfl | rfl | rfl
    · obtain rfl := Option.some.inj hi
      clear hi hlt
      intro a w1 hL hS hD
      have e12 : a.tmps.getD 12 undef = .slice (some ⟨b, off, none⟩) n c := (hS.slot 12 (by kernel_rfl)).trans s12
      refine step_yes rfl ?_
      exact ok_value Lat.refl (.slice (some ⟨b, off, none⟩) n c) (by simp [execOp, Act.eval, e12, go_sem]) (TV.mk rfl)
    · obtain rfl := Option.some.inj hi
      clear hi hlt
      intro a w1 hL hS hD
      have e12 : a.tmps.getD 12 undef = .slice (some ⟨b, off, none⟩) n c := (hS.slot 12 (by kernel_rfl)).trans s12
      refine step_yes rfl ?_
      exact ok_value Lat.refl (.slice (some ⟨b, off, none⟩) n c) (by simp [execOp, Act.eval, e12, go_sem]) (TV.mk rfl)
    · obtain rfl := Option.some.inj hi
      clear hi hlt
      intro a w1 hL hS hD
      have e15 : a.tmps.getD 15 undef = .int .i64 (i : Int) := (hS.slot 15 (by kernel_rfl)).trans s15
      refine step_yes rfl ?_
      exact ok_value Lat.refl (.int .i64 (i : Int)) (by simp [execOp, Act.eval, e15, go_sem]) (TV.mk rfl)
    · obtain rfl := Option.some.inj hi
      clear hi hlt
      intro a w1 hL hS hD
      have d1 : a.tmps.getD 86 undef = .slice (some ⟨b, off, none⟩) n c := hD ⟨1, .data⟩ (by simp) rfl _ rfl _ rfl
      have d2 : a.tmps.getD 87 undef = .int .i64 (i : Int) := hD ⟨2, .data⟩ (by simp) rfl _ rfl _ rfl
      refine step_yes rfl ?_
      exact ok_value Lat.refl (.pointer (some ⟨b, off + i * 2, none⟩)) (by simp [execOp, Act.eval, d1, d2, hin, hinN, go_sem]) (TV.mk rfl)
    · obtain rfl := Option.some.inj hi
      clear hi hlt
      intro a w1 hL hS hD
      have d3 : a.tmps.getD 88 undef = .pointer (some ⟨b, off + i * 2, none⟩) := hD ⟨3, .data⟩ (by simp) rfl _ rfl _ rfl
      refine step_yes rfl ?_
      exact ok_value Lat.refl (.pointer (some ⟨b, off + i * 2, none⟩)) (by simp [execOp, Act.eval, d3, go_sem]) (TV.mk rfl)
    · obtain rfl := Option.some.inj hi
      clear hi hlt
      intro a w1 hL hS hD
      have d4 : a.tmps.getD 89 undef = .pointer (some ⟨b, off + i * 2, none⟩) := hD ⟨4, .data⟩ (by simp) rfl _ rfl _ rfl
      refine step_yes rfl ?_
      exact ok_value Lat.refl (.string xn) (by simp [execOp, Act.eval, d4, c0 w1 hL, go_sem]) (TV.mk rfl)
    · obtain rfl := Option.some.inj hi
      clear hi hlt
      intro a w1 hL hS hD
      have d0 : a.tmps.getD 85 undef = .slice (some ⟨b, off, none⟩) n c := hD ⟨0, .data⟩ (by simp) rfl _ rfl _ rfl
      have d5 : a.tmps.getD 90 undef = .string xn := hD ⟨5, .data⟩ (by simp) rfl _ rfl _ rfl
      refine step_yes rfl ?_
      refine ok_call (f := 16) (args := #[.slice (some ⟨b, off, none⟩) n c, .string xn]) (by simp [execOp, resolve, Act.eval, d0, d5, go_sem]) ?_
      refine (hcall w1 hL).mono ?_
      rintro e w' ⟨rfl, hb⟩
      exact ⟨_, rfl, hb, TV.mk rfl⟩
    · obtain rfl := Option.some.inj hi
      clear hi hlt
      intro a w1 hL hS hD
      have e12 : a.tmps.getD 12 undef = .slice (some ⟨b, off, none⟩) n c := (hS.slot 12 (by kernel_rfl)).trans s12
      refine step_yes rfl ?_
      exact ok_value Lat.refl (.slice (some ⟨b, off, none⟩) n c) (by simp [execOp, Act.eval, e12, go_sem]) (TV.mk rfl)
    · obtain rfl := Option.some.inj hi
      clear hi hlt
      intro a w1 hL hS hD
      have e15 : a.tmps.getD 15 undef = .int .i64 (i : Int) := (hS.slot 15 (by kernel_rfl)).trans s15
      refine step_yes rfl ?_
      exact ok_value Lat.refl (.int .i64 (i : Int)) (by simp [execOp, Act.eval, e15, go_sem]) (TV.mk rfl)
    · obtain rfl := Option.some.inj hi
      clear hi hlt
      intro a w1 hL hS hD
      have d7 : a.tmps.getD 92 undef = .slice (some ⟨b, off, none⟩) n c := hD ⟨7, .data⟩ (by simp) rfl _ rfl _ rfl
      have d8 : a.tmps.getD 93 undef = .int .i64 (i : Int) := hD ⟨8, .data⟩ (by simp) rfl _ rfl _ rfl
      refine step_yes rfl ?_
      exact ok_value Lat.refl (.pointer (some ⟨b, off + i * 2, none⟩)) (by simp [execOp, Act.eval, d7, d8, hin, hinN, go_sem]) (TV.mk rfl)
    · obtain rfl := Option.some.inj hi
      clear hi hlt
      intro a w1 hL hS hD
      have d9 : a.tmps.getD 94 undef = .pointer (some ⟨b, off + i * 2, none⟩) := hD ⟨9, .data⟩ (by simp) rfl _ rfl _ rfl
      refine step_yes rfl ?_
      exact ok_value Lat.refl (.pointer (some ⟨b, off + i * 2 + 1, none⟩)) (by simp [execOp, Act.eval, d9, go_sem]) (TV.mk rfl)
    · obtain rfl := Option.some.inj hi
      clear hi hlt
      intro a w1 hL hS hD
      have d10 : a.tmps.getD 95 undef = .pointer (some ⟨b, off + i * 2 + 1, none⟩) := hD ⟨10, .data⟩ (by simp) rfl _ rfl _ rfl
      refine step_yes rfl ?_
      exact ok_value Lat.refl (.string xv) (by simp [execOp, Act.eval, d10, c1 w1 hL, go_sem]) (TV.mk rfl)
    · obtain rfl := Option.some.inj hi
      clear hi hlt
      intro a w1 hL hS hD
      have d6 : a.tmps.getD 91 undef = .string xv := hD ⟨6, .data⟩ (by simp) rfl _ rfl _ rfl
      have d11 : a.tmps.getD 96 undef = .string xv := hD ⟨11, .data⟩ (by simp) rfl _ rfl _ rfl
      refine step_yes rfl ?_
      exact ok_value Lat.refl (.bool false) (by simp [execOp, Act.eval, d6, d11, go_sem]) (TV.mk rfl)

end Go.Proofs.YtpdffdoogobhfaaDoor
