import Derived.Test.YtfieglepljmmkaaChecked
import Derived.Test.YtfieglepljmmkaaAnyM
namespace Go.Proofs.Ytfieglepljmmkaa
open Go.RowKit
set_option linter.unusedVariables false

set_option maxRecDepth 100000 in
set_option maxHeartbeats 2000000 in
theorem turned_r12 (gc len c2 n i j k e v E Y : Nat) (w : World) (a0 : Act) (Q : Exit → Act → World → Prop) (hsz : a0.tmps.size = 89)
    (s9 : a0.tmps.getD 9 undef = .slice (some ⟨gc, 0, none⟩) len c2)
    (s8 : a0.tmps.getD 8 undef = .int .i64 (n : Int))
    (s10 : a0.tmps.getD 10 undef = .int .i64 (i : Int))
    (hj : (n : Int) + (i : Int) = (j : Int)) (hw : IntKind.i64.wrap (j : Int) = (j : Int)) (hq : (j : Int).tdiv 8 = (k : Int)) (hwk : IntKind.i64.wrap (k : Int) = (k : Int)) (hr : (j : Int).tmod 8 = (e : Int)) (hwe : IntKind.i64.wrap (e : Int) = (e : Int)) (hk0 : (0 : Int) ≤ (k : Int)) (hk1 : (k : Int) < (len : Int))
    (hsh : IntKind.u8.wrap (2 ^ min e 8) = (E : Int)) (hxor : bits .xor .u8 (v : Int) (E : Int) = (Y : Int))
    (hcell : ∀ w1, Lat w w1 → w1.cell? ⟨gc, k, none⟩ = some (.int .u8 (v : Int))) (hfr : ∀ w1, Lat w w1 → w1.frozen? ⟨gc, k, none⟩ = false)
    (hQ : ∀ (v48 v49 v50 v51 v52 v53 v54 v55 v56 v57 v58 v59 v60 v61 v62 v63 v64 v65 v66 : Value) (w1 : World), Lat w w1 → Q .normal (((((((((((((((((((a0.put (some 48) v48).put (some 49) v49).put (some 50) v50).put (some 51) v51).put (some 52) v52).put (some 53) v53).put (some 54) v54).put (some 55) v55).put (some 56) v56).put (some 57) v57).put (some 58) v58).put (some 59) v59).put (some 60) v60).put (some 61) v61).put (some 62) v62).put (some 63) v63).put (some 64) v64).put (some 65) v65).put (some 66) v66) (w1.setCell ⟨gc, k, none⟩ (.int .u8 (Y : Int)))) :
    Code.wp Try.prog ((Try.f6.body.bind (findRegion 12)).getD .skip) Q a0 w := by
  conv => arg 2; whnf
  refine wp_region_last 19 Lat (TV [.slice (some ⟨gc, 0, none⟩) len c2, .int .i64 (n : Int), .int .i64 (i : Int), .int .i64 (j : Int), .int .i64 (k : Int), .slice (some ⟨gc, 0, none⟩) len c2, .int .i64 (n : Int), .int .i64 (i : Int), .int .i64 (j : Int), .int .i64 (k : Int), .pointer (some ⟨gc, k, none⟩), .int .u8 (v : Int), .int .i64 (n : Int), .int .i64 (i : Int), .int .i64 (j : Int), .int .i64 (e : Int), .int .u8 (E : Int), .int .u8 (Y : Int), .pointer (some ⟨gc, k, none⟩)]) (by kernel_rfl) (by kernel_rfl) (by kernel_rfl) (by rw [hsz]; kernel_rfl) (by kernel_rfl) (by kernel_rfl) Lat.refl Lat.trans (TV.stable _) (Lat.draw w) ?hop ?hlast
  case hlast =>
    intro o a w1 ho hL hS hT
    obtain rfl := Option.some.inj ho
    have d18 : a.tmps.getD 66 undef = .pointer (some ⟨gc, k, none⟩) := hT 18 _ (by omega) rfl _ rfl
    have d17 : a.tmps.getD 65 undef = .int .u8 (Y : Int) := hT 17 _ (by omega) rfl _ rfl
    have hc := hcell w1 hL
    have hf := hfr w1 hL
    have he := same_puts hS
    have := hQ (a.tmps.getD 48 undef) (a.tmps.getD 49 undef) (a.tmps.getD 50 undef) (a.tmps.getD 51 undef) (a.tmps.getD 52 undef) (a.tmps.getD 53 undef) (a.tmps.getD 54 undef) (a.tmps.getD 55 undef) (a.tmps.getD 56 undef) (a.tmps.getD 57 undef) (a.tmps.getD 58 undef) (a.tmps.getD 59 undef) (a.tmps.getD 60 undef) (a.tmps.getD 61 undef) (a.tmps.getD 62 undef) (a.tmps.getD 63 undef) (a.tmps.getD 64 undef) (a.tmps.getD 65 undef) (a.tmps.getD 66 undef) w1 hL
    have hq : Q .normal a (w1.setCell ⟨gc, k, none⟩ (.int .u8 (Y : Int))) := by
      rw [he]
      exact this
    unfold Oper.wp
    simp [execOp, Act.eval, d18, d17, hc, hf, go_sem]
    exact hq
  case hop =>
    intro i o hlt hi
    rcases (show i = 0 ∨ i = 1 ∨ i = 2 ∨ i = 3 ∨ i = 4 ∨ i = 5 ∨ i = 6 ∨ i = 7 ∨ i = 8 ∨ i = 9 ∨ i = 10 ∨ i = 11 ∨ i = 12 ∨ i = 13 ∨ i = 14 ∨ i = 15 ∨ i = 16 ∨ i = 17 ∨ i = 18 by omega) with rfl | rfl | rfl | rfl | rfl | rfl | rfl | rfl | rfl | rfl | rfl | rfl | rfl | rfl | rfl | rfl | rfl | rfl | rfl
    · obtain rfl := Option.some.inj hi
      clear hi hlt
      intro a w1 hL hS hD
      have e9 : a.tmps.getD 9 undef = .slice (some ⟨gc, 0, none⟩) len c2 := (hS.slot 9 (by kernel_rfl)).trans s9
      refine step_yes rfl ?_
      exact ok_value Lat.refl (.slice (some ⟨gc, 0, none⟩) len c2) (by simp [execOp, Act.eval, e9, go_sem]) (TV.mk rfl)
    · obtain rfl := Option.some.inj hi
      clear hi hlt
      intro a w1 hL hS hD
      have e8 : a.tmps.getD 8 undef = .int .i64 (n : Int) := (hS.slot 8 (by kernel_rfl)).trans s8
      refine step_yes rfl ?_
      exact ok_value Lat.refl (.int .i64 (n : Int)) (by simp [execOp, Act.eval, e8, go_sem]) (TV.mk rfl)
    · obtain rfl := Option.some.inj hi
      clear hi hlt
      intro a w1 hL hS hD
      have e10 : a.tmps.getD 10 undef = .int .i64 (i : Int) := (hS.slot 10 (by kernel_rfl)).trans s10
      refine step_yes rfl ?_
      exact ok_value Lat.refl (.int .i64 (i : Int)) (by simp [execOp, Act.eval, e10, go_sem]) (TV.mk rfl)
    · obtain rfl := Option.some.inj hi
      clear hi hlt
      intro a w1 hL hS hD
      have d1 : a.tmps.getD 49 undef = .int .i64 (n : Int) := hD ⟨1, .data⟩ (by simp) rfl _ rfl _ rfl
      have d2 : a.tmps.getD 50 undef = .int .i64 (i : Int) := hD ⟨2, .data⟩ (by simp) rfl _ rfl _ rfl
      refine step_yes rfl ?_
      exact ok_value Lat.refl (.int .i64 (j : Int)) (by simp [execOp, Act.eval, d1, d2, hj, hw, go_sem]) (TV.mk rfl)
    · obtain rfl := Option.some.inj hi
      clear hi hlt
      intro a w1 hL hS hD
      have d3 : a.tmps.getD 51 undef = .int .i64 (j : Int) := hD ⟨3, .data⟩ (by simp) rfl _ rfl _ rfl
      refine step_yes rfl ?_
      exact ok_value Lat.refl (.int .i64 (k : Int)) (by simp [execOp, Act.eval, d3, hq, hwk, go_sem]) (TV.mk rfl)
    · obtain rfl := Option.some.inj hi
      clear hi hlt
      intro a w1 hL hS hD
      have e9 : a.tmps.getD 9 undef = .slice (some ⟨gc, 0, none⟩) len c2 := (hS.slot 9 (by kernel_rfl)).trans s9
      refine step_yes rfl ?_
      exact ok_value Lat.refl (.slice (some ⟨gc, 0, none⟩) len c2) (by simp [execOp, Act.eval, e9, go_sem]) (TV.mk rfl)
    · obtain rfl := Option.some.inj hi
      clear hi hlt
      intro a w1 hL hS hD
      have e8 : a.tmps.getD 8 undef = .int .i64 (n : Int) := (hS.slot 8 (by kernel_rfl)).trans s8
      refine step_yes rfl ?_
      exact ok_value Lat.refl (.int .i64 (n : Int)) (by simp [execOp, Act.eval, e8, go_sem]) (TV.mk rfl)
    · obtain rfl := Option.some.inj hi
      clear hi hlt
      intro a w1 hL hS hD
      have e10 : a.tmps.getD 10 undef = .int .i64 (i : Int) := (hS.slot 10 (by kernel_rfl)).trans s10
      refine step_yes rfl ?_
      exact ok_value Lat.refl (.int .i64 (i : Int)) (by simp [execOp, Act.eval, e10, go_sem]) (TV.mk rfl)
    · obtain rfl := Option.some.inj hi
      clear hi hlt
      intro a w1 hL hS hD
      have d6 : a.tmps.getD 54 undef = .int .i64 (n : Int) := hD ⟨6, .data⟩ (by simp) rfl _ rfl _ rfl
      have d7 : a.tmps.getD 55 undef = .int .i64 (i : Int) := hD ⟨7, .data⟩ (by simp) rfl _ rfl _ rfl
      refine step_yes rfl ?_
      exact ok_value Lat.refl (.int .i64 (j : Int)) (by simp [execOp, Act.eval, d6, d7, hj, hw, go_sem]) (TV.mk rfl)
    · obtain rfl := Option.some.inj hi
      clear hi hlt
      intro a w1 hL hS hD
      have d8 : a.tmps.getD 56 undef = .int .i64 (j : Int) := hD ⟨8, .data⟩ (by simp) rfl _ rfl _ rfl
      refine step_yes rfl ?_
      exact ok_value Lat.refl (.int .i64 (k : Int)) (by simp [execOp, Act.eval, d8, hq, hwk, go_sem]) (TV.mk rfl)
    · obtain rfl := Option.some.inj hi
      clear hi hlt
      intro a w1 hL hS hD
      have d5 : a.tmps.getD 53 undef = .slice (some ⟨gc, 0, none⟩) len c2 := hD ⟨5, .data⟩ (by simp) rfl _ rfl _ rfl
      have d9 : a.tmps.getD 57 undef = .int .i64 (k : Int) := hD ⟨9, .data⟩ (by simp) rfl _ rfl _ rfl
      refine step_yes rfl ?_
      exact ok_value Lat.refl (.pointer (some ⟨gc, k, none⟩)) (by simp [execOp, Act.eval, d5, d9, hk1, hk0, go_sem]) (TV.mk rfl)
    · obtain rfl := Option.some.inj hi
      clear hi hlt
      intro a w1 hL hS hD
      have d10 : a.tmps.getD 58 undef = .pointer (some ⟨gc, k, none⟩) := hD ⟨10, .data⟩ (by simp) rfl _ rfl _ rfl
      refine step_yes rfl ?_
      have hc := hcell w1 hL
      exact ok_value Lat.refl (.int .u8 (v : Int)) (by simp [execOp, Act.eval, d10, hc, go_sem]) (TV.mk rfl)
    · obtain rfl := Option.some.inj hi
      clear hi hlt
      intro a w1 hL hS hD
      have e8 : a.tmps.getD 8 undef = .int .i64 (n : Int) := (hS.slot 8 (by kernel_rfl)).trans s8
      refine step_yes rfl ?_
      exact ok_value Lat.refl (.int .i64 (n : Int)) (by simp [execOp, Act.eval, e8, go_sem]) (TV.mk rfl)
    · obtain rfl := Option.some.inj hi
      clear hi hlt
      intro a w1 hL hS hD
      have e10 : a.tmps.getD 10 undef = .int .i64 (i : Int) := (hS.slot 10 (by kernel_rfl)).trans s10
      refine step_yes rfl ?_
      exact ok_value Lat.refl (.int .i64 (i : Int)) (by simp [execOp, Act.eval, e10, go_sem]) (TV.mk rfl)
    · obtain rfl := Option.some.inj hi
      clear hi hlt
      intro a w1 hL hS hD
      have d12 : a.tmps.getD 60 undef = .int .i64 (n : Int) := hD ⟨12, .data⟩ (by simp) rfl _ rfl _ rfl
      have d13 : a.tmps.getD 61 undef = .int .i64 (i : Int) := hD ⟨13, .data⟩ (by simp) rfl _ rfl _ rfl
      refine step_yes rfl ?_
      exact ok_value Lat.refl (.int .i64 (j : Int)) (by simp [execOp, Act.eval, d12, d13, hj, hw, go_sem]) (TV.mk rfl)
    · obtain rfl := Option.some.inj hi
      clear hi hlt
      intro a w1 hL hS hD
      have d14 : a.tmps.getD 62 undef = .int .i64 (j : Int) := hD ⟨14, .data⟩ (by simp) rfl _ rfl _ rfl
      refine step_yes rfl ?_
      exact ok_value Lat.refl (.int .i64 (e : Int)) (by simp [execOp, Act.eval, d14, hr, go_sem]) (TV.mk rfl)
    · obtain rfl := Option.some.inj hi
      clear hi hlt
      intro a w1 hL hS hD
      have d15 : a.tmps.getD 63 undef = .int .i64 (e : Int) := hD ⟨15, .data⟩ (by simp) rfl _ rfl _ rfl
      refine step_yes rfl ?_
      exact ok_value Lat.refl (.int .u8 (E : Int)) (by simp [execOp, Act.eval, d15, hsh, go_sem]) (TV.mk rfl)
    · obtain rfl := Option.some.inj hi
      clear hi hlt
      intro a w1 hL hS hD
      have d11 : a.tmps.getD 59 undef = .int .u8 (v : Int) := hD ⟨11, .data⟩ (by simp) rfl _ rfl _ rfl
      have d16 : a.tmps.getD 64 undef = .int .u8 (E : Int) := hD ⟨16, .data⟩ (by simp) rfl _ rfl _ rfl
      refine step_yes rfl ?_
      exact ok_value Lat.refl (.int .u8 (Y : Int)) (by simp [execOp, Act.eval, d11, d16, hxor, go_sem]) (TV.mk rfl)
    · obtain rfl := Option.some.inj hi
      clear hi hlt
      intro a w1 hL hS hD
      have d0 : a.tmps.getD 48 undef = .slice (some ⟨gc, 0, none⟩) len c2 := hD ⟨0, .data⟩ (by simp) rfl _ rfl _ rfl
      have d4 : a.tmps.getD 52 undef = .int .i64 (k : Int) := hD ⟨4, .data⟩ (by simp) rfl _ rfl _ rfl
      refine step_yes rfl ?_
      exact ok_value Lat.refl (.pointer (some ⟨gc, k, none⟩)) (by simp [execOp, Act.eval, d0, d4, hk1, hk0, go_sem]) (TV.mk rfl)

end Go.Proofs.Ytfieglepljmmkaa
