import Derived.Test.YtgmcfejmhlglkaaKpB
namespace Go.Proofs.Ytgmcfejmhlglkaa
open Go.RowKit
set_option linter.unusedVariables false
set_option linter.unusedSimpArgs false

set_option maxRecDepth 100000 in
set_option maxHeartbeats 2000000 in
theorem keeps_r24 (b off len0 cap0 i lb f m m1 t : Nat) (nd : Int) (sv : ByteArray) (w : World) (a0 : Act) (Q : Exit → Act → World → Prop) (hsz : a0.tmps.size = 327)
    (s0 : a0.tmps.getD 0 undef = .slice (some ⟨b, off, none⟩) len0 cap0)
    (s12 : a0.tmps.getD 12 undef = .int .i64 (i : Int))
    (s15 : a0.tmps.getD 15 undef = .pointer (some ⟨lb, f * 2, none⟩))
    (hi : i < len0) (hii : (i : Int) < (len0 : Int)) (hlen : len0 ≤ 9223372036854775807) (hss : sv.size = m) (hm : (m1 : Int) ≤ 1099511627776) (hw64 : IntKind.i64.wrap (m1 : Int) = (m1 : Int)) (hwr : (m : Int) + 1 = (m1 : Int))
    (hc2 : ∀ w1, Lat w w1 → w1.cell? ⟨b, off + i * 3 + 2, none⟩ = some (.int .i64 nd))
    (he0 : ∀ w1, Lat w w1 → w1.cell? ⟨lb, f * 2, none⟩ = some (.string sv))
    (h11 : ∀ w1, Calls Try.prog 11 #[.int .i64 nd, .int .i64 (m1 : Int)] w1 fun e w2 => e = .returned (.int .i64 (t : Int)) ∧ w2 = w1)
    (hQ : ∀ (v110 v111 v112 v113 v114 v115 v116 v117 v118 v119 v120 v121 : Value) (w1 : World), Lat w w1 → Q .normal (((((((((((((a0.put (some 110) v110).put (some 111) v111).put (some 112) v112).put (some 113) v113).put (some 114) v114).put (some 115) v115).put (some 116) v116).put (some 117) v117).put (some 118) v118).put (some 119) v119).put (some 120) v120).put (some 121) v121).put (some 14) (.int .i64 (t : Int))) w1) :
    Code.wp Try.prog ((Try.f4.body.bind (findRegion 24)).getD .skip) Q a0 w := by
  conv => arg 2; whnf
  refine wp_region_inv Lat (TV [.slice (some ⟨b, off, none⟩) len0 cap0, .int .i64 (i : Int), .pointer (some ⟨b, off + i * 3, none⟩), .pointer (some ⟨b, off + i * 3 + 2, none⟩), .int .i64 nd, .pointer (some ⟨lb, f * 2, none⟩), .pointer (some ⟨lb, f * 2, none⟩), .pointer (some ⟨lb, f * 2, none⟩), .string sv, .int .i64 (m : Int), .int .i64 (m1 : Int), .int .i64 (t : Int), .int .i64 (t : Int)]) (by kernel_rfl) (by kernel_rfl) (by kernel_rfl) (by rw [hsz]; kernel_rfl) (by kernel_rfl) Lat.refl Lat.trans (TV.stable _) (Lat.draw w) ?hop ?hdone
  case hdone =>
    intro a w1 hL hS hT
    have k14 : a.tmps.getD 14 undef = .int .i64 (t : Int) := hT 12 _ rfl _ rfl
    have he := same_puts hS
    have hQ2 := hQ (a.tmps.getD 110 undef) (a.tmps.getD 111 undef) (a.tmps.getD 112 undef) (a.tmps.getD 113 undef) (a.tmps.getD 114 undef) (a.tmps.getD 115 undef) (a.tmps.getD 116 undef) (a.tmps.getD 117 undef) (a.tmps.getD 118 undef) (a.tmps.getD 119 undef) (a.tmps.getD 120 undef) (a.tmps.getD 121 undef) w1 hL
    rw [← k14] at hQ2
    rw [he]
    exact hQ2
  case hop =>
    intro i o hi
    have hlt : i < 13 := (Array.getElem?_eq_some_iff.1 hi).1
    rcases (show i = 0 ∨ i = 1 ∨ i = 2 ∨ i = 3 ∨ i = 4 ∨ i = 5 ∨ i = 6 ∨ i = 7 ∨ i = 8 ∨ i = 9 ∨ i = 10 ∨ i = 11 ∨ i = 12 by omega) with rfl | rfl | rfl | rfl | rfl | rfl | rfl | rfl | rfl | rfl | rfl | rfl | rfl
    · obtain rfl := Option.some.inj hi
      clear hi hlt
      intro a w1 hL hS hD
      have e0 : a.tmps.getD 0 undef = .slice (some ⟨b, off, none⟩) len0 cap0 := (hS.slot 0 (by kernel_rfl)).trans s0
      refine step_yes rfl ?_
      exact ok_value Lat.refl (.slice (some ⟨b, off, none⟩) len0 cap0) (by simp [execOp, Act.eval, e0, go_sem]) (TV.mk rfl)
    · obtain rfl := Option.some.inj hi
      clear hi hlt
      intro a w1 hL hS hD
      have e12 : a.tmps.getD 12 undef = .int .i64 (i : Int) := (hS.slot 12 (by kernel_rfl)).trans s12
      refine step_yes rfl ?_
      exact ok_value Lat.refl (.int .i64 (i : Int)) (by simp [execOp, Act.eval, e12, go_sem]) (TV.mk rfl)
    · obtain rfl := Option.some.inj hi
      clear hi hlt
      intro a w1 hL hS hD
      have d0 : a.tmps.getD 110 undef = .slice (some ⟨b, off, none⟩) len0 cap0 := hD ⟨0, .data⟩ (by simp) rfl _ rfl _ rfl
      have d1 : a.tmps.getD 111 undef = .int .i64 (i : Int) := hD ⟨1, .data⟩ (by simp) rfl _ rfl _ rfl
      refine step_yes rfl ?_
      exact ok_value Lat.refl (.pointer (some ⟨b, off + i * 3, none⟩)) (by simp [execOp, Act.eval, d0, d1, hi, hii, hlen, go_sem]) (TV.mk rfl)
    · obtain rfl := Option.some.inj hi
      clear hi hlt
      intro a w1 hL hS hD
      have d2 : a.tmps.getD 112 undef = .pointer (some ⟨b, off + i * 3, none⟩) := hD ⟨2, .data⟩ (by simp) rfl _ rfl _ rfl
      refine step_yes rfl ?_
      exact ok_value Lat.refl (.pointer (some ⟨b, off + i * 3 + 2, none⟩)) (by simp [execOp, Act.eval, d2, go_sem]) (TV.mk rfl)
    · obtain rfl := Option.some.inj hi
      clear hi hlt
      intro a w1 hL hS hD
      have d3 : a.tmps.getD 113 undef = .pointer (some ⟨b, off + i * 3 + 2, none⟩) := hD ⟨3, .data⟩ (by simp) rfl _ rfl _ rfl
      refine step_yes rfl ?_
      exact ok_value Lat.refl (.int .i64 nd) (by simp [execOp, Act.eval, d3, hc2 w1 hL, go_sem]) (TV.mk rfl)
    · obtain rfl := Option.some.inj hi
      clear hi hlt
      intro a w1 hL hS hD
      have e15 : a.tmps.getD 15 undef = .pointer (some ⟨lb, f * 2, none⟩) := (hS.slot 15 (by kernel_rfl)).trans s15
      refine step_yes rfl ?_
      exact ok_value Lat.refl (.pointer (some ⟨lb, f * 2, none⟩)) (by simp [execOp, Act.eval, e15, go_sem]) (TV.mk rfl)
    · obtain rfl := Option.some.inj hi
      clear hi hlt
      intro a w1 hL hS hD
      have d5 : a.tmps.getD 115 undef = .pointer (some ⟨lb, f * 2, none⟩) := hD ⟨5, .data⟩ (by simp) rfl _ rfl _ rfl
      refine step_yes rfl ?_
      exact ok_value Lat.refl (.pointer (some ⟨lb, f * 2, none⟩)) (by simp [execOp, Act.eval, d5, go_sem]) (TV.mk rfl)
    · obtain rfl := Option.some.inj hi
      clear hi hlt
      intro a w1 hL hS hD
      have d6 : a.tmps.getD 116 undef = .pointer (some ⟨lb, f * 2, none⟩) := hD ⟨6, .data⟩ (by simp) rfl _ rfl _ rfl
      refine step_yes rfl ?_
      exact ok_value Lat.refl (.pointer (some ⟨lb, f * 2, none⟩)) (by simp [execOp, Act.eval, d6, go_sem]) (TV.mk rfl)
    · obtain rfl := Option.some.inj hi
      clear hi hlt
      intro a w1 hL hS hD
      have d7 : a.tmps.getD 117 undef = .pointer (some ⟨lb, f * 2, none⟩) := hD ⟨7, .data⟩ (by simp) rfl _ rfl _ rfl
      refine step_yes rfl ?_
      exact ok_value Lat.refl (.string sv) (by simp [execOp, Act.eval, d7, he0 w1 hL, go_sem]) (TV.mk rfl)
    · obtain rfl := Option.some.inj hi
      clear hi hlt
      intro a w1 hL hS hD
      have d8 : a.tmps.getD 118 undef = .string sv := hD ⟨8, .data⟩ (by simp) rfl _ rfl _ rfl
      refine step_yes rfl ?_
      exact ok_value Lat.refl (.int .i64 (m : Int)) (by simp [execOp, Act.eval, d8, hss, go_sem]) (TV.mk rfl)
    · obtain rfl := Option.some.inj hi
      clear hi hlt
      intro a w1 hL hS hD
      have d9 : a.tmps.getD 119 undef = .int .i64 (m : Int) := hD ⟨9, .data⟩ (by simp) rfl _ rfl _ rfl
      refine step_yes rfl ?_
      exact ok_value Lat.refl (.int .i64 (m1 : Int)) (by simp [execOp, Act.eval, d9, hwr, hw64, go_sem]) (TV.mk rfl)
    · obtain rfl := Option.some.inj hi
      clear hi hlt
      intro a w1 hL hS hD
      have d4 : a.tmps.getD 114 undef = .int .i64 nd := hD ⟨4, .data⟩ (by simp) rfl _ rfl _ rfl
      have d10 : a.tmps.getD 120 undef = .int .i64 (m1 : Int) := hD ⟨10, .data⟩ (by simp) rfl _ rfl _ rfl
      refine step_yes rfl ?_
      refine ok_call (f := 11) (args := #[.int .i64 nd, .int .i64 (m1 : Int)]) (by simp [execOp, resolve, Act.eval, d4, d10, go_sem]) ?_
      refine (h11 w1).mono ?_
      rintro e w2 ⟨rfl, rfl⟩
      exact ⟨_, rfl, Lat.refl _, TV.mk rfl⟩
    · obtain rfl := Option.some.inj hi
      clear hi hlt
      intro a w1 hL hS hD
      have d11 : a.tmps.getD 121 undef = .int .i64 (t : Int) := hD ⟨11, .data⟩ (by simp) rfl _ rfl _ rfl
      refine step_yes rfl ?_
      exact ok_value Lat.refl (.int .i64 (t : Int)) (by simp [execOp, Act.eval, d11, go_sem]) (TV.mk rfl)

end Go.Proofs.Ytgmcfejmhlglkaa
