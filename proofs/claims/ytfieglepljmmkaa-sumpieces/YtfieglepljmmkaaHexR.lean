import Derived.Test.YtfieglepljmmkaaHex
import Derived.Test.YtfieglepljmmkaaAnyM
namespace Go.Proofs.Ytfieglepljmmkaa
open Go.RowKit
set_option linter.unusedVariables false

set_option maxRecDepth 100000 in
set_option maxHeartbeats 2000000 in
theorem unhex_r8 (g gp n i : Nat) (ca cb X : Int) (row : List Value) (w : World) (a0 : Act) (Q : Exit → Act → World → Prop) (hsz : a0.tmps.size = 50)
    (s4 : a0.tmps.getD 4 undef = .slice (some ⟨g, 0, none⟩) n n)
    (s5 : a0.tmps.getD 5 undef = .int .i64 (i : Int))
    (s6 : a0.tmps.getD 6 undef = .pointer (some ⟨gp, 0, none⟩))
    (hP : Blk w gp 62 [.int .u8 ca, .int .u8 cb]) (hG : Blk w g 5 row) (hin4 : i < row.length) (hin : i < n) (ha0 : 0 ≤ ca) (ha1 : ca ≤ 255) (hb0 : 0 ≤ cb) (hb1 : cb ≤ 255) (hX : bits .or .u8 (((dval ca : Nat) : Int) * 16) ((dval cb : Nat) : Int) = X)
    (hQ : ∀ (v30 v31 v32 v33 v34 v35 v36 v37 v38 v39 v40 : Value) (w1 : World), Lat w w1 → Q .normal (((((((((((a0.put (some 30) v30).put (some 31) v31).put (some 32) v32).put (some 33) v33).put (some 34) v34).put (some 35) v35).put (some 36) v36).put (some 37) v37).put (some 38) v38).put (some 39) v39).put (some 40) v40) (w1.setCell ⟨g, i, none⟩ (.int .u8 X))) :
    Code.wp Try.prog ((Try.f21.body.bind (findRegion 8)).getD .skip) Q a0 w := by
  conv => arg 2; whnf
  refine wp_region_last 11 Lat (TV [.slice (some ⟨g, 0, none⟩) n n, .int .i64 (i : Int), .pointer (some ⟨gp, 0, none⟩), .int .u8 ca, .int .u8 ((dval ca : Nat) : Int), .int .u8 ((dval ca : Nat) * 16 : Int), .pointer (some ⟨gp, 1, none⟩), .int .u8 cb, .int .u8 ((dval cb : Nat) : Int), .int .u8 X, .pointer (some ⟨g, i, none⟩)]) (by kernel_rfl) (by kernel_rfl) (by kernel_rfl) (by rw [hsz]; kernel_rfl) (by kernel_rfl) (by kernel_rfl) Lat.refl Lat.trans (TV.stable _) (Lat.draw w) ?hop ?hlast
  case hlast =>
    intro o a w1 ho hL hS hT
    obtain rfl := Option.some.inj ho
    have d10 : a.tmps.getD 40 undef = .pointer (some ⟨g, i, none⟩) := hT 10 _ (by omega) rfl _ rfl
    have d9 : a.tmps.getD 39 undef = .int .u8 X := hT 9 _ (by omega) rfl _ rfl
    have hc : ∃ v, w1.cell? ⟨g, i, none⟩ = some v := by
      rw [(hG.later hL).cell]
      exact ⟨_, List.getElem?_eq_getElem hin4⟩
    obtain ⟨v, hc⟩ := hc
    have hf := (hG.later hL).frozen i
    have he := same_puts hS
    have := hQ (a.tmps.getD 30 undef) (a.tmps.getD 31 undef) (a.tmps.getD 32 undef) (a.tmps.getD 33 undef) (a.tmps.getD 34 undef) (a.tmps.getD 35 undef) (a.tmps.getD 36 undef) (a.tmps.getD 37 undef) (a.tmps.getD 38 undef) (a.tmps.getD 39 undef) (a.tmps.getD 40 undef) w1 hL
    have hq : Q .normal a (w1.setCell ⟨g, i, none⟩ (.int .u8 X)) := by
      rw [he]
      exact this
    unfold Oper.wp
    simp [execOp, Act.eval, d10, d9, hc, hf, go_sem]
    exact hq
  case hop =>
    intro i o hlt hi
    rcases (show i = 0 ∨ i = 1 ∨ i = 2 ∨ i = 3 ∨ i = 4 ∨ i = 5 ∨ i = 6 ∨ i = 7 ∨ i = 8 ∨ i = 9 ∨ i = 10 by omega) with rfl | rfl | rfl | rfl | rfl | rfl | rfl | rfl | rfl | rfl | rfl
    · obtain rfl := Option.some.inj hi
      clear hi hlt
      intro a w1 hL hS hD
      have e4 : a.tmps.getD 4 undef = .slice (some ⟨g, 0, none⟩) n n := (hS.slot 4 (by kernel_rfl)).trans s4
      refine step_yes rfl ?_
      exact ok_value Lat.refl (.slice (some ⟨g, 0, none⟩) n n) (by simp [execOp, Act.eval, e4, go_sem]) (TV.mk rfl)
    · obtain rfl := Option.some.inj hi
      clear hi hlt
      intro a w1 hL hS hD
      have e5 : a.tmps.getD 5 undef = .int .i64 (i : Int) := (hS.slot 5 (by kernel_rfl)).trans s5
      refine step_yes rfl ?_
      exact ok_value Lat.refl (.int .i64 (i : Int)) (by simp [execOp, Act.eval, e5, go_sem]) (TV.mk rfl)
    · obtain rfl := Option.some.inj hi
      clear hi hlt
      intro a w1 hL hS hD
      have e6 : a.tmps.getD 6 undef = .pointer (some ⟨gp, 0, none⟩) := (hS.slot 6 (by kernel_rfl)).trans s6
      refine step_yes rfl ?_
      exact ok_value Lat.refl (.pointer (some ⟨gp, 0, none⟩)) (by simp [execOp, Act.eval, e6, go_sem]) (TV.mk rfl)
    · obtain rfl := Option.some.inj hi
      clear hi hlt
      intro a w1 hL hS hD
      have d2 : a.tmps.getD 32 undef = .pointer (some ⟨gp, 0, none⟩) := hD ⟨2, .data⟩ (by simp) rfl _ rfl _ rfl
      refine step_yes rfl ?_
      have hc : w1.cell? ⟨gp, 0, none⟩ = some (.int .u8 ca) := by rw [(hP.later hL).cell]; rfl
      exact ok_value Lat.refl (.int .u8 ca) (by simp [execOp, Act.eval, d2, hc, go_sem]) (TV.mk rfl)
    · obtain rfl := Option.some.inj hi
      clear hi hlt
      intro a w1 hL hS hD
      have d3 : a.tmps.getD 33 undef = .int .u8 ca := hD ⟨3, .data⟩ (by simp) rfl _ rfl _ rfl
      refine step_yes rfl ?_
      refine ok_call (f := 33) (args := #[.int .u8 ca]) (by simp [execOp, resolve, Act.eval, d3, go_sem]) ?_
      refine (digitValue_any ca w1 ha0 ha1).mono ?_
      rintro e w2 ⟨rfl, rfl⟩
      exact ⟨_, rfl, Lat.refl _, TV.mk rfl⟩
    · obtain rfl := Option.some.inj hi
      clear hi hlt
      intro a w1 hL hS hD
      have d4 : a.tmps.getD 34 undef = .int .u8 ((dval ca : Nat) : Int) := hD ⟨4, .data⟩ (by simp) rfl _ rfl _ rfl
      refine step_yes rfl ?_
      have hk : ((dval ca : Nat) : Int) < 16 := by have := dval_lt ca; omega
      have hk2 : IntKind.u8.wrap (((dval ca : Nat) : Int) * 16) = ((dval ca : Nat) : Int) * 16 := by rw [IntKind.wrap_u8]; omega
      exact ok_value Lat.refl (.int .u8 ((dval ca : Nat) * 16 : Int)) (by simp [execOp, Act.eval, d4, go_sem, hk2]) (TV.mk rfl)
    · obtain rfl := Option.some.inj hi
      clear hi hlt
      intro a w1 hL hS hD
      have e6 : a.tmps.getD 6 undef = .pointer (some ⟨gp, 0, none⟩) := (hS.slot 6 (by kernel_rfl)).trans s6
      refine step_yes rfl ?_
      exact ok_value Lat.refl (.pointer (some ⟨gp, 1, none⟩)) (by simp [execOp, Act.eval, e6, go_sem]) (TV.mk rfl)
    · obtain rfl := Option.some.inj hi
      clear hi hlt
      intro a w1 hL hS hD
      have d6 : a.tmps.getD 36 undef = .pointer (some ⟨gp, 1, none⟩) := hD ⟨6, .data⟩ (by simp) rfl _ rfl _ rfl
      refine step_yes rfl ?_
      have hc : w1.cell? ⟨gp, 1, none⟩ = some (.int .u8 cb) := by rw [(hP.later hL).cell]; rfl
      exact ok_value Lat.refl (.int .u8 cb) (by simp [execOp, Act.eval, d6, hc, go_sem]) (TV.mk rfl)
    · obtain rfl := Option.some.inj hi
      clear hi hlt
      intro a w1 hL hS hD
      have d7 : a.tmps.getD 37 undef = .int .u8 cb := hD ⟨7, .data⟩ (by simp) rfl _ rfl _ rfl
      refine step_yes rfl ?_
      refine ok_call (f := 33) (args := #[.int .u8 cb]) (by simp [execOp, resolve, Act.eval, d7, go_sem]) ?_
      refine (digitValue_any cb w1 hb0 hb1).mono ?_
      rintro e w2 ⟨rfl, rfl⟩
      exact ⟨_, rfl, Lat.refl _, TV.mk rfl⟩
    · obtain rfl := Option.some.inj hi
      clear hi hlt
      intro a w1 hL hS hD
      have d5 : a.tmps.getD 35 undef = .int .u8 ((dval ca : Nat) * 16 : Int) := hD ⟨5, .data⟩ (by simp) rfl _ rfl _ rfl
      have d8 : a.tmps.getD 38 undef = .int .u8 ((dval cb : Nat) : Int) := hD ⟨8, .data⟩ (by simp) rfl _ rfl _ rfl
      refine step_yes rfl ?_
      exact ok_value Lat.refl (.int .u8 X) (by simp [execOp, Act.eval, d5, d8, go_sem, hX]) (TV.mk rfl)
    · obtain rfl := Option.some.inj hi
      clear hi hlt
      intro a w1 hL hS hD
      have d0 : a.tmps.getD 30 undef = .slice (some ⟨g, 0, none⟩) n n := hD ⟨0, .data⟩ (by simp) rfl _ rfl _ rfl
      have d1 : a.tmps.getD 31 undef = .int .i64 (i : Int) := hD ⟨1, .data⟩ (by simp) rfl _ rfl _ rfl
      refine step_yes rfl ?_
      have hin2 : (i : Int) < (n : Int) := by omega
      have hin3 : (0 : Int) ≤ (i : Int) := by omega
      exact ok_value Lat.refl (.pointer (some ⟨g, i, none⟩)) (by simp [execOp, Act.eval, d0, d1, go_sem, hin2, hin3]) (TV.mk rfl)

set_option maxRecDepth 100000 in
set_option maxHeartbeats 2000000 in
theorem unhex_r9 (g gp n i : Nat) (ca cb X p q : Int) (row : List Value) (w : World) (a0 : Act) (Q : Exit → Act → World → Prop) (hsz : a0.tmps.size = 50)
    (s4 : a0.tmps.getD 4 undef = .slice (some ⟨g, 0, none⟩) n n)
    (s5 : a0.tmps.getD 5 undef = .int .i64 (i : Int))
    (s6 : a0.tmps.getD 6 undef = .pointer (some ⟨gp, 0, none⟩))
    (hP : Blk w gp 62 [.int .u8 ca, .int .u8 cb]) (hG : Blk w g 5 row) (hrow : row[i]? = some (.int .u8 X)) (hin : i < n)
    (h32 : ∀ w1, Calls Try.prog 32 #[.int .u8 X] w1 fun e w2 => e = .returned (.agg #[.int .u8 p, .int .u8 q]) ∧ Below w1.heap.size w1 w2)
    (hne : ∀ w1, (binOp .neq 62 (.agg #[.int .u8 ca, .int .u8 cb]) (.agg #[.int .u8 p, .int .u8 q])).run Try.prog w1 = .ok (.bool (!(ca == p && cb == q))) w1)
    (hQ : ∀ (v41 v42 v43 v44 v45 v46 : Value) (w1 : World), Lat w w1 → Q .normal (((((((a0.put (some 41) v41).put (some 42) v42).put (some 43) v43).put (some 44) v44).put (some 45) v45).put (some 46) v46).put (some 47) (.bool (!(ca == p && cb == q)))) w1) :
    Code.wp Try.prog ((Try.f21.body.bind (findRegion 9)).getD .skip) Q a0 w := by
  conv => arg 2; whnf
  refine wp_region_inv Lat (TV [.agg #[.int .u8 ca, .int .u8 cb], .slice (some ⟨g, 0, none⟩) n n, .int .i64 (i : Int), .pointer (some ⟨g, i, none⟩), .int .u8 X, .agg #[.int .u8 p, .int .u8 q], .bool (!(ca == p && cb == q))]) (by kernel_rfl) (by kernel_rfl) (by kernel_rfl) (by rw [hsz]; kernel_rfl) (by kernel_rfl) Lat.refl Lat.trans (TV.stable _) (Lat.draw w) ?hop ?hdone
  case hdone =>
    intro a w1 hL hS hT
    have he := same_puts hS
    have d6 : a.tmps.getD 47 undef = .bool (!(ca == p && cb == q)) := hT 6 _ rfl _ rfl
    have := hQ (a.tmps.getD 41 undef) (a.tmps.getD 42 undef) (a.tmps.getD 43 undef) (a.tmps.getD 44 undef) (a.tmps.getD 45 undef) (a.tmps.getD 46 undef) w1 hL
    rw [← d6] at this
    rw [he]
    exact this
  case hop =>
    intro i o hi
    have hlt : i < 7 := (Array.getElem?_eq_some_iff.1 hi).1
    rcases (show i = 0 ∨ i = 1 ∨ i = 2 ∨ i = 3 ∨ i = 4 ∨ i = 5 ∨ i = 6 by omega) with rfl | rfl | rfl | rfl | rfl | rfl | rfl
    · obtain rfl := Option.some.inj hi
      clear hi hlt
      intro a w1 hL hS hD
      have e6 : a.tmps.getD 6 undef = .pointer (some ⟨gp, 0, none⟩) := (hS.slot 6 (by kernel_rfl)).trans s6
      refine step_yes rfl ?_
      exact wp_load_mid 62 (.tmp 6) rfl gp 0 e6 [.int .u8 ca, .int .u8 cb] _ (hP.later hL).all Try.underlying62 rfl info62 ⟨_, rfl, Lat.refl _, TV.mk rfl⟩
    · obtain rfl := Option.some.inj hi
      clear hi hlt
      intro a w1 hL hS hD
      have e4 : a.tmps.getD 4 undef = .slice (some ⟨g, 0, none⟩) n n := (hS.slot 4 (by kernel_rfl)).trans s4
      refine step_yes rfl ?_
      exact ok_value Lat.refl (.slice (some ⟨g, 0, none⟩) n n) (by simp [execOp, Act.eval, e4, go_sem]) (TV.mk rfl)
    · obtain rfl := Option.some.inj hi
      clear hi hlt
      intro a w1 hL hS hD
      have e5 : a.tmps.getD 5 undef = .int .i64 (i : Int) := (hS.slot 5 (by kernel_rfl)).trans s5
      refine step_yes rfl ?_
      exact ok_value Lat.refl (.int .i64 (i : Int)) (by simp [execOp, Act.eval, e5, go_sem]) (TV.mk rfl)
    · obtain rfl := Option.some.inj hi
      clear hi hlt
      intro a w1 hL hS hD
      have d1 : a.tmps.getD 42 undef = .slice (some ⟨g, 0, none⟩) n n := hD ⟨1, .data⟩ (by simp) rfl _ rfl _ rfl
      have d2 : a.tmps.getD 43 undef = .int .i64 (i : Int) := hD ⟨2, .data⟩ (by simp) rfl _ rfl _ rfl
      refine step_yes rfl ?_
      have hin2 : (i : Int) < (n : Int) := by omega
      have hin3 : (0 : Int) ≤ (i : Int) := by omega
      exact ok_value Lat.refl (.pointer (some ⟨g, i, none⟩)) (by simp [execOp, Act.eval, d1, d2, go_sem, hin2, hin3]) (TV.mk rfl)
    · obtain rfl := Option.some.inj hi
      clear hi hlt
      intro a w1 hL hS hD
      have d3 : a.tmps.getD 44 undef = .pointer (some ⟨g, i, none⟩) := hD ⟨3, .data⟩ (by simp) rfl _ rfl _ rfl
      refine step_yes rfl ?_
      have hc : w1.cell? ⟨g, i, none⟩ = some (.int .u8 X) := by rw [(hG.later hL).cell, hrow]
      exact ok_value Lat.refl (.int .u8 X) (by simp [execOp, Act.eval, d3, hc, go_sem]) (TV.mk rfl)
    · obtain rfl := Option.some.inj hi
      clear hi hlt
      intro a w1 hL hS hD
      have d4 : a.tmps.getD 45 undef = .int .u8 X := hD ⟨4, .data⟩ (by simp) rfl _ rfl _ rfl
      refine step_yes rfl ?_
      refine ok_call (f := 32) (args := #[.int .u8 X]) (by simp [execOp, resolve, Act.eval, d4, go_sem]) ?_
      refine (h32 w1).mono ?_
      rintro e w2 ⟨rfl, hb⟩
      exact ⟨_, rfl, hb, TV.mk rfl⟩
    · obtain rfl := Option.some.inj hi
      clear hi hlt
      intro a w1 hL hS hD
      have d0 : a.tmps.getD 41 undef = .agg #[.int .u8 ca, .int .u8 cb] := hD ⟨0, .data⟩ (by simp) rfl _ rfl _ rfl
      have d5 : a.tmps.getD 46 undef = .agg #[.int .u8 p, .int .u8 q] := hD ⟨5, .data⟩ (by simp) rfl _ rfl _ rfl
      refine step_yes rfl ?_
      exact ok_value Lat.refl (.bool (!(ca == p && cb == q))) (by simp [execOp, Act.eval, d0, d5, hne, go_sem]) (TV.mk rfl)

end Go.Proofs.Ytfieglepljmmkaa
