/-
  QuotaPlays: regions of its walk that draw their order.
-/
import Derived.Test.YthkmbodpboplfaaQsD
import Derived.Test.YthkmbodpboplfaaAnyW
namespace Go.Proofs.Ythkmbodpboplfaa
open Go.RowKit
set_option linter.unusedVariables false
set_option linter.unusedSimpArgs false

theorem wp_val {P : Program} {Q : Exit → Act → World → Prop} {K : Act → World → Prop} {o : Oper} {a : Act} {w w' : World} (v : Value) (h : (execOp a.eval o).run P w = .ok (.value v) w') (hk : K (a.put o.dst v) w') : o.wp P a w K Q := by
  unfold Oper.wp
  rw [h]
  exact hk
theorem put_comm (a : Act) (d e : Tmp) (v u : Value) (h : d ≠ e) : (a.put (some d) v).put (some e) u = (a.put (some e) u).put (some d) v := by
  cases a
  simp only [Act.put, Act.mk.injEq, and_true]
  exact (Array.setIfInBounds_comm _ _ h)
theorem put_size (a : Act) (d : Tmp) (v : Value) : (a.put (some d) v).tmps.size = a.tmps.size := by
  cases a
  simp [Act.put]
theorem wrap1 : IntKind.i64.wrap 1 = 1 := by decide
theorem wrap0 : IntKind.i64.wrap 0 = 0 := by decide

set_option maxRecDepth 100000 in
set_option maxHeartbeats 2000000 in
theorem plays_r10_0 (g ob p1 q1 p2 q2 : Nat) (s : ByteArray) (kk on n xx yy m1 m2 m3 m4 m5 : Int) (R : Value → World → Prop) (w : World) (a0 : Act) (Q : Exit → Act → World → Prop) (hsz : a0.tmps.size = 89)
    (s4 : a0.tmps.getD 4 undef = .slice (some ⟨g, 0, none⟩) 2 2)
    (s6 : a0.tmps.getD 6 undef = .pointer (some ⟨ob, 0, none⟩))
    (s7 : a0.tmps.getD 7 undef = .int .i64 0)
    (g0 : ∀ w1, Lat w w1 → w1.cell? ⟨g, 0, none⟩ = some (.pointer (some ⟨p1, 0, none⟩)))
    (g1 : ∀ w1, Lat w w1 → w1.cell? ⟨g, 1, none⟩ = some (.pointer (some ⟨q1, 0, none⟩)))
    (g2 : ∀ w1, Lat w w1 → w1.cell? ⟨g, 2, none⟩ = some (.pointer (some ⟨p2, 0, none⟩)))
    (g3 : ∀ w1, Lat w w1 → w1.cell? ⟨g, 3, none⟩ = some (.pointer (some ⟨q2, 0, none⟩)))
    (o0 : ∀ w1, Lat w w1 → w1.cell? ⟨ob, 0, none⟩ = some (.int .i64 kk))
    (o1 : ∀ w1, Lat w w1 → w1.cell? ⟨ob, 1, none⟩ = some (.int .i64 on))
    (o2 : ∀ w1, Lat w w1 → w1.cell? ⟨ob, 2, none⟩ = some (.string s))
    (o3 : ∀ w1, Lat w w1 → w1.cell? ⟨ob, 3, none⟩ = some (.int .i64 n))
    (o4 : ∀ w1, Lat w w1 → w1.cell? ⟨ob, 4, none⟩ = some (.int .i64 xx))
    (o5 : ∀ w1, Lat w w1 → w1.cell? ⟨ob, 5, none⟩ = some (.int .i64 yy))
    (o6 : ∀ w1, Lat w w1 → w1.cell? ⟨ob, 6, none⟩ = some (.int .i64 m1))
    (o7 : ∀ w1, Lat w w1 → w1.cell? ⟨ob, 7, none⟩ = some (.int .i64 m2))
    (o8 : ∀ w1, Lat w w1 → w1.cell? ⟨ob, 8, none⟩ = some (.int .i64 m3))
    (o9 : ∀ w1, Lat w w1 → w1.cell? ⟨ob, 9, none⟩ = some (.int .i64 m4))
    (o10 : ∀ w1, Lat w w1 → w1.cell? ⟨ob, 10, none⟩ = some (.int .i64 m5))
    (hcall : ∀ w1, Lat w w1 → Calls Try.prog 9 #[.agg #[.pointer (some ⟨p1, 0, none⟩), .pointer (some ⟨q1, 0, none⟩)], .agg #[.int .i64 kk, .int .i64 on, .string s, .int .i64 n, .int .i64 xx, .int .i64 yy, .int .i64 m1, .int .i64 m2, .int .i64 m3, .int .i64 m4, .int .i64 m5], .agg #[.pointer (some ⟨p2, 0, none⟩), .pointer (some ⟨q2, 0, none⟩)]] w1 fun e w2 => ∃ x, e = .returned x ∧ R x w2)
    (hQ : ∀ (v52 v53 v54 v55 v56 v57 v58 v59 v60 v61 v62 v8 : Value) (x : Value) (w2 : World), R x w2 → Q .normal ((((((((((((((a0.put (some 52) v52).put (some 53) v53).put (some 54) v54).put (some 55) v55).put (some 56) v56).put (some 57) v57).put (some 58) v58).put (some 59) v59).put (some 60) v60).put (some 61) v61).put (some 62) v62).put (some 8) v8).put (some 62) (x)).put (some 8) (x)) w2) :
    Code.wp Try.prog ((Try.f3.body.bind (findRegion 10)).getD .skip) Q a0 w := by
  conv => arg 2; whnf
  refine wp_region_tail 10 Lat (TE [Ent.val (.slice (some ⟨g, 0, none⟩) 2 2), Ent.val (.int .i64 0), Ent.val (.pointer (some ⟨g, 0, none⟩)), Ent.val (.agg #[.pointer (some ⟨p1, 0, none⟩), .pointer (some ⟨q1, 0, none⟩)]), Ent.val (.agg #[.int .i64 kk, .int .i64 on, .string s, .int .i64 n, .int .i64 xx, .int .i64 yy, .int .i64 m1, .int .i64 m2, .int .i64 m3, .int .i64 m4, .int .i64 m5]), Ent.val (.slice (some ⟨g, 0, none⟩) 2 2), Ent.val (.int .i64 0), Ent.val (.int .i64 1), Ent.val (.pointer (some ⟨g, 2, none⟩)), Ent.val (.agg #[.pointer (some ⟨p2, 0, none⟩), .pointer (some ⟨q2, 0, none⟩)])]) (by kernel_rfl) (by kernel_rfl) (by kernel_rfl) (by rw [hsz]; kernel_rfl) (by kernel_rfl) (by kernel_rfl) Lat.refl Lat.trans (TE_stable _) (Lat.draw w) ?hop ?hlast
  case hlast =>
    intro a w1 hL hS hT
    have k55 : a.tmps.getD 55 undef = .agg #[.pointer (some ⟨p1, 0, none⟩), .pointer (some ⟨q1, 0, none⟩)] := hT 3 _ (by omega) rfl
    have k56 : a.tmps.getD 56 undef = .agg #[.int .i64 kk, .int .i64 on, .string s, .int .i64 n, .int .i64 xx, .int .i64 yy, .int .i64 m1, .int .i64 m2, .int .i64 m3, .int .i64 m4, .int .i64 m5] := hT 4 _ (by omega) rfl
    have k61 : a.tmps.getD 61 undef = .agg #[.pointer (some ⟨p2, 0, none⟩), .pointer (some ⟨q2, 0, none⟩)] := hT 9 _ (by omega) rfl
    refine wpAny_one 10 _ rfl rfl (by kernel_rfl) ?_
    refine wp_call_r (f := 9) (args := #[.agg #[.pointer (some ⟨p1, 0, none⟩), .pointer (some ⟨q1, 0, none⟩)], .agg #[.int .i64 kk, .int .i64 on, .string s, .int .i64 n, .int .i64 xx, .int .i64 yy, .int .i64 m1, .int .i64 m2, .int .i64 m3, .int .i64 m4, .int .i64 m5], .agg #[.pointer (some ⟨p2, 0, none⟩), .pointer (some ⟨q2, 0, none⟩)]]) (by simp [execOp, resolve, Act.eval, k55, k56, k61, go_sem]) ?_
    refine (hcall w1 hL).mono ?_
    rintro e w2 ⟨x, rfl, hR⟩
    refine ⟨x, rfl, ?_⟩
    show wpAny Try.prog .any _ Q _ _ (a.put (some 62) (x)) w2
    obtain ⟨fr1, hfr1⟩ : ∃ y, a.put (some 62) (x) = y := ⟨_, rfl⟩
    rw [hfr1]
    have zfr1 : fr1.tmps.size = 89 := by rw [← hfr1, put_size]; exact (hS.size.trans hsz)
    have c1_55 : fr1.tmps.getD 55 undef = .agg #[.pointer (some ⟨p1, 0, none⟩), .pointer (some ⟨q1, 0, none⟩)] := by rw [← hfr1]; exact (put_slot _ 62 55 _ (by decide)).trans k55
    have c1_56 : fr1.tmps.getD 56 undef = .agg #[.int .i64 kk, .int .i64 on, .string s, .int .i64 n, .int .i64 xx, .int .i64 yy, .int .i64 m1, .int .i64 m2, .int .i64 m3, .int .i64 m4, .int .i64 m5] := by rw [← hfr1]; exact (put_slot _ 62 56 _ (by decide)).trans k56
    have c1_61 : fr1.tmps.getD 61 undef = .agg #[.pointer (some ⟨p2, 0, none⟩), .pointer (some ⟨q2, 0, none⟩)] := by rw [← hfr1]; exact (put_slot _ 62 61 _ (by decide)).trans k61
    have c1_62 : fr1.tmps.getD 62 undef = x := by rw [← hfr1]; exact put_same _ 62 _ (by rw [(hS.size.trans hsz)]; decide)
    refine wpAny_one 11 _ rfl rfl (by kernel_rfl) ?_
    refine wp_val (x) (w' := w2) (by simp only [Array.getD_eq_getD_getElem?] at c1_62; simp [execOp, Act.eval, c1_62, go_sem]) ?_
    show wpAny Try.prog .any _ Q _ _ (fr1.put (some 8) (x)) w2
    obtain ⟨fr2, hfr2⟩ : ∃ y, fr1.put (some 8) (x) = y := ⟨_, rfl⟩
    rw [hfr2]
    have zfr2 : fr2.tmps.size = 89 := by rw [← hfr2, put_size]; exact zfr1
    have c2_55 : fr2.tmps.getD 55 undef = .agg #[.pointer (some ⟨p1, 0, none⟩), .pointer (some ⟨q1, 0, none⟩)] := by rw [← hfr2]; exact (put_slot _ 8 55 _ (by decide)).trans c1_55
    have c2_56 : fr2.tmps.getD 56 undef = .agg #[.int .i64 kk, .int .i64 on, .string s, .int .i64 n, .int .i64 xx, .int .i64 yy, .int .i64 m1, .int .i64 m2, .int .i64 m3, .int .i64 m4, .int .i64 m5] := by rw [← hfr2]; exact (put_slot _ 8 56 _ (by decide)).trans c1_56
    have c2_61 : fr2.tmps.getD 61 undef = .agg #[.pointer (some ⟨p2, 0, none⟩), .pointer (some ⟨q2, 0, none⟩)] := by rw [← hfr2]; exact (put_slot _ 8 61 _ (by decide)).trans c1_61
    have c2_62 : fr2.tmps.getD 62 undef = x := by rw [← hfr2]; exact (put_slot _ 8 62 _ (by decide)).trans c1_62
    have c2_8 : fr2.tmps.getD 8 undef = x := by rw [← hfr2]; exact put_same _ 8 _ (by rw [zfr1]; decide)
    refine wpAny_nil (by kernel_rfl) ?_
    show Q .normal _ w2
    rw [← hfr2, ← hfr1]
    rw [same_puts hS]
    exact hQ (a.tmps.getD 52 undef) (a.tmps.getD 53 undef) (a.tmps.getD 54 undef) (a.tmps.getD 55 undef) (a.tmps.getD 56 undef) (a.tmps.getD 57 undef) (a.tmps.getD 58 undef) (a.tmps.getD 59 undef) (a.tmps.getD 60 undef) (a.tmps.getD 61 undef) (a.tmps.getD 62 undef) (a.tmps.getD 8 undef) x w2 hR
  case hop =>
    intro i o hlt hi
    rcases (show i = 0 ∨ i = 1 ∨ i = 2 ∨ i = 3 ∨ i = 4 ∨ i = 5 ∨ i = 6 ∨ i = 7 ∨ i = 8 ∨ i = 9 by omega) with rfl | rfl | rfl | rfl | rfl | rfl | rfl | rfl | rfl | rfl
    · obtain rfl := Option.some.inj hi
      clear hi hlt
      intro a w1 hL hS hD
      have e4 : a.tmps.getD 4 undef = .slice (some ⟨g, 0, none⟩) 2 2 := (hS.slot 4 (by kernel_rfl)).trans s4
      refine step_yes rfl ?_
      exact ok_value Lat.refl (.slice (some ⟨g, 0, none⟩) 2 2) (by simp [execOp, Act.eval, e4, go_sem]) rfl
    · obtain rfl := Option.some.inj hi
      clear hi hlt
      intro a w1 hL hS hD
      have e7 : a.tmps.getD 7 undef = .int .i64 0 := (hS.slot 7 (by kernel_rfl)).trans s7
      refine step_yes rfl ?_
      exact ok_value Lat.refl (.int .i64 0) (by simp [execOp, Act.eval, e7, go_sem]) rfl
    · obtain rfl := Option.some.inj hi
      clear hi hlt
      intro a w1 hL hS hD
      have d0 : a.tmps.getD 52 undef = .slice (some ⟨g, 0, none⟩) 2 2 := hD ⟨0, .data⟩ (by simp) rfl _ rfl
      have d1 : a.tmps.getD 53 undef = .int .i64 0 := hD ⟨1, .data⟩ (by simp) rfl _ rfl
      refine step_yes rfl ?_
      exact ok_value Lat.refl (.pointer (some ⟨g, 0, none⟩)) (by simp [execOp, Act.eval, d0, d1, go_sem]) rfl
    · obtain rfl := Option.some.inj hi
      clear hi hlt
      intro a w1 hL hS hD
      have d2 : a.tmps.getD 54 undef = .pointer (some ⟨g, 0, none⟩) := hD ⟨2, .data⟩ (by simp) rfl _ rfl
      refine step_yes rfl ?_
      exact ok_value Lat.refl (.agg #[.pointer (some ⟨p1, 0, none⟩), .pointer (some ⟨q1, 0, none⟩)]) (by simp [execOp, Act.eval, d2, g0 w1 hL, g1 w1 hL, go_sem]) rfl
    · obtain rfl := Option.some.inj hi
      clear hi hlt
      intro a w1 hL hS hD
      have e6 : a.tmps.getD 6 undef = .pointer (some ⟨ob, 0, none⟩) := (hS.slot 6 (by kernel_rfl)).trans s6
      refine step_yes rfl ?_
      exact ok_value Lat.refl (.agg #[.int .i64 kk, .int .i64 on, .string s, .int .i64 n, .int .i64 xx, .int .i64 yy, .int .i64 m1, .int .i64 m2, .int .i64 m3, .int .i64 m4, .int .i64 m5]) (by simp [execOp, Act.eval, e6, o0 w1 hL, o1 w1 hL, o2 w1 hL, o3 w1 hL, o4 w1 hL, o5 w1 hL, o6 w1 hL, o7 w1 hL, o8 w1 hL, o9 w1 hL, o10 w1 hL, go_sem]) rfl
    · obtain rfl := Option.some.inj hi
      clear hi hlt
      intro a w1 hL hS hD
      have e4 : a.tmps.getD 4 undef = .slice (some ⟨g, 0, none⟩) 2 2 := (hS.slot 4 (by kernel_rfl)).trans s4
      refine step_yes rfl ?_
      exact ok_value Lat.refl (.slice (some ⟨g, 0, none⟩) 2 2) (by simp [execOp, Act.eval, e4, go_sem]) rfl
    · obtain rfl := Option.some.inj hi
      clear hi hlt
      intro a w1 hL hS hD
      have e7 : a.tmps.getD 7 undef = .int .i64 0 := (hS.slot 7 (by kernel_rfl)).trans s7
      refine step_yes rfl ?_
      exact ok_value Lat.refl (.int .i64 0) (by simp [execOp, Act.eval, e7, go_sem]) rfl
    · obtain rfl := Option.some.inj hi
      clear hi hlt
      intro a w1 hL hS hD
      have d6 : a.tmps.getD 58 undef = .int .i64 0 := hD ⟨6, .data⟩ (by simp) rfl _ rfl
      refine step_yes rfl ?_
      exact ok_value Lat.refl (.int .i64 1) (by simp [execOp, Act.eval, d6, wrap1, go_sem]) rfl
    · obtain rfl := Option.some.inj hi
      clear hi hlt
      intro a w1 hL hS hD
      have d5 : a.tmps.getD 57 undef = .slice (some ⟨g, 0, none⟩) 2 2 := hD ⟨5, .data⟩ (by simp) rfl _ rfl
      have d7 : a.tmps.getD 59 undef = .int .i64 1 := hD ⟨7, .data⟩ (by simp) rfl _ rfl
      refine step_yes rfl ?_
      exact ok_value Lat.refl (.pointer (some ⟨g, 2, none⟩)) (by simp [execOp, Act.eval, d5, d7, go_sem]) rfl
    · obtain rfl := Option.some.inj hi
      clear hi hlt
      intro a w1 hL hS hD
      have d8 : a.tmps.getD 60 undef = .pointer (some ⟨g, 2, none⟩) := hD ⟨8, .data⟩ (by simp) rfl _ rfl
      refine step_yes rfl ?_
      exact ok_value Lat.refl (.agg #[.pointer (some ⟨p2, 0, none⟩), .pointer (some ⟨q2, 0, none⟩)]) (by simp [execOp, Act.eval, d8, g2 w1 hL, g3 w1 hL, go_sem]) rfl

set_option maxRecDepth 100000 in
set_option maxHeartbeats 2000000 in
theorem plays_r10_1 (g ob p1 q1 p2 q2 : Nat) (s : ByteArray) (kk on n xx yy m1 m2 m3 m4 m5 : Int) (R : Value → World → Prop) (w : World) (a0 : Act) (Q : Exit → Act → World → Prop) (hsz : a0.tmps.size = 89)
    (s4 : a0.tmps.getD 4 undef = .slice (some ⟨g, 0, none⟩) 2 2)
    (s6 : a0.tmps.getD 6 undef = .pointer (some ⟨ob, 0, none⟩))
    (s7 : a0.tmps.getD 7 undef = .int .i64 1)
    (g0 : ∀ w1, Lat w w1 → w1.cell? ⟨g, 0, none⟩ = some (.pointer (some ⟨p1, 0, none⟩)))
    (g1 : ∀ w1, Lat w w1 → w1.cell? ⟨g, 1, none⟩ = some (.pointer (some ⟨q1, 0, none⟩)))
    (g2 : ∀ w1, Lat w w1 → w1.cell? ⟨g, 2, none⟩ = some (.pointer (some ⟨p2, 0, none⟩)))
    (g3 : ∀ w1, Lat w w1 → w1.cell? ⟨g, 3, none⟩ = some (.pointer (some ⟨q2, 0, none⟩)))
    (o0 : ∀ w1, Lat w w1 → w1.cell? ⟨ob, 0, none⟩ = some (.int .i64 kk))
    (o1 : ∀ w1, Lat w w1 → w1.cell? ⟨ob, 1, none⟩ = some (.int .i64 on))
    (o2 : ∀ w1, Lat w w1 → w1.cell? ⟨ob, 2, none⟩ = some (.string s))
    (o3 : ∀ w1, Lat w w1 → w1.cell? ⟨ob, 3, none⟩ = some (.int .i64 n))
    (o4 : ∀ w1, Lat w w1 → w1.cell? ⟨ob, 4, none⟩ = some (.int .i64 xx))
    (o5 : ∀ w1, Lat w w1 → w1.cell? ⟨ob, 5, none⟩ = some (.int .i64 yy))
    (o6 : ∀ w1, Lat w w1 → w1.cell? ⟨ob, 6, none⟩ = some (.int .i64 m1))
    (o7 : ∀ w1, Lat w w1 → w1.cell? ⟨ob, 7, none⟩ = some (.int .i64 m2))
    (o8 : ∀ w1, Lat w w1 → w1.cell? ⟨ob, 8, none⟩ = some (.int .i64 m3))
    (o9 : ∀ w1, Lat w w1 → w1.cell? ⟨ob, 9, none⟩ = some (.int .i64 m4))
    (o10 : ∀ w1, Lat w w1 → w1.cell? ⟨ob, 10, none⟩ = some (.int .i64 m5))
    (hcall : ∀ w1, Lat w w1 → Calls Try.prog 9 #[.agg #[.pointer (some ⟨p2, 0, none⟩), .pointer (some ⟨q2, 0, none⟩)], .agg #[.int .i64 kk, .int .i64 on, .string s, .int .i64 n, .int .i64 xx, .int .i64 yy, .int .i64 m1, .int .i64 m2, .int .i64 m3, .int .i64 m4, .int .i64 m5], .agg #[.pointer (some ⟨p1, 0, none⟩), .pointer (some ⟨q1, 0, none⟩)]] w1 fun e w2 => ∃ x, e = .returned x ∧ R x w2)
    (hQ : ∀ (v52 v53 v54 v55 v56 v57 v58 v59 v60 v61 v62 v8 : Value) (x : Value) (w2 : World), R x w2 → Q .normal ((((((((((((((a0.put (some 52) v52).put (some 53) v53).put (some 54) v54).put (some 55) v55).put (some 56) v56).put (some 57) v57).put (some 58) v58).put (some 59) v59).put (some 60) v60).put (some 61) v61).put (some 62) v62).put (some 8) v8).put (some 62) (x)).put (some 8) (x)) w2) :
    Code.wp Try.prog ((Try.f3.body.bind (findRegion 10)).getD .skip) Q a0 w := by
  conv => arg 2; whnf
  refine wp_region_tail 10 Lat (TE [Ent.val (.slice (some ⟨g, 0, none⟩) 2 2), Ent.val (.int .i64 1), Ent.val (.pointer (some ⟨g, 2, none⟩)), Ent.val (.agg #[.pointer (some ⟨p2, 0, none⟩), .pointer (some ⟨q2, 0, none⟩)]), Ent.val (.agg #[.int .i64 kk, .int .i64 on, .string s, .int .i64 n, .int .i64 xx, .int .i64 yy, .int .i64 m1, .int .i64 m2, .int .i64 m3, .int .i64 m4, .int .i64 m5]), Ent.val (.slice (some ⟨g, 0, none⟩) 2 2), Ent.val (.int .i64 1), Ent.val (.int .i64 0), Ent.val (.pointer (some ⟨g, 0, none⟩)), Ent.val (.agg #[.pointer (some ⟨p1, 0, none⟩), .pointer (some ⟨q1, 0, none⟩)])]) (by kernel_rfl) (by kernel_rfl) (by kernel_rfl) (by rw [hsz]; kernel_rfl) (by kernel_rfl) (by kernel_rfl) Lat.refl Lat.trans (TE_stable _) (Lat.draw w) ?hop ?hlast
  case hlast =>
    intro a w1 hL hS hT
    have k55 : a.tmps.getD 55 undef = .agg #[.pointer (some ⟨p2, 0, none⟩), .pointer (some ⟨q2, 0, none⟩)] := hT 3 _ (by omega) rfl
    have k56 : a.tmps.getD 56 undef = .agg #[.int .i64 kk, .int .i64 on, .string s, .int .i64 n, .int .i64 xx, .int .i64 yy, .int .i64 m1, .int .i64 m2, .int .i64 m3, .int .i64 m4, .int .i64 m5] := hT 4 _ (by omega) rfl
    have k61 : a.tmps.getD 61 undef = .agg #[.pointer (some ⟨p1, 0, none⟩), .pointer (some ⟨q1, 0, none⟩)] := hT 9 _ (by omega) rfl
    refine wpAny_one 10 _ rfl rfl (by kernel_rfl) ?_
    refine wp_call_r (f := 9) (args := #[.agg #[.pointer (some ⟨p2, 0, none⟩), .pointer (some ⟨q2, 0, none⟩)], .agg #[.int .i64 kk, .int .i64 on, .string s, .int .i64 n, .int .i64 xx, .int .i64 yy, .int .i64 m1, .int .i64 m2, .int .i64 m3, .int .i64 m4, .int .i64 m5], .agg #[.pointer (some ⟨p1, 0, none⟩), .pointer (some ⟨q1, 0, none⟩)]]) (by simp [execOp, resolve, Act.eval, k55, k56, k61, go_sem]) ?_
    refine (hcall w1 hL).mono ?_
    rintro e w2 ⟨x, rfl, hR⟩
    refine ⟨x, rfl, ?_⟩
    show wpAny Try.prog .any _ Q _ _ (a.put (some 62) (x)) w2
    obtain ⟨fr1, hfr1⟩ : ∃ y, a.put (some 62) (x) = y := ⟨_, rfl⟩
    rw [hfr1]
    have zfr1 : fr1.tmps.size = 89 := by rw [← hfr1, put_size]; exact (hS.size.trans hsz)
    have c1_55 : fr1.tmps.getD 55 undef = .agg #[.pointer (some ⟨p2, 0, none⟩), .pointer (some ⟨q2, 0, none⟩)] := by rw [← hfr1]; exact (put_slot _ 62 55 _ (by decide)).trans k55
    have c1_56 : fr1.tmps.getD 56 undef = .agg #[.int .i64 kk, .int .i64 on, .string s, .int .i64 n, .int .i64 xx, .int .i64 yy, .int .i64 m1, .int .i64 m2, .int .i64 m3, .int .i64 m4, .int .i64 m5] := by rw [← hfr1]; exact (put_slot _ 62 56 _ (by decide)).trans k56
    have c1_61 : fr1.tmps.getD 61 undef = .agg #[.pointer (some ⟨p1, 0, none⟩), .pointer (some ⟨q1, 0, none⟩)] := by rw [← hfr1]; exact (put_slot _ 62 61 _ (by decide)).trans k61
    have c1_62 : fr1.tmps.getD 62 undef = x := by rw [← hfr1]; exact put_same _ 62 _ (by rw [(hS.size.trans hsz)]; decide)
    refine wpAny_one 11 _ rfl rfl (by kernel_rfl) ?_
    refine wp_val (x) (w' := w2) (by simp only [Array.getD_eq_getD_getElem?] at c1_62; simp [execOp, Act.eval, c1_62, go_sem]) ?_
    show wpAny Try.prog .any _ Q _ _ (fr1.put (some 8) (x)) w2
    obtain ⟨fr2, hfr2⟩ : ∃ y, fr1.put (some 8) (x) = y := ⟨_, rfl⟩
    rw [hfr2]
    have zfr2 : fr2.tmps.size = 89 := by rw [← hfr2, put_size]; exact zfr1
    have c2_55 : fr2.tmps.getD 55 undef = .agg #[.pointer (some ⟨p2, 0, none⟩), .pointer (some ⟨q2, 0, none⟩)] := by rw [← hfr2]; exact (put_slot _ 8 55 _ (by decide)).trans c1_55
    have c2_56 : fr2.tmps.getD 56 undef = .agg #[.int .i64 kk, .int .i64 on, .string s, .int .i64 n, .int .i64 xx, .int .i64 yy, .int .i64 m1, .int .i64 m2, .int .i64 m3, .int .i64 m4, .int .i64 m5] := by rw [← hfr2]; exact (put_slot _ 8 56 _ (by decide)).trans c1_56
    have c2_61 : fr2.tmps.getD 61 undef = .agg #[.pointer (some ⟨p1, 0, none⟩), .pointer (some ⟨q1, 0, none⟩)] := by rw [← hfr2]; exact (put_slot _ 8 61 _ (by decide)).trans c1_61
    have c2_62 : fr2.tmps.getD 62 undef = x := by rw [← hfr2]; exact (put_slot _ 8 62 _ (by decide)).trans c1_62
    have c2_8 : fr2.tmps.getD 8 undef = x := by rw [← hfr2]; exact put_same _ 8 _ (by rw [zfr1]; decide)
    refine wpAny_nil (by kernel_rfl) ?_
    show Q .normal _ w2
    rw [← hfr2, ← hfr1]
    rw [same_puts hS]
    exact hQ (a.tmps.getD 52 undef) (a.tmps.getD 53 undef) (a.tmps.getD 54 undef) (a.tmps.getD 55 undef) (a.tmps.getD 56 undef) (a.tmps.getD 57 undef) (a.tmps.getD 58 undef) (a.tmps.getD 59 undef) (a.tmps.getD 60 undef) (a.tmps.getD 61 undef) (a.tmps.getD 62 undef) (a.tmps.getD 8 undef) x w2 hR
  case hop =>
    intro i o hlt hi
    rcases (show i = 0 ∨ i = 1 ∨ i = 2 ∨ i = 3 ∨ i = 4 ∨ i = 5 ∨ i = 6 ∨ i = 7 ∨ i = 8 ∨ i = 9 by omega) with rfl | rfl | rfl | rfl | rfl | rfl | rfl | rfl | rfl | rfl
    · obtain rfl := Option.some.inj hi
      clear hi hlt
      intro a w1 hL hS hD
      have e4 : a.tmps.getD 4 undef = .slice (some ⟨g, 0, none⟩) 2 2 := (hS.slot 4 (by kernel_rfl)).trans s4
      refine step_yes rfl ?_
      exact ok_value Lat.refl (.slice (some ⟨g, 0, none⟩) 2 2) (by simp [execOp, Act.eval, e4, go_sem]) rfl
    · obtain rfl := Option.some.inj hi
      clear hi hlt
      intro a w1 hL hS hD
      have e7 : a.tmps.getD 7 undef = .int .i64 1 := (hS.slot 7 (by kernel_rfl)).trans s7
      refine step_yes rfl ?_
      exact ok_value Lat.refl (.int .i64 1) (by simp [execOp, Act.eval, e7, go_sem]) rfl
    · obtain rfl := Option.some.inj hi
      clear hi hlt
      intro a w1 hL hS hD
      have d0 : a.tmps.getD 52 undef = .slice (some ⟨g, 0, none⟩) 2 2 := hD ⟨0, .data⟩ (by simp) rfl _ rfl
      have d1 : a.tmps.getD 53 undef = .int .i64 1 := hD ⟨1, .data⟩ (by simp) rfl _ rfl
      refine step_yes rfl ?_
      exact ok_value Lat.refl (.pointer (some ⟨g, 2, none⟩)) (by simp [execOp, Act.eval, d0, d1, go_sem]) rfl
    · obtain rfl := Option.some.inj hi
      clear hi hlt
      intro a w1 hL hS hD
      have d2 : a.tmps.getD 54 undef = .pointer (some ⟨g, 2, none⟩) := hD ⟨2, .data⟩ (by simp) rfl _ rfl
      refine step_yes rfl ?_
      exact ok_value Lat.refl (.agg #[.pointer (some ⟨p2, 0, none⟩), .pointer (some ⟨q2, 0, none⟩)]) (by simp [execOp, Act.eval, d2, g2 w1 hL, g3 w1 hL, go_sem]) rfl
    · obtain rfl := Option.some.inj hi
      clear hi hlt
      intro a w1 hL hS hD
      have e6 : a.tmps.getD 6 undef = .pointer (some ⟨ob, 0, none⟩) := (hS.slot 6 (by kernel_rfl)).trans s6
      refine step_yes rfl ?_
      exact ok_value Lat.refl (.agg #[.int .i64 kk, .int .i64 on, .string s, .int .i64 n, .int .i64 xx, .int .i64 yy, .int .i64 m1, .int .i64 m2, .int .i64 m3, .int .i64 m4, .int .i64 m5]) (by simp [execOp, Act.eval, e6, o0 w1 hL, o1 w1 hL, o2 w1 hL, o3 w1 hL, o4 w1 hL, o5 w1 hL, o6 w1 hL, o7 w1 hL, o8 w1 hL, o9 w1 hL, o10 w1 hL, go_sem]) rfl
    · obtain rfl := Option.some.inj hi
      clear hi hlt
      intro a w1 hL hS hD
      have e4 : a.tmps.getD 4 undef = .slice (some ⟨g, 0, none⟩) 2 2 := (hS.slot 4 (by kernel_rfl)).trans s4
      refine step_yes rfl ?_
      exact ok_value Lat.refl (.slice (some ⟨g, 0, none⟩) 2 2) (by simp [execOp, Act.eval, e4, go_sem]) rfl
    · obtain rfl := Option.some.inj hi
      clear hi hlt
      intro a w1 hL hS hD
      have e7 : a.tmps.getD 7 undef = .int .i64 1 := (hS.slot 7 (by kernel_rfl)).trans s7
      refine step_yes rfl ?_
      exact ok_value Lat.refl (.int .i64 1) (by simp [execOp, Act.eval, e7, go_sem]) rfl
    · obtain rfl := Option.some.inj hi
      clear hi hlt
      intro a w1 hL hS hD
      have d6 : a.tmps.getD 58 undef = .int .i64 1 := hD ⟨6, .data⟩ (by simp) rfl _ rfl
      refine step_yes rfl ?_
      exact ok_value Lat.refl (.int .i64 0) (by simp [execOp, Act.eval, d6, wrap0, go_sem]) rfl
    · obtain rfl := Option.some.inj hi
      clear hi hlt
      intro a w1 hL hS hD
      have d5 : a.tmps.getD 57 undef = .slice (some ⟨g, 0, none⟩) 2 2 := hD ⟨5, .data⟩ (by simp) rfl _ rfl
      have d7 : a.tmps.getD 59 undef = .int .i64 0 := hD ⟨7, .data⟩ (by simp) rfl _ rfl
      refine step_yes rfl ?_
      exact ok_value Lat.refl (.pointer (some ⟨g, 0, none⟩)) (by simp [execOp, Act.eval, d5, d7, go_sem]) rfl
    · obtain rfl := Option.some.inj hi
      clear hi hlt
      intro a w1 hL hS hD
      have d8 : a.tmps.getD 60 undef = .pointer (some ⟨g, 0, none⟩) := hD ⟨8, .data⟩ (by simp) rfl _ rfl
      refine step_yes rfl ?_
      exact ok_value Lat.refl (.agg #[.pointer (some ⟨p1, 0, none⟩), .pointer (some ⟨q1, 0, none⟩)]) (by simp [execOp, Act.eval, d8, g0 w1 hL, g1 w1 hL, go_sem]) rfl

set_option maxRecDepth 100000 in
set_option maxHeartbeats 2000000 in
theorem plays_r11 (g ob p1 q1 p2 q2 : Nat) (s : ByteArray) (kk on n xx yy m1 m2 m3 m4 m5 : Int) (R : Value → World → Prop) (w : World) (a0 : Act) (Q : Exit → Act → World → Prop) (hsz : a0.tmps.size = 89)
    (s4 : a0.tmps.getD 4 undef = .slice (some ⟨g, 0, none⟩) 2 2)
    (s6 : a0.tmps.getD 6 undef = .pointer (some ⟨ob, 0, none⟩))
    (g0 : ∀ w1, Lat w w1 → w1.cell? ⟨g, 0, none⟩ = some (.pointer (some ⟨p1, 0, none⟩)))
    (g1 : ∀ w1, Lat w w1 → w1.cell? ⟨g, 1, none⟩ = some (.pointer (some ⟨q1, 0, none⟩)))
    (g2 : ∀ w1, Lat w w1 → w1.cell? ⟨g, 2, none⟩ = some (.pointer (some ⟨p2, 0, none⟩)))
    (g3 : ∀ w1, Lat w w1 → w1.cell? ⟨g, 3, none⟩ = some (.pointer (some ⟨q2, 0, none⟩)))
    (o0 : ∀ w1, Lat w w1 → w1.cell? ⟨ob, 0, none⟩ = some (.int .i64 kk))
    (o1 : ∀ w1, Lat w w1 → w1.cell? ⟨ob, 1, none⟩ = some (.int .i64 on))
    (o2 : ∀ w1, Lat w w1 → w1.cell? ⟨ob, 2, none⟩ = some (.string s))
    (o3 : ∀ w1, Lat w w1 → w1.cell? ⟨ob, 3, none⟩ = some (.int .i64 n))
    (o4 : ∀ w1, Lat w w1 → w1.cell? ⟨ob, 4, none⟩ = some (.int .i64 xx))
    (o5 : ∀ w1, Lat w w1 → w1.cell? ⟨ob, 5, none⟩ = some (.int .i64 yy))
    (o6 : ∀ w1, Lat w w1 → w1.cell? ⟨ob, 6, none⟩ = some (.int .i64 m1))
    (o7 : ∀ w1, Lat w w1 → w1.cell? ⟨ob, 7, none⟩ = some (.int .i64 m2))
    (o8 : ∀ w1, Lat w w1 → w1.cell? ⟨ob, 8, none⟩ = some (.int .i64 m3))
    (o9 : ∀ w1, Lat w w1 → w1.cell? ⟨ob, 9, none⟩ = some (.int .i64 m4))
    (o10 : ∀ w1, Lat w w1 → w1.cell? ⟨ob, 10, none⟩ = some (.int .i64 m5))
    (hcall : ∀ w1, Lat w w1 → Calls Try.prog 10 #[.agg #[.pointer (some ⟨p1, 0, none⟩), .pointer (some ⟨q1, 0, none⟩)], .string s, .int .i64 n] w1 fun e w2 => ∃ x, e = .returned x ∧ R x w2)
    (hQ : ∀ (v63 v64 v65 v66 v67 v68 v69 v70 v9 : Value) (x : Value) (w2 : World), R x w2 → Q .normal (((((((((((a0.put (some 63) v63).put (some 64) v64).put (some 65) v65).put (some 66) v66).put (some 67) v67).put (some 68) v68).put (some 69) v69).put (some 70) v70).put (some 9) v9).put (some 70) (x)).put (some 9) (x)) w2) :
    Code.wp Try.prog ((Try.f3.body.bind (findRegion 11)).getD .skip) Q a0 w := by
  conv => arg 2; whnf
  refine wp_region_tail 7 Lat (TE [Ent.val (.slice (some ⟨g, 0, none⟩) 2 2), Ent.val (.pointer (some ⟨g, 0, none⟩)), Ent.val (.agg #[.pointer (some ⟨p1, 0, none⟩), .pointer (some ⟨q1, 0, none⟩)]), Ent.val (.pointer (some ⟨ob, 2, none⟩)), Ent.val (.string s), Ent.val (.pointer (some ⟨ob, 3, none⟩)), Ent.val (.int .i64 n)]) (by kernel_rfl) (by kernel_rfl) (by kernel_rfl) (by rw [hsz]; kernel_rfl) (by kernel_rfl) (by kernel_rfl) Lat.refl Lat.trans (TE_stable _) (Lat.draw w) ?hop ?hlast
  case hlast =>
    intro a w1 hL hS hT
    have k65 : a.tmps.getD 65 undef = .agg #[.pointer (some ⟨p1, 0, none⟩), .pointer (some ⟨q1, 0, none⟩)] := hT 2 _ (by omega) rfl
    have k67 : a.tmps.getD 67 undef = .string s := hT 4 _ (by omega) rfl
    have k69 : a.tmps.getD 69 undef = .int .i64 n := hT 6 _ (by omega) rfl
    refine wpAny_one 7 _ rfl rfl (by kernel_rfl) ?_
    refine wp_call_r (f := 10) (args := #[.agg #[.pointer (some ⟨p1, 0, none⟩), .pointer (some ⟨q1, 0, none⟩)], .string s, .int .i64 n]) (by simp [execOp, resolve, Act.eval, k65, k67, k69, go_sem]) ?_
    refine (hcall w1 hL).mono ?_
    rintro e w2 ⟨x, rfl, hR⟩
    refine ⟨x, rfl, ?_⟩
    show wpAny Try.prog .any _ Q _ _ (a.put (some 70) (x)) w2
    obtain ⟨fr1, hfr1⟩ : ∃ y, a.put (some 70) (x) = y := ⟨_, rfl⟩
    rw [hfr1]
    have zfr1 : fr1.tmps.size = 89 := by rw [← hfr1, put_size]; exact (hS.size.trans hsz)
    have c1_65 : fr1.tmps.getD 65 undef = .agg #[.pointer (some ⟨p1, 0, none⟩), .pointer (some ⟨q1, 0, none⟩)] := by rw [← hfr1]; exact (put_slot _ 70 65 _ (by decide)).trans k65
    have c1_67 : fr1.tmps.getD 67 undef = .string s := by rw [← hfr1]; exact (put_slot _ 70 67 _ (by decide)).trans k67
    have c1_69 : fr1.tmps.getD 69 undef = .int .i64 n := by rw [← hfr1]; exact (put_slot _ 70 69 _ (by decide)).trans k69
    have c1_70 : fr1.tmps.getD 70 undef = x := by rw [← hfr1]; exact put_same _ 70 _ (by rw [(hS.size.trans hsz)]; decide)
    refine wpAny_one 8 _ rfl rfl (by kernel_rfl) ?_
    refine wp_val (x) (w' := w2) (by simp only [Array.getD_eq_getD_getElem?] at c1_70; simp [execOp, Act.eval, c1_70, go_sem]) ?_
    show wpAny Try.prog .any _ Q _ _ (fr1.put (some 9) (x)) w2
    obtain ⟨fr2, hfr2⟩ : ∃ y, fr1.put (some 9) (x) = y := ⟨_, rfl⟩
    rw [hfr2]
    have zfr2 : fr2.tmps.size = 89 := by rw [← hfr2, put_size]; exact zfr1
    have c2_65 : fr2.tmps.getD 65 undef = .agg #[.pointer (some ⟨p1, 0, none⟩), .pointer (some ⟨q1, 0, none⟩)] := by rw [← hfr2]; exact (put_slot _ 9 65 _ (by decide)).trans c1_65
    have c2_67 : fr2.tmps.getD 67 undef = .string s := by rw [← hfr2]; exact (put_slot _ 9 67 _ (by decide)).trans c1_67
    have c2_69 : fr2.tmps.getD 69 undef = .int .i64 n := by rw [← hfr2]; exact (put_slot _ 9 69 _ (by decide)).trans c1_69
    have c2_70 : fr2.tmps.getD 70 undef = x := by rw [← hfr2]; exact (put_slot _ 9 70 _ (by decide)).trans c1_70
    have c2_9 : fr2.tmps.getD 9 undef = x := by rw [← hfr2]; exact put_same _ 9 _ (by rw [zfr1]; decide)
    refine wpAny_nil (by kernel_rfl) ?_
    show Q .normal _ w2
    rw [← hfr2, ← hfr1]
    rw [same_puts hS]
    exact hQ (a.tmps.getD 63 undef) (a.tmps.getD 64 undef) (a.tmps.getD 65 undef) (a.tmps.getD 66 undef) (a.tmps.getD 67 undef) (a.tmps.getD 68 undef) (a.tmps.getD 69 undef) (a.tmps.getD 70 undef) (a.tmps.getD 9 undef) x w2 hR
  case hop =>
    intro i o hlt hi
    rcases (show i = 0 ∨ i = 1 ∨ i = 2 ∨ i = 3 ∨ i = 4 ∨ i = 5 ∨ i = 6 by omega) with rfl | rfl | rfl | rfl | rfl | rfl | rfl
    · obtain rfl := Option.some.inj hi
      clear hi hlt
      intro a w1 hL hS hD
      have e4 : a.tmps.getD 4 undef = .slice (some ⟨g, 0, none⟩) 2 2 := (hS.slot 4 (by kernel_rfl)).trans s4
      refine step_yes rfl ?_
      exact ok_value Lat.refl (.slice (some ⟨g, 0, none⟩) 2 2) (by simp [execOp, Act.eval, e4, go_sem]) rfl
    · obtain rfl := Option.some.inj hi
      clear hi hlt
      intro a w1 hL hS hD
      have d0 : a.tmps.getD 63 undef = .slice (some ⟨g, 0, none⟩) 2 2 := hD ⟨0, .data⟩ (by simp) rfl _ rfl
      refine step_yes rfl ?_
      exact ok_value Lat.refl (.pointer (some ⟨g, 0, none⟩)) (by simp [execOp, Act.eval, d0, go_sem]) rfl
    · obtain rfl := Option.some.inj hi
      clear hi hlt
      intro a w1 hL hS hD
      have d1 : a.tmps.getD 64 undef = .pointer (some ⟨g, 0, none⟩) := hD ⟨1, .data⟩ (by simp) rfl _ rfl
      refine step_yes rfl ?_
      exact ok_value Lat.refl (.agg #[.pointer (some ⟨p1, 0, none⟩), .pointer (some ⟨q1, 0, none⟩)]) (by simp [execOp, Act.eval, d1, g0 w1 hL, g1 w1 hL, go_sem]) rfl
    · obtain rfl := Option.some.inj hi
      clear hi hlt
      intro a w1 hL hS hD
      have e6 : a.tmps.getD 6 undef = .pointer (some ⟨ob, 0, none⟩) := (hS.slot 6 (by kernel_rfl)).trans s6
      refine step_yes rfl ?_
      exact ok_value Lat.refl (.pointer (some ⟨ob, 2, none⟩)) (by simp [execOp, Act.eval, e6, go_sem]) rfl
    · obtain rfl := Option.some.inj hi
      clear hi hlt
      intro a w1 hL hS hD
      have d3 : a.tmps.getD 66 undef = .pointer (some ⟨ob, 2, none⟩) := hD ⟨3, .data⟩ (by simp) rfl _ rfl
      refine step_yes rfl ?_
      exact ok_value Lat.refl (.string s) (by simp [execOp, Act.eval, d3, o2 w1 hL, go_sem]) rfl
    · obtain rfl := Option.some.inj hi
      clear hi hlt
      intro a w1 hL hS hD
      have e6 : a.tmps.getD 6 undef = .pointer (some ⟨ob, 0, none⟩) := (hS.slot 6 (by kernel_rfl)).trans s6
      refine step_yes rfl ?_
      exact ok_value Lat.refl (.pointer (some ⟨ob, 3, none⟩)) (by simp [execOp, Act.eval, e6, go_sem]) rfl
    · obtain rfl := Option.some.inj hi
      clear hi hlt
      intro a w1 hL hS hD
      have d5 : a.tmps.getD 68 undef = .pointer (some ⟨ob, 3, none⟩) := hD ⟨5, .data⟩ (by simp) rfl _ rfl
      refine step_yes rfl ?_
      exact ok_value Lat.refl (.int .i64 n) (by simp [execOp, Act.eval, d5, o3 w1 hL, go_sem]) rfl

set_option maxRecDepth 100000 in
set_option maxHeartbeats 2000000 in
theorem plays_r12 (g ob p1 q1 p2 q2 : Nat) (s : ByteArray) (kk on n xx yy m1 m2 m3 m4 m5 : Int) (R : Value → World → Prop) (w : World) (a0 : Act) (Q : Exit → Act → World → Prop) (hsz : a0.tmps.size = 89)
    (s4 : a0.tmps.getD 4 undef = .slice (some ⟨g, 0, none⟩) 2 2)
    (s6 : a0.tmps.getD 6 undef = .pointer (some ⟨ob, 0, none⟩))
    (g0 : ∀ w1, Lat w w1 → w1.cell? ⟨g, 0, none⟩ = some (.pointer (some ⟨p1, 0, none⟩)))
    (g1 : ∀ w1, Lat w w1 → w1.cell? ⟨g, 1, none⟩ = some (.pointer (some ⟨q1, 0, none⟩)))
    (g2 : ∀ w1, Lat w w1 → w1.cell? ⟨g, 2, none⟩ = some (.pointer (some ⟨p2, 0, none⟩)))
    (g3 : ∀ w1, Lat w w1 → w1.cell? ⟨g, 3, none⟩ = some (.pointer (some ⟨q2, 0, none⟩)))
    (o0 : ∀ w1, Lat w w1 → w1.cell? ⟨ob, 0, none⟩ = some (.int .i64 kk))
    (o1 : ∀ w1, Lat w w1 → w1.cell? ⟨ob, 1, none⟩ = some (.int .i64 on))
    (o2 : ∀ w1, Lat w w1 → w1.cell? ⟨ob, 2, none⟩ = some (.string s))
    (o3 : ∀ w1, Lat w w1 → w1.cell? ⟨ob, 3, none⟩ = some (.int .i64 n))
    (o4 : ∀ w1, Lat w w1 → w1.cell? ⟨ob, 4, none⟩ = some (.int .i64 xx))
    (o5 : ∀ w1, Lat w w1 → w1.cell? ⟨ob, 5, none⟩ = some (.int .i64 yy))
    (o6 : ∀ w1, Lat w w1 → w1.cell? ⟨ob, 6, none⟩ = some (.int .i64 m1))
    (o7 : ∀ w1, Lat w w1 → w1.cell? ⟨ob, 7, none⟩ = some (.int .i64 m2))
    (o8 : ∀ w1, Lat w w1 → w1.cell? ⟨ob, 8, none⟩ = some (.int .i64 m3))
    (o9 : ∀ w1, Lat w w1 → w1.cell? ⟨ob, 9, none⟩ = some (.int .i64 m4))
    (o10 : ∀ w1, Lat w w1 → w1.cell? ⟨ob, 10, none⟩ = some (.int .i64 m5))
    (hcall : ∀ w1, Lat w w1 → Calls Try.prog 10 #[.agg #[.pointer (some ⟨p2, 0, none⟩), .pointer (some ⟨q2, 0, none⟩)], .string s, .int .i64 n] w1 fun e w2 => ∃ x, e = .returned x ∧ R x w2)
    (hQ : ∀ (v71 v72 v73 v74 v75 v76 v77 v78 v10 : Value) (x : Value) (w2 : World), R x w2 → Q .normal (((((((((((a0.put (some 71) v71).put (some 72) v72).put (some 73) v73).put (some 74) v74).put (some 75) v75).put (some 76) v76).put (some 77) v77).put (some 78) v78).put (some 10) v10).put (some 78) (x)).put (some 10) (x)) w2) :
    Code.wp Try.prog ((Try.f3.body.bind (findRegion 12)).getD .skip) Q a0 w := by
  conv => arg 2; whnf
  refine wp_region_tail 7 Lat (TE [Ent.val (.slice (some ⟨g, 0, none⟩) 2 2), Ent.val (.pointer (some ⟨g, 2, none⟩)), Ent.val (.agg #[.pointer (some ⟨p2, 0, none⟩), .pointer (some ⟨q2, 0, none⟩)]), Ent.val (.pointer (some ⟨ob, 2, none⟩)), Ent.val (.string s), Ent.val (.pointer (some ⟨ob, 3, none⟩)), Ent.val (.int .i64 n)]) (by kernel_rfl) (by kernel_rfl) (by kernel_rfl) (by rw [hsz]; kernel_rfl) (by kernel_rfl) (by kernel_rfl) Lat.refl Lat.trans (TE_stable _) (Lat.draw w) ?hop ?hlast
  case hlast =>
    intro a w1 hL hS hT
    have k73 : a.tmps.getD 73 undef = .agg #[.pointer (some ⟨p2, 0, none⟩), .pointer (some ⟨q2, 0, none⟩)] := hT 2 _ (by omega) rfl
    have k75 : a.tmps.getD 75 undef = .string s := hT 4 _ (by omega) rfl
    have k77 : a.tmps.getD 77 undef = .int .i64 n := hT 6 _ (by omega) rfl
    refine wpAny_one 7 _ rfl rfl (by kernel_rfl) ?_
    refine wp_call_r (f := 10) (args := #[.agg #[.pointer (some ⟨p2, 0, none⟩), .pointer (some ⟨q2, 0, none⟩)], .string s, .int .i64 n]) (by simp [execOp, resolve, Act.eval, k73, k75, k77, go_sem]) ?_
    refine (hcall w1 hL).mono ?_
    rintro e w2 ⟨x, rfl, hR⟩
    refine ⟨x, rfl, ?_⟩
    show wpAny Try.prog .any _ Q _ _ (a.put (some 78) (x)) w2
    obtain ⟨fr1, hfr1⟩ : ∃ y, a.put (some 78) (x) = y := ⟨_, rfl⟩
    rw [hfr1]
    have zfr1 : fr1.tmps.size = 89 := by rw [← hfr1, put_size]; exact (hS.size.trans hsz)
    have c1_73 : fr1.tmps.getD 73 undef = .agg #[.pointer (some ⟨p2, 0, none⟩), .pointer (some ⟨q2, 0, none⟩)] := by rw [← hfr1]; exact (put_slot _ 78 73 _ (by decide)).trans k73
    have c1_75 : fr1.tmps.getD 75 undef = .string s := by rw [← hfr1]; exact (put_slot _ 78 75 _ (by decide)).trans k75
    have c1_77 : fr1.tmps.getD 77 undef = .int .i64 n := by rw [← hfr1]; exact (put_slot _ 78 77 _ (by decide)).trans k77
    have c1_78 : fr1.tmps.getD 78 undef = x := by rw [← hfr1]; exact put_same _ 78 _ (by rw [(hS.size.trans hsz)]; decide)
    refine wpAny_one 8 _ rfl rfl (by kernel_rfl) ?_
    refine wp_val (x) (w' := w2) (by simp only [Array.getD_eq_getD_getElem?] at c1_78; simp [execOp, Act.eval, c1_78, go_sem]) ?_
    show wpAny Try.prog .any _ Q _ _ (fr1.put (some 10) (x)) w2
    obtain ⟨fr2, hfr2⟩ : ∃ y, fr1.put (some 10) (x) = y := ⟨_, rfl⟩
    rw [hfr2]
    have zfr2 : fr2.tmps.size = 89 := by rw [← hfr2, put_size]; exact zfr1
    have c2_73 : fr2.tmps.getD 73 undef = .agg #[.pointer (some ⟨p2, 0, none⟩), .pointer (some ⟨q2, 0, none⟩)] := by rw [← hfr2]; exact (put_slot _ 10 73 _ (by decide)).trans c1_73
    have c2_75 : fr2.tmps.getD 75 undef = .string s := by rw [← hfr2]; exact (put_slot _ 10 75 _ (by decide)).trans c1_75
    have c2_77 : fr2.tmps.getD 77 undef = .int .i64 n := by rw [← hfr2]; exact (put_slot _ 10 77 _ (by decide)).trans c1_77
    have c2_78 : fr2.tmps.getD 78 undef = x := by rw [← hfr2]; exact (put_slot _ 10 78 _ (by decide)).trans c1_78
    have c2_10 : fr2.tmps.getD 10 undef = x := by rw [← hfr2]; exact put_same _ 10 _ (by rw [zfr1]; decide)
    refine wpAny_nil (by kernel_rfl) ?_
    show Q .normal _ w2
    rw [← hfr2, ← hfr1]
    rw [same_puts hS]
    exact hQ (a.tmps.getD 71 undef) (a.tmps.getD 72 undef) (a.tmps.getD 73 undef) (a.tmps.getD 74 undef) (a.tmps.getD 75 undef) (a.tmps.getD 76 undef) (a.tmps.getD 77 undef) (a.tmps.getD 78 undef) (a.tmps.getD 10 undef) x w2 hR
  case hop =>
    intro i o hlt hi
    rcases (show i = 0 ∨ i = 1 ∨ i = 2 ∨ i = 3 ∨ i = 4 ∨ i = 5 ∨ i = 6 by omega) with rfl | rfl | rfl | rfl | rfl | rfl | rfl
    · obtain rfl := Option.some.inj hi
      clear hi hlt
      intro a w1 hL hS hD
      have e4 : a.tmps.getD 4 undef = .slice (some ⟨g, 0, none⟩) 2 2 := (hS.slot 4 (by kernel_rfl)).trans s4
      refine step_yes rfl ?_
      exact ok_value Lat.refl (.slice (some ⟨g, 0, none⟩) 2 2) (by simp [execOp, Act.eval, e4, go_sem]) rfl
    · obtain rfl := Option.some.inj hi
      clear hi hlt
      intro a w1 hL hS hD
      have d0 : a.tmps.getD 71 undef = .slice (some ⟨g, 0, none⟩) 2 2 := hD ⟨0, .data⟩ (by simp) rfl _ rfl
      refine step_yes rfl ?_
      exact ok_value Lat.refl (.pointer (some ⟨g, 2, none⟩)) (by simp [execOp, Act.eval, d0, go_sem]) rfl
    · obtain rfl := Option.some.inj hi
      clear hi hlt
      intro a w1 hL hS hD
      have d1 : a.tmps.getD 72 undef = .pointer (some ⟨g, 2, none⟩) := hD ⟨1, .data⟩ (by simp) rfl _ rfl
      refine step_yes rfl ?_
      exact ok_value Lat.refl (.agg #[.pointer (some ⟨p2, 0, none⟩), .pointer (some ⟨q2, 0, none⟩)]) (by simp [execOp, Act.eval, d1, g2 w1 hL, g3 w1 hL, go_sem]) rfl
    · obtain rfl := Option.some.inj hi
      clear hi hlt
      intro a w1 hL hS hD
      have e6 : a.tmps.getD 6 undef = .pointer (some ⟨ob, 0, none⟩) := (hS.slot 6 (by kernel_rfl)).trans s6
      refine step_yes rfl ?_
      exact ok_value Lat.refl (.pointer (some ⟨ob, 2, none⟩)) (by simp [execOp, Act.eval, e6, go_sem]) rfl
    · obtain rfl := Option.some.inj hi
      clear hi hlt
      intro a w1 hL hS hD
      have d3 : a.tmps.getD 74 undef = .pointer (some ⟨ob, 2, none⟩) := hD ⟨3, .data⟩ (by simp) rfl _ rfl
      refine step_yes rfl ?_
      exact ok_value Lat.refl (.string s) (by simp [execOp, Act.eval, d3, o2 w1 hL, go_sem]) rfl
    · obtain rfl := Option.some.inj hi
      clear hi hlt
      intro a w1 hL hS hD
      have e6 : a.tmps.getD 6 undef = .pointer (some ⟨ob, 0, none⟩) := (hS.slot 6 (by kernel_rfl)).trans s6
      refine step_yes rfl ?_
      exact ok_value Lat.refl (.pointer (some ⟨ob, 3, none⟩)) (by simp [execOp, Act.eval, e6, go_sem]) rfl
    · obtain rfl := Option.some.inj hi
      clear hi hlt
      intro a w1 hL hS hD
      have d5 : a.tmps.getD 76 undef = .pointer (some ⟨ob, 3, none⟩) := hD ⟨5, .data⟩ (by simp) rfl _ rfl
      refine step_yes rfl ?_
      exact ok_value Lat.refl (.int .i64 n) (by simp [execOp, Act.eval, d5, o3 w1 hL, go_sem]) rfl


end Go.Proofs.Ythkmbodpboplfaa
