import Derived.Test.YtgmcfejmhlglkaaPrE
import Derived.Test.YtgmcfejmhlglkaaCpU
namespace Go.Proofs.Ytgmcfejmhlglkaa
open Go.RowKit
set_option linter.unusedVariables false
set_option linter.unusedSimpArgs false

theorem wp_call_r {P : Program} {o : Oper} {a : Act} {w : World} {K : Act → World → Prop} {Q : Exit → Act → World → Prop} {f : FuncId} {args : Array Value} (h : (execOp a.eval o).run P w = .ok (.enter f args) w) (hc : Calls P f args w fun e w' => ∃ v, e = .returned v ∧ K (a.put o.dst v) w') : o.wp P a w K Q := by
  unfold Oper.wp
  rw [h]
  refine Calls.mono hc ?_
  rintro e w' ⟨v, rfl, hk⟩
  exact hk

set_option maxRecDepth 100000 in
set_option maxHeartbeats 2000000 in
theorem step_r15 (pp p ob : Nat) (f : Int) (R : Value → World → Prop) (w : World) (a0 : Act) (Q : Exit → Act → World → Prop) (hsz : a0.tmps.size = 301)
    (s0 : a0.tmps.getD 0 undef = .pointer (some ⟨pp, 0, none⟩))
    (s3 : a0.tmps.getD 3 undef = .pointer (some ⟨ob, 0, none⟩))
    (hA : ∀ w1, Lat w w1 → w1.cell? ⟨pp, 0, none⟩ = some (.pointer (some ⟨p, 0, none⟩)))
    (h2 : ∀ w1, Lat w w1 → w1.cell? ⟨ob, 2, none⟩ = some (.int .i64 f))
    (hcall : ∀ w1, Lat w w1 → Calls Try.prog 13 #[.pointer (some ⟨p, 0, none⟩), .int .i64 f] w1 fun e w2 => ∃ x, e = .returned x ∧ R x w2)
    (hQ : ∀ (v85 v86 v87 v88 v89 v90 v91 v11 : Value) (x : Value) (w2 : World), R x w2 → Q .normal ((((((((((a0.put (some 85) v85).put (some 86) v86).put (some 87) v87).put (some 88) v88).put (some 89) v89).put (some 90) v90).put (some 91) v91).put (some 11) v11).put (some 91) (x)).put (some 11) (x)) w2) :
    Code.wp Try.prog ((Try.f7.body.bind (findRegion 15)).getD .skip) Q a0 w := by
  conv => arg 2; whnf
  refine wp_region_tail 6 Lat (TE [Ent.val (.pointer (some ⟨pp, 0, none⟩)), Ent.val (.pointer (some ⟨pp, 0, none⟩)), Ent.val (.pointer (some ⟨pp, 0, none⟩)), Ent.val (.pointer (some ⟨p, 0, none⟩)), Ent.val (.pointer (some ⟨ob, 2, none⟩)), Ent.val (.int .i64 f)]) (by kernel_rfl) (by kernel_rfl) (by kernel_rfl) (by rw [hsz]; kernel_rfl) (by kernel_rfl) (by kernel_rfl) Lat.refl Lat.trans (TE_stable _) (Lat.draw w) ?hop ?hlast
  case hlast =>
    intro a w1 hL hS hT
    have k88 : a.tmps.getD 88 undef = .pointer (some ⟨p, 0, none⟩) := hT 3 _ (by omega) rfl
    have k90 : a.tmps.getD 90 undef = .int .i64 f := hT 5 _ (by omega) rfl
    refine wpAny_one 6 _ rfl rfl (by kernel_rfl) ?_
    refine wp_call_r (f := 13) (args := #[.pointer (some ⟨p, 0, none⟩), .int .i64 f]) (by simp [execOp, resolve, Act.eval, k88, k90, go_sem]) ?_
    refine (hcall w1 hL).mono ?_
    rintro e w2 ⟨x, rfl, hR⟩
    refine ⟨x, rfl, ?_⟩
    show wpAny Try.prog .any _ Q _ _ (a.put (some 91) (x)) w2
    obtain ⟨fr1, hfr1⟩ : ∃ y, a.put (some 91) (x) = y := ⟨_, rfl⟩
    rw [hfr1]
    have zfr1 : fr1.tmps.size = 301 := by rw [← hfr1, put_size]; exact (hS.size.trans hsz)
    have c1_88 : fr1.tmps.getD 88 undef = .pointer (some ⟨p, 0, none⟩) := by rw [← hfr1]; exact (put_slot _ 91 88 _ (by decide)).trans k88
    have c1_90 : fr1.tmps.getD 90 undef = .int .i64 f := by rw [← hfr1]; exact (put_slot _ 91 90 _ (by decide)).trans k90
    have c1_91 : fr1.tmps.getD 91 undef = x := by rw [← hfr1]; exact put_same _ 91 _ (by rw [(hS.size.trans hsz)]; decide)
    refine wpAny_one 7 _ rfl rfl (by kernel_rfl) ?_
    refine wp_val (x) (w' := w2) (by simp only [Array.getD_eq_getD_getElem?] at c1_91; simp [execOp, Act.eval, c1_91, go_sem]) ?_
    show wpAny Try.prog .any _ Q _ _ (fr1.put (some 11) (x)) w2
    obtain ⟨fr2, hfr2⟩ : ∃ y, fr1.put (some 11) (x) = y := ⟨_, rfl⟩
    rw [hfr2]
    have zfr2 : fr2.tmps.size = 301 := by rw [← hfr2, put_size]; exact zfr1
    have c2_88 : fr2.tmps.getD 88 undef = .pointer (some ⟨p, 0, none⟩) := by rw [← hfr2]; exact (put_slot _ 11 88 _ (by decide)).trans c1_88
    have c2_90 : fr2.tmps.getD 90 undef = .int .i64 f := by rw [← hfr2]; exact (put_slot _ 11 90 _ (by decide)).trans c1_90
    have c2_91 : fr2.tmps.getD 91 undef = x := by rw [← hfr2]; exact (put_slot _ 11 91 _ (by decide)).trans c1_91
    have c2_11 : fr2.tmps.getD 11 undef = x := by rw [← hfr2]; exact put_same _ 11 _ (by rw [zfr1]; decide)
    refine wpAny_nil (by kernel_rfl) ?_
    show Q .normal _ w2
    rw [← hfr2, ← hfr1]
    rw [same_puts hS]
    exact hQ (a.tmps.getD 85 undef) (a.tmps.getD 86 undef) (a.tmps.getD 87 undef) (a.tmps.getD 88 undef) (a.tmps.getD 89 undef) (a.tmps.getD 90 undef) (a.tmps.getD 91 undef) (a.tmps.getD 11 undef) x w2 hR
  case hop =>
    intro i o hlt hi
    rcases (show i = 0 ∨ i = 1 ∨ i = 2 ∨ i = 3 ∨ i = 4 ∨ i = 5 by omega) with rfl | rfl | rfl | rfl | rfl | rfl
    · obtain rfl := Option.some.inj hi
      clear hi hlt
      intro a w1 hL hS hD
      have e0 : a.tmps.getD 0 undef = .pointer (some ⟨pp, 0, none⟩) := (hS.slot 0 (by kernel_rfl)).trans s0
      refine step_yes rfl ?_
      exact ok_value Lat.refl (.pointer (some ⟨pp, 0, none⟩)) (by simp [execOp, Act.eval, e0, go_sem]) rfl
    · obtain rfl := Option.some.inj hi
      clear hi hlt
      intro a w1 hL hS hD
      have d0 : a.tmps.getD 85 undef = .pointer (some ⟨pp, 0, none⟩) := hD ⟨0, .data⟩ (by simp) rfl _ rfl
      refine step_yes rfl ?_
      exact ok_value Lat.refl (.pointer (some ⟨pp, 0, none⟩)) (by simp [execOp, Act.eval, d0, go_sem]) rfl
    · obtain rfl := Option.some.inj hi
      clear hi hlt
      intro a w1 hL hS hD
      have d1 : a.tmps.getD 86 undef = .pointer (some ⟨pp, 0, none⟩) := hD ⟨1, .data⟩ (by simp) rfl _ rfl
      refine step_yes rfl ?_
      exact ok_value Lat.refl (.pointer (some ⟨pp, 0, none⟩)) (by simp [execOp, Act.eval, d1, go_sem]) rfl
    · obtain rfl := Option.some.inj hi
      clear hi hlt
      intro a w1 hL hS hD
      have d2 : a.tmps.getD 87 undef = .pointer (some ⟨pp, 0, none⟩) := hD ⟨2, .data⟩ (by simp) rfl _ rfl
      refine step_yes rfl ?_
      exact ok_value Lat.refl (.pointer (some ⟨p, 0, none⟩)) (by simp [execOp, Act.eval, d2, hA w1 hL, go_sem]) rfl
    · obtain rfl := Option.some.inj hi
      clear hi hlt
      intro a w1 hL hS hD
      have e3 : a.tmps.getD 3 undef = .pointer (some ⟨ob, 0, none⟩) := (hS.slot 3 (by kernel_rfl)).trans s3
      refine step_yes rfl ?_
      exact ok_value Lat.refl (.pointer (some ⟨ob, 2, none⟩)) (by simp [execOp, Act.eval, e3, go_sem]) rfl
    · obtain rfl := Option.some.inj hi
      clear hi hlt
      intro a w1 hL hS hD
      have d4 : a.tmps.getD 89 undef = .pointer (some ⟨ob, 2, none⟩) := hD ⟨4, .data⟩ (by simp) rfl _ rfl
      refine step_yes rfl ?_
      exact ok_value Lat.refl (.int .i64 f) (by simp [execOp, Act.eval, d4, h2 w1 hL, go_sem]) rfl

set_option maxRecDepth 100000 in
set_option maxHeartbeats 2000000 in
theorem step_r16 (pp q ob : Nat) (f e0 : Int) (R : World → Prop) (w : World) (a0 : Act) (Q : Exit → Act → World → Prop) (hsz : a0.tmps.size = 301)
    (s0 : a0.tmps.getD 0 undef = .pointer (some ⟨pp, 0, none⟩))
    (s3 : a0.tmps.getD 3 undef = .pointer (some ⟨ob, 0, none⟩))
    (s11 : a0.tmps.getD 11 undef = .int .i64 e0)
    (hB : ∀ w1, Lat w w1 → w1.cell? ⟨pp, 1, none⟩ = some (.pointer (some ⟨q, 0, none⟩)))
    (h2 : ∀ w1, Lat w w1 → w1.cell? ⟨ob, 2, none⟩ = some (.int .i64 f))
    (hcall : ∀ w1, Lat w w1 → Calls Try.prog 28 #[.pointer (some ⟨q, 0, none⟩), .int .i64 f] w1 fun e w2 => e = .returned (.int .i64 e0) ∧ R w2)
    (hQ : ∀ (v92 v93 v94 v95 v96 v97 v98 v99 v100 v4 : Value) (w2 : World), R w2 → Q .normal (((((((((((((a0.put (some 92) v92).put (some 93) v93).put (some 94) v94).put (some 95) v95).put (some 96) v96).put (some 97) v97).put (some 98) v98).put (some 99) v99).put (some 100) v100).put (some 4) v4).put (some 99) (.int .i64 e0)).put (some 100) (.bool true)).put (some 4) (.bool true)) w2) :
    Code.wp Try.prog ((Try.f7.body.bind (findRegion 16)).getD .skip) Q a0 w := by
  conv => arg 2; whnf
  refine wp_region_late 7 Lat (TE [Ent.val (.int .i64 e0), Ent.val (.pointer (some ⟨pp, 0, none⟩)), Ent.val (.pointer (some ⟨pp, 0, none⟩)), Ent.val (.pointer (some ⟨pp, 1, none⟩)), Ent.val (.pointer (some ⟨q, 0, none⟩)), Ent.val (.pointer (some ⟨ob, 2, none⟩)), Ent.val (.int .i64 f)]) (by kernel_rfl) (by kernel_rfl) (by kernel_rfl) (by rw [hsz]; kernel_rfl) (by kernel_rfl) (by kernel_rfl) Lat.refl Lat.trans (TE_stable _) (Lat.draw w) ?hop ?hlast ?hlate
  case hlast =>
    intro a w1 hL hS hT
    have k96 : a.tmps.getD 96 undef = .pointer (some ⟨q, 0, none⟩) := hT 4 _ (by omega) rfl
    have k98 : a.tmps.getD 98 undef = .int .i64 f := hT 6 _ (by omega) rfl
    have ksrc : a.tmps.getD 11 undef = .int .i64 e0 := (hS.slot 11 (by kernel_rfl)).trans s11
    have k92 : a.tmps.getD 92 undef = .int .i64 e0 := hT 0 _ (by omega) rfl
    refine wpAny_one 7 _ rfl rfl (by kernel_rfl) ?_
    refine wp_call_r (f := 28) (args := #[.pointer (some ⟨q, 0, none⟩), .int .i64 f]) (by simp [execOp, resolve, Act.eval, k96, k98, go_sem]) ?_
    refine (hcall w1 hL).mono ?_
    rintro e w2 ⟨rfl, hR⟩
    refine ⟨_, rfl, ?_⟩
    show wpAny Try.prog .any _ Q _ _ (a.put (some 99) (.int .i64 e0)) w2
    obtain ⟨fr1, hfr1⟩ : ∃ y, a.put (some 99) (.int .i64 e0) = y := ⟨_, rfl⟩
    rw [hfr1]
    have zfr1 : fr1.tmps.size = 301 := by rw [← hfr1, put_size]; exact (hS.size.trans hsz)
    have c1_96 : fr1.tmps.getD 96 undef = .pointer (some ⟨q, 0, none⟩) := by rw [← hfr1]; exact (put_slot _ 99 96 _ (by decide)).trans k96
    have c1_98 : fr1.tmps.getD 98 undef = .int .i64 f := by rw [← hfr1]; exact (put_slot _ 99 98 _ (by decide)).trans k98
    have c1_11 : fr1.tmps.getD 11 undef = .int .i64 e0 := by rw [← hfr1]; exact (put_slot _ 99 11 _ (by decide)).trans ksrc
    have c1_92 : fr1.tmps.getD 92 undef = .int .i64 e0 := by rw [← hfr1]; exact (put_slot _ 99 92 _ (by decide)).trans k92
    have c1_99 : fr1.tmps.getD 99 undef = .int .i64 e0 := by rw [← hfr1]; exact put_same _ 99 _ (by rw [(hS.size.trans hsz)]; decide)
    refine wpAny_one 8 _ rfl rfl (by kernel_rfl) ?_
    refine wp_val (.bool true) (w' := w2) (by simp only [Array.getD_eq_getD_getElem?] at c1_92 c1_99; simp [execOp, Act.eval, c1_92, c1_99, go_sem]) ?_
    show wpAny Try.prog .any _ Q _ _ (fr1.put (some 100) (.bool true)) w2
    obtain ⟨fr2, hfr2⟩ : ∃ y, fr1.put (some 100) (.bool true) = y := ⟨_, rfl⟩
    rw [hfr2]
    have zfr2 : fr2.tmps.size = 301 := by rw [← hfr2, put_size]; exact zfr1
    have c2_96 : fr2.tmps.getD 96 undef = .pointer (some ⟨q, 0, none⟩) := by rw [← hfr2]; exact (put_slot _ 100 96 _ (by decide)).trans c1_96
    have c2_98 : fr2.tmps.getD 98 undef = .int .i64 f := by rw [← hfr2]; exact (put_slot _ 100 98 _ (by decide)).trans c1_98
    have c2_11 : fr2.tmps.getD 11 undef = .int .i64 e0 := by rw [← hfr2]; exact (put_slot _ 100 11 _ (by decide)).trans c1_11
    have c2_92 : fr2.tmps.getD 92 undef = .int .i64 e0 := by rw [← hfr2]; exact (put_slot _ 100 92 _ (by decide)).trans c1_92
    have c2_99 : fr2.tmps.getD 99 undef = .int .i64 e0 := by rw [← hfr2]; exact (put_slot _ 100 99 _ (by decide)).trans c1_99
    have c2_100 : fr2.tmps.getD 100 undef = .bool true := by rw [← hfr2]; exact put_same _ 100 _ (by rw [zfr1]; decide)
    refine wpAny_one 9 _ rfl rfl (by kernel_rfl) ?_
    refine wp_val (.bool true) (w' := w2) (by simp only [Array.getD_eq_getD_getElem?] at c2_100; simp [execOp, Act.eval, c2_100, go_sem]) ?_
    show wpAny Try.prog .any _ Q _ _ (fr2.put (some 4) (.bool true)) w2
    obtain ⟨fr3, hfr3⟩ : ∃ y, fr2.put (some 4) (.bool true) = y := ⟨_, rfl⟩
    rw [hfr3]
    have zfr3 : fr3.tmps.size = 301 := by rw [← hfr3, put_size]; exact zfr2
    have c3_96 : fr3.tmps.getD 96 undef = .pointer (some ⟨q, 0, none⟩) := by rw [← hfr3]; exact (put_slot _ 4 96 _ (by decide)).trans c2_96
    have c3_98 : fr3.tmps.getD 98 undef = .int .i64 f := by rw [← hfr3]; exact (put_slot _ 4 98 _ (by decide)).trans c2_98
    have c3_11 : fr3.tmps.getD 11 undef = .int .i64 e0 := by rw [← hfr3]; exact (put_slot _ 4 11 _ (by decide)).trans c2_11
    have c3_92 : fr3.tmps.getD 92 undef = .int .i64 e0 := by rw [← hfr3]; exact (put_slot _ 4 92 _ (by decide)).trans c2_92
    have c3_99 : fr3.tmps.getD 99 undef = .int .i64 e0 := by rw [← hfr3]; exact (put_slot _ 4 99 _ (by decide)).trans c2_99
    have c3_100 : fr3.tmps.getD 100 undef = .bool true := by rw [← hfr3]; exact (put_slot _ 4 100 _ (by decide)).trans c2_100
    have c3_4 : fr3.tmps.getD 4 undef = .bool true := by rw [← hfr3]; exact put_same _ 4 _ (by rw [zfr2]; decide)
    refine wpAny_nil (by kernel_rfl) ?_
    show Q .normal _ w2
    rw [← hfr3, ← hfr2, ← hfr1]
    rw [same_puts hS]
    exact hQ (a.tmps.getD 92 undef) (a.tmps.getD 93 undef) (a.tmps.getD 94 undef) (a.tmps.getD 95 undef) (a.tmps.getD 96 undef) (a.tmps.getD 97 undef) (a.tmps.getD 98 undef) (a.tmps.getD 99 undef) (a.tmps.getD 100 undef) (a.tmps.getD 4 undef) w2 hR
  case hlate =>
    intro a w1 hL hS hT
    have k96 : a.tmps.getD 96 undef = .pointer (some ⟨q, 0, none⟩) := hT 4 _ (by omega) (by omega) rfl
    have k98 : a.tmps.getD 98 undef = .int .i64 f := hT 6 _ (by omega) (by omega) rfl
    have ksrc : a.tmps.getD 11 undef = .int .i64 e0 := (hS.slot 11 (by kernel_rfl)).trans s11
    have hS1 := same_put (a := a) (i := 0) (v := .int .i64 e0) rfl hS
    have he1 := same_puts hS1
    refine wpAny_two 0 7 _ _ rfl rfl rfl rfl (by kernel_rfl) ?_ ?_
    · refine wp_val (.int .i64 e0) (w' := w1) (by simp only [Array.getD_eq_getD_getElem?] at ksrc; simp [execOp, Act.eval, ksrc, go_sem]) ?_
      show wpAny Try.prog .any _ Q _ _ (a.put (some 92) (.int .i64 e0)) w1
      obtain ⟨fr1, hfr1⟩ : ∃ y, a.put (some 92) (.int .i64 e0) = y := ⟨_, rfl⟩
      rw [hfr1]
      have zfr1 : fr1.tmps.size = 301 := by rw [← hfr1, put_size]; exact (hS.size.trans hsz)
      have c1_96 : fr1.tmps.getD 96 undef = .pointer (some ⟨q, 0, none⟩) := by rw [← hfr1]; exact (put_slot _ 92 96 _ (by decide)).trans k96
      have c1_98 : fr1.tmps.getD 98 undef = .int .i64 f := by rw [← hfr1]; exact (put_slot _ 92 98 _ (by decide)).trans k98
      have c1_11 : fr1.tmps.getD 11 undef = .int .i64 e0 := by rw [← hfr1]; exact (put_slot _ 92 11 _ (by decide)).trans ksrc
      have c1_92 : fr1.tmps.getD 92 undef = .int .i64 e0 := by rw [← hfr1]; exact put_same _ 92 _ (by rw [(hS.size.trans hsz)]; decide)
      refine wpAny_one 7 _ rfl rfl (by kernel_rfl) ?_
      refine wp_call_r (f := 28) (args := #[.pointer (some ⟨q, 0, none⟩), .int .i64 f]) (by simp [execOp, resolve, Act.eval, c1_96, c1_98, go_sem]) ?_
      refine (hcall w1 hL).mono ?_
      rintro e w2 ⟨rfl, hR⟩
      refine ⟨_, rfl, ?_⟩
      show wpAny Try.prog .any _ Q _ _ (fr1.put (some 99) (.int .i64 e0)) w2
      obtain ⟨fr2, hfr2⟩ : ∃ y, fr1.put (some 99) (.int .i64 e0) = y := ⟨_, rfl⟩
      rw [hfr2]
      have zfr2 : fr2.tmps.size = 301 := by rw [← hfr2, put_size]; exact zfr1
      have c2_96 : fr2.tmps.getD 96 undef = .pointer (some ⟨q, 0, none⟩) := by rw [← hfr2]; exact (put_slot _ 99 96 _ (by decide)).trans c1_96
      have c2_98 : fr2.tmps.getD 98 undef = .int .i64 f := by rw [← hfr2]; exact (put_slot _ 99 98 _ (by decide)).trans c1_98
      have c2_11 : fr2.tmps.getD 11 undef = .int .i64 e0 := by rw [← hfr2]; exact (put_slot _ 99 11 _ (by decide)).trans c1_11
      have c2_92 : fr2.tmps.getD 92 undef = .int .i64 e0 := by rw [← hfr2]; exact (put_slot _ 99 92 _ (by decide)).trans c1_92
      have c2_99 : fr2.tmps.getD 99 undef = .int .i64 e0 := by rw [← hfr2]; exact put_same _ 99 _ (by rw [zfr1]; decide)
      refine wpAny_one 8 _ rfl rfl (by kernel_rfl) ?_
      refine wp_val (.bool true) (w' := w2) (by simp only [Array.getD_eq_getD_getElem?] at c2_92 c2_99; simp [execOp, Act.eval, c2_92, c2_99, go_sem]) ?_
      show wpAny Try.prog .any _ Q _ _ (fr2.put (some 100) (.bool true)) w2
      obtain ⟨fr3, hfr3⟩ : ∃ y, fr2.put (some 100) (.bool true) = y := ⟨_, rfl⟩
      rw [hfr3]
      have zfr3 : fr3.tmps.size = 301 := by rw [← hfr3, put_size]; exact zfr2
      have c3_96 : fr3.tmps.getD 96 undef = .pointer (some ⟨q, 0, none⟩) := by rw [← hfr3]; exact (put_slot _ 100 96 _ (by decide)).trans c2_96
      have c3_98 : fr3.tmps.getD 98 undef = .int .i64 f := by rw [← hfr3]; exact (put_slot _ 100 98 _ (by decide)).trans c2_98
      have c3_11 : fr3.tmps.getD 11 undef = .int .i64 e0 := by rw [← hfr3]; exact (put_slot _ 100 11 _ (by decide)).trans c2_11
      have c3_92 : fr3.tmps.getD 92 undef = .int .i64 e0 := by rw [← hfr3]; exact (put_slot _ 100 92 _ (by decide)).trans c2_92
      have c3_99 : fr3.tmps.getD 99 undef = .int .i64 e0 := by rw [← hfr3]; exact (put_slot _ 100 99 _ (by decide)).trans c2_99
      have c3_100 : fr3.tmps.getD 100 undef = .bool true := by rw [← hfr3]; exact put_same _ 100 _ (by rw [zfr2]; decide)
      refine wpAny_one 9 _ rfl rfl (by kernel_rfl) ?_
      refine wp_val (.bool true) (w' := w2) (by simp only [Array.getD_eq_getD_getElem?] at c3_100; simp [execOp, Act.eval, c3_100, go_sem]) ?_
      show wpAny Try.prog .any _ Q _ _ (fr3.put (some 4) (.bool true)) w2
      obtain ⟨fr4, hfr4⟩ : ∃ y, fr3.put (some 4) (.bool true) = y := ⟨_, rfl⟩
      rw [hfr4]
      have zfr4 : fr4.tmps.size = 301 := by rw [← hfr4, put_size]; exact zfr3
      have c4_96 : fr4.tmps.getD 96 undef = .pointer (some ⟨q, 0, none⟩) := by rw [← hfr4]; exact (put_slot _ 4 96 _ (by decide)).trans c3_96
      have c4_98 : fr4.tmps.getD 98 undef = .int .i64 f := by rw [← hfr4]; exact (put_slot _ 4 98 _ (by decide)).trans c3_98
      have c4_11 : fr4.tmps.getD 11 undef = .int .i64 e0 := by rw [← hfr4]; exact (put_slot _ 4 11 _ (by decide)).trans c3_11
      have c4_92 : fr4.tmps.getD 92 undef = .int .i64 e0 := by rw [← hfr4]; exact (put_slot _ 4 92 _ (by decide)).trans c3_92
      have c4_99 : fr4.tmps.getD 99 undef = .int .i64 e0 := by rw [← hfr4]; exact (put_slot _ 4 99 _ (by decide)).trans c3_99
      have c4_100 : fr4.tmps.getD 100 undef = .bool true := by rw [← hfr4]; exact (put_slot _ 4 100 _ (by decide)).trans c3_100
      have c4_4 : fr4.tmps.getD 4 undef = .bool true := by rw [← hfr4]; exact put_same _ 4 _ (by rw [zfr3]; decide)
      refine wpAny_nil (by kernel_rfl) ?_
      show Q .normal _ w2
      rw [← hfr4, ← hfr3, ← hfr2, ← hfr1]
      have he2 : (a.put (some 92) (.int .i64 e0)) = _ := he1
      rw [he2]
      exact hQ ((a.put (some 92) (.int .i64 e0)).tmps.getD 92 undef) ((a.put (some 92) (.int .i64 e0)).tmps.getD 93 undef) ((a.put (some 92) (.int .i64 e0)).tmps.getD 94 undef) ((a.put (some 92) (.int .i64 e0)).tmps.getD 95 undef) ((a.put (some 92) (.int .i64 e0)).tmps.getD 96 undef) ((a.put (some 92) (.int .i64 e0)).tmps.getD 97 undef) ((a.put (some 92) (.int .i64 e0)).tmps.getD 98 undef) ((a.put (some 92) (.int .i64 e0)).tmps.getD 99 undef) ((a.put (some 92) (.int .i64 e0)).tmps.getD 100 undef) ((a.put (some 92) (.int .i64 e0)).tmps.getD 4 undef) w2 hR
    · refine wp_call_r (f := 28) (args := #[.pointer (some ⟨q, 0, none⟩), .int .i64 f]) (by simp [execOp, resolve, Act.eval, k96, k98, go_sem]) ?_
      refine (hcall w1 hL).mono ?_
      rintro e w2 ⟨rfl, hR⟩
      refine ⟨_, rfl, ?_⟩
      show wpAny Try.prog .any _ Q _ _ (a.put (some 99) (.int .i64 e0)) w2
      obtain ⟨fr1, hfr1⟩ : ∃ y, a.put (some 99) (.int .i64 e0) = y := ⟨_, rfl⟩
      rw [hfr1]
      have zfr1 : fr1.tmps.size = 301 := by rw [← hfr1, put_size]; exact (hS.size.trans hsz)
      have c1_96 : fr1.tmps.getD 96 undef = .pointer (some ⟨q, 0, none⟩) := by rw [← hfr1]; exact (put_slot _ 99 96 _ (by decide)).trans k96
      have c1_98 : fr1.tmps.getD 98 undef = .int .i64 f := by rw [← hfr1]; exact (put_slot _ 99 98 _ (by decide)).trans k98
      have c1_11 : fr1.tmps.getD 11 undef = .int .i64 e0 := by rw [← hfr1]; exact (put_slot _ 99 11 _ (by decide)).trans ksrc
      have c1_99 : fr1.tmps.getD 99 undef = .int .i64 e0 := by rw [← hfr1]; exact put_same _ 99 _ (by rw [(hS.size.trans hsz)]; decide)
      refine wpAny_one 0 _ rfl rfl (by kernel_rfl) ?_
      refine wp_val (.int .i64 e0) (w' := w2) (by simp only [Array.getD_eq_getD_getElem?] at c1_11; simp [execOp, Act.eval, c1_11, go_sem]) ?_
      show wpAny Try.prog .any _ Q _ _ (fr1.put (some 92) (.int .i64 e0)) w2
      obtain ⟨fr2, hfr2⟩ : ∃ y, fr1.put (some 92) (.int .i64 e0) = y := ⟨_, rfl⟩
      rw [hfr2]
      have zfr2 : fr2.tmps.size = 301 := by rw [← hfr2, put_size]; exact zfr1
      have c2_96 : fr2.tmps.getD 96 undef = .pointer (some ⟨q, 0, none⟩) := by rw [← hfr2]; exact (put_slot _ 92 96 _ (by decide)).trans c1_96
      have c2_98 : fr2.tmps.getD 98 undef = .int .i64 f := by rw [← hfr2]; exact (put_slot _ 92 98 _ (by decide)).trans c1_98
      have c2_11 : fr2.tmps.getD 11 undef = .int .i64 e0 := by rw [← hfr2]; exact (put_slot _ 92 11 _ (by decide)).trans c1_11
      have c2_99 : fr2.tmps.getD 99 undef = .int .i64 e0 := by rw [← hfr2]; exact (put_slot _ 92 99 _ (by decide)).trans c1_99
      have c2_92 : fr2.tmps.getD 92 undef = .int .i64 e0 := by rw [← hfr2]; exact put_same _ 92 _ (by rw [zfr1]; decide)
      refine wpAny_one 8 _ rfl rfl (by kernel_rfl) ?_
      refine wp_val (.bool true) (w' := w2) (by simp only [Array.getD_eq_getD_getElem?] at c2_92 c2_99; simp [execOp, Act.eval, c2_92, c2_99, go_sem]) ?_
      show wpAny Try.prog .any _ Q _ _ (fr2.put (some 100) (.bool true)) w2
      obtain ⟨fr3, hfr3⟩ : ∃ y, fr2.put (some 100) (.bool true) = y := ⟨_, rfl⟩
      rw [hfr3]
      have zfr3 : fr3.tmps.size = 301 := by rw [← hfr3, put_size]; exact zfr2
      have c3_96 : fr3.tmps.getD 96 undef = .pointer (some ⟨q, 0, none⟩) := by rw [← hfr3]; exact (put_slot _ 100 96 _ (by decide)).trans c2_96
      have c3_98 : fr3.tmps.getD 98 undef = .int .i64 f := by rw [← hfr3]; exact (put_slot _ 100 98 _ (by decide)).trans c2_98
      have c3_11 : fr3.tmps.getD 11 undef = .int .i64 e0 := by rw [← hfr3]; exact (put_slot _ 100 11 _ (by decide)).trans c2_11
      have c3_99 : fr3.tmps.getD 99 undef = .int .i64 e0 := by rw [← hfr3]; exact (put_slot _ 100 99 _ (by decide)).trans c2_99
      have c3_92 : fr3.tmps.getD 92 undef = .int .i64 e0 := by rw [← hfr3]; exact (put_slot _ 100 92 _ (by decide)).trans c2_92
      have c3_100 : fr3.tmps.getD 100 undef = .bool true := by rw [← hfr3]; exact put_same _ 100 _ (by rw [zfr2]; decide)
      refine wpAny_one 9 _ rfl rfl (by kernel_rfl) ?_
      refine wp_val (.bool true) (w' := w2) (by simp only [Array.getD_eq_getD_getElem?] at c3_100; simp [execOp, Act.eval, c3_100, go_sem]) ?_
      show wpAny Try.prog .any _ Q _ _ (fr3.put (some 4) (.bool true)) w2
      obtain ⟨fr4, hfr4⟩ : ∃ y, fr3.put (some 4) (.bool true) = y := ⟨_, rfl⟩
      rw [hfr4]
      have zfr4 : fr4.tmps.size = 301 := by rw [← hfr4, put_size]; exact zfr3
      have c4_96 : fr4.tmps.getD 96 undef = .pointer (some ⟨q, 0, none⟩) := by rw [← hfr4]; exact (put_slot _ 4 96 _ (by decide)).trans c3_96
      have c4_98 : fr4.tmps.getD 98 undef = .int .i64 f := by rw [← hfr4]; exact (put_slot _ 4 98 _ (by decide)).trans c3_98
      have c4_11 : fr4.tmps.getD 11 undef = .int .i64 e0 := by rw [← hfr4]; exact (put_slot _ 4 11 _ (by decide)).trans c3_11
      have c4_99 : fr4.tmps.getD 99 undef = .int .i64 e0 := by rw [← hfr4]; exact (put_slot _ 4 99 _ (by decide)).trans c3_99
      have c4_92 : fr4.tmps.getD 92 undef = .int .i64 e0 := by rw [← hfr4]; exact (put_slot _ 4 92 _ (by decide)).trans c3_92
      have c4_100 : fr4.tmps.getD 100 undef = .bool true := by rw [← hfr4]; exact (put_slot _ 4 100 _ (by decide)).trans c3_100
      have c4_4 : fr4.tmps.getD 4 undef = .bool true := by rw [← hfr4]; exact put_same _ 4 _ (by rw [zfr3]; decide)
      refine wpAny_nil (by kernel_rfl) ?_
      show Q .normal _ w2
      rw [← hfr4, ← hfr3, ← hfr2, ← hfr1]
      rw [put_comm a 99 92 _ _ (by decide)]
      have he2 : (a.put (some 92) (.int .i64 e0)) = _ := he1
      rw [he2]
      exact hQ ((a.put (some 92) (.int .i64 e0)).tmps.getD 92 undef) ((a.put (some 92) (.int .i64 e0)).tmps.getD 93 undef) ((a.put (some 92) (.int .i64 e0)).tmps.getD 94 undef) ((a.put (some 92) (.int .i64 e0)).tmps.getD 95 undef) ((a.put (some 92) (.int .i64 e0)).tmps.getD 96 undef) ((a.put (some 92) (.int .i64 e0)).tmps.getD 97 undef) ((a.put (some 92) (.int .i64 e0)).tmps.getD 98 undef) ((a.put (some 92) (.int .i64 e0)).tmps.getD 99 undef) ((a.put (some 92) (.int .i64 e0)).tmps.getD 100 undef) ((a.put (some 92) (.int .i64 e0)).tmps.getD 4 undef) w2 hR
  case hop =>
    intro i o hlt hi
    rcases (show i = 0 ∨ i = 1 ∨ i = 2 ∨ i = 3 ∨ i = 4 ∨ i = 5 ∨ i = 6 by omega) with rfl | rfl | rfl | rfl | rfl | rfl | rfl
    · obtain rfl := Option.some.inj hi
      clear hi hlt
      intro a w1 hL hS hD
      have e11 : a.tmps.getD 11 undef = .int .i64 e0 := (hS.slot 11 (by kernel_rfl)).trans s11
      refine step_yes rfl ?_
      exact ok_value Lat.refl (.int .i64 e0) (by simp [execOp, Act.eval, e11, go_sem]) rfl
    · obtain rfl := Option.some.inj hi
      clear hi hlt
      intro a w1 hL hS hD
      have e0 : a.tmps.getD 0 undef = .pointer (some ⟨pp, 0, none⟩) := (hS.slot 0 (by kernel_rfl)).trans s0
      refine step_yes rfl ?_
      exact ok_value Lat.refl (.pointer (some ⟨pp, 0, none⟩)) (by simp [execOp, Act.eval, e0, go_sem]) rfl
    · obtain rfl := Option.some.inj hi
      clear hi hlt
      intro a w1 hL hS hD
      have d1 : a.tmps.getD 93 undef = .pointer (some ⟨pp, 0, none⟩) := hD ⟨1, .data⟩ (by simp) rfl _ rfl
      refine step_yes rfl ?_
      exact ok_value Lat.refl (.pointer (some ⟨pp, 0, none⟩)) (by simp [execOp, Act.eval, d1, go_sem]) rfl
    · obtain rfl := Option.some.inj hi
      clear hi hlt
      intro a w1 hL hS hD
      have d2 : a.tmps.getD 94 undef = .pointer (some ⟨pp, 0, none⟩) := hD ⟨2, .data⟩ (by simp) rfl _ rfl
      refine step_yes rfl ?_
      exact ok_value Lat.refl (.pointer (some ⟨pp, 1, none⟩)) (by simp [execOp, Act.eval, d2, go_sem]) rfl
    · obtain rfl := Option.some.inj hi
      clear hi hlt
      intro a w1 hL hS hD
      have d3 : a.tmps.getD 95 undef = .pointer (some ⟨pp, 1, none⟩) := hD ⟨3, .data⟩ (by simp) rfl _ rfl
      refine step_yes rfl ?_
      exact ok_value Lat.refl (.pointer (some ⟨q, 0, none⟩)) (by simp [execOp, Act.eval, d3, hB w1 hL, go_sem]) rfl
    · obtain rfl := Option.some.inj hi
      clear hi hlt
      intro a w1 hL hS hD
      have e3 : a.tmps.getD 3 undef = .pointer (some ⟨ob, 0, none⟩) := (hS.slot 3 (by kernel_rfl)).trans s3
      refine step_yes rfl ?_
      exact ok_value Lat.refl (.pointer (some ⟨ob, 2, none⟩)) (by simp [execOp, Act.eval, e3, go_sem]) rfl
    · obtain rfl := Option.some.inj hi
      clear hi hlt
      intro a w1 hL hS hD
      have d5 : a.tmps.getD 97 undef = .pointer (some ⟨ob, 2, none⟩) := hD ⟨5, .data⟩ (by simp) rfl _ rfl
      refine step_yes rfl ?_
      exact ok_value Lat.refl (.int .i64 f) (by simp [execOp, Act.eval, d5, h2 w1 hL, go_sem]) rfl

set_option maxRecDepth 100000 in
set_option maxHeartbeats 2000000 in
theorem step_r18 (pp p ob : Nat) (f nn : Int) (R : Value → World → Prop) (w : World) (a0 : Act) (Q : Exit → Act → World → Prop) (hsz : a0.tmps.size = 301)
    (s0 : a0.tmps.getD 0 undef = .pointer (some ⟨pp, 0, none⟩))
    (s3 : a0.tmps.getD 3 undef = .pointer (some ⟨ob, 0, none⟩))
    (hA : ∀ w1, Lat w w1 → w1.cell? ⟨pp, 0, none⟩ = some (.pointer (some ⟨p, 0, none⟩)))
    (h2 : ∀ w1, Lat w w1 → w1.cell? ⟨ob, 2, none⟩ = some (.int .i64 f))
    (h4 : ∀ w1, Lat w w1 → w1.cell? ⟨ob, 4, none⟩ = some (.int .i64 nn))
    (hcall : ∀ w1, Lat w w1 → Calls Try.prog 14 #[.pointer (some ⟨p, 0, none⟩), .int .i64 f, .int .i64 nn] w1 fun e w2 => ∃ x, e = .returned x ∧ R x w2)
    (hQ : ∀ (v103 v104 v105 v106 v107 v108 v109 v110 v111 v12 : Value) (x : Value) (w2 : World), R x w2 → Q .normal ((((((((((((a0.put (some 103) v103).put (some 104) v104).put (some 105) v105).put (some 106) v106).put (some 107) v107).put (some 108) v108).put (some 109) v109).put (some 110) v110).put (some 111) v111).put (some 12) v12).put (some 111) (x)).put (some 12) (x)) w2) :
    Code.wp Try.prog ((Try.f7.body.bind (findRegion 18)).getD .skip) Q a0 w := by
  conv => arg 2; whnf
  refine wp_region_tail 8 Lat (TE [Ent.val (.pointer (some ⟨pp, 0, none⟩)), Ent.val (.pointer (some ⟨pp, 0, none⟩)), Ent.val (.pointer (some ⟨pp, 0, none⟩)), Ent.val (.pointer (some ⟨p, 0, none⟩)), Ent.val (.pointer (some ⟨ob, 2, none⟩)), Ent.val (.int .i64 f), Ent.val (.pointer (some ⟨ob, 4, none⟩)), Ent.val (.int .i64 nn)]) (by kernel_rfl) (by kernel_rfl) (by kernel_rfl) (by rw [hsz]; kernel_rfl) (by kernel_rfl) (by kernel_rfl) Lat.refl Lat.trans (TE_stable _) (Lat.draw w) ?hop ?hlast
  case hlast =>
    intro a w1 hL hS hT
    have k106 : a.tmps.getD 106 undef = .pointer (some ⟨p, 0, none⟩) := hT 3 _ (by omega) rfl
    have k108 : a.tmps.getD 108 undef = .int .i64 f := hT 5 _ (by omega) rfl
    have k110 : a.tmps.getD 110 undef = .int .i64 nn := hT 7 _ (by omega) rfl
    refine wpAny_one 8 _ rfl rfl (by kernel_rfl) ?_
    refine wp_call_r (f := 14) (args := #[.pointer (some ⟨p, 0, none⟩), .int .i64 f, .int .i64 nn]) (by simp [execOp, resolve, Act.eval, k106, k108, k110, go_sem]) ?_
    refine (hcall w1 hL).mono ?_
    rintro e w2 ⟨x, rfl, hR⟩
    refine ⟨x, rfl, ?_⟩
    show wpAny Try.prog .any _ Q _ _ (a.put (some 111) (x)) w2
    obtain ⟨fr1, hfr1⟩ : ∃ y, a.put (some 111) (x) = y := ⟨_, rfl⟩
    rw [hfr1]
    have zfr1 : fr1.tmps.size = 301 := by rw [← hfr1, put_size]; exact (hS.size.trans hsz)
    have c1_106 : fr1.tmps.getD 106 undef = .pointer (some ⟨p, 0, none⟩) := by rw [← hfr1]; exact (put_slot _ 111 106 _ (by decide)).trans k106
    have c1_108 : fr1.tmps.getD 108 undef = .int .i64 f := by rw [← hfr1]; exact (put_slot _ 111 108 _ (by decide)).trans k108
    have c1_110 : fr1.tmps.getD 110 undef = .int .i64 nn := by rw [← hfr1]; exact (put_slot _ 111 110 _ (by decide)).trans k110
    have c1_111 : fr1.tmps.getD 111 undef = x := by rw [← hfr1]; exact put_same _ 111 _ (by rw [(hS.size.trans hsz)]; decide)
    refine wpAny_one 9 _ rfl rfl (by kernel_rfl) ?_
    refine wp_val (x) (w' := w2) (by simp only [Array.getD_eq_getD_getElem?] at c1_111; simp [execOp, Act.eval, c1_111, go_sem]) ?_
    show wpAny Try.prog .any _ Q _ _ (fr1.put (some 12) (x)) w2
    obtain ⟨fr2, hfr2⟩ : ∃ y, fr1.put (some 12) (x) = y := ⟨_, rfl⟩
    rw [hfr2]
    have zfr2 : fr2.tmps.size = 301 := by rw [← hfr2, put_size]; exact zfr1
    have c2_106 : fr2.tmps.getD 106 undef = .pointer (some ⟨p, 0, none⟩) := by rw [← hfr2]; exact (put_slot _ 12 106 _ (by decide)).trans c1_106
    have c2_108 : fr2.tmps.getD 108 undef = .int .i64 f := by rw [← hfr2]; exact (put_slot _ 12 108 _ (by decide)).trans c1_108
    have c2_110 : fr2.tmps.getD 110 undef = .int .i64 nn := by rw [← hfr2]; exact (put_slot _ 12 110 _ (by decide)).trans c1_110
    have c2_111 : fr2.tmps.getD 111 undef = x := by rw [← hfr2]; exact (put_slot _ 12 111 _ (by decide)).trans c1_111
    have c2_12 : fr2.tmps.getD 12 undef = x := by rw [← hfr2]; exact put_same _ 12 _ (by rw [zfr1]; decide)
    refine wpAny_nil (by kernel_rfl) ?_
    show Q .normal _ w2
    rw [← hfr2, ← hfr1]
    rw [same_puts hS]
    exact hQ (a.tmps.getD 103 undef) (a.tmps.getD 104 undef) (a.tmps.getD 105 undef) (a.tmps.getD 106 undef) (a.tmps.getD 107 undef) (a.tmps.getD 108 undef) (a.tmps.getD 109 undef) (a.tmps.getD 110 undef) (a.tmps.getD 111 undef) (a.tmps.getD 12 undef) x w2 hR
  case hop =>
    intro i o hlt hi
    rcases (show i = 0 ∨ i = 1 ∨ i = 2 ∨ i = 3 ∨ i = 4 ∨ i = 5 ∨ i = 6 ∨ i = 7 by omega) with rfl | rfl | rfl | rfl | rfl | rfl | rfl | rfl
    · obtain rfl := Option.some.inj hi
      clear hi hlt
      intro a w1 hL hS hD
      have e0 : a.tmps.getD 0 undef = .pointer (some ⟨pp, 0, none⟩) := (hS.slot 0 (by kernel_rfl)).trans s0
      refine step_yes rfl ?_
      exact ok_value Lat.refl (.pointer (some ⟨pp, 0, none⟩)) (by simp [execOp, Act.eval, e0, go_sem]) rfl
    · obtain rfl := Option.some.inj hi
      clear hi hlt
      intro a w1 hL hS hD
      have d0 : a.tmps.getD 103 undef = .pointer (some ⟨pp, 0, none⟩) := hD ⟨0, .data⟩ (by simp) rfl _ rfl
      refine step_yes rfl ?_
      exact ok_value Lat.refl (.pointer (some ⟨pp, 0, none⟩)) (by simp [execOp, Act.eval, d0, go_sem]) rfl
    · obtain rfl := Option.some.inj hi
      clear hi hlt
      intro a w1 hL hS hD
      have d1 : a.tmps.getD 104 undef = .pointer (some ⟨pp, 0, none⟩) := hD ⟨1, .data⟩ (by simp) rfl _ rfl
      refine step_yes rfl ?_
      exact ok_value Lat.refl (.pointer (some ⟨pp, 0, none⟩)) (by simp [execOp, Act.eval, d1, go_sem]) rfl
    · obtain rfl := Option.some.inj hi
      clear hi hlt
      intro a w1 hL hS hD
      have d2 : a.tmps.getD 105 undef = .pointer (some ⟨pp, 0, none⟩) := hD ⟨2, .data⟩ (by simp) rfl _ rfl
      refine step_yes rfl ?_
      exact ok_value Lat.refl (.pointer (some ⟨p, 0, none⟩)) (by simp [execOp, Act.eval, d2, hA w1 hL, go_sem]) rfl
    · obtain rfl := Option.some.inj hi
      clear hi hlt
      intro a w1 hL hS hD
      have e3 : a.tmps.getD 3 undef = .pointer (some ⟨ob, 0, none⟩) := (hS.slot 3 (by kernel_rfl)).trans s3
      refine step_yes rfl ?_
      exact ok_value Lat.refl (.pointer (some ⟨ob, 2, none⟩)) (by simp [execOp, Act.eval, e3, go_sem]) rfl
    · obtain rfl := Option.some.inj hi
      clear hi hlt
      intro a w1 hL hS hD
      have d4 : a.tmps.getD 107 undef = .pointer (some ⟨ob, 2, none⟩) := hD ⟨4, .data⟩ (by simp) rfl _ rfl
      refine step_yes rfl ?_
      exact ok_value Lat.refl (.int .i64 f) (by simp [execOp, Act.eval, d4, h2 w1 hL, go_sem]) rfl
    · obtain rfl := Option.some.inj hi
      clear hi hlt
      intro a w1 hL hS hD
      have e3 : a.tmps.getD 3 undef = .pointer (some ⟨ob, 0, none⟩) := (hS.slot 3 (by kernel_rfl)).trans s3
      refine step_yes rfl ?_
      exact ok_value Lat.refl (.pointer (some ⟨ob, 4, none⟩)) (by simp [execOp, Act.eval, e3, go_sem]) rfl
    · obtain rfl := Option.some.inj hi
      clear hi hlt
      intro a w1 hL hS hD
      have d6 : a.tmps.getD 109 undef = .pointer (some ⟨ob, 4, none⟩) := hD ⟨6, .data⟩ (by simp) rfl _ rfl
      refine step_yes rfl ?_
      exact ok_value Lat.refl (.int .i64 nn) (by simp [execOp, Act.eval, d6, h4 w1 hL, go_sem]) rfl

set_option maxRecDepth 100000 in
set_option maxHeartbeats 2000000 in
theorem step_r19 (pp q ob : Nat) (f nn e0 : Int) (R : World → Prop) (w : World) (a0 : Act) (Q : Exit → Act → World → Prop) (hsz : a0.tmps.size = 301)
    (s0 : a0.tmps.getD 0 undef = .pointer (some ⟨pp, 0, none⟩))
    (s3 : a0.tmps.getD 3 undef = .pointer (some ⟨ob, 0, none⟩))
    (s12 : a0.tmps.getD 12 undef = .int .i64 e0)
    (hB : ∀ w1, Lat w w1 → w1.cell? ⟨pp, 1, none⟩ = some (.pointer (some ⟨q, 0, none⟩)))
    (h2 : ∀ w1, Lat w w1 → w1.cell? ⟨ob, 2, none⟩ = some (.int .i64 f))
    (h4 : ∀ w1, Lat w w1 → w1.cell? ⟨ob, 4, none⟩ = some (.int .i64 nn))
    (hcall : ∀ w1, Lat w w1 → Calls Try.prog 29 #[.pointer (some ⟨q, 0, none⟩), .int .i64 f, .int .i64 nn] w1 fun e w2 => e = .returned (.int .i64 e0) ∧ R w2)
    (hQ : ∀ (v112 v113 v114 v115 v116 v117 v118 v119 v120 v121 v122 v4 : Value) (w2 : World), R w2 → Q .normal (((((((((((((((a0.put (some 112) v112).put (some 113) v113).put (some 114) v114).put (some 115) v115).put (some 116) v116).put (some 117) v117).put (some 118) v118).put (some 119) v119).put (some 120) v120).put (some 121) v121).put (some 122) v122).put (some 4) v4).put (some 121) (.int .i64 e0)).put (some 122) (.bool true)).put (some 4) (.bool true)) w2) :
    Code.wp Try.prog ((Try.f7.body.bind (findRegion 19)).getD .skip) Q a0 w := by
  conv => arg 2; whnf
  refine wp_region_late 9 Lat (TE [Ent.val (.int .i64 e0), Ent.val (.pointer (some ⟨pp, 0, none⟩)), Ent.val (.pointer (some ⟨pp, 0, none⟩)), Ent.val (.pointer (some ⟨pp, 1, none⟩)), Ent.val (.pointer (some ⟨q, 0, none⟩)), Ent.val (.pointer (some ⟨ob, 2, none⟩)), Ent.val (.int .i64 f), Ent.val (.pointer (some ⟨ob, 4, none⟩)), Ent.val (.int .i64 nn)]) (by kernel_rfl) (by kernel_rfl) (by kernel_rfl) (by rw [hsz]; kernel_rfl) (by kernel_rfl) (by kernel_rfl) Lat.refl Lat.trans (TE_stable _) (Lat.draw w) ?hop ?hlast ?hlate
  case hlast =>
    intro a w1 hL hS hT
    have k116 : a.tmps.getD 116 undef = .pointer (some ⟨q, 0, none⟩) := hT 4 _ (by omega) rfl
    have k118 : a.tmps.getD 118 undef = .int .i64 f := hT 6 _ (by omega) rfl
    have k120 : a.tmps.getD 120 undef = .int .i64 nn := hT 8 _ (by omega) rfl
    have ksrc : a.tmps.getD 12 undef = .int .i64 e0 := (hS.slot 12 (by kernel_rfl)).trans s12
    have k112 : a.tmps.getD 112 undef = .int .i64 e0 := hT 0 _ (by omega) rfl
    refine wpAny_one 9 _ rfl rfl (by kernel_rfl) ?_
    refine wp_call_r (f := 29) (args := #[.pointer (some ⟨q, 0, none⟩), .int .i64 f, .int .i64 nn]) (by simp [execOp, resolve, Act.eval, k116, k118, k120, go_sem]) ?_
    refine (hcall w1 hL).mono ?_
    rintro e w2 ⟨rfl, hR⟩
    refine ⟨_, rfl, ?_⟩
    show wpAny Try.prog .any _ Q _ _ (a.put (some 121) (.int .i64 e0)) w2
    obtain ⟨fr1, hfr1⟩ : ∃ y, a.put (some 121) (.int .i64 e0) = y := ⟨_, rfl⟩
    rw [hfr1]
    have zfr1 : fr1.tmps.size = 301 := by rw [← hfr1, put_size]; exact (hS.size.trans hsz)
    have c1_116 : fr1.tmps.getD 116 undef = .pointer (some ⟨q, 0, none⟩) := by rw [← hfr1]; exact (put_slot _ 121 116 _ (by decide)).trans k116
    have c1_118 : fr1.tmps.getD 118 undef = .int .i64 f := by rw [← hfr1]; exact (put_slot _ 121 118 _ (by decide)).trans k118
    have c1_120 : fr1.tmps.getD 120 undef = .int .i64 nn := by rw [← hfr1]; exact (put_slot _ 121 120 _ (by decide)).trans k120
    have c1_12 : fr1.tmps.getD 12 undef = .int .i64 e0 := by rw [← hfr1]; exact (put_slot _ 121 12 _ (by decide)).trans ksrc
    have c1_112 : fr1.tmps.getD 112 undef = .int .i64 e0 := by rw [← hfr1]; exact (put_slot _ 121 112 _ (by decide)).trans k112
    have c1_121 : fr1.tmps.getD 121 undef = .int .i64 e0 := by rw [← hfr1]; exact put_same _ 121 _ (by rw [(hS.size.trans hsz)]; decide)
    refine wpAny_one 10 _ rfl rfl (by kernel_rfl) ?_
    refine wp_val (.bool true) (w' := w2) (by simp only [Array.getD_eq_getD_getElem?] at c1_112 c1_121; simp [execOp, Act.eval, c1_112, c1_121, go_sem]) ?_
    show wpAny Try.prog .any _ Q _ _ (fr1.put (some 122) (.bool true)) w2
    obtain ⟨fr2, hfr2⟩ : ∃ y, fr1.put (some 122) (.bool true) = y := ⟨_, rfl⟩
    rw [hfr2]
    have zfr2 : fr2.tmps.size = 301 := by rw [← hfr2, put_size]; exact zfr1
    have c2_116 : fr2.tmps.getD 116 undef = .pointer (some ⟨q, 0, none⟩) := by rw [← hfr2]; exact (put_slot _ 122 116 _ (by decide)).trans c1_116
    have c2_118 : fr2.tmps.getD 118 undef = .int .i64 f := by rw [← hfr2]; exact (put_slot _ 122 118 _ (by decide)).trans c1_118
    have c2_120 : fr2.tmps.getD 120 undef = .int .i64 nn := by rw [← hfr2]; exact (put_slot _ 122 120 _ (by decide)).trans c1_120
    have c2_12 : fr2.tmps.getD 12 undef = .int .i64 e0 := by rw [← hfr2]; exact (put_slot _ 122 12 _ (by decide)).trans c1_12
    have c2_112 : fr2.tmps.getD 112 undef = .int .i64 e0 := by rw [← hfr2]; exact (put_slot _ 122 112 _ (by decide)).trans c1_112
    have c2_121 : fr2.tmps.getD 121 undef = .int .i64 e0 := by rw [← hfr2]; exact (put_slot _ 122 121 _ (by decide)).trans c1_121
    have c2_122 : fr2.tmps.getD 122 undef = .bool true := by rw [← hfr2]; exact put_same _ 122 _ (by rw [zfr1]; decide)
    refine wpAny_one 11 _ rfl rfl (by kernel_rfl) ?_
    refine wp_val (.bool true) (w' := w2) (by simp only [Array.getD_eq_getD_getElem?] at c2_122; simp [execOp, Act.eval, c2_122, go_sem]) ?_
    show wpAny Try.prog .any _ Q _ _ (fr2.put (some 4) (.bool true)) w2
    obtain ⟨fr3, hfr3⟩ : ∃ y, fr2.put (some 4) (.bool true) = y := ⟨_, rfl⟩
    rw [hfr3]
    have zfr3 : fr3.tmps.size = 301 := by rw [← hfr3, put_size]; exact zfr2
    have c3_116 : fr3.tmps.getD 116 undef = .pointer (some ⟨q, 0, none⟩) := by rw [← hfr3]; exact (put_slot _ 4 116 _ (by decide)).trans c2_116
    have c3_118 : fr3.tmps.getD 118 undef = .int .i64 f := by rw [← hfr3]; exact (put_slot _ 4 118 _ (by decide)).trans c2_118
    have c3_120 : fr3.tmps.getD 120 undef = .int .i64 nn := by rw [← hfr3]; exact (put_slot _ 4 120 _ (by decide)).trans c2_120
    have c3_12 : fr3.tmps.getD 12 undef = .int .i64 e0 := by rw [← hfr3]; exact (put_slot _ 4 12 _ (by decide)).trans c2_12
    have c3_112 : fr3.tmps.getD 112 undef = .int .i64 e0 := by rw [← hfr3]; exact (put_slot _ 4 112 _ (by decide)).trans c2_112
    have c3_121 : fr3.tmps.getD 121 undef = .int .i64 e0 := by rw [← hfr3]; exact (put_slot _ 4 121 _ (by decide)).trans c2_121
    have c3_122 : fr3.tmps.getD 122 undef = .bool true := by rw [← hfr3]; exact (put_slot _ 4 122 _ (by decide)).trans c2_122
    have c3_4 : fr3.tmps.getD 4 undef = .bool true := by rw [← hfr3]; exact put_same _ 4 _ (by rw [zfr2]; decide)
    refine wpAny_nil (by kernel_rfl) ?_
    show Q .normal _ w2
    rw [← hfr3, ← hfr2, ← hfr1]
    rw [same_puts hS]
    exact hQ (a.tmps.getD 112 undef) (a.tmps.getD 113 undef) (a.tmps.getD 114 undef) (a.tmps.getD 115 undef) (a.tmps.getD 116 undef) (a.tmps.getD 117 undef) (a.tmps.getD 118 undef) (a.tmps.getD 119 undef) (a.tmps.getD 120 undef) (a.tmps.getD 121 undef) (a.tmps.getD 122 undef) (a.tmps.getD 4 undef) w2 hR
  case hlate =>
    intro a w1 hL hS hT
    have k116 : a.tmps.getD 116 undef = .pointer (some ⟨q, 0, none⟩) := hT 4 _ (by omega) (by omega) rfl
    have k118 : a.tmps.getD 118 undef = .int .i64 f := hT 6 _ (by omega) (by omega) rfl
    have k120 : a.tmps.getD 120 undef = .int .i64 nn := hT 8 _ (by omega) (by omega) rfl
    have ksrc : a.tmps.getD 12 undef = .int .i64 e0 := (hS.slot 12 (by kernel_rfl)).trans s12
    have hS1 := same_put (a := a) (i := 0) (v := .int .i64 e0) rfl hS
    have he1 := same_puts hS1
    refine wpAny_two 0 9 _ _ rfl rfl rfl rfl (by kernel_rfl) ?_ ?_
    · refine wp_val (.int .i64 e0) (w' := w1) (by simp only [Array.getD_eq_getD_getElem?] at ksrc; simp [execOp, Act.eval, ksrc, go_sem]) ?_
      show wpAny Try.prog .any _ Q _ _ (a.put (some 112) (.int .i64 e0)) w1
      obtain ⟨fr1, hfr1⟩ : ∃ y, a.put (some 112) (.int .i64 e0) = y := ⟨_, rfl⟩
      rw [hfr1]
      have zfr1 : fr1.tmps.size = 301 := by rw [← hfr1, put_size]; exact (hS.size.trans hsz)
      have c1_116 : fr1.tmps.getD 116 undef = .pointer (some ⟨q, 0, none⟩) := by rw [← hfr1]; exact (put_slot _ 112 116 _ (by decide)).trans k116
      have c1_118 : fr1.tmps.getD 118 undef = .int .i64 f := by rw [← hfr1]; exact (put_slot _ 112 118 _ (by decide)).trans k118
      have c1_120 : fr1.tmps.getD 120 undef = .int .i64 nn := by rw [← hfr1]; exact (put_slot _ 112 120 _ (by decide)).trans k120
      have c1_12 : fr1.tmps.getD 12 undef = .int .i64 e0 := by rw [← hfr1]; exact (put_slot _ 112 12 _ (by decide)).trans ksrc
      have c1_112 : fr1.tmps.getD 112 undef = .int .i64 e0 := by rw [← hfr1]; exact put_same _ 112 _ (by rw [(hS.size.trans hsz)]; decide)
      refine wpAny_one 9 _ rfl rfl (by kernel_rfl) ?_
      refine wp_call_r (f := 29) (args := #[.pointer (some ⟨q, 0, none⟩), .int .i64 f, .int .i64 nn]) (by simp [execOp, resolve, Act.eval, c1_116, c1_118, c1_120, go_sem]) ?_
      refine (hcall w1 hL).mono ?_
      rintro e w2 ⟨rfl, hR⟩
      refine ⟨_, rfl, ?_⟩
      show wpAny Try.prog .any _ Q _ _ (fr1.put (some 121) (.int .i64 e0)) w2
      obtain ⟨fr2, hfr2⟩ : ∃ y, fr1.put (some 121) (.int .i64 e0) = y := ⟨_, rfl⟩
      rw [hfr2]
      have zfr2 : fr2.tmps.size = 301 := by rw [← hfr2, put_size]; exact zfr1
      have c2_116 : fr2.tmps.getD 116 undef = .pointer (some ⟨q, 0, none⟩) := by rw [← hfr2]; exact (put_slot _ 121 116 _ (by decide)).trans c1_116
      have c2_118 : fr2.tmps.getD 118 undef = .int .i64 f := by rw [← hfr2]; exact (put_slot _ 121 118 _ (by decide)).trans c1_118
      have c2_120 : fr2.tmps.getD 120 undef = .int .i64 nn := by rw [← hfr2]; exact (put_slot _ 121 120 _ (by decide)).trans c1_120
      have c2_12 : fr2.tmps.getD 12 undef = .int .i64 e0 := by rw [← hfr2]; exact (put_slot _ 121 12 _ (by decide)).trans c1_12
      have c2_112 : fr2.tmps.getD 112 undef = .int .i64 e0 := by rw [← hfr2]; exact (put_slot _ 121 112 _ (by decide)).trans c1_112
      have c2_121 : fr2.tmps.getD 121 undef = .int .i64 e0 := by rw [← hfr2]; exact put_same _ 121 _ (by rw [zfr1]; decide)
      refine wpAny_one 10 _ rfl rfl (by kernel_rfl) ?_
      refine wp_val (.bool true) (w' := w2) (by simp only [Array.getD_eq_getD_getElem?] at c2_112 c2_121; simp [execOp, Act.eval, c2_112, c2_121, go_sem]) ?_
      show wpAny Try.prog .any _ Q _ _ (fr2.put (some 122) (.bool true)) w2
      obtain ⟨fr3, hfr3⟩ : ∃ y, fr2.put (some 122) (.bool true) = y := ⟨_, rfl⟩
      rw [hfr3]
      have zfr3 : fr3.tmps.size = 301 := by rw [← hfr3, put_size]; exact zfr2
      have c3_116 : fr3.tmps.getD 116 undef = .pointer (some ⟨q, 0, none⟩) := by rw [← hfr3]; exact (put_slot _ 122 116 _ (by decide)).trans c2_116
      have c3_118 : fr3.tmps.getD 118 undef = .int .i64 f := by rw [← hfr3]; exact (put_slot _ 122 118 _ (by decide)).trans c2_118
      have c3_120 : fr3.tmps.getD 120 undef = .int .i64 nn := by rw [← hfr3]; exact (put_slot _ 122 120 _ (by decide)).trans c2_120
      have c3_12 : fr3.tmps.getD 12 undef = .int .i64 e0 := by rw [← hfr3]; exact (put_slot _ 122 12 _ (by decide)).trans c2_12
      have c3_112 : fr3.tmps.getD 112 undef = .int .i64 e0 := by rw [← hfr3]; exact (put_slot _ 122 112 _ (by decide)).trans c2_112
      have c3_121 : fr3.tmps.getD 121 undef = .int .i64 e0 := by rw [← hfr3]; exact (put_slot _ 122 121 _ (by decide)).trans c2_121
      have c3_122 : fr3.tmps.getD 122 undef = .bool true := by rw [← hfr3]; exact put_same _ 122 _ (by rw [zfr2]; decide)
      refine wpAny_one 11 _ rfl rfl (by kernel_rfl) ?_
      refine wp_val (.bool true) (w' := w2) (by simp only [Array.getD_eq_getD_getElem?] at c3_122; simp [execOp, Act.eval, c3_122, go_sem]) ?_
      show wpAny Try.prog .any _ Q _ _ (fr3.put (some 4) (.bool true)) w2
      obtain ⟨fr4, hfr4⟩ : ∃ y, fr3.put (some 4) (.bool true) = y := ⟨_, rfl⟩
      rw [hfr4]
      have zfr4 : fr4.tmps.size = 301 := by rw [← hfr4, put_size]; exact zfr3
      have c4_116 : fr4.tmps.getD 116 undef = .pointer (some ⟨q, 0, none⟩) := by rw [← hfr4]; exact (put_slot _ 4 116 _ (by decide)).trans c3_116
      have c4_118 : fr4.tmps.getD 118 undef = .int .i64 f := by rw [← hfr4]; exact (put_slot _ 4 118 _ (by decide)).trans c3_118
      have c4_120 : fr4.tmps.getD 120 undef = .int .i64 nn := by rw [← hfr4]; exact (put_slot _ 4 120 _ (by decide)).trans c3_120
      have c4_12 : fr4.tmps.getD 12 undef = .int .i64 e0 := by rw [← hfr4]; exact (put_slot _ 4 12 _ (by decide)).trans c3_12
      have c4_112 : fr4.tmps.getD 112 undef = .int .i64 e0 := by rw [← hfr4]; exact (put_slot _ 4 112 _ (by decide)).trans c3_112
      have c4_121 : fr4.tmps.getD 121 undef = .int .i64 e0 := by rw [← hfr4]; exact (put_slot _ 4 121 _ (by decide)).trans c3_121
      have c4_122 : fr4.tmps.getD 122 undef = .bool true := by rw [← hfr4]; exact (put_slot _ 4 122 _ (by decide)).trans c3_122
      have c4_4 : fr4.tmps.getD 4 undef = .bool true := by rw [← hfr4]; exact put_same _ 4 _ (by rw [zfr3]; decide)
      refine wpAny_nil (by kernel_rfl) ?_
      show Q .normal _ w2
      rw [← hfr4, ← hfr3, ← hfr2, ← hfr1]
      have he2 : (a.put (some 112) (.int .i64 e0)) = _ := he1
      rw [he2]
      exact hQ ((a.put (some 112) (.int .i64 e0)).tmps.getD 112 undef) ((a.put (some 112) (.int .i64 e0)).tmps.getD 113 undef) ((a.put (some 112) (.int .i64 e0)).tmps.getD 114 undef) ((a.put (some 112) (.int .i64 e0)).tmps.getD 115 undef) ((a.put (some 112) (.int .i64 e0)).tmps.getD 116 undef) ((a.put (some 112) (.int .i64 e0)).tmps.getD 117 undef) ((a.put (some 112) (.int .i64 e0)).tmps.getD 118 undef) ((a.put (some 112) (.int .i64 e0)).tmps.getD 119 undef) ((a.put (some 112) (.int .i64 e0)).tmps.getD 120 undef) ((a.put (some 112) (.int .i64 e0)).tmps.getD 121 undef) ((a.put (some 112) (.int .i64 e0)).tmps.getD 122 undef) ((a.put (some 112) (.int .i64 e0)).tmps.getD 4 undef) w2 hR
    · refine wp_call_r (f := 29) (args := #[.pointer (some ⟨q, 0, none⟩), .int .i64 f, .int .i64 nn]) (by simp [execOp, resolve, Act.eval, k116, k118, k120, go_sem]) ?_
      refine (hcall w1 hL).mono ?_
      rintro e w2 ⟨rfl, hR⟩
      refine ⟨_, rfl, ?_⟩
      show wpAny Try.prog .any _ Q _ _ (a.put (some 121) (.int .i64 e0)) w2
      obtain ⟨fr1, hfr1⟩ : ∃ y, a.put (some 121) (.int .i64 e0) = y := ⟨_, rfl⟩
      rw [hfr1]
      have zfr1 : fr1.tmps.size = 301 := by rw [← hfr1, put_size]; exact (hS.size.trans hsz)
      have c1_116 : fr1.tmps.getD 116 undef = .pointer (some ⟨q, 0, none⟩) := by rw [← hfr1]; exact (put_slot _ 121 116 _ (by decide)).trans k116
      have c1_118 : fr1.tmps.getD 118 undef = .int .i64 f := by rw [← hfr1]; exact (put_slot _ 121 118 _ (by decide)).trans k118
      have c1_120 : fr1.tmps.getD 120 undef = .int .i64 nn := by rw [← hfr1]; exact (put_slot _ 121 120 _ (by decide)).trans k120
      have c1_12 : fr1.tmps.getD 12 undef = .int .i64 e0 := by rw [← hfr1]; exact (put_slot _ 121 12 _ (by decide)).trans ksrc
      have c1_121 : fr1.tmps.getD 121 undef = .int .i64 e0 := by rw [← hfr1]; exact put_same _ 121 _ (by rw [(hS.size.trans hsz)]; decide)
      refine wpAny_one 0 _ rfl rfl (by kernel_rfl) ?_
      refine wp_val (.int .i64 e0) (w' := w2) (by simp only [Array.getD_eq_getD_getElem?] at c1_12; simp [execOp, Act.eval, c1_12, go_sem]) ?_
      show wpAny Try.prog .any _ Q _ _ (fr1.put (some 112) (.int .i64 e0)) w2
      obtain ⟨fr2, hfr2⟩ : ∃ y, fr1.put (some 112) (.int .i64 e0) = y := ⟨_, rfl⟩
      rw [hfr2]
      have zfr2 : fr2.tmps.size = 301 := by rw [← hfr2, put_size]; exact zfr1
      have c2_116 : fr2.tmps.getD 116 undef = .pointer (some ⟨q, 0, none⟩) := by rw [← hfr2]; exact (put_slot _ 112 116 _ (by decide)).trans c1_116
      have c2_118 : fr2.tmps.getD 118 undef = .int .i64 f := by rw [← hfr2]; exact (put_slot _ 112 118 _ (by decide)).trans c1_118
      have c2_120 : fr2.tmps.getD 120 undef = .int .i64 nn := by rw [← hfr2]; exact (put_slot _ 112 120 _ (by decide)).trans c1_120
      have c2_12 : fr2.tmps.getD 12 undef = .int .i64 e0 := by rw [← hfr2]; exact (put_slot _ 112 12 _ (by decide)).trans c1_12
      have c2_121 : fr2.tmps.getD 121 undef = .int .i64 e0 := by rw [← hfr2]; exact (put_slot _ 112 121 _ (by decide)).trans c1_121
      have c2_112 : fr2.tmps.getD 112 undef = .int .i64 e0 := by rw [← hfr2]; exact put_same _ 112 _ (by rw [zfr1]; decide)
      refine wpAny_one 10 _ rfl rfl (by kernel_rfl) ?_
      refine wp_val (.bool true) (w' := w2) (by simp only [Array.getD_eq_getD_getElem?] at c2_112 c2_121; simp [execOp, Act.eval, c2_112, c2_121, go_sem]) ?_
      show wpAny Try.prog .any _ Q _ _ (fr2.put (some 122) (.bool true)) w2
      obtain ⟨fr3, hfr3⟩ : ∃ y, fr2.put (some 122) (.bool true) = y := ⟨_, rfl⟩
      rw [hfr3]
      have zfr3 : fr3.tmps.size = 301 := by rw [← hfr3, put_size]; exact zfr2
      have c3_116 : fr3.tmps.getD 116 undef = .pointer (some ⟨q, 0, none⟩) := by rw [← hfr3]; exact (put_slot _ 122 116 _ (by decide)).trans c2_116
      have c3_118 : fr3.tmps.getD 118 undef = .int .i64 f := by rw [← hfr3]; exact (put_slot _ 122 118 _ (by decide)).trans c2_118
      have c3_120 : fr3.tmps.getD 120 undef = .int .i64 nn := by rw [← hfr3]; exact (put_slot _ 122 120 _ (by decide)).trans c2_120
      have c3_12 : fr3.tmps.getD 12 undef = .int .i64 e0 := by rw [← hfr3]; exact (put_slot _ 122 12 _ (by decide)).trans c2_12
      have c3_121 : fr3.tmps.getD 121 undef = .int .i64 e0 := by rw [← hfr3]; exact (put_slot _ 122 121 _ (by decide)).trans c2_121
      have c3_112 : fr3.tmps.getD 112 undef = .int .i64 e0 := by rw [← hfr3]; exact (put_slot _ 122 112 _ (by decide)).trans c2_112
      have c3_122 : fr3.tmps.getD 122 undef = .bool true := by rw [← hfr3]; exact put_same _ 122 _ (by rw [zfr2]; decide)
      refine wpAny_one 11 _ rfl rfl (by kernel_rfl) ?_
      refine wp_val (.bool true) (w' := w2) (by simp only [Array.getD_eq_getD_getElem?] at c3_122; simp [execOp, Act.eval, c3_122, go_sem]) ?_
      show wpAny Try.prog .any _ Q _ _ (fr3.put (some 4) (.bool true)) w2
      obtain ⟨fr4, hfr4⟩ : ∃ y, fr3.put (some 4) (.bool true) = y := ⟨_, rfl⟩
      rw [hfr4]
      have zfr4 : fr4.tmps.size = 301 := by rw [← hfr4, put_size]; exact zfr3
      have c4_116 : fr4.tmps.getD 116 undef = .pointer (some ⟨q, 0, none⟩) := by rw [← hfr4]; exact (put_slot _ 4 116 _ (by decide)).trans c3_116
      have c4_118 : fr4.tmps.getD 118 undef = .int .i64 f := by rw [← hfr4]; exact (put_slot _ 4 118 _ (by decide)).trans c3_118
      have c4_120 : fr4.tmps.getD 120 undef = .int .i64 nn := by rw [← hfr4]; exact (put_slot _ 4 120 _ (by decide)).trans c3_120
      have c4_12 : fr4.tmps.getD 12 undef = .int .i64 e0 := by rw [← hfr4]; exact (put_slot _ 4 12 _ (by decide)).trans c3_12
      have c4_121 : fr4.tmps.getD 121 undef = .int .i64 e0 := by rw [← hfr4]; exact (put_slot _ 4 121 _ (by decide)).trans c3_121
      have c4_112 : fr4.tmps.getD 112 undef = .int .i64 e0 := by rw [← hfr4]; exact (put_slot _ 4 112 _ (by decide)).trans c3_112
      have c4_122 : fr4.tmps.getD 122 undef = .bool true := by rw [← hfr4]; exact (put_slot _ 4 122 _ (by decide)).trans c3_122
      have c4_4 : fr4.tmps.getD 4 undef = .bool true := by rw [← hfr4]; exact put_same _ 4 _ (by rw [zfr3]; decide)
      refine wpAny_nil (by kernel_rfl) ?_
      show Q .normal _ w2
      rw [← hfr4, ← hfr3, ← hfr2, ← hfr1]
      rw [put_comm a 121 112 _ _ (by decide)]
      have he2 : (a.put (some 112) (.int .i64 e0)) = _ := he1
      rw [he2]
      exact hQ ((a.put (some 112) (.int .i64 e0)).tmps.getD 112 undef) ((a.put (some 112) (.int .i64 e0)).tmps.getD 113 undef) ((a.put (some 112) (.int .i64 e0)).tmps.getD 114 undef) ((a.put (some 112) (.int .i64 e0)).tmps.getD 115 undef) ((a.put (some 112) (.int .i64 e0)).tmps.getD 116 undef) ((a.put (some 112) (.int .i64 e0)).tmps.getD 117 undef) ((a.put (some 112) (.int .i64 e0)).tmps.getD 118 undef) ((a.put (some 112) (.int .i64 e0)).tmps.getD 119 undef) ((a.put (some 112) (.int .i64 e0)).tmps.getD 120 undef) ((a.put (some 112) (.int .i64 e0)).tmps.getD 121 undef) ((a.put (some 112) (.int .i64 e0)).tmps.getD 122 undef) ((a.put (some 112) (.int .i64 e0)).tmps.getD 4 undef) w2 hR
  case hop =>
    intro i o hlt hi
    rcases (show i = 0 ∨ i = 1 ∨ i = 2 ∨ i = 3 ∨ i = 4 ∨ i = 5 ∨ i = 6 ∨ i = 7 ∨ i = 8 by omega) with rfl | rfl | rfl | rfl | rfl | rfl | rfl | rfl | rfl
    · obtain rfl := Option.some.inj hi
      clear hi hlt
      intro a w1 hL hS hD
      have e12 : a.tmps.getD 12 undef = .int .i64 e0 := (hS.slot 12 (by kernel_rfl)).trans s12
      refine step_yes rfl ?_
      exact ok_value Lat.refl (.int .i64 e0) (by simp [execOp, Act.eval, e12, go_sem]) rfl
    · obtain rfl := Option.some.inj hi
      clear hi hlt
      intro a w1 hL hS hD
      have e0 : a.tmps.getD 0 undef = .pointer (some ⟨pp, 0, none⟩) := (hS.slot 0 (by kernel_rfl)).trans s0
      refine step_yes rfl ?_
      exact ok_value Lat.refl (.pointer (some ⟨pp, 0, none⟩)) (by simp [execOp, Act.eval, e0, go_sem]) rfl
    · obtain rfl := Option.some.inj hi
      clear hi hlt
      intro a w1 hL hS hD
      have d1 : a.tmps.getD 113 undef = .pointer (some ⟨pp, 0, none⟩) := hD ⟨1, .data⟩ (by simp) rfl _ rfl
      refine step_yes rfl ?_
      exact ok_value Lat.refl (.pointer (some ⟨pp, 0, none⟩)) (by simp [execOp, Act.eval, d1, go_sem]) rfl
    · obtain rfl := Option.some.inj hi
      clear hi hlt
      intro a w1 hL hS hD
      have d2 : a.tmps.getD 114 undef = .pointer (some ⟨pp, 0, none⟩) := hD ⟨2, .data⟩ (by simp) rfl _ rfl
      refine step_yes rfl ?_
      exact ok_value Lat.refl (.pointer (some ⟨pp, 1, none⟩)) (by simp [execOp, Act.eval, d2, go_sem]) rfl
    · obtain rfl := Option.some.inj hi
      clear hi hlt
      intro a w1 hL hS hD
      have d3 : a.tmps.getD 115 undef = .pointer (some ⟨pp, 1, none⟩) := hD ⟨3, .data⟩ (by simp) rfl _ rfl
      refine step_yes rfl ?_
      exact ok_value Lat.refl (.pointer (some ⟨q, 0, none⟩)) (by simp [execOp, Act.eval, d3, hB w1 hL, go_sem]) rfl
    · obtain rfl := Option.some.inj hi
      clear hi hlt
      intro a w1 hL hS hD
      have e3 : a.tmps.getD 3 undef = .pointer (some ⟨ob, 0, none⟩) := (hS.slot 3 (by kernel_rfl)).trans s3
      refine step_yes rfl ?_
      exact ok_value Lat.refl (.pointer (some ⟨ob, 2, none⟩)) (by simp [execOp, Act.eval, e3, go_sem]) rfl
    · obtain rfl := Option.some.inj hi
      clear hi hlt
      intro a w1 hL hS hD
      have d5 : a.tmps.getD 117 undef = .pointer (some ⟨ob, 2, none⟩) := hD ⟨5, .data⟩ (by simp) rfl _ rfl
      refine step_yes rfl ?_
      exact ok_value Lat.refl (.int .i64 f) (by simp [execOp, Act.eval, d5, h2 w1 hL, go_sem]) rfl
    · obtain rfl := Option.some.inj hi
      clear hi hlt
      intro a w1 hL hS hD
      have e3 : a.tmps.getD 3 undef = .pointer (some ⟨ob, 0, none⟩) := (hS.slot 3 (by kernel_rfl)).trans s3
      refine step_yes rfl ?_
      exact ok_value Lat.refl (.pointer (some ⟨ob, 4, none⟩)) (by simp [execOp, Act.eval, e3, go_sem]) rfl
    · obtain rfl := Option.some.inj hi
      clear hi hlt
      intro a w1 hL hS hD
      have d7 : a.tmps.getD 119 undef = .pointer (some ⟨ob, 4, none⟩) := hD ⟨7, .data⟩ (by simp) rfl _ rfl
      refine step_yes rfl ?_
      exact ok_value Lat.refl (.int .i64 nn) (by simp [execOp, Act.eval, d7, h4 w1 hL, go_sem]) rfl

set_option maxRecDepth 100000 in
set_option maxHeartbeats 2000000 in
theorem step_r5 (pp p ob ln lc : Nat) (la : Option Addr) (f : Int) (R : Value → World → Prop) (w : World) (a0 : Act) (Q : Exit → Act → World → Prop) (hsz : a0.tmps.size = 301)
    (s0 : a0.tmps.getD 0 undef = .pointer (some ⟨pp, 0, none⟩))
    (s3 : a0.tmps.getD 3 undef = .pointer (some ⟨ob, 0, none⟩))
    (s5 : a0.tmps.getD 5 undef = .slice la ln lc)
    (hA : ∀ w1, Lat w w1 → w1.cell? ⟨pp, 0, none⟩ = some (.pointer (some ⟨p, 0, none⟩)))
    (h2 : ∀ w1, Lat w w1 → w1.cell? ⟨ob, 2, none⟩ = some (.int .i64 f))
    (hcall : ∀ w1, Lat w w1 → Calls Try.prog 12 #[.pointer (some ⟨p, 0, none⟩), .int .i64 f, .slice la ln lc] w1 fun e w2 => ∃ x, e = .returned x ∧ R x w2)
    (hQ : ∀ (v29 v30 v31 v32 v33 v34 v35 v36 v6 : Value) (x : Value) (w2 : World), R x w2 → Q .normal (((((((((((a0.put (some 29) v29).put (some 30) v30).put (some 31) v31).put (some 32) v32).put (some 33) v33).put (some 34) v34).put (some 35) v35).put (some 36) v36).put (some 6) v6).put (some 36) (x)).put (some 6) (x)) w2) :
    Code.wp Try.prog ((Try.f7.body.bind (findRegion 5)).getD .skip) Q a0 w := by
  conv => arg 2; whnf
  refine wp_region_tail 7 Lat (TE [Ent.val (.pointer (some ⟨pp, 0, none⟩)), Ent.val (.pointer (some ⟨pp, 0, none⟩)), Ent.val (.pointer (some ⟨pp, 0, none⟩)), Ent.val (.pointer (some ⟨p, 0, none⟩)), Ent.val (.pointer (some ⟨ob, 2, none⟩)), Ent.val (.int .i64 f), Ent.val (.slice la ln lc)]) (by kernel_rfl) (by kernel_rfl) (by kernel_rfl) (by rw [hsz]; kernel_rfl) (by kernel_rfl) (by kernel_rfl) Lat.refl Lat.trans (TE_stable _) (Lat.draw w) ?hop ?hlast
  case hlast =>
    intro a w1 hL hS hT
    have k32 : a.tmps.getD 32 undef = .pointer (some ⟨p, 0, none⟩) := hT 3 _ (by omega) rfl
    have k34 : a.tmps.getD 34 undef = .int .i64 f := hT 5 _ (by omega) rfl
    have k35 : a.tmps.getD 35 undef = .slice la ln lc := hT 6 _ (by omega) rfl
    refine wpAny_one 7 _ rfl rfl (by kernel_rfl) ?_
    refine wp_call_r (f := 12) (args := #[.pointer (some ⟨p, 0, none⟩), .int .i64 f, .slice la ln lc]) (by simp [execOp, resolve, Act.eval, k32, k34, k35, go_sem]) ?_
    refine (hcall w1 hL).mono ?_
    rintro e w2 ⟨x, rfl, hR⟩
    refine ⟨x, rfl, ?_⟩
    show wpAny Try.prog .any _ Q _ _ (a.put (some 36) (x)) w2
    obtain ⟨fr1, hfr1⟩ : ∃ y, a.put (some 36) (x) = y := ⟨_, rfl⟩
    rw [hfr1]
    have zfr1 : fr1.tmps.size = 301 := by rw [← hfr1, put_size]; exact (hS.size.trans hsz)
    have c1_32 : fr1.tmps.getD 32 undef = .pointer (some ⟨p, 0, none⟩) := by rw [← hfr1]; exact (put_slot _ 36 32 _ (by decide)).trans k32
    have c1_34 : fr1.tmps.getD 34 undef = .int .i64 f := by rw [← hfr1]; exact (put_slot _ 36 34 _ (by decide)).trans k34
    have c1_35 : fr1.tmps.getD 35 undef = .slice la ln lc := by rw [← hfr1]; exact (put_slot _ 36 35 _ (by decide)).trans k35
    have c1_36 : fr1.tmps.getD 36 undef = x := by rw [← hfr1]; exact put_same _ 36 _ (by rw [(hS.size.trans hsz)]; decide)
    refine wpAny_one 8 _ rfl rfl (by kernel_rfl) ?_
    refine wp_val (x) (w' := w2) (by simp only [Array.getD_eq_getD_getElem?] at c1_36; simp [execOp, Act.eval, c1_36, go_sem]) ?_
    show wpAny Try.prog .any _ Q _ _ (fr1.put (some 6) (x)) w2
    obtain ⟨fr2, hfr2⟩ : ∃ y, fr1.put (some 6) (x) = y := ⟨_, rfl⟩
    rw [hfr2]
    have zfr2 : fr2.tmps.size = 301 := by rw [← hfr2, put_size]; exact zfr1
    have c2_32 : fr2.tmps.getD 32 undef = .pointer (some ⟨p, 0, none⟩) := by rw [← hfr2]; exact (put_slot _ 6 32 _ (by decide)).trans c1_32
    have c2_34 : fr2.tmps.getD 34 undef = .int .i64 f := by rw [← hfr2]; exact (put_slot _ 6 34 _ (by decide)).trans c1_34
    have c2_35 : fr2.tmps.getD 35 undef = .slice la ln lc := by rw [← hfr2]; exact (put_slot _ 6 35 _ (by decide)).trans c1_35
    have c2_36 : fr2.tmps.getD 36 undef = x := by rw [← hfr2]; exact (put_slot _ 6 36 _ (by decide)).trans c1_36
    have c2_6 : fr2.tmps.getD 6 undef = x := by rw [← hfr2]; exact put_same _ 6 _ (by rw [zfr1]; decide)
    refine wpAny_nil (by kernel_rfl) ?_
    show Q .normal _ w2
    rw [← hfr2, ← hfr1]
    rw [same_puts hS]
    exact hQ (a.tmps.getD 29 undef) (a.tmps.getD 30 undef) (a.tmps.getD 31 undef) (a.tmps.getD 32 undef) (a.tmps.getD 33 undef) (a.tmps.getD 34 undef) (a.tmps.getD 35 undef) (a.tmps.getD 36 undef) (a.tmps.getD 6 undef) x w2 hR
  case hop =>
    intro i o hlt hi
    rcases (show i = 0 ∨ i = 1 ∨ i = 2 ∨ i = 3 ∨ i = 4 ∨ i = 5 ∨ i = 6 by omega) with rfl | rfl | rfl | rfl | rfl | rfl | rfl
    · obtain rfl := Option.some.inj hi
      clear hi hlt
      intro a w1 hL hS hD
      have e0 : a.tmps.getD 0 undef = .pointer (some ⟨pp, 0, none⟩) := (hS.slot 0 (by kernel_rfl)).trans s0
      refine step_yes rfl ?_
      exact ok_value Lat.refl (.pointer (some ⟨pp, 0, none⟩)) (by simp [execOp, Act.eval, e0, go_sem]) rfl
    · obtain rfl := Option.some.inj hi
      clear hi hlt
      intro a w1 hL hS hD
      have d0 : a.tmps.getD 29 undef = .pointer (some ⟨pp, 0, none⟩) := hD ⟨0, .data⟩ (by simp) rfl _ rfl
      refine step_yes rfl ?_
      exact ok_value Lat.refl (.pointer (some ⟨pp, 0, none⟩)) (by simp [execOp, Act.eval, d0, go_sem]) rfl
    · obtain rfl := Option.some.inj hi
      clear hi hlt
      intro a w1 hL hS hD
      have d1 : a.tmps.getD 30 undef = .pointer (some ⟨pp, 0, none⟩) := hD ⟨1, .data⟩ (by simp) rfl _ rfl
      refine step_yes rfl ?_
      exact ok_value Lat.refl (.pointer (some ⟨pp, 0, none⟩)) (by simp [execOp, Act.eval, d1, go_sem]) rfl
    · obtain rfl := Option.some.inj hi
      clear hi hlt
      intro a w1 hL hS hD
      have d2 : a.tmps.getD 31 undef = .pointer (some ⟨pp, 0, none⟩) := hD ⟨2, .data⟩ (by simp) rfl _ rfl
      refine step_yes rfl ?_
      exact ok_value Lat.refl (.pointer (some ⟨p, 0, none⟩)) (by simp [execOp, Act.eval, d2, hA w1 hL, go_sem]) rfl
    · obtain rfl := Option.some.inj hi
      clear hi hlt
      intro a w1 hL hS hD
      have e3 : a.tmps.getD 3 undef = .pointer (some ⟨ob, 0, none⟩) := (hS.slot 3 (by kernel_rfl)).trans s3
      refine step_yes rfl ?_
      exact ok_value Lat.refl (.pointer (some ⟨ob, 2, none⟩)) (by simp [execOp, Act.eval, e3, go_sem]) rfl
    · obtain rfl := Option.some.inj hi
      clear hi hlt
      intro a w1 hL hS hD
      have d4 : a.tmps.getD 33 undef = .pointer (some ⟨ob, 2, none⟩) := hD ⟨4, .data⟩ (by simp) rfl _ rfl
      refine step_yes rfl ?_
      exact ok_value Lat.refl (.int .i64 f) (by simp [execOp, Act.eval, d4, h2 w1 hL, go_sem]) rfl
    · obtain rfl := Option.some.inj hi
      clear hi hlt
      intro a w1 hL hS hD
      have e5 : a.tmps.getD 5 undef = .slice la ln lc := (hS.slot 5 (by kernel_rfl)).trans s5
      refine step_yes rfl ?_
      exact ok_value Lat.refl (.slice la ln lc) (by simp [execOp, Act.eval, e5, go_sem]) rfl

set_option maxRecDepth 100000 in
set_option maxHeartbeats 2000000 in
theorem step_r9 (pp p ob ln lc : Nat) (la : Option Addr) (f : Int) (R : Value → World → Prop) (w : World) (a0 : Act) (Q : Exit → Act → World → Prop) (hsz : a0.tmps.size = 301)
    (s0 : a0.tmps.getD 0 undef = .pointer (some ⟨pp, 0, none⟩))
    (s3 : a0.tmps.getD 3 undef = .pointer (some ⟨ob, 0, none⟩))
    (s5 : a0.tmps.getD 5 undef = .slice la ln lc)
    (hA : ∀ w1, Lat w w1 → w1.cell? ⟨pp, 0, none⟩ = some (.pointer (some ⟨p, 0, none⟩)))
    (h2 : ∀ w1, Lat w w1 → w1.cell? ⟨ob, 2, none⟩ = some (.int .i64 f))
    (hcall : ∀ w1, Lat w w1 → Calls Try.prog 12 #[.pointer (some ⟨p, 0, none⟩), .int .i64 f, .slice la ln lc] w1 fun e w2 => ∃ x, e = .returned x ∧ R x w2)
    (hQ : ∀ (v55 v56 v57 v58 v59 v60 v61 v62 v9 : Value) (x : Value) (w2 : World), R x w2 → Q .normal (((((((((((a0.put (some 55) v55).put (some 56) v56).put (some 57) v57).put (some 58) v58).put (some 59) v59).put (some 60) v60).put (some 61) v61).put (some 62) v62).put (some 9) v9).put (some 62) (x)).put (some 9) (x)) w2) :
    Code.wp Try.prog ((Try.f7.body.bind (findRegion 9)).getD .skip) Q a0 w := by
  conv => arg 2; whnf
  refine wp_region_tail 7 Lat (TE [Ent.val (.pointer (some ⟨pp, 0, none⟩)), Ent.val (.pointer (some ⟨pp, 0, none⟩)), Ent.val (.pointer (some ⟨pp, 0, none⟩)), Ent.val (.pointer (some ⟨p, 0, none⟩)), Ent.val (.pointer (some ⟨ob, 2, none⟩)), Ent.val (.int .i64 f), Ent.val (.slice la ln lc)]) (by kernel_rfl) (by kernel_rfl) (by kernel_rfl) (by rw [hsz]; kernel_rfl) (by kernel_rfl) (by kernel_rfl) Lat.refl Lat.trans (TE_stable _) (Lat.draw w) ?hop ?hlast
  case hlast =>
    intro a w1 hL hS hT
    have k58 : a.tmps.getD 58 undef = .pointer (some ⟨p, 0, none⟩) := hT 3 _ (by omega) rfl
    have k60 : a.tmps.getD 60 undef = .int .i64 f := hT 5 _ (by omega) rfl
    have k61 : a.tmps.getD 61 undef = .slice la ln lc := hT 6 _ (by omega) rfl
    refine wpAny_one 7 _ rfl rfl (by kernel_rfl) ?_
    refine wp_call_r (f := 12) (args := #[.pointer (some ⟨p, 0, none⟩), .int .i64 f, .slice la ln lc]) (by simp [execOp, resolve, Act.eval, k58, k60, k61, go_sem]) ?_
    refine (hcall w1 hL).mono ?_
    rintro e w2 ⟨x, rfl, hR⟩
    refine ⟨x, rfl, ?_⟩
    show wpAny Try.prog .any _ Q _ _ (a.put (some 62) (x)) w2
    obtain ⟨fr1, hfr1⟩ : ∃ y, a.put (some 62) (x) = y := ⟨_, rfl⟩
    rw [hfr1]
    have zfr1 : fr1.tmps.size = 301 := by rw [← hfr1, put_size]; exact (hS.size.trans hsz)
    have c1_58 : fr1.tmps.getD 58 undef = .pointer (some ⟨p, 0, none⟩) := by rw [← hfr1]; exact (put_slot _ 62 58 _ (by decide)).trans k58
    have c1_60 : fr1.tmps.getD 60 undef = .int .i64 f := by rw [← hfr1]; exact (put_slot _ 62 60 _ (by decide)).trans k60
    have c1_61 : fr1.tmps.getD 61 undef = .slice la ln lc := by rw [← hfr1]; exact (put_slot _ 62 61 _ (by decide)).trans k61
    have c1_62 : fr1.tmps.getD 62 undef = x := by rw [← hfr1]; exact put_same _ 62 _ (by rw [(hS.size.trans hsz)]; decide)
    refine wpAny_one 8 _ rfl rfl (by kernel_rfl) ?_
    refine wp_val (x) (w' := w2) (by simp only [Array.getD_eq_getD_getElem?] at c1_62; simp [execOp, Act.eval, c1_62, go_sem]) ?_
    show wpAny Try.prog .any _ Q _ _ (fr1.put (some 9) (x)) w2
    obtain ⟨fr2, hfr2⟩ : ∃ y, fr1.put (some 9) (x) = y := ⟨_, rfl⟩
    rw [hfr2]
    have zfr2 : fr2.tmps.size = 301 := by rw [← hfr2, put_size]; exact zfr1
    have c2_58 : fr2.tmps.getD 58 undef = .pointer (some ⟨p, 0, none⟩) := by rw [← hfr2]; exact (put_slot _ 9 58 _ (by decide)).trans c1_58
    have c2_60 : fr2.tmps.getD 60 undef = .int .i64 f := by rw [← hfr2]; exact (put_slot _ 9 60 _ (by decide)).trans c1_60
    have c2_61 : fr2.tmps.getD 61 undef = .slice la ln lc := by rw [← hfr2]; exact (put_slot _ 9 61 _ (by decide)).trans c1_61
    have c2_62 : fr2.tmps.getD 62 undef = x := by rw [← hfr2]; exact (put_slot _ 9 62 _ (by decide)).trans c1_62
    have c2_9 : fr2.tmps.getD 9 undef = x := by rw [← hfr2]; exact put_same _ 9 _ (by rw [zfr1]; decide)
    refine wpAny_nil (by kernel_rfl) ?_
    show Q .normal _ w2
    rw [← hfr2, ← hfr1]
    rw [same_puts hS]
    exact hQ (a.tmps.getD 55 undef) (a.tmps.getD 56 undef) (a.tmps.getD 57 undef) (a.tmps.getD 58 undef) (a.tmps.getD 59 undef) (a.tmps.getD 60 undef) (a.tmps.getD 61 undef) (a.tmps.getD 62 undef) (a.tmps.getD 9 undef) x w2 hR
  case hop =>
    intro i o hlt hi
    rcases (show i = 0 ∨ i = 1 ∨ i = 2 ∨ i = 3 ∨ i = 4 ∨ i = 5 ∨ i = 6 by omega) with rfl | rfl | rfl | rfl | rfl | rfl | rfl
    · obtain rfl := Option.some.inj hi
      clear hi hlt
      intro a w1 hL hS hD
      have e0 : a.tmps.getD 0 undef = .pointer (some ⟨pp, 0, none⟩) := (hS.slot 0 (by kernel_rfl)).trans s0
      refine step_yes rfl ?_
      exact ok_value Lat.refl (.pointer (some ⟨pp, 0, none⟩)) (by simp [execOp, Act.eval, e0, go_sem]) rfl
    · obtain rfl := Option.some.inj hi
      clear hi hlt
      intro a w1 hL hS hD
      have d0 : a.tmps.getD 55 undef = .pointer (some ⟨pp, 0, none⟩) := hD ⟨0, .data⟩ (by simp) rfl _ rfl
      refine step_yes rfl ?_
      exact ok_value Lat.refl (.pointer (some ⟨pp, 0, none⟩)) (by simp [execOp, Act.eval, d0, go_sem]) rfl
    · obtain rfl := Option.some.inj hi
      clear hi hlt
      intro a w1 hL hS hD
      have d1 : a.tmps.getD 56 undef = .pointer (some ⟨pp, 0, none⟩) := hD ⟨1, .data⟩ (by simp) rfl _ rfl
      refine step_yes rfl ?_
      exact ok_value Lat.refl (.pointer (some ⟨pp, 0, none⟩)) (by simp [execOp, Act.eval, d1, go_sem]) rfl
    · obtain rfl := Option.some.inj hi
      clear hi hlt
      intro a w1 hL hS hD
      have d2 : a.tmps.getD 57 undef = .pointer (some ⟨pp, 0, none⟩) := hD ⟨2, .data⟩ (by simp) rfl _ rfl
      refine step_yes rfl ?_
      exact ok_value Lat.refl (.pointer (some ⟨p, 0, none⟩)) (by simp [execOp, Act.eval, d2, hA w1 hL, go_sem]) rfl
    · obtain rfl := Option.some.inj hi
      clear hi hlt
      intro a w1 hL hS hD
      have e3 : a.tmps.getD 3 undef = .pointer (some ⟨ob, 0, none⟩) := (hS.slot 3 (by kernel_rfl)).trans s3
      refine step_yes rfl ?_
      exact ok_value Lat.refl (.pointer (some ⟨ob, 2, none⟩)) (by simp [execOp, Act.eval, e3, go_sem]) rfl
    · obtain rfl := Option.some.inj hi
      clear hi hlt
      intro a w1 hL hS hD
      have d4 : a.tmps.getD 59 undef = .pointer (some ⟨ob, 2, none⟩) := hD ⟨4, .data⟩ (by simp) rfl _ rfl
      refine step_yes rfl ?_
      exact ok_value Lat.refl (.int .i64 f) (by simp [execOp, Act.eval, d4, h2 w1 hL, go_sem]) rfl
    · obtain rfl := Option.some.inj hi
      clear hi hlt
      intro a w1 hL hS hD
      have e5 : a.tmps.getD 5 undef = .slice la ln lc := (hS.slot 5 (by kernel_rfl)).trans s5
      refine step_yes rfl ?_
      exact ok_value Lat.refl (.slice la ln lc) (by simp [execOp, Act.eval, e5, go_sem]) rfl

set_option maxRecDepth 100000 in
set_option maxHeartbeats 2000000 in
theorem step_r7 (pp q ob bn bc : Nat) (ba : Option Addr) (f e0 : Int) (R : World → Prop) (w : World) (a0 : Act) (Q : Exit → Act → World → Prop) (hsz : a0.tmps.size = 301)
    (s0 : a0.tmps.getD 0 undef = .pointer (some ⟨pp, 0, none⟩))
    (s3 : a0.tmps.getD 3 undef = .pointer (some ⟨ob, 0, none⟩))
    (s6 : a0.tmps.getD 6 undef = .int .i64 e0)
    (hB : ∀ w1, Lat w w1 → w1.cell? ⟨pp, 1, none⟩ = some (.pointer (some ⟨q, 0, none⟩)))
    (h2 : ∀ w1, Lat w w1 → w1.cell? ⟨ob, 2, none⟩ = some (.int .i64 f))
    (h5 : ∀ w1, Lat w w1 → w1.cell? ⟨ob, 5, none⟩ = some (.slice ba bn bc))
    (hcall : ∀ w1, Lat w w1 → Calls Try.prog 27 #[.pointer (some ⟨q, 0, none⟩), .int .i64 f, .slice ba bn bc] w1 fun e w2 => e = .returned (.int .i64 e0) ∧ R w2)
    (hQ : ∀ (v41 v42 v43 v44 v45 v46 v47 v48 v49 v50 v51 v8 : Value) (w2 : World), R w2 → Q .normal (((((((((((((((a0.put (some 41) v41).put (some 42) v42).put (some 43) v43).put (some 44) v44).put (some 45) v45).put (some 46) v46).put (some 47) v47).put (some 48) v48).put (some 49) v49).put (some 50) v50).put (some 51) v51).put (some 8) v8).put (some 50) (.int .i64 e0)).put (some 51) (.bool true)).put (some 8) (.bool true)) w2) :
    Code.wp Try.prog ((Try.f7.body.bind (findRegion 7)).getD .skip) Q a0 w := by
  conv => arg 2; whnf
  refine wp_region_late 9 Lat (TE [Ent.val (.int .i64 e0), Ent.val (.pointer (some ⟨pp, 0, none⟩)), Ent.val (.pointer (some ⟨pp, 0, none⟩)), Ent.val (.pointer (some ⟨pp, 1, none⟩)), Ent.val (.pointer (some ⟨q, 0, none⟩)), Ent.val (.pointer (some ⟨ob, 2, none⟩)), Ent.val (.int .i64 f), Ent.val (.pointer (some ⟨ob, 5, none⟩)), Ent.val (.slice ba bn bc)]) (by kernel_rfl) (by kernel_rfl) (by kernel_rfl) (by rw [hsz]; kernel_rfl) (by kernel_rfl) (by kernel_rfl) Lat.refl Lat.trans (TE_stable _) (Lat.draw w) ?hop ?hlast ?hlate
  case hlast =>
    intro a w1 hL hS hT
    have k45 : a.tmps.getD 45 undef = .pointer (some ⟨q, 0, none⟩) := hT 4 _ (by omega) rfl
    have k47 : a.tmps.getD 47 undef = .int .i64 f := hT 6 _ (by omega) rfl
    have k49 : a.tmps.getD 49 undef = .slice ba bn bc := hT 8 _ (by omega) rfl
    have ksrc : a.tmps.getD 6 undef = .int .i64 e0 := (hS.slot 6 (by kernel_rfl)).trans s6
    have k41 : a.tmps.getD 41 undef = .int .i64 e0 := hT 0 _ (by omega) rfl
    refine wpAny_one 9 _ rfl rfl (by kernel_rfl) ?_
    refine wp_call_r (f := 27) (args := #[.pointer (some ⟨q, 0, none⟩), .int .i64 f, .slice ba bn bc]) (by simp [execOp, resolve, Act.eval, k45, k47, k49, go_sem]) ?_
    refine (hcall w1 hL).mono ?_
    rintro e w2 ⟨rfl, hR⟩
    refine ⟨_, rfl, ?_⟩
    show wpAny Try.prog .any _ Q _ _ (a.put (some 50) (.int .i64 e0)) w2
    obtain ⟨fr1, hfr1⟩ : ∃ y, a.put (some 50) (.int .i64 e0) = y := ⟨_, rfl⟩
    rw [hfr1]
    have zfr1 : fr1.tmps.size = 301 := by rw [← hfr1, put_size]; exact (hS.size.trans hsz)
    have c1_45 : fr1.tmps.getD 45 undef = .pointer (some ⟨q, 0, none⟩) := by rw [← hfr1]; exact (put_slot _ 50 45 _ (by decide)).trans k45
    have c1_47 : fr1.tmps.getD 47 undef = .int .i64 f := by rw [← hfr1]; exact (put_slot _ 50 47 _ (by decide)).trans k47
    have c1_49 : fr1.tmps.getD 49 undef = .slice ba bn bc := by rw [← hfr1]; exact (put_slot _ 50 49 _ (by decide)).trans k49
    have c1_6 : fr1.tmps.getD 6 undef = .int .i64 e0 := by rw [← hfr1]; exact (put_slot _ 50 6 _ (by decide)).trans ksrc
    have c1_41 : fr1.tmps.getD 41 undef = .int .i64 e0 := by rw [← hfr1]; exact (put_slot _ 50 41 _ (by decide)).trans k41
    have c1_50 : fr1.tmps.getD 50 undef = .int .i64 e0 := by rw [← hfr1]; exact put_same _ 50 _ (by rw [(hS.size.trans hsz)]; decide)
    refine wpAny_one 10 _ rfl rfl (by kernel_rfl) ?_
    refine wp_val (.bool true) (w' := w2) (by simp only [Array.getD_eq_getD_getElem?] at c1_41 c1_50; simp [execOp, Act.eval, c1_41, c1_50, go_sem]) ?_
    show wpAny Try.prog .any _ Q _ _ (fr1.put (some 51) (.bool true)) w2
    obtain ⟨fr2, hfr2⟩ : ∃ y, fr1.put (some 51) (.bool true) = y := ⟨_, rfl⟩
    rw [hfr2]
    have zfr2 : fr2.tmps.size = 301 := by rw [← hfr2, put_size]; exact zfr1
    have c2_45 : fr2.tmps.getD 45 undef = .pointer (some ⟨q, 0, none⟩) := by rw [← hfr2]; exact (put_slot _ 51 45 _ (by decide)).trans c1_45
    have c2_47 : fr2.tmps.getD 47 undef = .int .i64 f := by rw [← hfr2]; exact (put_slot _ 51 47 _ (by decide)).trans c1_47
    have c2_49 : fr2.tmps.getD 49 undef = .slice ba bn bc := by rw [← hfr2]; exact (put_slot _ 51 49 _ (by decide)).trans c1_49
    have c2_6 : fr2.tmps.getD 6 undef = .int .i64 e0 := by rw [← hfr2]; exact (put_slot _ 51 6 _ (by decide)).trans c1_6
    have c2_41 : fr2.tmps.getD 41 undef = .int .i64 e0 := by rw [← hfr2]; exact (put_slot _ 51 41 _ (by decide)).trans c1_41
    have c2_50 : fr2.tmps.getD 50 undef = .int .i64 e0 := by rw [← hfr2]; exact (put_slot _ 51 50 _ (by decide)).trans c1_50
    have c2_51 : fr2.tmps.getD 51 undef = .bool true := by rw [← hfr2]; exact put_same _ 51 _ (by rw [zfr1]; decide)
    refine wpAny_one 11 _ rfl rfl (by kernel_rfl) ?_
    refine wp_val (.bool true) (w' := w2) (by simp only [Array.getD_eq_getD_getElem?] at c2_51; simp [execOp, Act.eval, c2_51, go_sem]) ?_
    show wpAny Try.prog .any _ Q _ _ (fr2.put (some 8) (.bool true)) w2
    obtain ⟨fr3, hfr3⟩ : ∃ y, fr2.put (some 8) (.bool true) = y := ⟨_, rfl⟩
    rw [hfr3]
    have zfr3 : fr3.tmps.size = 301 := by rw [← hfr3, put_size]; exact zfr2
    have c3_45 : fr3.tmps.getD 45 undef = .pointer (some ⟨q, 0, none⟩) := by rw [← hfr3]; exact (put_slot _ 8 45 _ (by decide)).trans c2_45
    have c3_47 : fr3.tmps.getD 47 undef = .int .i64 f := by rw [← hfr3]; exact (put_slot _ 8 47 _ (by decide)).trans c2_47
    have c3_49 : fr3.tmps.getD 49 undef = .slice ba bn bc := by rw [← hfr3]; exact (put_slot _ 8 49 _ (by decide)).trans c2_49
    have c3_6 : fr3.tmps.getD 6 undef = .int .i64 e0 := by rw [← hfr3]; exact (put_slot _ 8 6 _ (by decide)).trans c2_6
    have c3_41 : fr3.tmps.getD 41 undef = .int .i64 e0 := by rw [← hfr3]; exact (put_slot _ 8 41 _ (by decide)).trans c2_41
    have c3_50 : fr3.tmps.getD 50 undef = .int .i64 e0 := by rw [← hfr3]; exact (put_slot _ 8 50 _ (by decide)).trans c2_50
    have c3_51 : fr3.tmps.getD 51 undef = .bool true := by rw [← hfr3]; exact (put_slot _ 8 51 _ (by decide)).trans c2_51
    have c3_8 : fr3.tmps.getD 8 undef = .bool true := by rw [← hfr3]; exact put_same _ 8 _ (by rw [zfr2]; decide)
    refine wpAny_nil (by kernel_rfl) ?_
    show Q .normal _ w2
    rw [← hfr3, ← hfr2, ← hfr1]
    rw [same_puts hS]
    exact hQ (a.tmps.getD 41 undef) (a.tmps.getD 42 undef) (a.tmps.getD 43 undef) (a.tmps.getD 44 undef) (a.tmps.getD 45 undef) (a.tmps.getD 46 undef) (a.tmps.getD 47 undef) (a.tmps.getD 48 undef) (a.tmps.getD 49 undef) (a.tmps.getD 50 undef) (a.tmps.getD 51 undef) (a.tmps.getD 8 undef) w2 hR
  case hlate =>
    intro a w1 hL hS hT
    have k45 : a.tmps.getD 45 undef = .pointer (some ⟨q, 0, none⟩) := hT 4 _ (by omega) (by omega) rfl
    have k47 : a.tmps.getD 47 undef = .int .i64 f := hT 6 _ (by omega) (by omega) rfl
    have k49 : a.tmps.getD 49 undef = .slice ba bn bc := hT 8 _ (by omega) (by omega) rfl
    have ksrc : a.tmps.getD 6 undef = .int .i64 e0 := (hS.slot 6 (by kernel_rfl)).trans s6
    have hS1 := same_put (a := a) (i := 0) (v := .int .i64 e0) rfl hS
    have he1 := same_puts hS1
    refine wpAny_two 0 9 _ _ rfl rfl rfl rfl (by kernel_rfl) ?_ ?_
    · refine wp_val (.int .i64 e0) (w' := w1) (by simp only [Array.getD_eq_getD_getElem?] at ksrc; simp [execOp, Act.eval, ksrc, go_sem]) ?_
      show wpAny Try.prog .any _ Q _ _ (a.put (some 41) (.int .i64 e0)) w1
      obtain ⟨fr1, hfr1⟩ : ∃ y, a.put (some 41) (.int .i64 e0) = y := ⟨_, rfl⟩
      rw [hfr1]
      have zfr1 : fr1.tmps.size = 301 := by rw [← hfr1, put_size]; exact (hS.size.trans hsz)
      have c1_45 : fr1.tmps.getD 45 undef = .pointer (some ⟨q, 0, none⟩) := by rw [← hfr1]; exact (put_slot _ 41 45 _ (by decide)).trans k45
      have c1_47 : fr1.tmps.getD 47 undef = .int .i64 f := by rw [← hfr1]; exact (put_slot _ 41 47 _ (by decide)).trans k47
      have c1_49 : fr1.tmps.getD 49 undef = .slice ba bn bc := by rw [← hfr1]; exact (put_slot _ 41 49 _ (by decide)).trans k49
      have c1_6 : fr1.tmps.getD 6 undef = .int .i64 e0 := by rw [← hfr1]; exact (put_slot _ 41 6 _ (by decide)).trans ksrc
      have c1_41 : fr1.tmps.getD 41 undef = .int .i64 e0 := by rw [← hfr1]; exact put_same _ 41 _ (by rw [(hS.size.trans hsz)]; decide)
      refine wpAny_one 9 _ rfl rfl (by kernel_rfl) ?_
      refine wp_call_r (f := 27) (args := #[.pointer (some ⟨q, 0, none⟩), .int .i64 f, .slice ba bn bc]) (by simp [execOp, resolve, Act.eval, c1_45, c1_47, c1_49, go_sem]) ?_
      refine (hcall w1 hL).mono ?_
      rintro e w2 ⟨rfl, hR⟩
      refine ⟨_, rfl, ?_⟩
      show wpAny Try.prog .any _ Q _ _ (fr1.put (some 50) (.int .i64 e0)) w2
      obtain ⟨fr2, hfr2⟩ : ∃ y, fr1.put (some 50) (.int .i64 e0) = y := ⟨_, rfl⟩
      rw [hfr2]
      have zfr2 : fr2.tmps.size = 301 := by rw [← hfr2, put_size]; exact zfr1
      have c2_45 : fr2.tmps.getD 45 undef = .pointer (some ⟨q, 0, none⟩) := by rw [← hfr2]; exact (put_slot _ 50 45 _ (by decide)).trans c1_45
      have c2_47 : fr2.tmps.getD 47 undef = .int .i64 f := by rw [← hfr2]; exact (put_slot _ 50 47 _ (by decide)).trans c1_47
      have c2_49 : fr2.tmps.getD 49 undef = .slice ba bn bc := by rw [← hfr2]; exact (put_slot _ 50 49 _ (by decide)).trans c1_49
      have c2_6 : fr2.tmps.getD 6 undef = .int .i64 e0 := by rw [← hfr2]; exact (put_slot _ 50 6 _ (by decide)).trans c1_6
      have c2_41 : fr2.tmps.getD 41 undef = .int .i64 e0 := by rw [← hfr2]; exact (put_slot _ 50 41 _ (by decide)).trans c1_41
      have c2_50 : fr2.tmps.getD 50 undef = .int .i64 e0 := by rw [← hfr2]; exact put_same _ 50 _ (by rw [zfr1]; decide)
      refine wpAny_one 10 _ rfl rfl (by kernel_rfl) ?_
      refine wp_val (.bool true) (w' := w2) (by simp only [Array.getD_eq_getD_getElem?] at c2_41 c2_50; simp [execOp, Act.eval, c2_41, c2_50, go_sem]) ?_
      show wpAny Try.prog .any _ Q _ _ (fr2.put (some 51) (.bool true)) w2
      obtain ⟨fr3, hfr3⟩ : ∃ y, fr2.put (some 51) (.bool true) = y := ⟨_, rfl⟩
      rw [hfr3]
      have zfr3 : fr3.tmps.size = 301 := by rw [← hfr3, put_size]; exact zfr2
      have c3_45 : fr3.tmps.getD 45 undef = .pointer (some ⟨q, 0, none⟩) := by rw [← hfr3]; exact (put_slot _ 51 45 _ (by decide)).trans c2_45
      have c3_47 : fr3.tmps.getD 47 undef = .int .i64 f := by rw [← hfr3]; exact (put_slot _ 51 47 _ (by decide)).trans c2_47
      have c3_49 : fr3.tmps.getD 49 undef = .slice ba bn bc := by rw [← hfr3]; exact (put_slot _ 51 49 _ (by decide)).trans c2_49
      have c3_6 : fr3.tmps.getD 6 undef = .int .i64 e0 := by rw [← hfr3]; exact (put_slot _ 51 6 _ (by decide)).trans c2_6
      have c3_41 : fr3.tmps.getD 41 undef = .int .i64 e0 := by rw [← hfr3]; exact (put_slot _ 51 41 _ (by decide)).trans c2_41
      have c3_50 : fr3.tmps.getD 50 undef = .int .i64 e0 := by rw [← hfr3]; exact (put_slot _ 51 50 _ (by decide)).trans c2_50
      have c3_51 : fr3.tmps.getD 51 undef = .bool true := by rw [← hfr3]; exact put_same _ 51 _ (by rw [zfr2]; decide)
      refine wpAny_one 11 _ rfl rfl (by kernel_rfl) ?_
      refine wp_val (.bool true) (w' := w2) (by simp only [Array.getD_eq_getD_getElem?] at c3_51; simp [execOp, Act.eval, c3_51, go_sem]) ?_
      show wpAny Try.prog .any _ Q _ _ (fr3.put (some 8) (.bool true)) w2
      obtain ⟨fr4, hfr4⟩ : ∃ y, fr3.put (some 8) (.bool true) = y := ⟨_, rfl⟩
      rw [hfr4]
      have zfr4 : fr4.tmps.size = 301 := by rw [← hfr4, put_size]; exact zfr3
      have c4_45 : fr4.tmps.getD 45 undef = .pointer (some ⟨q, 0, none⟩) := by rw [← hfr4]; exact (put_slot _ 8 45 _ (by decide)).trans c3_45
      have c4_47 : fr4.tmps.getD 47 undef = .int .i64 f := by rw [← hfr4]; exact (put_slot _ 8 47 _ (by decide)).trans c3_47
      have c4_49 : fr4.tmps.getD 49 undef = .slice ba bn bc := by rw [← hfr4]; exact (put_slot _ 8 49 _ (by decide)).trans c3_49
      have c4_6 : fr4.tmps.getD 6 undef = .int .i64 e0 := by rw [← hfr4]; exact (put_slot _ 8 6 _ (by decide)).trans c3_6
      have c4_41 : fr4.tmps.getD 41 undef = .int .i64 e0 := by rw [← hfr4]; exact (put_slot _ 8 41 _ (by decide)).trans c3_41
      have c4_50 : fr4.tmps.getD 50 undef = .int .i64 e0 := by rw [← hfr4]; exact (put_slot _ 8 50 _ (by decide)).trans c3_50
      have c4_51 : fr4.tmps.getD 51 undef = .bool true := by rw [← hfr4]; exact (put_slot _ 8 51 _ (by decide)).trans c3_51
      have c4_8 : fr4.tmps.getD 8 undef = .bool true := by rw [← hfr4]; exact put_same _ 8 _ (by rw [zfr3]; decide)
      refine wpAny_nil (by kernel_rfl) ?_
      show Q .normal _ w2
      rw [← hfr4, ← hfr3, ← hfr2, ← hfr1]
      have he2 : (a.put (some 41) (.int .i64 e0)) = _ := he1
      rw [he2]
      exact hQ ((a.put (some 41) (.int .i64 e0)).tmps.getD 41 undef) ((a.put (some 41) (.int .i64 e0)).tmps.getD 42 undef) ((a.put (some 41) (.int .i64 e0)).tmps.getD 43 undef) ((a.put (some 41) (.int .i64 e0)).tmps.getD 44 undef) ((a.put (some 41) (.int .i64 e0)).tmps.getD 45 undef) ((a.put (some 41) (.int .i64 e0)).tmps.getD 46 undef) ((a.put (some 41) (.int .i64 e0)).tmps.getD 47 undef) ((a.put (some 41) (.int .i64 e0)).tmps.getD 48 undef) ((a.put (some 41) (.int .i64 e0)).tmps.getD 49 undef) ((a.put (some 41) (.int .i64 e0)).tmps.getD 50 undef) ((a.put (some 41) (.int .i64 e0)).tmps.getD 51 undef) ((a.put (some 41) (.int .i64 e0)).tmps.getD 8 undef) w2 hR
    · refine wp_call_r (f := 27) (args := #[.pointer (some ⟨q, 0, none⟩), .int .i64 f, .slice ba bn bc]) (by simp [execOp, resolve, Act.eval, k45, k47, k49, go_sem]) ?_
      refine (hcall w1 hL).mono ?_
      rintro e w2 ⟨rfl, hR⟩
      refine ⟨_, rfl, ?_⟩
      show wpAny Try.prog .any _ Q _ _ (a.put (some 50) (.int .i64 e0)) w2
      obtain ⟨fr1, hfr1⟩ : ∃ y, a.put (some 50) (.int .i64 e0) = y := ⟨_, rfl⟩
      rw [hfr1]
      have zfr1 : fr1.tmps.size = 301 := by rw [← hfr1, put_size]; exact (hS.size.trans hsz)
      have c1_45 : fr1.tmps.getD 45 undef = .pointer (some ⟨q, 0, none⟩) := by rw [← hfr1]; exact (put_slot _ 50 45 _ (by decide)).trans k45
      have c1_47 : fr1.tmps.getD 47 undef = .int .i64 f := by rw [← hfr1]; exact (put_slot _ 50 47 _ (by decide)).trans k47
      have c1_49 : fr1.tmps.getD 49 undef = .slice ba bn bc := by rw [← hfr1]; exact (put_slot _ 50 49 _ (by decide)).trans k49
      have c1_6 : fr1.tmps.getD 6 undef = .int .i64 e0 := by rw [← hfr1]; exact (put_slot _ 50 6 _ (by decide)).trans ksrc
      have c1_50 : fr1.tmps.getD 50 undef = .int .i64 e0 := by rw [← hfr1]; exact put_same _ 50 _ (by rw [(hS.size.trans hsz)]; decide)
      refine wpAny_one 0 _ rfl rfl (by kernel_rfl) ?_
      refine wp_val (.int .i64 e0) (w' := w2) (by simp only [Array.getD_eq_getD_getElem?] at c1_6; simp [execOp, Act.eval, c1_6, go_sem]) ?_
      show wpAny Try.prog .any _ Q _ _ (fr1.put (some 41) (.int .i64 e0)) w2
      obtain ⟨fr2, hfr2⟩ : ∃ y, fr1.put (some 41) (.int .i64 e0) = y := ⟨_, rfl⟩
      rw [hfr2]
      have zfr2 : fr2.tmps.size = 301 := by rw [← hfr2, put_size]; exact zfr1
      have c2_45 : fr2.tmps.getD 45 undef = .pointer (some ⟨q, 0, none⟩) := by rw [← hfr2]; exact (put_slot _ 41 45 _ (by decide)).trans c1_45
      have c2_47 : fr2.tmps.getD 47 undef = .int .i64 f := by rw [← hfr2]; exact (put_slot _ 41 47 _ (by decide)).trans c1_47
      have c2_49 : fr2.tmps.getD 49 undef = .slice ba bn bc := by rw [← hfr2]; exact (put_slot _ 41 49 _ (by decide)).trans c1_49
      have c2_6 : fr2.tmps.getD 6 undef = .int .i64 e0 := by rw [← hfr2]; exact (put_slot _ 41 6 _ (by decide)).trans c1_6
      have c2_50 : fr2.tmps.getD 50 undef = .int .i64 e0 := by rw [← hfr2]; exact (put_slot _ 41 50 _ (by decide)).trans c1_50
      have c2_41 : fr2.tmps.getD 41 undef = .int .i64 e0 := by rw [← hfr2]; exact put_same _ 41 _ (by rw [zfr1]; decide)
      refine wpAny_one 10 _ rfl rfl (by kernel_rfl) ?_
      refine wp_val (.bool true) (w' := w2) (by simp only [Array.getD_eq_getD_getElem?] at c2_41 c2_50; simp [execOp, Act.eval, c2_41, c2_50, go_sem]) ?_
      show wpAny Try.prog .any _ Q _ _ (fr2.put (some 51) (.bool true)) w2
      obtain ⟨fr3, hfr3⟩ : ∃ y, fr2.put (some 51) (.bool true) = y := ⟨_, rfl⟩
      rw [hfr3]
      have zfr3 : fr3.tmps.size = 301 := by rw [← hfr3, put_size]; exact zfr2
      have c3_45 : fr3.tmps.getD 45 undef = .pointer (some ⟨q, 0, none⟩) := by rw [← hfr3]; exact (put_slot _ 51 45 _ (by decide)).trans c2_45
      have c3_47 : fr3.tmps.getD 47 undef = .int .i64 f := by rw [← hfr3]; exact (put_slot _ 51 47 _ (by decide)).trans c2_47
      have c3_49 : fr3.tmps.getD 49 undef = .slice ba bn bc := by rw [← hfr3]; exact (put_slot _ 51 49 _ (by decide)).trans c2_49
      have c3_6 : fr3.tmps.getD 6 undef = .int .i64 e0 := by rw [← hfr3]; exact (put_slot _ 51 6 _ (by decide)).trans c2_6
      have c3_50 : fr3.tmps.getD 50 undef = .int .i64 e0 := by rw [← hfr3]; exact (put_slot _ 51 50 _ (by decide)).trans c2_50
      have c3_41 : fr3.tmps.getD 41 undef = .int .i64 e0 := by rw [← hfr3]; exact (put_slot _ 51 41 _ (by decide)).trans c2_41
      have c3_51 : fr3.tmps.getD 51 undef = .bool true := by rw [← hfr3]; exact put_same _ 51 _ (by rw [zfr2]; decide)
      refine wpAny_one 11 _ rfl rfl (by kernel_rfl) ?_
      refine wp_val (.bool true) (w' := w2) (by simp only [Array.getD_eq_getD_getElem?] at c3_51; simp [execOp, Act.eval, c3_51, go_sem]) ?_
      show wpAny Try.prog .any _ Q _ _ (fr3.put (some 8) (.bool true)) w2
      obtain ⟨fr4, hfr4⟩ : ∃ y, fr3.put (some 8) (.bool true) = y := ⟨_, rfl⟩
      rw [hfr4]
      have zfr4 : fr4.tmps.size = 301 := by rw [← hfr4, put_size]; exact zfr3
      have c4_45 : fr4.tmps.getD 45 undef = .pointer (some ⟨q, 0, none⟩) := by rw [← hfr4]; exact (put_slot _ 8 45 _ (by decide)).trans c3_45
      have c4_47 : fr4.tmps.getD 47 undef = .int .i64 f := by rw [← hfr4]; exact (put_slot _ 8 47 _ (by decide)).trans c3_47
      have c4_49 : fr4.tmps.getD 49 undef = .slice ba bn bc := by rw [← hfr4]; exact (put_slot _ 8 49 _ (by decide)).trans c3_49
      have c4_6 : fr4.tmps.getD 6 undef = .int .i64 e0 := by rw [← hfr4]; exact (put_slot _ 8 6 _ (by decide)).trans c3_6
      have c4_50 : fr4.tmps.getD 50 undef = .int .i64 e0 := by rw [← hfr4]; exact (put_slot _ 8 50 _ (by decide)).trans c3_50
      have c4_41 : fr4.tmps.getD 41 undef = .int .i64 e0 := by rw [← hfr4]; exact (put_slot _ 8 41 _ (by decide)).trans c3_41
      have c4_51 : fr4.tmps.getD 51 undef = .bool true := by rw [← hfr4]; exact (put_slot _ 8 51 _ (by decide)).trans c3_51
      have c4_8 : fr4.tmps.getD 8 undef = .bool true := by rw [← hfr4]; exact put_same _ 8 _ (by rw [zfr3]; decide)
      refine wpAny_nil (by kernel_rfl) ?_
      show Q .normal _ w2
      rw [← hfr4, ← hfr3, ← hfr2, ← hfr1]
      rw [put_comm a 50 41 _ _ (by decide)]
      have he2 : (a.put (some 41) (.int .i64 e0)) = _ := he1
      rw [he2]
      exact hQ ((a.put (some 41) (.int .i64 e0)).tmps.getD 41 undef) ((a.put (some 41) (.int .i64 e0)).tmps.getD 42 undef) ((a.put (some 41) (.int .i64 e0)).tmps.getD 43 undef) ((a.put (some 41) (.int .i64 e0)).tmps.getD 44 undef) ((a.put (some 41) (.int .i64 e0)).tmps.getD 45 undef) ((a.put (some 41) (.int .i64 e0)).tmps.getD 46 undef) ((a.put (some 41) (.int .i64 e0)).tmps.getD 47 undef) ((a.put (some 41) (.int .i64 e0)).tmps.getD 48 undef) ((a.put (some 41) (.int .i64 e0)).tmps.getD 49 undef) ((a.put (some 41) (.int .i64 e0)).tmps.getD 50 undef) ((a.put (some 41) (.int .i64 e0)).tmps.getD 51 undef) ((a.put (some 41) (.int .i64 e0)).tmps.getD 8 undef) w2 hR
  case hop =>
    intro i o hlt hi
    rcases (show i = 0 ∨ i = 1 ∨ i = 2 ∨ i = 3 ∨ i = 4 ∨ i = 5 ∨ i = 6 ∨ i = 7 ∨ i = 8 by omega) with rfl | rfl | rfl | rfl | rfl | rfl | rfl | rfl | rfl
    · obtain rfl := Option.some.inj hi
      clear hi hlt
      intro a w1 hL hS hD
      have e6 : a.tmps.getD 6 undef = .int .i64 e0 := (hS.slot 6 (by kernel_rfl)).trans s6
      refine step_yes rfl ?_
      exact ok_value Lat.refl (.int .i64 e0) (by simp [execOp, Act.eval, e6, go_sem]) rfl
    · obtain rfl := Option.some.inj hi
      clear hi hlt
      intro a w1 hL hS hD
      have e0 : a.tmps.getD 0 undef = .pointer (some ⟨pp, 0, none⟩) := (hS.slot 0 (by kernel_rfl)).trans s0
      refine step_yes rfl ?_
      exact ok_value Lat.refl (.pointer (some ⟨pp, 0, none⟩)) (by simp [execOp, Act.eval, e0, go_sem]) rfl
    · obtain rfl := Option.some.inj hi
      clear hi hlt
      intro a w1 hL hS hD
      have d1 : a.tmps.getD 42 undef = .pointer (some ⟨pp, 0, none⟩) := hD ⟨1, .data⟩ (by simp) rfl _ rfl
      refine step_yes rfl ?_
      exact ok_value Lat.refl (.pointer (some ⟨pp, 0, none⟩)) (by simp [execOp, Act.eval, d1, go_sem]) rfl
    · obtain rfl := Option.some.inj hi
      clear hi hlt
      intro a w1 hL hS hD
      have d2 : a.tmps.getD 43 undef = .pointer (some ⟨pp, 0, none⟩) := hD ⟨2, .data⟩ (by simp) rfl _ rfl
      refine step_yes rfl ?_
      exact ok_value Lat.refl (.pointer (some ⟨pp, 1, none⟩)) (by simp [execOp, Act.eval, d2, go_sem]) rfl
    · obtain rfl := Option.some.inj hi
      clear hi hlt
      intro a w1 hL hS hD
      have d3 : a.tmps.getD 44 undef = .pointer (some ⟨pp, 1, none⟩) := hD ⟨3, .data⟩ (by simp) rfl _ rfl
      refine step_yes rfl ?_
      exact ok_value Lat.refl (.pointer (some ⟨q, 0, none⟩)) (by simp [execOp, Act.eval, d3, hB w1 hL, go_sem]) rfl
    · obtain rfl := Option.some.inj hi
      clear hi hlt
      intro a w1 hL hS hD
      have e3 : a.tmps.getD 3 undef = .pointer (some ⟨ob, 0, none⟩) := (hS.slot 3 (by kernel_rfl)).trans s3
      refine step_yes rfl ?_
      exact ok_value Lat.refl (.pointer (some ⟨ob, 2, none⟩)) (by simp [execOp, Act.eval, e3, go_sem]) rfl
    · obtain rfl := Option.some.inj hi
      clear hi hlt
      intro a w1 hL hS hD
      have d5 : a.tmps.getD 46 undef = .pointer (some ⟨ob, 2, none⟩) := hD ⟨5, .data⟩ (by simp) rfl _ rfl
      refine step_yes rfl ?_
      exact ok_value Lat.refl (.int .i64 f) (by simp [execOp, Act.eval, d5, h2 w1 hL, go_sem]) rfl
    · obtain rfl := Option.some.inj hi
      clear hi hlt
      intro a w1 hL hS hD
      have e3 : a.tmps.getD 3 undef = .pointer (some ⟨ob, 0, none⟩) := (hS.slot 3 (by kernel_rfl)).trans s3
      refine step_yes rfl ?_
      exact ok_value Lat.refl (.pointer (some ⟨ob, 5, none⟩)) (by simp [execOp, Act.eval, e3, go_sem]) rfl
    · obtain rfl := Option.some.inj hi
      clear hi hlt
      intro a w1 hL hS hD
      have d7 : a.tmps.getD 48 undef = .pointer (some ⟨ob, 5, none⟩) := hD ⟨7, .data⟩ (by simp) rfl _ rfl
      refine step_yes rfl ?_
      exact ok_value Lat.refl (.slice ba bn bc) (by simp [execOp, Act.eval, d7, h5 w1 hL, go_sem]) rfl

end Go.Proofs.Ytgmcfejmhlglkaa
