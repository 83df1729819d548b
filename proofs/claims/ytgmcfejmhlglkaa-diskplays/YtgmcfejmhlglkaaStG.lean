import Derived.Test.YtgmcfejmhlglkaaStS
import Derived.Test.YtgmcfejmhlglkaaAnyV
namespace Go.Proofs.Ytgmcfejmhlglkaa
open Go.RowKit
set_option linter.unusedVariables false
set_option linter.unusedSimpArgs false

set_option maxRecDepth 100000 in
set_option maxHeartbeats 2000000 in
theorem step_r12 (pp q ob ln lc : Nat) (la : Option Addr) (f e0 : Int) (R : World → Prop) (w : World) (a0 : Act) (Q : Exit → Act → World → Prop) (hsz : a0.tmps.size = 301)
    (s0 : a0.tmps.getD 0 undef = .pointer (some ⟨pp, 0, none⟩))
    (s3 : a0.tmps.getD 3 undef = .pointer (some ⟨ob, 0, none⟩))
    (s8 : a0.tmps.getD 8 undef = .bool true)
    (s9 : a0.tmps.getD 9 undef = .int .i64 e0)
    (s10 : a0.tmps.getD 10 undef = .slice la ln lc)
    (hB : ∀ w1, Lat w w1 → w1.cell? ⟨pp, 1, none⟩ = some (.pointer (some ⟨q, 0, none⟩)))
    (h2 : ∀ w1, Lat w w1 → w1.cell? ⟨ob, 2, none⟩ = some (.int .i64 f))
    (hcall : ∀ w1, Lat w w1 → Calls Try.prog 27 #[.pointer (some ⟨q, 0, none⟩), .int .i64 f, .slice la ln lc] w1 fun e w2 => e = .returned (.int .i64 e0) ∧ R w2)
    (hQ : ∀ (v66 v67 v68 v69 v70 v71 v72 v73 v74 v75 v76 v77 v78 v8 : Value) (w2 : World), R w2 → Q .normal ((((((((((((((((((a0.put (some 66) v66).put (some 67) v67).put (some 68) v68).put (some 69) v69).put (some 70) v70).put (some 71) v71).put (some 72) v72).put (some 73) v73).put (some 74) v74).put (some 75) v75).put (some 76) v76).put (some 77) v77).put (some 78) v78).put (some 8) v8).put (some 76) (.int .i64 e0)).put (some 77) (.bool true)).put (some 78) (.bool true)).put (some 8) (.bool true)) w2) :
    Code.wp Try.prog ((Try.f7.body.bind (findRegion 12)).getD .skip) Q a0 w := by
  conv => arg 2; whnf
  refine wp_region_lateJ 10 2 Lat (TE [Ent.val (.bool true), Ent.val (.bool true), Ent.val (.int .i64 e0), Ent.val (.pointer (some ⟨pp, 0, none⟩)), Ent.val (.pointer (some ⟨pp, 0, none⟩)), Ent.val (.pointer (some ⟨pp, 1, none⟩)), Ent.val (.pointer (some ⟨q, 0, none⟩)), Ent.val (.pointer (some ⟨ob, 2, none⟩)), Ent.val (.int .i64 f), Ent.val (.slice la ln lc)]) (by kernel_rfl) (by kernel_rfl) (by kernel_rfl) (by rw [hsz]; kernel_rfl) (by kernel_rfl) (by kernel_rfl) Lat.refl Lat.trans (TE_stable _) (Lat.draw w) ?hop ?hlast ?hlate
  case hlast =>
    intro a w1 hL hS hT
    have k72 : a.tmps.getD 72 undef = .pointer (some ⟨q, 0, none⟩) := hT 6 _ (by omega) rfl
    have k74 : a.tmps.getD 74 undef = .int .i64 f := hT 8 _ (by omega) rfl
    have k75 : a.tmps.getD 75 undef = .slice la ln lc := hT 9 _ (by omega) rfl
    have ksrc : a.tmps.getD 9 undef = .int .i64 e0 := (hS.slot 9 (by kernel_rfl)).trans s9
    have k67 : a.tmps.getD 67 undef = .bool true := hT 1 _ (by omega) rfl
    have k68 : a.tmps.getD 68 undef = .int .i64 e0 := hT 2 _ (by omega) rfl
    refine wpAny_oneW 10 _ rfl (wanted_yes rfl rfl rfl k67) (by kernel_rfl) ?_
    refine wp_call_r (f := 27) (args := #[.pointer (some ⟨q, 0, none⟩), .int .i64 f, .slice la ln lc]) (by simp [execOp, resolve, Act.eval, k72, k74, k75, go_sem]) ?_
    refine (hcall w1 hL).mono ?_
    rintro e w2 ⟨rfl, hR⟩
    refine ⟨_, rfl, ?_⟩
    show wpAny Try.prog .any _ Q _ _ (a.put (some 76) (.int .i64 e0)) w2
    obtain ⟨fr1, hfr1⟩ : ∃ y, a.put (some 76) (.int .i64 e0) = y := ⟨_, rfl⟩
    rw [hfr1]
    have zfr1 : fr1.tmps.size = 301 := by rw [← hfr1, put_size]; exact (hS.size.trans hsz)
    have c1_72 : fr1.tmps.getD 72 undef = .pointer (some ⟨q, 0, none⟩) := by rw [← hfr1]; exact (put_slot _ 76 72 _ (by decide)).trans k72
    have c1_74 : fr1.tmps.getD 74 undef = .int .i64 f := by rw [← hfr1]; exact (put_slot _ 76 74 _ (by decide)).trans k74
    have c1_75 : fr1.tmps.getD 75 undef = .slice la ln lc := by rw [← hfr1]; exact (put_slot _ 76 75 _ (by decide)).trans k75
    have c1_67 : fr1.tmps.getD 67 undef = .bool true := by rw [← hfr1]; exact (put_slot _ 76 67 _ (by decide)).trans k67
    have c1_9 : fr1.tmps.getD 9 undef = .int .i64 e0 := by rw [← hfr1]; exact (put_slot _ 76 9 _ (by decide)).trans ksrc
    have c1_68 : fr1.tmps.getD 68 undef = .int .i64 e0 := by rw [← hfr1]; exact (put_slot _ 76 68 _ (by decide)).trans k68
    have c1_76 : fr1.tmps.getD 76 undef = .int .i64 e0 := by rw [← hfr1]; exact put_same _ 76 _ (by rw [(hS.size.trans hsz)]; decide)
    refine wpAny_oneW 11 _ rfl (wanted_yes rfl rfl rfl c1_67) (by kernel_rfl) ?_
    refine wp_val (.bool true) (w' := w2) (by simp only [Array.getD_eq_getD_getElem?] at c1_68 c1_76; simp [execOp, Act.eval, c1_68, c1_76, go_sem]) ?_
    show wpAny Try.prog .any _ Q _ _ (fr1.put (some 77) (.bool true)) w2
    obtain ⟨fr2, hfr2⟩ : ∃ y, fr1.put (some 77) (.bool true) = y := ⟨_, rfl⟩
    rw [hfr2]
    have zfr2 : fr2.tmps.size = 301 := by rw [← hfr2, put_size]; exact zfr1
    have c2_72 : fr2.tmps.getD 72 undef = .pointer (some ⟨q, 0, none⟩) := by rw [← hfr2]; exact (put_slot _ 77 72 _ (by decide)).trans c1_72
    have c2_74 : fr2.tmps.getD 74 undef = .int .i64 f := by rw [← hfr2]; exact (put_slot _ 77 74 _ (by decide)).trans c1_74
    have c2_75 : fr2.tmps.getD 75 undef = .slice la ln lc := by rw [← hfr2]; exact (put_slot _ 77 75 _ (by decide)).trans c1_75
    have c2_67 : fr2.tmps.getD 67 undef = .bool true := by rw [← hfr2]; exact (put_slot _ 77 67 _ (by decide)).trans c1_67
    have c2_9 : fr2.tmps.getD 9 undef = .int .i64 e0 := by rw [← hfr2]; exact (put_slot _ 77 9 _ (by decide)).trans c1_9
    have c2_68 : fr2.tmps.getD 68 undef = .int .i64 e0 := by rw [← hfr2]; exact (put_slot _ 77 68 _ (by decide)).trans c1_68
    have c2_76 : fr2.tmps.getD 76 undef = .int .i64 e0 := by rw [← hfr2]; exact (put_slot _ 77 76 _ (by decide)).trans c1_76
    have c2_77 : fr2.tmps.getD 77 undef = .bool true := by rw [← hfr2]; exact put_same _ 77 _ (by rw [zfr1]; decide)
    refine wpAny_one 12 _ rfl rfl (by kernel_rfl) ?_
    refine wp_val (.bool true) (w' := w2) (by simp only [Array.getD_eq_getD_getElem?] at c2_67 c2_77; simp [execOp, Act.eval, c2_67, c2_77, go_sem]) ?_
    show wpAny Try.prog .any _ Q _ _ (fr2.put (some 78) (.bool true)) w2
    obtain ⟨fr3, hfr3⟩ : ∃ y, fr2.put (some 78) (.bool true) = y := ⟨_, rfl⟩
    rw [hfr3]
    have zfr3 : fr3.tmps.size = 301 := by rw [← hfr3, put_size]; exact zfr2
    have c3_72 : fr3.tmps.getD 72 undef = .pointer (some ⟨q, 0, none⟩) := by rw [← hfr3]; exact (put_slot _ 78 72 _ (by decide)).trans c2_72
    have c3_74 : fr3.tmps.getD 74 undef = .int .i64 f := by rw [← hfr3]; exact (put_slot _ 78 74 _ (by decide)).trans c2_74
    have c3_75 : fr3.tmps.getD 75 undef = .slice la ln lc := by rw [← hfr3]; exact (put_slot _ 78 75 _ (by decide)).trans c2_75
    have c3_67 : fr3.tmps.getD 67 undef = .bool true := by rw [← hfr3]; exact (put_slot _ 78 67 _ (by decide)).trans c2_67
    have c3_9 : fr3.tmps.getD 9 undef = .int .i64 e0 := by rw [← hfr3]; exact (put_slot _ 78 9 _ (by decide)).trans c2_9
    have c3_68 : fr3.tmps.getD 68 undef = .int .i64 e0 := by rw [← hfr3]; exact (put_slot _ 78 68 _ (by decide)).trans c2_68
    have c3_76 : fr3.tmps.getD 76 undef = .int .i64 e0 := by rw [← hfr3]; exact (put_slot _ 78 76 _ (by decide)).trans c2_76
    have c3_77 : fr3.tmps.getD 77 undef = .bool true := by rw [← hfr3]; exact (put_slot _ 78 77 _ (by decide)).trans c2_77
    have c3_78 : fr3.tmps.getD 78 undef = .bool true := by rw [← hfr3]; exact put_same _ 78 _ (by rw [zfr2]; decide)
    refine wpAny_one 13 _ rfl rfl (by kernel_rfl) ?_
    refine wp_val (.bool true) (w' := w2) (by simp only [Array.getD_eq_getD_getElem?] at c3_78; simp [execOp, Act.eval, c3_78, go_sem]) ?_
    show wpAny Try.prog .any _ Q _ _ (fr3.put (some 8) (.bool true)) w2
    obtain ⟨fr4, hfr4⟩ : ∃ y, fr3.put (some 8) (.bool true) = y := ⟨_, rfl⟩
    rw [hfr4]
    have zfr4 : fr4.tmps.size = 301 := by rw [← hfr4, put_size]; exact zfr3
    have c4_72 : fr4.tmps.getD 72 undef = .pointer (some ⟨q, 0, none⟩) := by rw [← hfr4]; exact (put_slot _ 8 72 _ (by decide)).trans c3_72
    have c4_74 : fr4.tmps.getD 74 undef = .int .i64 f := by rw [← hfr4]; exact (put_slot _ 8 74 _ (by decide)).trans c3_74
    have c4_75 : fr4.tmps.getD 75 undef = .slice la ln lc := by rw [← hfr4]; exact (put_slot _ 8 75 _ (by decide)).trans c3_75
    have c4_67 : fr4.tmps.getD 67 undef = .bool true := by rw [← hfr4]; exact (put_slot _ 8 67 _ (by decide)).trans c3_67
    have c4_9 : fr4.tmps.getD 9 undef = .int .i64 e0 := by rw [← hfr4]; exact (put_slot _ 8 9 _ (by decide)).trans c3_9
    have c4_68 : fr4.tmps.getD 68 undef = .int .i64 e0 := by rw [← hfr4]; exact (put_slot _ 8 68 _ (by decide)).trans c3_68
    have c4_76 : fr4.tmps.getD 76 undef = .int .i64 e0 := by rw [← hfr4]; exact (put_slot _ 8 76 _ (by decide)).trans c3_76
    have c4_77 : fr4.tmps.getD 77 undef = .bool true := by rw [← hfr4]; exact (put_slot _ 8 77 _ (by decide)).trans c3_77
    have c4_78 : fr4.tmps.getD 78 undef = .bool true := by rw [← hfr4]; exact (put_slot _ 8 78 _ (by decide)).trans c3_78
    have c4_8 : fr4.tmps.getD 8 undef = .bool true := by rw [← hfr4]; exact put_same _ 8 _ (by rw [zfr3]; decide)
    refine wpAny_nil (by kernel_rfl) ?_
    show Q .normal _ w2
    rw [← hfr4, ← hfr3, ← hfr2, ← hfr1]
    rw [same_puts hS]
    exact hQ (a.tmps.getD 66 undef) (a.tmps.getD 67 undef) (a.tmps.getD 68 undef) (a.tmps.getD 69 undef) (a.tmps.getD 70 undef) (a.tmps.getD 71 undef) (a.tmps.getD 72 undef) (a.tmps.getD 73 undef) (a.tmps.getD 74 undef) (a.tmps.getD 75 undef) (a.tmps.getD 76 undef) (a.tmps.getD 77 undef) (a.tmps.getD 78 undef) (a.tmps.getD 8 undef) w2 hR
  case hlate =>
    intro a w1 hL hS hT
    have k72 : a.tmps.getD 72 undef = .pointer (some ⟨q, 0, none⟩) := hT 6 _ (by omega) (by omega) rfl
    have k74 : a.tmps.getD 74 undef = .int .i64 f := hT 8 _ (by omega) (by omega) rfl
    have k75 : a.tmps.getD 75 undef = .slice la ln lc := hT 9 _ (by omega) (by omega) rfl
    have ksrc : a.tmps.getD 9 undef = .int .i64 e0 := (hS.slot 9 (by kernel_rfl)).trans s9
    have k67 : a.tmps.getD 67 undef = .bool true := hT 1 _ (by omega) (by omega) rfl
    have hS1 := same_put (a := a) (i := 2) (v := .int .i64 e0) rfl hS
    have he1 := same_puts hS1
    refine wpAny_twoW 2 10 _ _ rfl rfl (wanted_yes rfl rfl rfl k67) (wanted_yes rfl rfl rfl k67) (by kernel_rfl) ?_ ?_
    · refine wp_val (.int .i64 e0) (w' := w1) (by simp only [Array.getD_eq_getD_getElem?] at ksrc; simp [execOp, Act.eval, ksrc, go_sem]) ?_
      show wpAny Try.prog .any _ Q _ _ (a.put (some 68) (.int .i64 e0)) w1
      obtain ⟨fr1, hfr1⟩ : ∃ y, a.put (some 68) (.int .i64 e0) = y := ⟨_, rfl⟩
      rw [hfr1]
      have zfr1 : fr1.tmps.size = 301 := by rw [← hfr1, put_size]; exact (hS.size.trans hsz)
      have c1_72 : fr1.tmps.getD 72 undef = .pointer (some ⟨q, 0, none⟩) := by rw [← hfr1]; exact (put_slot _ 68 72 _ (by decide)).trans k72
      have c1_74 : fr1.tmps.getD 74 undef = .int .i64 f := by rw [← hfr1]; exact (put_slot _ 68 74 _ (by decide)).trans k74
      have c1_75 : fr1.tmps.getD 75 undef = .slice la ln lc := by rw [← hfr1]; exact (put_slot _ 68 75 _ (by decide)).trans k75
      have c1_67 : fr1.tmps.getD 67 undef = .bool true := by rw [← hfr1]; exact (put_slot _ 68 67 _ (by decide)).trans k67
      have c1_9 : fr1.tmps.getD 9 undef = .int .i64 e0 := by rw [← hfr1]; exact (put_slot _ 68 9 _ (by decide)).trans ksrc
      have c1_68 : fr1.tmps.getD 68 undef = .int .i64 e0 := by rw [← hfr1]; exact put_same _ 68 _ (by rw [(hS.size.trans hsz)]; decide)
      refine wpAny_oneW 10 _ rfl (wanted_yes rfl rfl rfl c1_67) (by kernel_rfl) ?_
      refine wp_call_r (f := 27) (args := #[.pointer (some ⟨q, 0, none⟩), .int .i64 f, .slice la ln lc]) (by simp [execOp, resolve, Act.eval, c1_72, c1_74, c1_75, go_sem]) ?_
      refine (hcall w1 hL).mono ?_
      rintro e w2 ⟨rfl, hR⟩
      refine ⟨_, rfl, ?_⟩
      show wpAny Try.prog .any _ Q _ _ (fr1.put (some 76) (.int .i64 e0)) w2
      obtain ⟨fr2, hfr2⟩ : ∃ y, fr1.put (some 76) (.int .i64 e0) = y := ⟨_, rfl⟩
      rw [hfr2]
      have zfr2 : fr2.tmps.size = 301 := by rw [← hfr2, put_size]; exact zfr1
      have c2_72 : fr2.tmps.getD 72 undef = .pointer (some ⟨q, 0, none⟩) := by rw [← hfr2]; exact (put_slot _ 76 72 _ (by decide)).trans c1_72
      have c2_74 : fr2.tmps.getD 74 undef = .int .i64 f := by rw [← hfr2]; exact (put_slot _ 76 74 _ (by decide)).trans c1_74
      have c2_75 : fr2.tmps.getD 75 undef = .slice la ln lc := by rw [← hfr2]; exact (put_slot _ 76 75 _ (by decide)).trans c1_75
      have c2_67 : fr2.tmps.getD 67 undef = .bool true := by rw [← hfr2]; exact (put_slot _ 76 67 _ (by decide)).trans c1_67
      have c2_9 : fr2.tmps.getD 9 undef = .int .i64 e0 := by rw [← hfr2]; exact (put_slot _ 76 9 _ (by decide)).trans c1_9
      have c2_68 : fr2.tmps.getD 68 undef = .int .i64 e0 := by rw [← hfr2]; exact (put_slot _ 76 68 _ (by decide)).trans c1_68
      have c2_76 : fr2.tmps.getD 76 undef = .int .i64 e0 := by rw [← hfr2]; exact put_same _ 76 _ (by rw [zfr1]; decide)
      refine wpAny_oneW 11 _ rfl (wanted_yes rfl rfl rfl c2_67) (by kernel_rfl) ?_
      refine wp_val (.bool true) (w' := w2) (by simp only [Array.getD_eq_getD_getElem?] at c2_68 c2_76; simp [execOp, Act.eval, c2_68, c2_76, go_sem]) ?_
      show wpAny Try.prog .any _ Q _ _ (fr2.put (some 77) (.bool true)) w2
      obtain ⟨fr3, hfr3⟩ : ∃ y, fr2.put (some 77) (.bool true) = y := ⟨_, rfl⟩
      rw [hfr3]
      have zfr3 : fr3.tmps.size = 301 := by rw [← hfr3, put_size]; exact zfr2
      have c3_72 : fr3.tmps.getD 72 undef = .pointer (some ⟨q, 0, none⟩) := by rw [← hfr3]; exact (put_slot _ 77 72 _ (by decide)).trans c2_72
      have c3_74 : fr3.tmps.getD 74 undef = .int .i64 f := by rw [← hfr3]; exact (put_slot _ 77 74 _ (by decide)).trans c2_74
      have c3_75 : fr3.tmps.getD 75 undef = .slice la ln lc := by rw [← hfr3]; exact (put_slot _ 77 75 _ (by decide)).trans c2_75
      have c3_67 : fr3.tmps.getD 67 undef = .bool true := by rw [← hfr3]; exact (put_slot _ 77 67 _ (by decide)).trans c2_67
      have c3_9 : fr3.tmps.getD 9 undef = .int .i64 e0 := by rw [← hfr3]; exact (put_slot _ 77 9 _ (by decide)).trans c2_9
      have c3_68 : fr3.tmps.getD 68 undef = .int .i64 e0 := by rw [← hfr3]; exact (put_slot _ 77 68 _ (by decide)).trans c2_68
      have c3_76 : fr3.tmps.getD 76 undef = .int .i64 e0 := by rw [← hfr3]; exact (put_slot _ 77 76 _ (by decide)).trans c2_76
      have c3_77 : fr3.tmps.getD 77 undef = .bool true := by rw [← hfr3]; exact put_same _ 77 _ (by rw [zfr2]; decide)
      refine wpAny_one 12 _ rfl rfl (by kernel_rfl) ?_
      refine wp_val (.bool true) (w' := w2) (by simp only [Array.getD_eq_getD_getElem?] at c3_67 c3_77; simp [execOp, Act.eval, c3_67, c3_77, go_sem]) ?_
      show wpAny Try.prog .any _ Q _ _ (fr3.put (some 78) (.bool true)) w2
      obtain ⟨fr4, hfr4⟩ : ∃ y, fr3.put (some 78) (.bool true) = y := ⟨_, rfl⟩
      rw [hfr4]
      have zfr4 : fr4.tmps.size = 301 := by rw [← hfr4, put_size]; exact zfr3
      have c4_72 : fr4.tmps.getD 72 undef = .pointer (some ⟨q, 0, none⟩) := by rw [← hfr4]; exact (put_slot _ 78 72 _ (by decide)).trans c3_72
      have c4_74 : fr4.tmps.getD 74 undef = .int .i64 f := by rw [← hfr4]; exact (put_slot _ 78 74 _ (by decide)).trans c3_74
      have c4_75 : fr4.tmps.getD 75 undef = .slice la ln lc := by rw [← hfr4]; exact (put_slot _ 78 75 _ (by decide)).trans c3_75
      have c4_67 : fr4.tmps.getD 67 undef = .bool true := by rw [← hfr4]; exact (put_slot _ 78 67 _ (by decide)).trans c3_67
      have c4_9 : fr4.tmps.getD 9 undef = .int .i64 e0 := by rw [← hfr4]; exact (put_slot _ 78 9 _ (by decide)).trans c3_9
      have c4_68 : fr4.tmps.getD 68 undef = .int .i64 e0 := by rw [← hfr4]; exact (put_slot _ 78 68 _ (by decide)).trans c3_68
      have c4_76 : fr4.tmps.getD 76 undef = .int .i64 e0 := by rw [← hfr4]; exact (put_slot _ 78 76 _ (by decide)).trans c3_76
      have c4_77 : fr4.tmps.getD 77 undef = .bool true := by rw [← hfr4]; exact (put_slot _ 78 77 _ (by decide)).trans c3_77
      have c4_78 : fr4.tmps.getD 78 undef = .bool true := by rw [← hfr4]; exact put_same _ 78 _ (by rw [zfr3]; decide)
      refine wpAny_one 13 _ rfl rfl (by kernel_rfl) ?_
      refine wp_val (.bool true) (w' := w2) (by simp only [Array.getD_eq_getD_getElem?] at c4_78; simp [execOp, Act.eval, c4_78, go_sem]) ?_
      show wpAny Try.prog .any _ Q _ _ (fr4.put (some 8) (.bool true)) w2
      obtain ⟨fr5, hfr5⟩ : ∃ y, fr4.put (some 8) (.bool true) = y := ⟨_, rfl⟩
      rw [hfr5]
      have zfr5 : fr5.tmps.size = 301 := by rw [← hfr5, put_size]; exact zfr4
      have c5_72 : fr5.tmps.getD 72 undef = .pointer (some ⟨q, 0, none⟩) := by rw [← hfr5]; exact (put_slot _ 8 72 _ (by decide)).trans c4_72
      have c5_74 : fr5.tmps.getD 74 undef = .int .i64 f := by rw [← hfr5]; exact (put_slot _ 8 74 _ (by decide)).trans c4_74
      have c5_75 : fr5.tmps.getD 75 undef = .slice la ln lc := by rw [← hfr5]; exact (put_slot _ 8 75 _ (by decide)).trans c4_75
      have c5_67 : fr5.tmps.getD 67 undef = .bool true := by rw [← hfr5]; exact (put_slot _ 8 67 _ (by decide)).trans c4_67
      have c5_9 : fr5.tmps.getD 9 undef = .int .i64 e0 := by rw [← hfr5]; exact (put_slot _ 8 9 _ (by decide)).trans c4_9
      have c5_68 : fr5.tmps.getD 68 undef = .int .i64 e0 := by rw [← hfr5]; exact (put_slot _ 8 68 _ (by decide)).trans c4_68
      have c5_76 : fr5.tmps.getD 76 undef = .int .i64 e0 := by rw [← hfr5]; exact (put_slot _ 8 76 _ (by decide)).trans c4_76
      have c5_77 : fr5.tmps.getD 77 undef = .bool true := by rw [← hfr5]; exact (put_slot _ 8 77 _ (by decide)).trans c4_77
      have c5_78 : fr5.tmps.getD 78 undef = .bool true := by rw [← hfr5]; exact (put_slot _ 8 78 _ (by decide)).trans c4_78
      have c5_8 : fr5.tmps.getD 8 undef = .bool true := by rw [← hfr5]; exact put_same _ 8 _ (by rw [zfr4]; decide)
      refine wpAny_nil (by kernel_rfl) ?_
      show Q .normal _ w2
      rw [← hfr5, ← hfr4, ← hfr3, ← hfr2, ← hfr1]
      have he2 : (a.put (some 68) (.int .i64 e0)) = _ := he1
      rw [he2]
      exact hQ ((a.put (some 68) (.int .i64 e0)).tmps.getD 66 undef) ((a.put (some 68) (.int .i64 e0)).tmps.getD 67 undef) ((a.put (some 68) (.int .i64 e0)).tmps.getD 68 undef) ((a.put (some 68) (.int .i64 e0)).tmps.getD 69 undef) ((a.put (some 68) (.int .i64 e0)).tmps.getD 70 undef) ((a.put (some 68) (.int .i64 e0)).tmps.getD 71 undef) ((a.put (some 68) (.int .i64 e0)).tmps.getD 72 undef) ((a.put (some 68) (.int .i64 e0)).tmps.getD 73 undef) ((a.put (some 68) (.int .i64 e0)).tmps.getD 74 undef) ((a.put (some 68) (.int .i64 e0)).tmps.getD 75 undef) ((a.put (some 68) (.int .i64 e0)).tmps.getD 76 undef) ((a.put (some 68) (.int .i64 e0)).tmps.getD 77 undef) ((a.put (some 68) (.int .i64 e0)).tmps.getD 78 undef) ((a.put (some 68) (.int .i64 e0)).tmps.getD 8 undef) w2 hR
    · refine wp_call_r (f := 27) (args := #[.pointer (some ⟨q, 0, none⟩), .int .i64 f, .slice la ln lc]) (by simp [execOp, resolve, Act.eval, k72, k74, k75, go_sem]) ?_
      refine (hcall w1 hL).mono ?_
      rintro e w2 ⟨rfl, hR⟩
      refine ⟨_, rfl, ?_⟩
      show wpAny Try.prog .any _ Q _ _ (a.put (some 76) (.int .i64 e0)) w2
      obtain ⟨fr1, hfr1⟩ : ∃ y, a.put (some 76) (.int .i64 e0) = y := ⟨_, rfl⟩
      rw [hfr1]
      have zfr1 : fr1.tmps.size = 301 := by rw [← hfr1, put_size]; exact (hS.size.trans hsz)
      have c1_72 : fr1.tmps.getD 72 undef = .pointer (some ⟨q, 0, none⟩) := by rw [← hfr1]; exact (put_slot _ 76 72 _ (by decide)).trans k72
      have c1_74 : fr1.tmps.getD 74 undef = .int .i64 f := by rw [← hfr1]; exact (put_slot _ 76 74 _ (by decide)).trans k74
      have c1_75 : fr1.tmps.getD 75 undef = .slice la ln lc := by rw [← hfr1]; exact (put_slot _ 76 75 _ (by decide)).trans k75
      have c1_67 : fr1.tmps.getD 67 undef = .bool true := by rw [← hfr1]; exact (put_slot _ 76 67 _ (by decide)).trans k67
      have c1_9 : fr1.tmps.getD 9 undef = .int .i64 e0 := by rw [← hfr1]; exact (put_slot _ 76 9 _ (by decide)).trans ksrc
      have c1_76 : fr1.tmps.getD 76 undef = .int .i64 e0 := by rw [← hfr1]; exact put_same _ 76 _ (by rw [(hS.size.trans hsz)]; decide)
      refine wpAny_oneW 2 _ rfl (wanted_yes rfl rfl rfl c1_67) (by kernel_rfl) ?_
      refine wp_val (.int .i64 e0) (w' := w2) (by simp only [Array.getD_eq_getD_getElem?] at c1_9; simp [execOp, Act.eval, c1_9, go_sem]) ?_
      show wpAny Try.prog .any _ Q _ _ (fr1.put (some 68) (.int .i64 e0)) w2
      obtain ⟨fr2, hfr2⟩ : ∃ y, fr1.put (some 68) (.int .i64 e0) = y := ⟨_, rfl⟩
      rw [hfr2]
      have zfr2 : fr2.tmps.size = 301 := by rw [← hfr2, put_size]; exact zfr1
      have c2_72 : fr2.tmps.getD 72 undef = .pointer (some ⟨q, 0, none⟩) := by rw [← hfr2]; exact (put_slot _ 68 72 _ (by decide)).trans c1_72
      have c2_74 : fr2.tmps.getD 74 undef = .int .i64 f := by rw [← hfr2]; exact (put_slot _ 68 74 _ (by decide)).trans c1_74
      have c2_75 : fr2.tmps.getD 75 undef = .slice la ln lc := by rw [← hfr2]; exact (put_slot _ 68 75 _ (by decide)).trans c1_75
      have c2_67 : fr2.tmps.getD 67 undef = .bool true := by rw [← hfr2]; exact (put_slot _ 68 67 _ (by decide)).trans c1_67
      have c2_9 : fr2.tmps.getD 9 undef = .int .i64 e0 := by rw [← hfr2]; exact (put_slot _ 68 9 _ (by decide)).trans c1_9
      have c2_76 : fr2.tmps.getD 76 undef = .int .i64 e0 := by rw [← hfr2]; exact (put_slot _ 68 76 _ (by decide)).trans c1_76
      have c2_68 : fr2.tmps.getD 68 undef = .int .i64 e0 := by rw [← hfr2]; exact put_same _ 68 _ (by rw [zfr1]; decide)
      refine wpAny_oneW 11 _ rfl (wanted_yes rfl rfl rfl c2_67) (by kernel_rfl) ?_
      refine wp_val (.bool true) (w' := w2) (by simp only [Array.getD_eq_getD_getElem?] at c2_68 c2_76; simp [execOp, Act.eval, c2_68, c2_76, go_sem]) ?_
      show wpAny Try.prog .any _ Q _ _ (fr2.put (some 77) (.bool true)) w2
      obtain ⟨fr3, hfr3⟩ : ∃ y, fr2.put (some 77) (.bool true) = y := ⟨_, rfl⟩
      rw [hfr3]
      have zfr3 : fr3.tmps.size = 301 := by rw [← hfr3, put_size]; exact zfr2
      have c3_72 : fr3.tmps.getD 72 undef = .pointer (some ⟨q, 0, none⟩) := by rw [← hfr3]; exact (put_slot _ 77 72 _ (by decide)).trans c2_72
      have c3_74 : fr3.tmps.getD 74 undef = .int .i64 f := by rw [← hfr3]; exact (put_slot _ 77 74 _ (by decide)).trans c2_74
      have c3_75 : fr3.tmps.getD 75 undef = .slice la ln lc := by rw [← hfr3]; exact (put_slot _ 77 75 _ (by decide)).trans c2_75
      have c3_67 : fr3.tmps.getD 67 undef = .bool true := by rw [← hfr3]; exact (put_slot _ 77 67 _ (by decide)).trans c2_67
      have c3_9 : fr3.tmps.getD 9 undef = .int .i64 e0 := by rw [← hfr3]; exact (put_slot _ 77 9 _ (by decide)).trans c2_9
      have c3_76 : fr3.tmps.getD 76 undef = .int .i64 e0 := by rw [← hfr3]; exact (put_slot _ 77 76 _ (by decide)).trans c2_76
      have c3_68 : fr3.tmps.getD 68 undef = .int .i64 e0 := by rw [← hfr3]; exact (put_slot _ 77 68 _ (by decide)).trans c2_68
      have c3_77 : fr3.tmps.getD 77 undef = .bool true := by rw [← hfr3]; exact put_same _ 77 _ (by rw [zfr2]; decide)
      refine wpAny_one 12 _ rfl rfl (by kernel_rfl) ?_
      refine wp_val (.bool true) (w' := w2) (by simp only [Array.getD_eq_getD_getElem?] at c3_67 c3_77; simp [execOp, Act.eval, c3_67, c3_77, go_sem]) ?_
      show wpAny Try.prog .any _ Q _ _ (fr3.put (some 78) (.bool true)) w2
      obtain ⟨fr4, hfr4⟩ : ∃ y, fr3.put (some 78) (.bool true) = y := ⟨_, rfl⟩
      rw [hfr4]
      have zfr4 : fr4.tmps.size = 301 := by rw [← hfr4, put_size]; exact zfr3
      have c4_72 : fr4.tmps.getD 72 undef = .pointer (some ⟨q, 0, none⟩) := by rw [← hfr4]; exact (put_slot _ 78 72 _ (by decide)).trans c3_72
      have c4_74 : fr4.tmps.getD 74 undef = .int .i64 f := by rw [← hfr4]; exact (put_slot _ 78 74 _ (by decide)).trans c3_74
      have c4_75 : fr4.tmps.getD 75 undef = .slice la ln lc := by rw [← hfr4]; exact (put_slot _ 78 75 _ (by decide)).trans c3_75
      have c4_67 : fr4.tmps.getD 67 undef = .bool true := by rw [← hfr4]; exact (put_slot _ 78 67 _ (by decide)).trans c3_67
      have c4_9 : fr4.tmps.getD 9 undef = .int .i64 e0 := by rw [← hfr4]; exact (put_slot _ 78 9 _ (by decide)).trans c3_9
      have c4_76 : fr4.tmps.getD 76 undef = .int .i64 e0 := by rw [← hfr4]; exact (put_slot _ 78 76 _ (by decide)).trans c3_76
      have c4_68 : fr4.tmps.getD 68 undef = .int .i64 e0 := by rw [← hfr4]; exact (put_slot _ 78 68 _ (by decide)).trans c3_68
      have c4_77 : fr4.tmps.getD 77 undef = .bool true := by rw [← hfr4]; exact (put_slot _ 78 77 _ (by decide)).trans c3_77
      have c4_78 : fr4.tmps.getD 78 undef = .bool true := by rw [← hfr4]; exact put_same _ 78 _ (by rw [zfr3]; decide)
      refine wpAny_one 13 _ rfl rfl (by kernel_rfl) ?_
      refine wp_val (.bool true) (w' := w2) (by simp only [Array.getD_eq_getD_getElem?] at c4_78; simp [execOp, Act.eval, c4_78, go_sem]) ?_
      show wpAny Try.prog .any _ Q _ _ (fr4.put (some 8) (.bool true)) w2
      obtain ⟨fr5, hfr5⟩ : ∃ y, fr4.put (some 8) (.bool true) = y := ⟨_, rfl⟩
      rw [hfr5]
      have zfr5 : fr5.tmps.size = 301 := by rw [← hfr5, put_size]; exact zfr4
      have c5_72 : fr5.tmps.getD 72 undef = .pointer (some ⟨q, 0, none⟩) := by rw [← hfr5]; exact (put_slot _ 8 72 _ (by decide)).trans c4_72
      have c5_74 : fr5.tmps.getD 74 undef = .int .i64 f := by rw [← hfr5]; exact (put_slot _ 8 74 _ (by decide)).trans c4_74
      have c5_75 : fr5.tmps.getD 75 undef = .slice la ln lc := by rw [← hfr5]; exact (put_slot _ 8 75 _ (by decide)).trans c4_75
      have c5_67 : fr5.tmps.getD 67 undef = .bool true := by rw [← hfr5]; exact (put_slot _ 8 67 _ (by decide)).trans c4_67
      have c5_9 : fr5.tmps.getD 9 undef = .int .i64 e0 := by rw [← hfr5]; exact (put_slot _ 8 9 _ (by decide)).trans c4_9
      have c5_76 : fr5.tmps.getD 76 undef = .int .i64 e0 := by rw [← hfr5]; exact (put_slot _ 8 76 _ (by decide)).trans c4_76
      have c5_68 : fr5.tmps.getD 68 undef = .int .i64 e0 := by rw [← hfr5]; exact (put_slot _ 8 68 _ (by decide)).trans c4_68
      have c5_77 : fr5.tmps.getD 77 undef = .bool true := by rw [← hfr5]; exact (put_slot _ 8 77 _ (by decide)).trans c4_77
      have c5_78 : fr5.tmps.getD 78 undef = .bool true := by rw [← hfr5]; exact (put_slot _ 8 78 _ (by decide)).trans c4_78
      have c5_8 : fr5.tmps.getD 8 undef = .bool true := by rw [← hfr5]; exact put_same _ 8 _ (by rw [zfr4]; decide)
      refine wpAny_nil (by kernel_rfl) ?_
      show Q .normal _ w2
      rw [← hfr5, ← hfr4, ← hfr3, ← hfr2, ← hfr1]
      rw [put_comm a 76 68 _ _ (by decide)]
      have he2 : (a.put (some 68) (.int .i64 e0)) = _ := he1
      rw [he2]
      exact hQ ((a.put (some 68) (.int .i64 e0)).tmps.getD 66 undef) ((a.put (some 68) (.int .i64 e0)).tmps.getD 67 undef) ((a.put (some 68) (.int .i64 e0)).tmps.getD 68 undef) ((a.put (some 68) (.int .i64 e0)).tmps.getD 69 undef) ((a.put (some 68) (.int .i64 e0)).tmps.getD 70 undef) ((a.put (some 68) (.int .i64 e0)).tmps.getD 71 undef) ((a.put (some 68) (.int .i64 e0)).tmps.getD 72 undef) ((a.put (some 68) (.int .i64 e0)).tmps.getD 73 undef) ((a.put (some 68) (.int .i64 e0)).tmps.getD 74 undef) ((a.put (some 68) (.int .i64 e0)).tmps.getD 75 undef) ((a.put (some 68) (.int .i64 e0)).tmps.getD 76 undef) ((a.put (some 68) (.int .i64 e0)).tmps.getD 77 undef) ((a.put (some 68) (.int .i64 e0)).tmps.getD 78 undef) ((a.put (some 68) (.int .i64 e0)).tmps.getD 8 undef) w2 hR
  case hop =>
    intro i o hlt hi
    rcases (show i = 0 ∨ i = 1 ∨ i = 2 ∨ i = 3 ∨ i = 4 ∨ i = 5 ∨ i = 6 ∨ i = 7 ∨ i = 8 ∨ i = 9 by omega) with rfl | rfl | rfl | rfl | rfl | rfl | rfl | rfl | rfl | rfl
    · obtain rfl := Option.some.inj hi
      clear hi hlt
      intro a w1 hL hS hS2 hD
      have e8 : a.tmps.getD 8 undef = .bool true := (hS2.slot 8 (by kernel_rfl)).trans s8
      refine step_yes rfl ?_
      exact ok_value Lat.refl (.bool true) (by simp [execOp, Act.eval, e8, go_sem]) rfl
    · obtain rfl := Option.some.inj hi
      clear hi hlt
      intro a w1 hL hS hS2 hD
      have d0 : a.tmps.getD 66 undef = .bool true := hD ⟨0, .data⟩ (by simp) rfl _ rfl
      refine step_yes rfl ?_
      exact ok_value Lat.refl (.bool true) (by simp [execOp, Act.eval, d0, go_sem]) rfl
    · obtain rfl := Option.some.inj hi
      clear hi hlt
      intro a w1 hL hS hS2 hD
      have e9 : a.tmps.getD 9 undef = .int .i64 e0 := (hS2.slot 9 (by kernel_rfl)).trans s9
      have d1 : a.tmps.getD 67 undef = .bool true := hD ⟨1, .guard⟩ (by simp) rfl _ rfl
      refine step_yes (wanted_yes rfl rfl rfl d1) ?_
      exact ok_value Lat.refl (.int .i64 e0) (by simp [execOp, Act.eval, e9, go_sem]) rfl
    · obtain rfl := Option.some.inj hi
      clear hi hlt
      intro a w1 hL hS hS2 hD
      have e0 : a.tmps.getD 0 undef = .pointer (some ⟨pp, 0, none⟩) := (hS2.slot 0 (by kernel_rfl)).trans s0
      have d1 : a.tmps.getD 67 undef = .bool true := hD ⟨1, .guard⟩ (by simp) rfl _ rfl
      refine step_yes (wanted_yes rfl rfl rfl d1) ?_
      exact ok_value Lat.refl (.pointer (some ⟨pp, 0, none⟩)) (by simp [execOp, Act.eval, e0, go_sem]) rfl
    · obtain rfl := Option.some.inj hi
      clear hi hlt
      intro a w1 hL hS hS2 hD
      have d1 : a.tmps.getD 67 undef = .bool true := hD ⟨1, .guard⟩ (by simp) rfl _ rfl
      have d3 : a.tmps.getD 69 undef = .pointer (some ⟨pp, 0, none⟩) := hD ⟨3, .data⟩ (by simp) rfl _ rfl
      refine step_yes (wanted_yes rfl rfl rfl d1) ?_
      exact ok_value Lat.refl (.pointer (some ⟨pp, 0, none⟩)) (by simp [execOp, Act.eval, d3, go_sem]) rfl
    · obtain rfl := Option.some.inj hi
      clear hi hlt
      intro a w1 hL hS hS2 hD
      have d1 : a.tmps.getD 67 undef = .bool true := hD ⟨1, .guard⟩ (by simp) rfl _ rfl
      have d4 : a.tmps.getD 70 undef = .pointer (some ⟨pp, 0, none⟩) := hD ⟨4, .data⟩ (by simp) rfl _ rfl
      refine step_yes (wanted_yes rfl rfl rfl d1) ?_
      exact ok_value Lat.refl (.pointer (some ⟨pp, 1, none⟩)) (by simp [execOp, Act.eval, d4, go_sem]) rfl
    · obtain rfl := Option.some.inj hi
      clear hi hlt
      intro a w1 hL hS hS2 hD
      have d1 : a.tmps.getD 67 undef = .bool true := hD ⟨1, .guard⟩ (by simp) rfl _ rfl
      have d5 : a.tmps.getD 71 undef = .pointer (some ⟨pp, 1, none⟩) := hD ⟨5, .data⟩ (by simp) rfl _ rfl
      refine step_yes (wanted_yes rfl rfl rfl d1) ?_
      exact ok_value Lat.refl (.pointer (some ⟨q, 0, none⟩)) (by simp [execOp, Act.eval, d5, hB w1 hL, go_sem]) rfl
    · obtain rfl := Option.some.inj hi
      clear hi hlt
      intro a w1 hL hS hS2 hD
      have e3 : a.tmps.getD 3 undef = .pointer (some ⟨ob, 0, none⟩) := (hS2.slot 3 (by kernel_rfl)).trans s3
      have d1 : a.tmps.getD 67 undef = .bool true := hD ⟨1, .guard⟩ (by simp) rfl _ rfl
      refine step_yes (wanted_yes rfl rfl rfl d1) ?_
      exact ok_value Lat.refl (.pointer (some ⟨ob, 2, none⟩)) (by simp [execOp, Act.eval, e3, go_sem]) rfl
    · obtain rfl := Option.some.inj hi
      clear hi hlt
      intro a w1 hL hS hS2 hD
      have d1 : a.tmps.getD 67 undef = .bool true := hD ⟨1, .guard⟩ (by simp) rfl _ rfl
      have d7 : a.tmps.getD 73 undef = .pointer (some ⟨ob, 2, none⟩) := hD ⟨7, .data⟩ (by simp) rfl _ rfl
      refine step_yes (wanted_yes rfl rfl rfl d1) ?_
      exact ok_value Lat.refl (.int .i64 f) (by simp [execOp, Act.eval, d7, h2 w1 hL, go_sem]) rfl
    · obtain rfl := Option.some.inj hi
      clear hi hlt
      intro a w1 hL hS hS2 hD
      have e10 : a.tmps.getD 10 undef = .slice la ln lc := (hS2.slot 10 (by kernel_rfl)).trans s10
      have d1 : a.tmps.getD 67 undef = .bool true := hD ⟨1, .guard⟩ (by simp) rfl _ rfl
      refine step_yes (wanted_yes rfl rfl rfl d1) ?_
      exact ok_value Lat.refl (.slice la ln lc) (by simp [execOp, Act.eval, e10, go_sem]) rfl

set_option maxRecDepth 100000 in
set_option maxHeartbeats 2000000 in
theorem step_r28 (pp q ob mn mc : Nat) (ma : Option Addr) (nn e0 : Int) (R : World → Prop) (w : World) (a0 : Act) (Q : Exit → Act → World → Prop) (hsz : a0.tmps.size = 301)
    (s0 : a0.tmps.getD 0 undef = .pointer (some ⟨pp, 0, none⟩))
    (s3 : a0.tmps.getD 3 undef = .pointer (some ⟨ob, 0, none⟩))
    (s15 : a0.tmps.getD 15 undef = .bool true)
    (s14 : a0.tmps.getD 14 undef = .int .i64 e0)
    (hB : ∀ w1, Lat w w1 → w1.cell? ⟨pp, 1, none⟩ = some (.pointer (some ⟨q, 0, none⟩)))
    (h4 : ∀ w1, Lat w w1 → w1.cell? ⟨ob, 4, none⟩ = some (.int .i64 nn))
    (h6 : ∀ w1, Lat w w1 → w1.cell? ⟨ob, 6, none⟩ = some (.slice ma mn mc))
    (hcall : ∀ w1, Lat w w1 → Calls Try.prog 33 #[.pointer (some ⟨q, 0, none⟩), .int .i64 nn, .slice ma mn mc] w1 fun e w2 => e = .returned (.int .i64 e0) ∧ R w2)
    (hQ : ∀ (v154 v155 v156 v157 v158 v159 v160 v161 v162 v163 v164 v165 v166 v167 v4 : Value) (w2 : World), R w2 → Q .normal (((((((((((((((((((a0.put (some 154) v154).put (some 155) v155).put (some 156) v156).put (some 157) v157).put (some 158) v158).put (some 159) v159).put (some 160) v160).put (some 161) v161).put (some 162) v162).put (some 163) v163).put (some 164) v164).put (some 165) v165).put (some 166) v166).put (some 167) v167).put (some 4) v4).put (some 165) (.int .i64 e0)).put (some 166) (.bool true)).put (some 167) (.bool true)).put (some 4) (.bool true)) w2) :
    Code.wp Try.prog ((Try.f7.body.bind (findRegion 28)).getD .skip) Q a0 w := by
  conv => arg 2; whnf
  refine wp_region_lateJ 11 2 Lat (TE [Ent.val (.bool true), Ent.val (.bool true), Ent.val (.int .i64 e0), Ent.val (.pointer (some ⟨pp, 0, none⟩)), Ent.val (.pointer (some ⟨pp, 0, none⟩)), Ent.val (.pointer (some ⟨pp, 1, none⟩)), Ent.val (.pointer (some ⟨q, 0, none⟩)), Ent.val (.pointer (some ⟨ob, 4, none⟩)), Ent.val (.int .i64 nn), Ent.val (.pointer (some ⟨ob, 6, none⟩)), Ent.val (.slice ma mn mc)]) (by kernel_rfl) (by kernel_rfl) (by kernel_rfl) (by rw [hsz]; kernel_rfl) (by kernel_rfl) (by kernel_rfl) Lat.refl Lat.trans (TE_stable _) (Lat.draw w) ?hop ?hlast ?hlate
  case hlast =>
    intro a w1 hL hS hT
    have k160 : a.tmps.getD 160 undef = .pointer (some ⟨q, 0, none⟩) := hT 6 _ (by omega) rfl
    have k162 : a.tmps.getD 162 undef = .int .i64 nn := hT 8 _ (by omega) rfl
    have k164 : a.tmps.getD 164 undef = .slice ma mn mc := hT 10 _ (by omega) rfl
    have ksrc : a.tmps.getD 14 undef = .int .i64 e0 := (hS.slot 14 (by kernel_rfl)).trans s14
    have k155 : a.tmps.getD 155 undef = .bool true := hT 1 _ (by omega) rfl
    have k156 : a.tmps.getD 156 undef = .int .i64 e0 := hT 2 _ (by omega) rfl
    refine wpAny_oneW 11 _ rfl (wanted_yes rfl rfl rfl k155) (by kernel_rfl) ?_
    refine wp_call_r (f := 33) (args := #[.pointer (some ⟨q, 0, none⟩), .int .i64 nn, .slice ma mn mc]) (by simp [execOp, resolve, Act.eval, k160, k162, k164, go_sem]) ?_
    refine (hcall w1 hL).mono ?_
    rintro e w2 ⟨rfl, hR⟩
    refine ⟨_, rfl, ?_⟩
    show wpAny Try.prog .any _ Q _ _ (a.put (some 165) (.int .i64 e0)) w2
    obtain ⟨fr1, hfr1⟩ : ∃ y, a.put (some 165) (.int .i64 e0) = y := ⟨_, rfl⟩
    rw [hfr1]
    have zfr1 : fr1.tmps.size = 301 := by rw [← hfr1, put_size]; exact (hS.size.trans hsz)
    have c1_160 : fr1.tmps.getD 160 undef = .pointer (some ⟨q, 0, none⟩) := by rw [← hfr1]; exact (put_slot _ 165 160 _ (by decide)).trans k160
    have c1_162 : fr1.tmps.getD 162 undef = .int .i64 nn := by rw [← hfr1]; exact (put_slot _ 165 162 _ (by decide)).trans k162
    have c1_164 : fr1.tmps.getD 164 undef = .slice ma mn mc := by rw [← hfr1]; exact (put_slot _ 165 164 _ (by decide)).trans k164
    have c1_155 : fr1.tmps.getD 155 undef = .bool true := by rw [← hfr1]; exact (put_slot _ 165 155 _ (by decide)).trans k155
    have c1_14 : fr1.tmps.getD 14 undef = .int .i64 e0 := by rw [← hfr1]; exact (put_slot _ 165 14 _ (by decide)).trans ksrc
    have c1_156 : fr1.tmps.getD 156 undef = .int .i64 e0 := by rw [← hfr1]; exact (put_slot _ 165 156 _ (by decide)).trans k156
    have c1_165 : fr1.tmps.getD 165 undef = .int .i64 e0 := by rw [← hfr1]; exact put_same _ 165 _ (by rw [(hS.size.trans hsz)]; decide)
    refine wpAny_oneW 12 _ rfl (wanted_yes rfl rfl rfl c1_155) (by kernel_rfl) ?_
    refine wp_val (.bool true) (w' := w2) (by simp only [Array.getD_eq_getD_getElem?] at c1_156 c1_165; simp [execOp, Act.eval, c1_156, c1_165, go_sem]) ?_
    show wpAny Try.prog .any _ Q _ _ (fr1.put (some 166) (.bool true)) w2
    obtain ⟨fr2, hfr2⟩ : ∃ y, fr1.put (some 166) (.bool true) = y := ⟨_, rfl⟩
    rw [hfr2]
    have zfr2 : fr2.tmps.size = 301 := by rw [← hfr2, put_size]; exact zfr1
    have c2_160 : fr2.tmps.getD 160 undef = .pointer (some ⟨q, 0, none⟩) := by rw [← hfr2]; exact (put_slot _ 166 160 _ (by decide)).trans c1_160
    have c2_162 : fr2.tmps.getD 162 undef = .int .i64 nn := by rw [← hfr2]; exact (put_slot _ 166 162 _ (by decide)).trans c1_162
    have c2_164 : fr2.tmps.getD 164 undef = .slice ma mn mc := by rw [← hfr2]; exact (put_slot _ 166 164 _ (by decide)).trans c1_164
    have c2_155 : fr2.tmps.getD 155 undef = .bool true := by rw [← hfr2]; exact (put_slot _ 166 155 _ (by decide)).trans c1_155
    have c2_14 : fr2.tmps.getD 14 undef = .int .i64 e0 := by rw [← hfr2]; exact (put_slot _ 166 14 _ (by decide)).trans c1_14
    have c2_156 : fr2.tmps.getD 156 undef = .int .i64 e0 := by rw [← hfr2]; exact (put_slot _ 166 156 _ (by decide)).trans c1_156
    have c2_165 : fr2.tmps.getD 165 undef = .int .i64 e0 := by rw [← hfr2]; exact (put_slot _ 166 165 _ (by decide)).trans c1_165
    have c2_166 : fr2.tmps.getD 166 undef = .bool true := by rw [← hfr2]; exact put_same _ 166 _ (by rw [zfr1]; decide)
    refine wpAny_one 13 _ rfl rfl (by kernel_rfl) ?_
    refine wp_val (.bool true) (w' := w2) (by simp only [Array.getD_eq_getD_getElem?] at c2_155 c2_166; simp [execOp, Act.eval, c2_155, c2_166, go_sem]) ?_
    show wpAny Try.prog .any _ Q _ _ (fr2.put (some 167) (.bool true)) w2
    obtain ⟨fr3, hfr3⟩ : ∃ y, fr2.put (some 167) (.bool true) = y := ⟨_, rfl⟩
    rw [hfr3]
    have zfr3 : fr3.tmps.size = 301 := by rw [← hfr3, put_size]; exact zfr2
    have c3_160 : fr3.tmps.getD 160 undef = .pointer (some ⟨q, 0, none⟩) := by rw [← hfr3]; exact (put_slot _ 167 160 _ (by decide)).trans c2_160
    have c3_162 : fr3.tmps.getD 162 undef = .int .i64 nn := by rw [← hfr3]; exact (put_slot _ 167 162 _ (by decide)).trans c2_162
    have c3_164 : fr3.tmps.getD 164 undef = .slice ma mn mc := by rw [← hfr3]; exact (put_slot _ 167 164 _ (by decide)).trans c2_164
    have c3_155 : fr3.tmps.getD 155 undef = .bool true := by rw [← hfr3]; exact (put_slot _ 167 155 _ (by decide)).trans c2_155
    have c3_14 : fr3.tmps.getD 14 undef = .int .i64 e0 := by rw [← hfr3]; exact (put_slot _ 167 14 _ (by decide)).trans c2_14
    have c3_156 : fr3.tmps.getD 156 undef = .int .i64 e0 := by rw [← hfr3]; exact (put_slot _ 167 156 _ (by decide)).trans c2_156
    have c3_165 : fr3.tmps.getD 165 undef = .int .i64 e0 := by rw [← hfr3]; exact (put_slot _ 167 165 _ (by decide)).trans c2_165
    have c3_166 : fr3.tmps.getD 166 undef = .bool true := by rw [← hfr3]; exact (put_slot _ 167 166 _ (by decide)).trans c2_166
    have c3_167 : fr3.tmps.getD 167 undef = .bool true := by rw [← hfr3]; exact put_same _ 167 _ (by rw [zfr2]; decide)
    refine wpAny_one 14 _ rfl rfl (by kernel_rfl) ?_
    refine wp_val (.bool true) (w' := w2) (by simp only [Array.getD_eq_getD_getElem?] at c3_167; simp [execOp, Act.eval, c3_167, go_sem]) ?_
    show wpAny Try.prog .any _ Q _ _ (fr3.put (some 4) (.bool true)) w2
    obtain ⟨fr4, hfr4⟩ : ∃ y, fr3.put (some 4) (.bool true) = y := ⟨_, rfl⟩
    rw [hfr4]
    have zfr4 : fr4.tmps.size = 301 := by rw [← hfr4, put_size]; exact zfr3
    have c4_160 : fr4.tmps.getD 160 undef = .pointer (some ⟨q, 0, none⟩) := by rw [← hfr4]; exact (put_slot _ 4 160 _ (by decide)).trans c3_160
    have c4_162 : fr4.tmps.getD 162 undef = .int .i64 nn := by rw [← hfr4]; exact (put_slot _ 4 162 _ (by decide)).trans c3_162
    have c4_164 : fr4.tmps.getD 164 undef = .slice ma mn mc := by rw [← hfr4]; exact (put_slot _ 4 164 _ (by decide)).trans c3_164
    have c4_155 : fr4.tmps.getD 155 undef = .bool true := by rw [← hfr4]; exact (put_slot _ 4 155 _ (by decide)).trans c3_155
    have c4_14 : fr4.tmps.getD 14 undef = .int .i64 e0 := by rw [← hfr4]; exact (put_slot _ 4 14 _ (by decide)).trans c3_14
    have c4_156 : fr4.tmps.getD 156 undef = .int .i64 e0 := by rw [← hfr4]; exact (put_slot _ 4 156 _ (by decide)).trans c3_156
    have c4_165 : fr4.tmps.getD 165 undef = .int .i64 e0 := by rw [← hfr4]; exact (put_slot _ 4 165 _ (by decide)).trans c3_165
    have c4_166 : fr4.tmps.getD 166 undef = .bool true := by rw [← hfr4]; exact (put_slot _ 4 166 _ (by decide)).trans c3_166
    have c4_167 : fr4.tmps.getD 167 undef = .bool true := by rw [← hfr4]; exact (put_slot _ 4 167 _ (by decide)).trans c3_167
    have c4_4 : fr4.tmps.getD 4 undef = .bool true := by rw [← hfr4]; exact put_same _ 4 _ (by rw [zfr3]; decide)
    refine wpAny_nil (by kernel_rfl) ?_
    show Q .normal _ w2
    rw [← hfr4, ← hfr3, ← hfr2, ← hfr1]
    rw [same_puts hS]
    exact hQ (a.tmps.getD 154 undef) (a.tmps.getD 155 undef) (a.tmps.getD 156 undef) (a.tmps.getD 157 undef) (a.tmps.getD 158 undef) (a.tmps.getD 159 undef) (a.tmps.getD 160 undef) (a.tmps.getD 161 undef) (a.tmps.getD 162 undef) (a.tmps.getD 163 undef) (a.tmps.getD 164 undef) (a.tmps.getD 165 undef) (a.tmps.getD 166 undef) (a.tmps.getD 167 undef) (a.tmps.getD 4 undef) w2 hR
  case hlate =>
    intro a w1 hL hS hT
    have k160 : a.tmps.getD 160 undef = .pointer (some ⟨q, 0, none⟩) := hT 6 _ (by omega) (by omega) rfl
    have k162 : a.tmps.getD 162 undef = .int .i64 nn := hT 8 _ (by omega) (by omega) rfl
    have k164 : a.tmps.getD 164 undef = .slice ma mn mc := hT 10 _ (by omega) (by omega) rfl
    have ksrc : a.tmps.getD 14 undef = .int .i64 e0 := (hS.slot 14 (by kernel_rfl)).trans s14
    have k155 : a.tmps.getD 155 undef = .bool true := hT 1 _ (by omega) (by omega) rfl
    have hS1 := same_put (a := a) (i := 2) (v := .int .i64 e0) rfl hS
    have he1 := same_puts hS1
    refine wpAny_twoW 2 11 _ _ rfl rfl (wanted_yes rfl rfl rfl k155) (wanted_yes rfl rfl rfl k155) (by kernel_rfl) ?_ ?_
    · refine wp_val (.int .i64 e0) (w' := w1) (by simp only [Array.getD_eq_getD_getElem?] at ksrc; simp [execOp, Act.eval, ksrc, go_sem]) ?_
      show wpAny Try.prog .any _ Q _ _ (a.put (some 156) (.int .i64 e0)) w1
      obtain ⟨fr1, hfr1⟩ : ∃ y, a.put (some 156) (.int .i64 e0) = y := ⟨_, rfl⟩
      rw [hfr1]
      have zfr1 : fr1.tmps.size = 301 := by rw [← hfr1, put_size]; exact (hS.size.trans hsz)
      have c1_160 : fr1.tmps.getD 160 undef = .pointer (some ⟨q, 0, none⟩) := by rw [← hfr1]; exact (put_slot _ 156 160 _ (by decide)).trans k160
      have c1_162 : fr1.tmps.getD 162 undef = .int .i64 nn := by rw [← hfr1]; exact (put_slot _ 156 162 _ (by decide)).trans k162
      have c1_164 : fr1.tmps.getD 164 undef = .slice ma mn mc := by rw [← hfr1]; exact (put_slot _ 156 164 _ (by decide)).trans k164
      have c1_155 : fr1.tmps.getD 155 undef = .bool true := by rw [← hfr1]; exact (put_slot _ 156 155 _ (by decide)).trans k155
      have c1_14 : fr1.tmps.getD 14 undef = .int .i64 e0 := by rw [← hfr1]; exact (put_slot _ 156 14 _ (by decide)).trans ksrc
      have c1_156 : fr1.tmps.getD 156 undef = .int .i64 e0 := by rw [← hfr1]; exact put_same _ 156 _ (by rw [(hS.size.trans hsz)]; decide)
      refine wpAny_oneW 11 _ rfl (wanted_yes rfl rfl rfl c1_155) (by kernel_rfl) ?_
      refine wp_call_r (f := 33) (args := #[.pointer (some ⟨q, 0, none⟩), .int .i64 nn, .slice ma mn mc]) (by simp [execOp, resolve, Act.eval, c1_160, c1_162, c1_164, go_sem]) ?_
      refine (hcall w1 hL).mono ?_
      rintro e w2 ⟨rfl, hR⟩
      refine ⟨_, rfl, ?_⟩
      show wpAny Try.prog .any _ Q _ _ (fr1.put (some 165) (.int .i64 e0)) w2
      obtain ⟨fr2, hfr2⟩ : ∃ y, fr1.put (some 165) (.int .i64 e0) = y := ⟨_, rfl⟩
      rw [hfr2]
      have zfr2 : fr2.tmps.size = 301 := by rw [← hfr2, put_size]; exact zfr1
      have c2_160 : fr2.tmps.getD 160 undef = .pointer (some ⟨q, 0, none⟩) := by rw [← hfr2]; exact (put_slot _ 165 160 _ (by decide)).trans c1_160
      have c2_162 : fr2.tmps.getD 162 undef = .int .i64 nn := by rw [← hfr2]; exact (put_slot _ 165 162 _ (by decide)).trans c1_162
      have c2_164 : fr2.tmps.getD 164 undef = .slice ma mn mc := by rw [← hfr2]; exact (put_slot _ 165 164 _ (by decide)).trans c1_164
      have c2_155 : fr2.tmps.getD 155 undef = .bool true := by rw [← hfr2]; exact (put_slot _ 165 155 _ (by decide)).trans c1_155
      have c2_14 : fr2.tmps.getD 14 undef = .int .i64 e0 := by rw [← hfr2]; exact (put_slot _ 165 14 _ (by decide)).trans c1_14
      have c2_156 : fr2.tmps.getD 156 undef = .int .i64 e0 := by rw [← hfr2]; exact (put_slot _ 165 156 _ (by decide)).trans c1_156
      have c2_165 : fr2.tmps.getD 165 undef = .int .i64 e0 := by rw [← hfr2]; exact put_same _ 165 _ (by rw [zfr1]; decide)
      refine wpAny_oneW 12 _ rfl (wanted_yes rfl rfl rfl c2_155) (by kernel_rfl) ?_
      refine wp_val (.bool true) (w' := w2) (by simp only [Array.getD_eq_getD_getElem?] at c2_156 c2_165; simp [execOp, Act.eval, c2_156, c2_165, go_sem]) ?_
      show wpAny Try.prog .any _ Q _ _ (fr2.put (some 166) (.bool true)) w2
      obtain ⟨fr3, hfr3⟩ : ∃ y, fr2.put (some 166) (.bool true) = y := ⟨_, rfl⟩
      rw [hfr3]
      have zfr3 : fr3.tmps.size = 301 := by rw [← hfr3, put_size]; exact zfr2
      have c3_160 : fr3.tmps.getD 160 undef = .pointer (some ⟨q, 0, none⟩) := by rw [← hfr3]; exact (put_slot _ 166 160 _ (by decide)).trans c2_160
      have c3_162 : fr3.tmps.getD 162 undef = .int .i64 nn := by rw [← hfr3]; exact (put_slot _ 166 162 _ (by decide)).trans c2_162
      have c3_164 : fr3.tmps.getD 164 undef = .slice ma mn mc := by rw [← hfr3]; exact (put_slot _ 166 164 _ (by decide)).trans c2_164
      have c3_155 : fr3.tmps.getD 155 undef = .bool true := by rw [← hfr3]; exact (put_slot _ 166 155 _ (by decide)).trans c2_155
      have c3_14 : fr3.tmps.getD 14 undef = .int .i64 e0 := by rw [← hfr3]; exact (put_slot _ 166 14 _ (by decide)).trans c2_14
      have c3_156 : fr3.tmps.getD 156 undef = .int .i64 e0 := by rw [← hfr3]; exact (put_slot _ 166 156 _ (by decide)).trans c2_156
      have c3_165 : fr3.tmps.getD 165 undef = .int .i64 e0 := by rw [← hfr3]; exact (put_slot _ 166 165 _ (by decide)).trans c2_165
      have c3_166 : fr3.tmps.getD 166 undef = .bool true := by rw [← hfr3]; exact put_same _ 166 _ (by rw [zfr2]; decide)
      refine wpAny_one 13 _ rfl rfl (by kernel_rfl) ?_
      refine wp_val (.bool true) (w' := w2) (by simp only [Array.getD_eq_getD_getElem?] at c3_155 c3_166; simp [execOp, Act.eval, c3_155, c3_166, go_sem]) ?_
      show wpAny Try.prog .any _ Q _ _ (fr3.put (some 167) (.bool true)) w2
      obtain ⟨fr4, hfr4⟩ : ∃ y, fr3.put (some 167) (.bool true) = y := ⟨_, rfl⟩
      rw [hfr4]
      have zfr4 : fr4.tmps.size = 301 := by rw [← hfr4, put_size]; exact zfr3
      have c4_160 : fr4.tmps.getD 160 undef = .pointer (some ⟨q, 0, none⟩) := by rw [← hfr4]; exact (put_slot _ 167 160 _ (by decide)).trans c3_160
      have c4_162 : fr4.tmps.getD 162 undef = .int .i64 nn := by rw [← hfr4]; exact (put_slot _ 167 162 _ (by decide)).trans c3_162
      have c4_164 : fr4.tmps.getD 164 undef = .slice ma mn mc := by rw [← hfr4]; exact (put_slot _ 167 164 _ (by decide)).trans c3_164
      have c4_155 : fr4.tmps.getD 155 undef = .bool true := by rw [← hfr4]; exact (put_slot _ 167 155 _ (by decide)).trans c3_155
      have c4_14 : fr4.tmps.getD 14 undef = .int .i64 e0 := by rw [← hfr4]; exact (put_slot _ 167 14 _ (by decide)).trans c3_14
      have c4_156 : fr4.tmps.getD 156 undef = .int .i64 e0 := by rw [← hfr4]; exact (put_slot _ 167 156 _ (by decide)).trans c3_156
      have c4_165 : fr4.tmps.getD 165 undef = .int .i64 e0 := by rw [← hfr4]; exact (put_slot _ 167 165 _ (by decide)).trans c3_165
      have c4_166 : fr4.tmps.getD 166 undef = .bool true := by rw [← hfr4]; exact (put_slot _ 167 166 _ (by decide)).trans c3_166
      have c4_167 : fr4.tmps.getD 167 undef = .bool true := by rw [← hfr4]; exact put_same _ 167 _ (by rw [zfr3]; decide)
      refine wpAny_one 14 _ rfl rfl (by kernel_rfl) ?_
      refine wp_val (.bool true) (w' := w2) (by simp only [Array.getD_eq_getD_getElem?] at c4_167; simp [execOp, Act.eval, c4_167, go_sem]) ?_
      show wpAny Try.prog .any _ Q _ _ (fr4.put (some 4) (.bool true)) w2
      obtain ⟨fr5, hfr5⟩ : ∃ y, fr4.put (some 4) (.bool true) = y := ⟨_, rfl⟩
      rw [hfr5]
      have zfr5 : fr5.tmps.size = 301 := by rw [← hfr5, put_size]; exact zfr4
      have c5_160 : fr5.tmps.getD 160 undef = .pointer (some ⟨q, 0, none⟩) := by rw [← hfr5]; exact (put_slot _ 4 160 _ (by decide)).trans c4_160
      have c5_162 : fr5.tmps.getD 162 undef = .int .i64 nn := by rw [← hfr5]; exact (put_slot _ 4 162 _ (by decide)).trans c4_162
      have c5_164 : fr5.tmps.getD 164 undef = .slice ma mn mc := by rw [← hfr5]; exact (put_slot _ 4 164 _ (by decide)).trans c4_164
      have c5_155 : fr5.tmps.getD 155 undef = .bool true := by rw [← hfr5]; exact (put_slot _ 4 155 _ (by decide)).trans c4_155
      have c5_14 : fr5.tmps.getD 14 undef = .int .i64 e0 := by rw [← hfr5]; exact (put_slot _ 4 14 _ (by decide)).trans c4_14
      have c5_156 : fr5.tmps.getD 156 undef = .int .i64 e0 := by rw [← hfr5]; exact (put_slot _ 4 156 _ (by decide)).trans c4_156
      have c5_165 : fr5.tmps.getD 165 undef = .int .i64 e0 := by rw [← hfr5]; exact (put_slot _ 4 165 _ (by decide)).trans c4_165
      have c5_166 : fr5.tmps.getD 166 undef = .bool true := by rw [← hfr5]; exact (put_slot _ 4 166 _ (by decide)).trans c4_166
      have c5_167 : fr5.tmps.getD 167 undef = .bool true := by rw [← hfr5]; exact (put_slot _ 4 167 _ (by decide)).trans c4_167
      have c5_4 : fr5.tmps.getD 4 undef = .bool true := by rw [← hfr5]; exact put_same _ 4 _ (by rw [zfr4]; decide)
      refine wpAny_nil (by kernel_rfl) ?_
      show Q .normal _ w2
      rw [← hfr5, ← hfr4, ← hfr3, ← hfr2, ← hfr1]
      have he2 : (a.put (some 156) (.int .i64 e0)) = _ := he1
      rw [he2]
      exact hQ ((a.put (some 156) (.int .i64 e0)).tmps.getD 154 undef) ((a.put (some 156) (.int .i64 e0)).tmps.getD 155 undef) ((a.put (some 156) (.int .i64 e0)).tmps.getD 156 undef) ((a.put (some 156) (.int .i64 e0)).tmps.getD 157 undef) ((a.put (some 156) (.int .i64 e0)).tmps.getD 158 undef) ((a.put (some 156) (.int .i64 e0)).tmps.getD 159 undef) ((a.put (some 156) (.int .i64 e0)).tmps.getD 160 undef) ((a.put (some 156) (.int .i64 e0)).tmps.getD 161 undef) ((a.put (some 156) (.int .i64 e0)).tmps.getD 162 undef) ((a.put (some 156) (.int .i64 e0)).tmps.getD 163 undef) ((a.put (some 156) (.int .i64 e0)).tmps.getD 164 undef) ((a.put (some 156) (.int .i64 e0)).tmps.getD 165 undef) ((a.put (some 156) (.int .i64 e0)).tmps.getD 166 undef) ((a.put (some 156) (.int .i64 e0)).tmps.getD 167 undef) ((a.put (some 156) (.int .i64 e0)).tmps.getD 4 undef) w2 hR
    · refine wp_call_r (f := 33) (args := #[.pointer (some ⟨q, 0, none⟩), .int .i64 nn, .slice ma mn mc]) (by simp [execOp, resolve, Act.eval, k160, k162, k164, go_sem]) ?_
      refine (hcall w1 hL).mono ?_
      rintro e w2 ⟨rfl, hR⟩
      refine ⟨_, rfl, ?_⟩
      show wpAny Try.prog .any _ Q _ _ (a.put (some 165) (.int .i64 e0)) w2
      obtain ⟨fr1, hfr1⟩ : ∃ y, a.put (some 165) (.int .i64 e0) = y := ⟨_, rfl⟩
      rw [hfr1]
      have zfr1 : fr1.tmps.size = 301 := by rw [← hfr1, put_size]; exact (hS.size.trans hsz)
      have c1_160 : fr1.tmps.getD 160 undef = .pointer (some ⟨q, 0, none⟩) := by rw [← hfr1]; exact (put_slot _ 165 160 _ (by decide)).trans k160
      have c1_162 : fr1.tmps.getD 162 undef = .int .i64 nn := by rw [← hfr1]; exact (put_slot _ 165 162 _ (by decide)).trans k162
      have c1_164 : fr1.tmps.getD 164 undef = .slice ma mn mc := by rw [← hfr1]; exact (put_slot _ 165 164 _ (by decide)).trans k164
      have c1_155 : fr1.tmps.getD 155 undef = .bool true := by rw [← hfr1]; exact (put_slot _ 165 155 _ (by decide)).trans k155
      have c1_14 : fr1.tmps.getD 14 undef = .int .i64 e0 := by rw [← hfr1]; exact (put_slot _ 165 14 _ (by decide)).trans ksrc
      have c1_165 : fr1.tmps.getD 165 undef = .int .i64 e0 := by rw [← hfr1]; exact put_same _ 165 _ (by rw [(hS.size.trans hsz)]; decide)
      refine wpAny_oneW 2 _ rfl (wanted_yes rfl rfl rfl c1_155) (by kernel_rfl) ?_
      refine wp_val (.int .i64 e0) (w' := w2) (by simp only [Array.getD_eq_getD_getElem?] at c1_14; simp [execOp, Act.eval, c1_14, go_sem]) ?_
      show wpAny Try.prog .any _ Q _ _ (fr1.put (some 156) (.int .i64 e0)) w2
      obtain ⟨fr2, hfr2⟩ : ∃ y, fr1.put (some 156) (.int .i64 e0) = y := ⟨_, rfl⟩
      rw [hfr2]
      have zfr2 : fr2.tmps.size = 301 := by rw [← hfr2, put_size]; exact zfr1
      have c2_160 : fr2.tmps.getD 160 undef = .pointer (some ⟨q, 0, none⟩) := by rw [← hfr2]; exact (put_slot _ 156 160 _ (by decide)).trans c1_160
      have c2_162 : fr2.tmps.getD 162 undef = .int .i64 nn := by rw [← hfr2]; exact (put_slot _ 156 162 _ (by decide)).trans c1_162
      have c2_164 : fr2.tmps.getD 164 undef = .slice ma mn mc := by rw [← hfr2]; exact (put_slot _ 156 164 _ (by decide)).trans c1_164
      have c2_155 : fr2.tmps.getD 155 undef = .bool true := by rw [← hfr2]; exact (put_slot _ 156 155 _ (by decide)).trans c1_155
      have c2_14 : fr2.tmps.getD 14 undef = .int .i64 e0 := by rw [← hfr2]; exact (put_slot _ 156 14 _ (by decide)).trans c1_14
      have c2_165 : fr2.tmps.getD 165 undef = .int .i64 e0 := by rw [← hfr2]; exact (put_slot _ 156 165 _ (by decide)).trans c1_165
      have c2_156 : fr2.tmps.getD 156 undef = .int .i64 e0 := by rw [← hfr2]; exact put_same _ 156 _ (by rw [zfr1]; decide)
      refine wpAny_oneW 12 _ rfl (wanted_yes rfl rfl rfl c2_155) (by kernel_rfl) ?_
      refine wp_val (.bool true) (w' := w2) (by simp only [Array.getD_eq_getD_getElem?] at c2_156 c2_165; simp [execOp, Act.eval, c2_156, c2_165, go_sem]) ?_
      show wpAny Try.prog .any _ Q _ _ (fr2.put (some 166) (.bool true)) w2
      obtain ⟨fr3, hfr3⟩ : ∃ y, fr2.put (some 166) (.bool true) = y := ⟨_, rfl⟩
      rw [hfr3]
      have zfr3 : fr3.tmps.size = 301 := by rw [← hfr3, put_size]; exact zfr2
      have c3_160 : fr3.tmps.getD 160 undef = .pointer (some ⟨q, 0, none⟩) := by rw [← hfr3]; exact (put_slot _ 166 160 _ (by decide)).trans c2_160
      have c3_162 : fr3.tmps.getD 162 undef = .int .i64 nn := by rw [← hfr3]; exact (put_slot _ 166 162 _ (by decide)).trans c2_162
      have c3_164 : fr3.tmps.getD 164 undef = .slice ma mn mc := by rw [← hfr3]; exact (put_slot _ 166 164 _ (by decide)).trans c2_164
      have c3_155 : fr3.tmps.getD 155 undef = .bool true := by rw [← hfr3]; exact (put_slot _ 166 155 _ (by decide)).trans c2_155
      have c3_14 : fr3.tmps.getD 14 undef = .int .i64 e0 := by rw [← hfr3]; exact (put_slot _ 166 14 _ (by decide)).trans c2_14
      have c3_165 : fr3.tmps.getD 165 undef = .int .i64 e0 := by rw [← hfr3]; exact (put_slot _ 166 165 _ (by decide)).trans c2_165
      have c3_156 : fr3.tmps.getD 156 undef = .int .i64 e0 := by rw [← hfr3]; exact (put_slot _ 166 156 _ (by decide)).trans c2_156
      have c3_166 : fr3.tmps.getD 166 undef = .bool true := by rw [← hfr3]; exact put_same _ 166 _ (by rw [zfr2]; decide)
      refine wpAny_one 13 _ rfl rfl (by kernel_rfl) ?_
      refine wp_val (.bool true) (w' := w2) (by simp only [Array.getD_eq_getD_getElem?] at c3_155 c3_166; simp [execOp, Act.eval, c3_155, c3_166, go_sem]) ?_
      show wpAny Try.prog .any _ Q _ _ (fr3.put (some 167) (.bool true)) w2
      obtain ⟨fr4, hfr4⟩ : ∃ y, fr3.put (some 167) (.bool true) = y := ⟨_, rfl⟩
      rw [hfr4]
      have zfr4 : fr4.tmps.size = 301 := by rw [← hfr4, put_size]; exact zfr3
      have c4_160 : fr4.tmps.getD 160 undef = .pointer (some ⟨q, 0, none⟩) := by rw [← hfr4]; exact (put_slot _ 167 160 _ (by decide)).trans c3_160
      have c4_162 : fr4.tmps.getD 162 undef = .int .i64 nn := by rw [← hfr4]; exact (put_slot _ 167 162 _ (by decide)).trans c3_162
      have c4_164 : fr4.tmps.getD 164 undef = .slice ma mn mc := by rw [← hfr4]; exact (put_slot _ 167 164 _ (by decide)).trans c3_164
      have c4_155 : fr4.tmps.getD 155 undef = .bool true := by rw [← hfr4]; exact (put_slot _ 167 155 _ (by decide)).trans c3_155
      have c4_14 : fr4.tmps.getD 14 undef = .int .i64 e0 := by rw [← hfr4]; exact (put_slot _ 167 14 _ (by decide)).trans c3_14
      have c4_165 : fr4.tmps.getD 165 undef = .int .i64 e0 := by rw [← hfr4]; exact (put_slot _ 167 165 _ (by decide)).trans c3_165
      have c4_156 : fr4.tmps.getD 156 undef = .int .i64 e0 := by rw [← hfr4]; exact (put_slot _ 167 156 _ (by decide)).trans c3_156
      have c4_166 : fr4.tmps.getD 166 undef = .bool true := by rw [← hfr4]; exact (put_slot _ 167 166 _ (by decide)).trans c3_166
      have c4_167 : fr4.tmps.getD 167 undef = .bool true := by rw [← hfr4]; exact put_same _ 167 _ (by rw [zfr3]; decide)
      refine wpAny_one 14 _ rfl rfl (by kernel_rfl) ?_
      refine wp_val (.bool true) (w' := w2) (by simp only [Array.getD_eq_getD_getElem?] at c4_167; simp [execOp, Act.eval, c4_167, go_sem]) ?_
      show wpAny Try.prog .any _ Q _ _ (fr4.put (some 4) (.bool true)) w2
      obtain ⟨fr5, hfr5⟩ : ∃ y, fr4.put (some 4) (.bool true) = y := ⟨_, rfl⟩
      rw [hfr5]
      have zfr5 : fr5.tmps.size = 301 := by rw [← hfr5, put_size]; exact zfr4
      have c5_160 : fr5.tmps.getD 160 undef = .pointer (some ⟨q, 0, none⟩) := by rw [← hfr5]; exact (put_slot _ 4 160 _ (by decide)).trans c4_160
      have c5_162 : fr5.tmps.getD 162 undef = .int .i64 nn := by rw [← hfr5]; exact (put_slot _ 4 162 _ (by decide)).trans c4_162
      have c5_164 : fr5.tmps.getD 164 undef = .slice ma mn mc := by rw [← hfr5]; exact (put_slot _ 4 164 _ (by decide)).trans c4_164
      have c5_155 : fr5.tmps.getD 155 undef = .bool true := by rw [← hfr5]; exact (put_slot _ 4 155 _ (by decide)).trans c4_155
      have c5_14 : fr5.tmps.getD 14 undef = .int .i64 e0 := by rw [← hfr5]; exact (put_slot _ 4 14 _ (by decide)).trans c4_14
      have c5_165 : fr5.tmps.getD 165 undef = .int .i64 e0 := by rw [← hfr5]; exact (put_slot _ 4 165 _ (by decide)).trans c4_165
      have c5_156 : fr5.tmps.getD 156 undef = .int .i64 e0 := by rw [← hfr5]; exact (put_slot _ 4 156 _ (by decide)).trans c4_156
      have c5_166 : fr5.tmps.getD 166 undef = .bool true := by rw [← hfr5]; exact (put_slot _ 4 166 _ (by decide)).trans c4_166
      have c5_167 : fr5.tmps.getD 167 undef = .bool true := by rw [← hfr5]; exact (put_slot _ 4 167 _ (by decide)).trans c4_167
      have c5_4 : fr5.tmps.getD 4 undef = .bool true := by rw [← hfr5]; exact put_same _ 4 _ (by rw [zfr4]; decide)
      refine wpAny_nil (by kernel_rfl) ?_
      show Q .normal _ w2
      rw [← hfr5, ← hfr4, ← hfr3, ← hfr2, ← hfr1]
      rw [put_comm a 165 156 _ _ (by decide)]
      have he2 : (a.put (some 156) (.int .i64 e0)) = _ := he1
      rw [he2]
      exact hQ ((a.put (some 156) (.int .i64 e0)).tmps.getD 154 undef) ((a.put (some 156) (.int .i64 e0)).tmps.getD 155 undef) ((a.put (some 156) (.int .i64 e0)).tmps.getD 156 undef) ((a.put (some 156) (.int .i64 e0)).tmps.getD 157 undef) ((a.put (some 156) (.int .i64 e0)).tmps.getD 158 undef) ((a.put (some 156) (.int .i64 e0)).tmps.getD 159 undef) ((a.put (some 156) (.int .i64 e0)).tmps.getD 160 undef) ((a.put (some 156) (.int .i64 e0)).tmps.getD 161 undef) ((a.put (some 156) (.int .i64 e0)).tmps.getD 162 undef) ((a.put (some 156) (.int .i64 e0)).tmps.getD 163 undef) ((a.put (some 156) (.int .i64 e0)).tmps.getD 164 undef) ((a.put (some 156) (.int .i64 e0)).tmps.getD 165 undef) ((a.put (some 156) (.int .i64 e0)).tmps.getD 166 undef) ((a.put (some 156) (.int .i64 e0)).tmps.getD 167 undef) ((a.put (some 156) (.int .i64 e0)).tmps.getD 4 undef) w2 hR
  case hop =>
    intro i o hlt hi
    rcases (show i = 0 ∨ i = 1 ∨ i = 2 ∨ i = 3 ∨ i = 4 ∨ i = 5 ∨ i = 6 ∨ i = 7 ∨ i = 8 ∨ i = 9 ∨ i = 10 by omega) with rfl | rfl | rfl | rfl | rfl | rfl | rfl | rfl | rfl | rfl | rfl
    · obtain rfl := Option.some.inj hi
      clear hi hlt
      intro a w1 hL hS hS2 hD
      have e15 : a.tmps.getD 15 undef = .bool true := (hS2.slot 15 (by kernel_rfl)).trans s15
      refine step_yes rfl ?_
      exact ok_value Lat.refl (.bool true) (by simp [execOp, Act.eval, e15, go_sem]) rfl
    · obtain rfl := Option.some.inj hi
      clear hi hlt
      intro a w1 hL hS hS2 hD
      have d0 : a.tmps.getD 154 undef = .bool true := hD ⟨0, .data⟩ (by simp) rfl _ rfl
      refine step_yes rfl ?_
      exact ok_value Lat.refl (.bool true) (by simp [execOp, Act.eval, d0, go_sem]) rfl
    · obtain rfl := Option.some.inj hi
      clear hi hlt
      intro a w1 hL hS hS2 hD
      have e14 : a.tmps.getD 14 undef = .int .i64 e0 := (hS2.slot 14 (by kernel_rfl)).trans s14
      have d1 : a.tmps.getD 155 undef = .bool true := hD ⟨1, .guard⟩ (by simp) rfl _ rfl
      refine step_yes (wanted_yes rfl rfl rfl d1) ?_
      exact ok_value Lat.refl (.int .i64 e0) (by simp [execOp, Act.eval, e14, go_sem]) rfl
    · obtain rfl := Option.some.inj hi
      clear hi hlt
      intro a w1 hL hS hS2 hD
      have e0 : a.tmps.getD 0 undef = .pointer (some ⟨pp, 0, none⟩) := (hS2.slot 0 (by kernel_rfl)).trans s0
      have d1 : a.tmps.getD 155 undef = .bool true := hD ⟨1, .guard⟩ (by simp) rfl _ rfl
      refine step_yes (wanted_yes rfl rfl rfl d1) ?_
      exact ok_value Lat.refl (.pointer (some ⟨pp, 0, none⟩)) (by simp [execOp, Act.eval, e0, go_sem]) rfl
    · obtain rfl := Option.some.inj hi
      clear hi hlt
      intro a w1 hL hS hS2 hD
      have d1 : a.tmps.getD 155 undef = .bool true := hD ⟨1, .guard⟩ (by simp) rfl _ rfl
      have d3 : a.tmps.getD 157 undef = .pointer (some ⟨pp, 0, none⟩) := hD ⟨3, .data⟩ (by simp) rfl _ rfl
      refine step_yes (wanted_yes rfl rfl rfl d1) ?_
      exact ok_value Lat.refl (.pointer (some ⟨pp, 0, none⟩)) (by simp [execOp, Act.eval, d3, go_sem]) rfl
    · obtain rfl := Option.some.inj hi
      clear hi hlt
      intro a w1 hL hS hS2 hD
      have d1 : a.tmps.getD 155 undef = .bool true := hD ⟨1, .guard⟩ (by simp) rfl _ rfl
      have d4 : a.tmps.getD 158 undef = .pointer (some ⟨pp, 0, none⟩) := hD ⟨4, .data⟩ (by simp) rfl _ rfl
      refine step_yes (wanted_yes rfl rfl rfl d1) ?_
      exact ok_value Lat.refl (.pointer (some ⟨pp, 1, none⟩)) (by simp [execOp, Act.eval, d4, go_sem]) rfl
    · obtain rfl := Option.some.inj hi
      clear hi hlt
      intro a w1 hL hS hS2 hD
      have d1 : a.tmps.getD 155 undef = .bool true := hD ⟨1, .guard⟩ (by simp) rfl _ rfl
      have d5 : a.tmps.getD 159 undef = .pointer (some ⟨pp, 1, none⟩) := hD ⟨5, .data⟩ (by simp) rfl _ rfl
      refine step_yes (wanted_yes rfl rfl rfl d1) ?_
      exact ok_value Lat.refl (.pointer (some ⟨q, 0, none⟩)) (by simp [execOp, Act.eval, d5, hB w1 hL, go_sem]) rfl
    · obtain rfl := Option.some.inj hi
      clear hi hlt
      intro a w1 hL hS hS2 hD
      have e3 : a.tmps.getD 3 undef = .pointer (some ⟨ob, 0, none⟩) := (hS2.slot 3 (by kernel_rfl)).trans s3
      have d1 : a.tmps.getD 155 undef = .bool true := hD ⟨1, .guard⟩ (by simp) rfl _ rfl
      refine step_yes (wanted_yes rfl rfl rfl d1) ?_
      exact ok_value Lat.refl (.pointer (some ⟨ob, 4, none⟩)) (by simp [execOp, Act.eval, e3, go_sem]) rfl
    · obtain rfl := Option.some.inj hi
      clear hi hlt
      intro a w1 hL hS hS2 hD
      have d1 : a.tmps.getD 155 undef = .bool true := hD ⟨1, .guard⟩ (by simp) rfl _ rfl
      have d7 : a.tmps.getD 161 undef = .pointer (some ⟨ob, 4, none⟩) := hD ⟨7, .data⟩ (by simp) rfl _ rfl
      refine step_yes (wanted_yes rfl rfl rfl d1) ?_
      exact ok_value Lat.refl (.int .i64 nn) (by simp [execOp, Act.eval, d7, h4 w1 hL, go_sem]) rfl
    · obtain rfl := Option.some.inj hi
      clear hi hlt
      intro a w1 hL hS hS2 hD
      have e3 : a.tmps.getD 3 undef = .pointer (some ⟨ob, 0, none⟩) := (hS2.slot 3 (by kernel_rfl)).trans s3
      have d1 : a.tmps.getD 155 undef = .bool true := hD ⟨1, .guard⟩ (by simp) rfl _ rfl
      refine step_yes (wanted_yes rfl rfl rfl d1) ?_
      exact ok_value Lat.refl (.pointer (some ⟨ob, 6, none⟩)) (by simp [execOp, Act.eval, e3, go_sem]) rfl
    · obtain rfl := Option.some.inj hi
      clear hi hlt
      intro a w1 hL hS hS2 hD
      have d1 : a.tmps.getD 155 undef = .bool true := hD ⟨1, .guard⟩ (by simp) rfl _ rfl
      have d9 : a.tmps.getD 163 undef = .pointer (some ⟨ob, 6, none⟩) := hD ⟨9, .data⟩ (by simp) rfl _ rfl
      refine step_yes (wanted_yes rfl rfl rfl d1) ?_
      exact ok_value Lat.refl (.slice ma mn mc) (by simp [execOp, Act.eval, d9, h6 w1 hL, go_sem]) rfl

end Go.Proofs.Ytgmcfejmhlglkaa
