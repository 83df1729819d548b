import Derived.Test.YtgmcfejmhlglkaaStR
namespace Go.Proofs.Ytgmcfejmhlglkaa
open Go.RowKit
set_option linter.unusedVariables false
set_option linter.unusedSimpArgs false

set_option maxRecDepth 100000 in
set_option maxHeartbeats 2000000 in
theorem step_r26 (pp p ob ln lc : Nat) (la : Option Addr) (nn : Int) (R : Value → World → Prop) (w : World) (a0 : Act) (Q : Exit → Act → World → Prop) (hsz : a0.tmps.size = 301)
    (s0 : a0.tmps.getD 0 undef = .pointer (some ⟨pp, 0, none⟩))
    (s3 : a0.tmps.getD 3 undef = .pointer (some ⟨ob, 0, none⟩))
    (s13 : a0.tmps.getD 13 undef = .slice la ln lc)
    (hA : ∀ w1, Lat w w1 → w1.cell? ⟨pp, 0, none⟩ = some (.pointer (some ⟨p, 0, none⟩)))
    (h4 : ∀ w1, Lat w w1 → w1.cell? ⟨ob, 4, none⟩ = some (.int .i64 nn))
    (hcall : ∀ w1, Lat w w1 → Calls Try.prog 21 #[.pointer (some ⟨p, 0, none⟩), .int .i64 nn, .slice la ln lc] w1 fun e w2 => ∃ x, e = .returned x ∧ R x w2)
    (hQ : ∀ (v142 v143 v144 v145 v146 v147 v148 v149 v14 : Value) (x : Value) (w2 : World), R x w2 → Q .normal (((((((((((a0.put (some 142) v142).put (some 143) v143).put (some 144) v144).put (some 145) v145).put (some 146) v146).put (some 147) v147).put (some 148) v148).put (some 149) v149).put (some 14) v14).put (some 149) (x)).put (some 14) (x)) w2) :
    Code.wp Try.prog ((Try.f7.body.bind (findRegion 26)).getD .skip) Q a0 w := by
  conv => arg 2; whnf
  refine wp_region_tail 7 Lat (TE [Ent.val (.pointer (some ⟨pp, 0, none⟩)), Ent.val (.pointer (some ⟨pp, 0, none⟩)), Ent.val (.pointer (some ⟨pp, 0, none⟩)), Ent.val (.pointer (some ⟨p, 0, none⟩)), Ent.val (.pointer (some ⟨ob, 4, none⟩)), Ent.val (.int .i64 nn), Ent.val (.slice la ln lc)]) (by kernel_rfl) (by kernel_rfl) (by kernel_rfl) (by rw [hsz]; kernel_rfl) (by kernel_rfl) (by kernel_rfl) Lat.refl Lat.trans (TE_stable _) (Lat.draw w) ?hop ?hlast
  case hlast =>
    intro a w1 hL hS hT
    have k145 : a.tmps.getD 145 undef = .pointer (some ⟨p, 0, none⟩) := hT 3 _ (by omega) rfl
    have k147 : a.tmps.getD 147 undef = .int .i64 nn := hT 5 _ (by omega) rfl
    have k148 : a.tmps.getD 148 undef = .slice la ln lc := hT 6 _ (by omega) rfl
    refine wpAny_one 7 _ rfl rfl (by kernel_rfl) ?_
    refine wp_call_r (f := 21) (args := #[.pointer (some ⟨p, 0, none⟩), .int .i64 nn, .slice la ln lc]) (by simp [execOp, resolve, Act.eval, k145, k147, k148, go_sem]) ?_
    refine (hcall w1 hL).mono ?_
    rintro e w2 ⟨x, rfl, hR⟩
    refine ⟨x, rfl, ?_⟩
    show wpAny Try.prog .any _ Q _ _ (a.put (some 149) (x)) w2
    obtain ⟨fr1, hfr1⟩ : ∃ y, a.put (some 149) (x) = y := ⟨_, rfl⟩
    rw [hfr1]
    have zfr1 : fr1.tmps.size = 301 := by rw [← hfr1, put_size]; exact (hS.size.trans hsz)
    have c1_145 : fr1.tmps.getD 145 undef = .pointer (some ⟨p, 0, none⟩) := by rw [← hfr1]; exact (put_slot _ 149 145 _ (by decide)).trans k145
    have c1_147 : fr1.tmps.getD 147 undef = .int .i64 nn := by rw [← hfr1]; exact (put_slot _ 149 147 _ (by decide)).trans k147
    have c1_148 : fr1.tmps.getD 148 undef = .slice la ln lc := by rw [← hfr1]; exact (put_slot _ 149 148 _ (by decide)).trans k148
    have c1_149 : fr1.tmps.getD 149 undef = x := by rw [← hfr1]; exact put_same _ 149 _ (by rw [(hS.size.trans hsz)]; decide)
    refine wpAny_one 8 _ rfl rfl (by kernel_rfl) ?_
    refine wp_val (x) (w' := w2) (by simp only [Array.getD_eq_getD_getElem?] at c1_149; simp [execOp, Act.eval, c1_149, go_sem]) ?_
    show wpAny Try.prog .any _ Q _ _ (fr1.put (some 14) (x)) w2
    obtain ⟨fr2, hfr2⟩ : ∃ y, fr1.put (some 14) (x) = y := ⟨_, rfl⟩
    rw [hfr2]
    have zfr2 : fr2.tmps.size = 301 := by rw [← hfr2, put_size]; exact zfr1
    have c2_145 : fr2.tmps.getD 145 undef = .pointer (some ⟨p, 0, none⟩) := by rw [← hfr2]; exact (put_slot _ 14 145 _ (by decide)).trans c1_145
    have c2_147 : fr2.tmps.getD 147 undef = .int .i64 nn := by rw [← hfr2]; exact (put_slot _ 14 147 _ (by decide)).trans c1_147
    have c2_148 : fr2.tmps.getD 148 undef = .slice la ln lc := by rw [← hfr2]; exact (put_slot _ 14 148 _ (by decide)).trans c1_148
    have c2_149 : fr2.tmps.getD 149 undef = x := by rw [← hfr2]; exact (put_slot _ 14 149 _ (by decide)).trans c1_149
    have c2_14 : fr2.tmps.getD 14 undef = x := by rw [← hfr2]; exact put_same _ 14 _ (by rw [zfr1]; decide)
    refine wpAny_nil (by kernel_rfl) ?_
    show Q .normal _ w2
    rw [← hfr2, ← hfr1]
    rw [same_puts hS]
    exact hQ (a.tmps.getD 142 undef) (a.tmps.getD 143 undef) (a.tmps.getD 144 undef) (a.tmps.getD 145 undef) (a.tmps.getD 146 undef) (a.tmps.getD 147 undef) (a.tmps.getD 148 undef) (a.tmps.getD 149 undef) (a.tmps.getD 14 undef) x w2 hR
  case hop =>
    intro i o hlt hi
    rcases (show i = 0 ∨ i = 1 ∨ i = 2 ∨ i = 3 ∨ i = 4 ∨ i = 5 ∨ i = 6 by omega) with rfl | rfl | rfl | rfl | rfl | rfl | rfl
    · obtain rfl := Option.some.inj hi
      clear hi hlt
      intro a w1 hL hS hD
      have e0 : a.tmps.getD 0 undef = .pointer (some ⟨pp, 0, none⟩) := (hS.slot 0 (by kernel_rfl)).trans s0
      refine step_yes rfl ?_
      exact ok_value Lat.refl (.pointer (some ⟨pp, 0, none⟩)) (by simp [execOp, Act.eval, e0, go_sem]) rfl
    · obtain rfl := Option.some.inj hi
      clear hi hlt
      intro a w1 hL hS hD
      have d0 : a.tmps.getD 142 undef = .pointer (some ⟨pp, 0, none⟩) := hD ⟨0, .data⟩ (by simp) rfl _ rfl
      refine step_yes rfl ?_
      exact ok_value Lat.refl (.pointer (some ⟨pp, 0, none⟩)) (by simp [execOp, Act.eval, d0, go_sem]) rfl
    · obtain rfl := Option.some.inj hi
      clear hi hlt
      intro a w1 hL hS hD
      have d1 : a.tmps.getD 143 undef = .pointer (some ⟨pp, 0, none⟩) := hD ⟨1, .data⟩ (by simp) rfl _ rfl
      refine step_yes rfl ?_
      exact ok_value Lat.refl (.pointer (some ⟨pp, 0, none⟩)) (by simp [execOp, Act.eval, d1, go_sem]) rfl
    · obtain rfl := Option.some.inj hi
      clear hi hlt
      intro a w1 hL hS hD
      have d2 : a.tmps.getD 144 undef = .pointer (some ⟨pp, 0, none⟩) := hD ⟨2, .data⟩ (by simp) rfl _ rfl
      refine step_yes rfl ?_
      exact ok_value Lat.refl (.pointer (some ⟨p, 0, none⟩)) (by simp [execOp, Act.eval, d2, hA w1 hL, go_sem]) rfl
    · obtain rfl := Option.some.inj hi
      clear hi hlt
      intro a w1 hL hS hD
      have e3 : a.tmps.getD 3 undef = .pointer (some ⟨ob, 0, none⟩) := (hS.slot 3 (by kernel_rfl)).trans s3
      refine step_yes rfl ?_
      exact ok_value Lat.refl (.pointer (some ⟨ob, 4, none⟩)) (by simp [execOp, Act.eval, e3, go_sem]) rfl
    · obtain rfl := Option.some.inj hi
      clear hi hlt
      intro a w1 hL hS hD
      have d4 : a.tmps.getD 146 undef = .pointer (some ⟨ob, 4, none⟩) := hD ⟨4, .data⟩ (by simp) rfl _ rfl
      refine step_yes rfl ?_
      exact ok_value Lat.refl (.int .i64 nn) (by simp [execOp, Act.eval, d4, h4 w1 hL, go_sem]) rfl
    · obtain rfl := Option.some.inj hi
      clear hi hlt
      intro a w1 hL hS hD
      have e13 : a.tmps.getD 13 undef = .slice la ln lc := (hS.slot 13 (by kernel_rfl)).trans s13
      refine step_yes rfl ?_
      exact ok_value Lat.refl (.slice la ln lc) (by simp [execOp, Act.eval, e13, go_sem]) rfl

set_option maxRecDepth 100000 in
set_option maxHeartbeats 2000000 in
theorem step_r32 (pp q ob mn mc : Nat) (ma : Option Addr) (R : Value → World → Prop) (w : World) (a0 : Act) (Q : Exit → Act → World → Prop) (hsz : a0.tmps.size = 301)
    (s0 : a0.tmps.getD 0 undef = .pointer (some ⟨pp, 0, none⟩))
    (s3 : a0.tmps.getD 3 undef = .pointer (some ⟨ob, 0, none⟩))
    (hB : ∀ w1, Lat w w1 → w1.cell? ⟨pp, 1, none⟩ = some (.pointer (some ⟨q, 0, none⟩)))
    (h6 : ∀ w1, Lat w w1 → w1.cell? ⟨ob, 6, none⟩ = some (.slice ma mn mc))
    (hcall : ∀ w1, Lat w w1 → Calls Try.prog 34 #[.pointer (some ⟨q, 0, none⟩), .slice ma mn mc] w1 fun e w2 => ∃ x, e = .returned x ∧ R x w2)
    (hQ : ∀ (v179 v180 v181 v182 v183 v184 v185 : Value) (x : Value) (w2 : World), R x w2 → Q .normal ((((((((a0.put (some 179) v179).put (some 180) v180).put (some 181) v181).put (some 182) v182).put (some 183) v183).put (some 184) v184).put (some 185) v185).put (some 185) (x)) w2) :
    Code.wp Try.prog ((Try.f7.body.bind (findRegion 32)).getD .skip) Q a0 w := by
  conv => arg 2; whnf
  refine wp_region_tail 6 Lat (TE [Ent.val (.pointer (some ⟨pp, 0, none⟩)), Ent.val (.pointer (some ⟨pp, 0, none⟩)), Ent.val (.pointer (some ⟨pp, 1, none⟩)), Ent.val (.pointer (some ⟨q, 0, none⟩)), Ent.val (.pointer (some ⟨ob, 6, none⟩)), Ent.val (.slice ma mn mc)]) (by kernel_rfl) (by kernel_rfl) (by kernel_rfl) (by rw [hsz]; kernel_rfl) (by kernel_rfl) (by kernel_rfl) Lat.refl Lat.trans (TE_stable _) (Lat.draw w) ?hop ?hlast
  case hlast =>
    intro a w1 hL hS hT
    have k182 : a.tmps.getD 182 undef = .pointer (some ⟨q, 0, none⟩) := hT 3 _ (by omega) rfl
    have k184 : a.tmps.getD 184 undef = .slice ma mn mc := hT 5 _ (by omega) rfl
    refine wpAny_one 6 _ rfl rfl (by kernel_rfl) ?_
    refine wp_call_r (f := 34) (args := #[.pointer (some ⟨q, 0, none⟩), .slice ma mn mc]) (by simp [execOp, resolve, Act.eval, k182, k184, go_sem]) ?_
    refine (hcall w1 hL).mono ?_
    rintro e w2 ⟨x, rfl, hR⟩
    refine ⟨x, rfl, ?_⟩
    show wpAny Try.prog .any _ Q _ _ (a.put (some 185) (x)) w2
    obtain ⟨fr1, hfr1⟩ : ∃ y, a.put (some 185) (x) = y := ⟨_, rfl⟩
    rw [hfr1]
    have zfr1 : fr1.tmps.size = 301 := by rw [← hfr1, put_size]; exact (hS.size.trans hsz)
    have c1_182 : fr1.tmps.getD 182 undef = .pointer (some ⟨q, 0, none⟩) := by rw [← hfr1]; exact (put_slot _ 185 182 _ (by decide)).trans k182
    have c1_184 : fr1.tmps.getD 184 undef = .slice ma mn mc := by rw [← hfr1]; exact (put_slot _ 185 184 _ (by decide)).trans k184
    have c1_185 : fr1.tmps.getD 185 undef = x := by rw [← hfr1]; exact put_same _ 185 _ (by rw [(hS.size.trans hsz)]; decide)
    refine wpAny_nil (by kernel_rfl) ?_
    show Q .normal _ w2
    rw [← hfr1]
    rw [same_puts hS]
    exact hQ (a.tmps.getD 179 undef) (a.tmps.getD 180 undef) (a.tmps.getD 181 undef) (a.tmps.getD 182 undef) (a.tmps.getD 183 undef) (a.tmps.getD 184 undef) (a.tmps.getD 185 undef) x w2 hR
  case hop =>
    intro i o hlt hi
    rcases (show i = 0 ∨ i = 1 ∨ i = 2 ∨ i = 3 ∨ i = 4 ∨ i = 5 by omega) with rfl | rfl | rfl | rfl | rfl | rfl
    · obtain rfl := Option.some.inj hi
      clear hi hlt
      intro a w1 hL hS hD
      have e0 : a.tmps.getD 0 undef = .pointer (some ⟨pp, 0, none⟩) := (hS.slot 0 (by kernel_rfl)).trans s0
      refine step_yes rfl ?_
      exact ok_value Lat.refl (.pointer (some ⟨pp, 0, none⟩)) (by simp [execOp, Act.eval, e0, go_sem]) rfl
    · obtain rfl := Option.some.inj hi
      clear hi hlt
      intro a w1 hL hS hD
      have d0 : a.tmps.getD 179 undef = .pointer (some ⟨pp, 0, none⟩) := hD ⟨0, .data⟩ (by simp) rfl _ rfl
      refine step_yes rfl ?_
      exact ok_value Lat.refl (.pointer (some ⟨pp, 0, none⟩)) (by simp [execOp, Act.eval, d0, go_sem]) rfl
    · obtain rfl := Option.some.inj hi
      clear hi hlt
      intro a w1 hL hS hD
      have d1 : a.tmps.getD 180 undef = .pointer (some ⟨pp, 0, none⟩) := hD ⟨1, .data⟩ (by simp) rfl _ rfl
      refine step_yes rfl ?_
      exact ok_value Lat.refl (.pointer (some ⟨pp, 1, none⟩)) (by simp [execOp, Act.eval, d1, go_sem]) rfl
    · obtain rfl := Option.some.inj hi
      clear hi hlt
      intro a w1 hL hS hD
      have d2 : a.tmps.getD 181 undef = .pointer (some ⟨pp, 1, none⟩) := hD ⟨2, .data⟩ (by simp) rfl _ rfl
      refine step_yes rfl ?_
      exact ok_value Lat.refl (.pointer (some ⟨q, 0, none⟩)) (by simp [execOp, Act.eval, d2, hB w1 hL, go_sem]) rfl
    · obtain rfl := Option.some.inj hi
      clear hi hlt
      intro a w1 hL hS hD
      have e3 : a.tmps.getD 3 undef = .pointer (some ⟨ob, 0, none⟩) := (hS.slot 3 (by kernel_rfl)).trans s3
      refine step_yes rfl ?_
      exact ok_value Lat.refl (.pointer (some ⟨ob, 6, none⟩)) (by simp [execOp, Act.eval, e3, go_sem]) rfl
    · obtain rfl := Option.some.inj hi
      clear hi hlt
      intro a w1 hL hS hD
      have d4 : a.tmps.getD 183 undef = .pointer (some ⟨ob, 6, none⟩) := hD ⟨4, .data⟩ (by simp) rfl _ rfl
      refine step_yes rfl ?_
      exact ok_value Lat.refl (.slice ma mn mc) (by simp [execOp, Act.eval, d4, h6 w1 hL, go_sem]) rfl

set_option maxRecDepth 100000 in
set_option maxHeartbeats 2000000 in
theorem step_r51 (pp p rb rn rc k : Nat) (hk : k < rn) (w : World) (a0 : Act) (Q : Exit → Act → World → Prop) (hsz : a0.tmps.size = 301)
    (s0 : a0.tmps.getD 0 undef = .pointer (some ⟨pp, 0, none⟩))
    (s18 : a0.tmps.getD 18 undef = .int .i64 (k : Int))
    (hA : ∀ w1, Lat w w1 → w1.cell? ⟨pp, 0, none⟩ = some (.pointer (some ⟨p, 0, none⟩)))
    (hR : ∀ w1, Lat w w1 → w1.cell? ⟨pp, 2, none⟩ = some (.slice (some ⟨rb, 0, none⟩) rn rc))
    (u : Value) (hcell : ∀ w1, Lat w w1 → w1.cell? ⟨rb, k, none⟩ = some u) (hfrz : ∀ w1, Lat w w1 → w1.frozen? ⟨rb, k, none⟩ = false)
    (hQ : ∀ (v273 v274 v275 v276 v277 v278 v279 v280 v281 v282 : Value) (w1 : World), Lat w w1 → Q .normal ((((((((((a0.put (some 273) v273).put (some 274) v274).put (some 275) v275).put (some 276) v276).put (some 277) v277).put (some 278) v278).put (some 279) v279).put (some 280) v280).put (some 281) v281).put (some 282) v282) (w1.setCell ⟨rb, k, none⟩ (.pointer (some ⟨p, 0, none⟩)))) :
    Code.wp Try.prog ((Try.f7.body.bind (findRegion 51)).getD .skip) Q a0 w := by
  conv => arg 2; whnf
  refine wp_region_last 10 Lat (TV [.pointer (some ⟨pp, 0, none⟩), .pointer (some ⟨pp, 0, none⟩), .pointer (some ⟨pp, 2, none⟩), .slice (some ⟨rb, 0, none⟩) rn rc, .int .i64 (k : Int), .pointer (some ⟨pp, 0, none⟩), .pointer (some ⟨pp, 0, none⟩), .pointer (some ⟨pp, 0, none⟩), .pointer (some ⟨p, 0, none⟩), .pointer (some ⟨rb, k, none⟩)]) (by kernel_rfl) (by kernel_rfl) (by kernel_rfl) (by rw [hsz]; kernel_rfl) (by kernel_rfl) (by kernel_rfl) Lat.refl Lat.trans (TV.stable _) (Lat.draw w) ?hop ?hlast
  case hlast =>
    intro o a w1 ho hL hS hT
    obtain rfl := Option.some.inj ho
    have he := same_puts hS
    have hQ2 := hQ (a.tmps.getD 273 undef) (a.tmps.getD 274 undef) (a.tmps.getD 275 undef) (a.tmps.getD 276 undef) (a.tmps.getD 277 undef) (a.tmps.getD 278 undef) (a.tmps.getD 279 undef) (a.tmps.getD 280 undef) (a.tmps.getD 281 undef) (a.tmps.getD 282 undef) w1 hL
    have dA : a.tmps.getD 282 undef = .pointer (some ⟨rb, k, none⟩) := hT 9 _ (by omega) rfl _ rfl
    have dV : a.tmps.getD 281 undef = .pointer (some ⟨p, 0, none⟩) := hT 8 _ (by omega) rfl _ rfl
    have hc1 := hcell w1 hL
    have hf1 := hfrz w1 hL
    unfold Oper.wp
    simp [execOp, Act.eval, dA, dV, hc1, hf1, Result.andThen, go_sem]
    show Q .normal a _
    rw [he]
    exact hQ2
  case hop =>
    intro i o hlt hi
    rcases (show i = 0 ∨ i = 1 ∨ i = 2 ∨ i = 3 ∨ i = 4 ∨ i = 5 ∨ i = 6 ∨ i = 7 ∨ i = 8 ∨ i = 9 by omega) with rfl | rfl | rfl | rfl | rfl | rfl | rfl | rfl | rfl | rfl
    · obtain rfl := Option.some.inj hi
      clear hi hlt
      intro a w1 hL hS hD
      have e0 : a.tmps.getD 0 undef = .pointer (some ⟨pp, 0, none⟩) := (hS.slot 0 (by kernel_rfl)).trans s0
      refine step_yes rfl ?_
      exact ok_value Lat.refl (.pointer (some ⟨pp, 0, none⟩)) (by simp [execOp, Act.eval, e0, go_sem]) (TV.mk rfl)
    · obtain rfl := Option.some.inj hi
      clear hi hlt
      intro a w1 hL hS hD
      have d0 : a.tmps.getD 273 undef = .pointer (some ⟨pp, 0, none⟩) := hD ⟨0, .data⟩ (by simp) rfl _ rfl _ rfl
      refine step_yes rfl ?_
      exact ok_value Lat.refl (.pointer (some ⟨pp, 0, none⟩)) (by simp [execOp, Act.eval, d0, go_sem]) (TV.mk rfl)
    · obtain rfl := Option.some.inj hi
      clear hi hlt
      intro a w1 hL hS hD
      have d1 : a.tmps.getD 274 undef = .pointer (some ⟨pp, 0, none⟩) := hD ⟨1, .data⟩ (by simp) rfl _ rfl _ rfl
      refine step_yes rfl ?_
      exact ok_value Lat.refl (.pointer (some ⟨pp, 2, none⟩)) (by simp [execOp, Act.eval, d1, go_sem]) (TV.mk rfl)
    · obtain rfl := Option.some.inj hi
      clear hi hlt
      intro a w1 hL hS hD
      have d2 : a.tmps.getD 275 undef = .pointer (some ⟨pp, 2, none⟩) := hD ⟨2, .data⟩ (by simp) rfl _ rfl _ rfl
      refine step_yes rfl ?_
      exact ok_value Lat.refl (.slice (some ⟨rb, 0, none⟩) rn rc) (by simp [execOp, Act.eval, d2, hR w1 hL, go_sem]) (TV.mk rfl)
    · obtain rfl := Option.some.inj hi
      clear hi hlt
      intro a w1 hL hS hD
      have e18 : a.tmps.getD 18 undef = .int .i64 (k : Int) := (hS.slot 18 (by kernel_rfl)).trans s18
      refine step_yes rfl ?_
      exact ok_value Lat.refl (.int .i64 (k : Int)) (by simp [execOp, Act.eval, e18, go_sem]) (TV.mk rfl)
    · obtain rfl := Option.some.inj hi
      clear hi hlt
      intro a w1 hL hS hD
      have e0 : a.tmps.getD 0 undef = .pointer (some ⟨pp, 0, none⟩) := (hS.slot 0 (by kernel_rfl)).trans s0
      refine step_yes rfl ?_
      exact ok_value Lat.refl (.pointer (some ⟨pp, 0, none⟩)) (by simp [execOp, Act.eval, e0, go_sem]) (TV.mk rfl)
    · obtain rfl := Option.some.inj hi
      clear hi hlt
      intro a w1 hL hS hD
      have d5 : a.tmps.getD 278 undef = .pointer (some ⟨pp, 0, none⟩) := hD ⟨5, .data⟩ (by simp) rfl _ rfl _ rfl
      refine step_yes rfl ?_
      exact ok_value Lat.refl (.pointer (some ⟨pp, 0, none⟩)) (by simp [execOp, Act.eval, d5, go_sem]) (TV.mk rfl)
    · obtain rfl := Option.some.inj hi
      clear hi hlt
      intro a w1 hL hS hD
      have d6 : a.tmps.getD 279 undef = .pointer (some ⟨pp, 0, none⟩) := hD ⟨6, .data⟩ (by simp) rfl _ rfl _ rfl
      refine step_yes rfl ?_
      exact ok_value Lat.refl (.pointer (some ⟨pp, 0, none⟩)) (by simp [execOp, Act.eval, d6, go_sem]) (TV.mk rfl)
    · obtain rfl := Option.some.inj hi
      clear hi hlt
      intro a w1 hL hS hD
      have d7 : a.tmps.getD 280 undef = .pointer (some ⟨pp, 0, none⟩) := hD ⟨7, .data⟩ (by simp) rfl _ rfl _ rfl
      refine step_yes rfl ?_
      exact ok_value Lat.refl (.pointer (some ⟨p, 0, none⟩)) (by simp [execOp, Act.eval, d7, hA w1 hL, go_sem]) (TV.mk rfl)
    · obtain rfl := Option.some.inj hi
      clear hi hlt
      intro a w1 hL hS hD
      have d3 : a.tmps.getD 276 undef = .slice (some ⟨rb, 0, none⟩) rn rc := hD ⟨3, .data⟩ (by simp) rfl _ rfl _ rfl
      have d4 : a.tmps.getD 277 undef = .int .i64 (k : Int) := hD ⟨4, .data⟩ (by simp) rfl _ rfl _ rfl
      refine step_yes rfl ?_
      exact ok_value Lat.refl (.pointer (some ⟨rb, k, none⟩)) (by simp [execOp, Act.eval, d3, d4, hk, go_sem]) (TV.mk rfl)

set_option maxRecDepth 100000 in
set_option maxHeartbeats 2000000 in
theorem step_r52 (pp q rb rn rc k : Nat) (hk : k < rn) (w : World) (a0 : Act) (Q : Exit → Act → World → Prop) (hsz : a0.tmps.size = 301)
    (s0 : a0.tmps.getD 0 undef = .pointer (some ⟨pp, 0, none⟩))
    (s18 : a0.tmps.getD 18 undef = .int .i64 (k : Int))
    (hB : ∀ w1, Lat w w1 → w1.cell? ⟨pp, 1, none⟩ = some (.pointer (some ⟨q, 0, none⟩)))
    (hR : ∀ w1, Lat w w1 → w1.cell? ⟨pp, 3, none⟩ = some (.slice (some ⟨rb, 0, none⟩) rn rc))
    (u : Value) (hcell : ∀ w1, Lat w w1 → w1.cell? ⟨rb, k, none⟩ = some u) (hfrz : ∀ w1, Lat w w1 → w1.frozen? ⟨rb, k, none⟩ = false)
    (hQ : ∀ (v283 v284 v285 v286 v287 v288 v289 v290 v291 v292 : Value) (w1 : World), Lat w w1 → Q .normal ((((((((((a0.put (some 283) v283).put (some 284) v284).put (some 285) v285).put (some 286) v286).put (some 287) v287).put (some 288) v288).put (some 289) v289).put (some 290) v290).put (some 291) v291).put (some 292) v292) (w1.setCell ⟨rb, k, none⟩ (.pointer (some ⟨q, 0, none⟩)))) :
    Code.wp Try.prog ((Try.f7.body.bind (findRegion 52)).getD .skip) Q a0 w := by
  conv => arg 2; whnf
  refine wp_region_last 10 Lat (TV [.pointer (some ⟨pp, 0, none⟩), .pointer (some ⟨pp, 0, none⟩), .pointer (some ⟨pp, 3, none⟩), .slice (some ⟨rb, 0, none⟩) rn rc, .int .i64 (k : Int), .pointer (some ⟨pp, 0, none⟩), .pointer (some ⟨pp, 0, none⟩), .pointer (some ⟨pp, 1, none⟩), .pointer (some ⟨q, 0, none⟩), .pointer (some ⟨rb, k, none⟩)]) (by kernel_rfl) (by kernel_rfl) (by kernel_rfl) (by rw [hsz]; kernel_rfl) (by kernel_rfl) (by kernel_rfl) Lat.refl Lat.trans (TV.stable _) (Lat.draw w) ?hop ?hlast
  case hlast =>
    intro o a w1 ho hL hS hT
    obtain rfl := Option.some.inj ho
    have he := same_puts hS
    have hQ2 := hQ (a.tmps.getD 283 undef) (a.tmps.getD 284 undef) (a.tmps.getD 285 undef) (a.tmps.getD 286 undef) (a.tmps.getD 287 undef) (a.tmps.getD 288 undef) (a.tmps.getD 289 undef) (a.tmps.getD 290 undef) (a.tmps.getD 291 undef) (a.tmps.getD 292 undef) w1 hL
    have dA : a.tmps.getD 292 undef = .pointer (some ⟨rb, k, none⟩) := hT 9 _ (by omega) rfl _ rfl
    have dV : a.tmps.getD 291 undef = .pointer (some ⟨q, 0, none⟩) := hT 8 _ (by omega) rfl _ rfl
    have hc1 := hcell w1 hL
    have hf1 := hfrz w1 hL
    unfold Oper.wp
    simp [execOp, Act.eval, dA, dV, hc1, hf1, Result.andThen, go_sem]
    show Q .normal a _
    rw [he]
    exact hQ2
  case hop =>
    intro i o hlt hi
    rcases (show i = 0 ∨ i = 1 ∨ i = 2 ∨ i = 3 ∨ i = 4 ∨ i = 5 ∨ i = 6 ∨ i = 7 ∨ i = 8 ∨ i = 9 by omega) with rfl | rfl | rfl | rfl | rfl | rfl | rfl | rfl | rfl | rfl
    · obtain rfl := Option.some.inj hi
      clear hi hlt
      intro a w1 hL hS hD
      have e0 : a.tmps.getD 0 undef = .pointer (some ⟨pp, 0, none⟩) := (hS.slot 0 (by kernel_rfl)).trans s0
      refine step_yes rfl ?_
      exact ok_value Lat.refl (.pointer (some ⟨pp, 0, none⟩)) (by simp [execOp, Act.eval, e0, go_sem]) (TV.mk rfl)
    · obtain rfl := Option.some.inj hi
      clear hi hlt
      intro a w1 hL hS hD
      have d0 : a.tmps.getD 283 undef = .pointer (some ⟨pp, 0, none⟩) := hD ⟨0, .data⟩ (by simp) rfl _ rfl _ rfl
      refine step_yes rfl ?_
      exact ok_value Lat.refl (.pointer (some ⟨pp, 0, none⟩)) (by simp [execOp, Act.eval, d0, go_sem]) (TV.mk rfl)
    · obtain rfl := Option.some.inj hi
      clear hi hlt
      intro a w1 hL hS hD
      have d1 : a.tmps.getD 284 undef = .pointer (some ⟨pp, 0, none⟩) := hD ⟨1, .data⟩ (by simp) rfl _ rfl _ rfl
      refine step_yes rfl ?_
      exact ok_value Lat.refl (.pointer (some ⟨pp, 3, none⟩)) (by simp [execOp, Act.eval, d1, go_sem]) (TV.mk rfl)
    · obtain rfl := Option.some.inj hi
      clear hi hlt
      intro a w1 hL hS hD
      have d2 : a.tmps.getD 285 undef = .pointer (some ⟨pp, 3, none⟩) := hD ⟨2, .data⟩ (by simp) rfl _ rfl _ rfl
      refine step_yes rfl ?_
      exact ok_value Lat.refl (.slice (some ⟨rb, 0, none⟩) rn rc) (by simp [execOp, Act.eval, d2, hR w1 hL, go_sem]) (TV.mk rfl)
    · obtain rfl := Option.some.inj hi
      clear hi hlt
      intro a w1 hL hS hD
      have e18 : a.tmps.getD 18 undef = .int .i64 (k : Int) := (hS.slot 18 (by kernel_rfl)).trans s18
      refine step_yes rfl ?_
      exact ok_value Lat.refl (.int .i64 (k : Int)) (by simp [execOp, Act.eval, e18, go_sem]) (TV.mk rfl)
    · obtain rfl := Option.some.inj hi
      clear hi hlt
      intro a w1 hL hS hD
      have e0 : a.tmps.getD 0 undef = .pointer (some ⟨pp, 0, none⟩) := (hS.slot 0 (by kernel_rfl)).trans s0
      refine step_yes rfl ?_
      exact ok_value Lat.refl (.pointer (some ⟨pp, 0, none⟩)) (by simp [execOp, Act.eval, e0, go_sem]) (TV.mk rfl)
    · obtain rfl := Option.some.inj hi
      clear hi hlt
      intro a w1 hL hS hD
      have d5 : a.tmps.getD 288 undef = .pointer (some ⟨pp, 0, none⟩) := hD ⟨5, .data⟩ (by simp) rfl _ rfl _ rfl
      refine step_yes rfl ?_
      exact ok_value Lat.refl (.pointer (some ⟨pp, 0, none⟩)) (by simp [execOp, Act.eval, d5, go_sem]) (TV.mk rfl)
    · obtain rfl := Option.some.inj hi
      clear hi hlt
      intro a w1 hL hS hD
      have d6 : a.tmps.getD 289 undef = .pointer (some ⟨pp, 0, none⟩) := hD ⟨6, .data⟩ (by simp) rfl _ rfl _ rfl
      refine step_yes rfl ?_
      exact ok_value Lat.refl (.pointer (some ⟨pp, 1, none⟩)) (by simp [execOp, Act.eval, d6, go_sem]) (TV.mk rfl)
    · obtain rfl := Option.some.inj hi
      clear hi hlt
      intro a w1 hL hS hD
      have d7 : a.tmps.getD 290 undef = .pointer (some ⟨pp, 1, none⟩) := hD ⟨7, .data⟩ (by simp) rfl _ rfl _ rfl
      refine step_yes rfl ?_
      exact ok_value Lat.refl (.pointer (some ⟨q, 0, none⟩)) (by simp [execOp, Act.eval, d7, hB w1 hL, go_sem]) (TV.mk rfl)
    · obtain rfl := Option.some.inj hi
      clear hi hlt
      intro a w1 hL hS hD
      have d3 : a.tmps.getD 286 undef = .slice (some ⟨rb, 0, none⟩) rn rc := hD ⟨3, .data⟩ (by simp) rfl _ rfl _ rfl
      have d4 : a.tmps.getD 287 undef = .int .i64 (k : Int) := hD ⟨4, .data⟩ (by simp) rfl _ rfl _ rfl
      refine step_yes rfl ?_
      exact ok_value Lat.refl (.pointer (some ⟨rb, k, none⟩)) (by simp [execOp, Act.eval, d3, d4, hk, go_sem]) (TV.mk rfl)

end Go.Proofs.Ytgmcfejmhlglkaa
