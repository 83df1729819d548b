import Derived.Test.YtfieglepljmmkaaShaB
import Derived.Test.YtfieglepljmmkaaAnyM
namespace Go.Proofs.Ytfieglepljmmkaa
open Go.RowKit
set_option linter.unusedVariables false

set_option maxRecDepth 100000 in
set_option maxHeartbeats 4000000 in
theorem block_r18 (gs : Nat) (xa xb xc xd xe xf xg xh : BitVec 32) (w : World) (a0 : Act) (Q : Exit → Act → World → Prop) (hsz : a0.tmps.size = 201)
    (s11 : a0.tmps.getD 11 undef = .pointer (some ⟨gs, 0, none⟩))
    (hc0 : ∀ w1, Lat w w1 → w1.cell? ⟨gs, 0, none⟩ = some (.int .u32 (N xa))) (hc1 : ∀ w1, Lat w w1 → w1.cell? ⟨gs, 1, none⟩ = some (.int .u32 (N xb))) (hc2 : ∀ w1, Lat w w1 → w1.cell? ⟨gs, 2, none⟩ = some (.int .u32 (N xc))) (hc3 : ∀ w1, Lat w w1 → w1.cell? ⟨gs, 3, none⟩ = some (.int .u32 (N xd))) (hc4 : ∀ w1, Lat w w1 → w1.cell? ⟨gs, 4, none⟩ = some (.int .u32 (N xe))) (hc5 : ∀ w1, Lat w w1 → w1.cell? ⟨gs, 5, none⟩ = some (.int .u32 (N xf))) (hc6 : ∀ w1, Lat w w1 → w1.cell? ⟨gs, 6, none⟩ = some (.int .u32 (N xg))) (hc7 : ∀ w1, Lat w w1 → w1.cell? ⟨gs, 7, none⟩ = some (.int .u32 (N xh)))
    (hQ : ∀ (v138 v139 v140 v141 v142 v143 v144 v145 v146 v147 v148 v149 v150 v151 v152 v153 v154 v155 v156 v157 v158 v159 v160 v161 v162 v163 v164 v165 v166 : Value) (w1 : World), Lat w w1 → Q .normal ((((((((((((((((((((((((((((((a0.put (some 138) v138).put (some 139) v139).put (some 140) v140).put (some 141) v141).put (some 142) v142).put (some 143) v143).put (some 144) v144).put (some 145) v145).put (some 146) v146).put (some 147) v147).put (some 148) v148).put (some 149) v149).put (some 150) v150).put (some 151) v151).put (some 152) v152).put (some 153) v153).put (some 154) v154).put (some 155) v155).put (some 156) v156).put (some 157) v157).put (some 158) v158).put (some 159) v159).put (some 160) v160).put (some 161) v161).put (some 162) v162).put (some 163) v163).put (some 164) v164).put (some 165) v165).put (some 166) v166).put (some 14) (.int .u32 (N ((((rotr xa 2) ^^^ (rotr xa 13)) ^^^ (rotr xa 22)) + (((xa &&& xb) ^^^ (xa &&& xc)) ^^^ (xb &&& xc)))))) w1) :
    Code.wp Try.prog ((Try.f26.body.bind (findRegion 18)).getD .skip) Q a0 w := by
  conv => arg 2; whnf
  refine wp_region_inv Lat (TV [.pointer (some ⟨gs, 0, none⟩), .int .u32 (N xa), .int .u32 (N (rotr xa 2)), .pointer (some ⟨gs, 0, none⟩), .int .u32 (N xa), .int .u32 (N (rotr xa 13)), .int .u32 (N ((rotr xa 2) ^^^ (rotr xa 13))), .pointer (some ⟨gs, 0, none⟩), .int .u32 (N xa), .int .u32 (N (rotr xa 22)), .int .u32 (N (((rotr xa 2) ^^^ (rotr xa 13)) ^^^ (rotr xa 22))), .pointer (some ⟨gs, 0, none⟩), .int .u32 (N xa), .pointer (some ⟨gs, 1, none⟩), .int .u32 (N xb), .int .u32 (N (xa &&& xb)), .pointer (some ⟨gs, 0, none⟩), .int .u32 (N xa), .pointer (some ⟨gs, 2, none⟩), .int .u32 (N xc), .int .u32 (N (xa &&& xc)), .int .u32 (N ((xa &&& xb) ^^^ (xa &&& xc))), .pointer (some ⟨gs, 1, none⟩), .int .u32 (N xb), .pointer (some ⟨gs, 2, none⟩), .int .u32 (N xc), .int .u32 (N (xb &&& xc)), .int .u32 (N (((xa &&& xb) ^^^ (xa &&& xc)) ^^^ (xb &&& xc))), .int .u32 (N ((((rotr xa 2) ^^^ (rotr xa 13)) ^^^ (rotr xa 22)) + (((xa &&& xb) ^^^ (xa &&& xc)) ^^^ (xb &&& xc)))), .int .u32 (N ((((rotr xa 2) ^^^ (rotr xa 13)) ^^^ (rotr xa 22)) + (((xa &&& xb) ^^^ (xa &&& xc)) ^^^ (xb &&& xc))))]) (by kernel_rfl) (by kernel_rfl) (by kernel_rfl) (by rw [hsz]; kernel_rfl) (by kernel_rfl) Lat.refl Lat.trans (TV.stable _) (Lat.draw w) ?hop ?hdone
  case hdone =>
    intro a w1 hL hS hT
    have he := same_puts hS
    have dl : a.tmps.getD 14 undef = .int .u32 (N ((((rotr xa 2) ^^^ (rotr xa 13)) ^^^ (rotr xa 22)) + (((xa &&& xb) ^^^ (xa &&& xc)) ^^^ (xb &&& xc)))) := hT 29 _ rfl _ rfl
    have := hQ (a.tmps.getD 138 undef) (a.tmps.getD 139 undef) (a.tmps.getD 140 undef) (a.tmps.getD 141 undef) (a.tmps.getD 142 undef) (a.tmps.getD 143 undef) (a.tmps.getD 144 undef) (a.tmps.getD 145 undef) (a.tmps.getD 146 undef) (a.tmps.getD 147 undef) (a.tmps.getD 148 undef) (a.tmps.getD 149 undef) (a.tmps.getD 150 undef) (a.tmps.getD 151 undef) (a.tmps.getD 152 undef) (a.tmps.getD 153 undef) (a.tmps.getD 154 undef) (a.tmps.getD 155 undef) (a.tmps.getD 156 undef) (a.tmps.getD 157 undef) (a.tmps.getD 158 undef) (a.tmps.getD 159 undef) (a.tmps.getD 160 undef) (a.tmps.getD 161 undef) (a.tmps.getD 162 undef) (a.tmps.getD 163 undef) (a.tmps.getD 164 undef) (a.tmps.getD 165 undef) (a.tmps.getD 166 undef) w1 hL
    rw [← dl] at this
    rw [he]
    exact this
  case hop =>
    intro i o hi
    have hlt : i < 30 := (Array.getElem?_eq_some_iff.1 hi).1
    rcases (show i = 0 ∨ i = 1 ∨ i = 2 ∨ i = 3 ∨ i = 4 ∨ i = 5 ∨ i = 6 ∨ i = 7 ∨ i = 8 ∨ i = 9 ∨ i = 10 ∨ i = 11 ∨ i = 12 ∨ i = 13 ∨ i = 14 ∨ i = 15 ∨ i = 16 ∨ i = 17 ∨ i = 18 ∨ i = 19 ∨ i = 20 ∨ i = 21 ∨ i = 22 ∨ i = 23 ∨ i = 24 ∨ i = 25 ∨ i = 26 ∨ i = 27 ∨ i = 28 ∨ i = 29 by omega) with rfl | rfl | rfl | rfl | rfl | rfl | rfl | rfl | rfl | rfl | rfl | rfl | rfl | rfl | rfl | rfl | rfl | rfl | rfl | rfl | rfl | rfl | rfl | rfl | rfl | rfl | rfl | rfl | rfl | rfl
    · obtain rfl := Option.some.inj hi
      clear hi hlt
      intro a w1 hL hS hD
      have e11 : a.tmps.getD 11 undef = .pointer (some ⟨gs, 0, none⟩) := (hS.slot 11 (by kernel_rfl)).trans s11
      refine step_yes rfl ?_
      exact ok_value Lat.refl (.pointer (some ⟨gs, 0, none⟩)) (by simp [execOp, Act.eval, e11, go_sem]) (TV.mk rfl)
    · obtain rfl := Option.some.inj hi
      clear hi hlt
      intro a w1 hL hS hD
      have d0 : a.tmps.getD 138 undef = .pointer (some ⟨gs, 0, none⟩) := hD ⟨0, .data⟩ (by simp) rfl _ rfl _ rfl
      refine step_yes rfl ?_
      have hc := hc0 w1 hL
      exact ok_value Lat.refl (.int .u32 (N xa)) (by simp [execOp, Act.eval, d0, hc, go_sem]) (TV.mk rfl)
    · obtain rfl := Option.some.inj hi
      clear hi hlt
      intro a w1 hL hS hD
      have d1 : a.tmps.getD 139 undef = .int .u32 (N xa) := hD ⟨1, .data⟩ (by simp) rfl _ rfl _ rfl
      refine step_yes rfl ?_
      refine ok_call (f := 35) (args := #[.int .u32 (N xa), .int .i64 2]) (by simp [execOp, resolve, Act.eval, d1, go_sem]) ?_
      refine (rot_2 xa w1).mono ?_
      rintro e w2 ⟨rfl, nd, rfl⟩
      exact ⟨_, rfl, below_drewN (Below.refl _ _) nd, TV.mk rfl⟩
    · obtain rfl := Option.some.inj hi
      clear hi hlt
      intro a w1 hL hS hD
      have e11 : a.tmps.getD 11 undef = .pointer (some ⟨gs, 0, none⟩) := (hS.slot 11 (by kernel_rfl)).trans s11
      refine step_yes rfl ?_
      exact ok_value Lat.refl (.pointer (some ⟨gs, 0, none⟩)) (by simp [execOp, Act.eval, e11, go_sem]) (TV.mk rfl)
    · obtain rfl := Option.some.inj hi
      clear hi hlt
      intro a w1 hL hS hD
      have d3 : a.tmps.getD 141 undef = .pointer (some ⟨gs, 0, none⟩) := hD ⟨3, .data⟩ (by simp) rfl _ rfl _ rfl
      refine step_yes rfl ?_
      have hc := hc0 w1 hL
      exact ok_value Lat.refl (.int .u32 (N xa)) (by simp [execOp, Act.eval, d3, hc, go_sem]) (TV.mk rfl)
    · obtain rfl := Option.some.inj hi
      clear hi hlt
      intro a w1 hL hS hD
      have d4 : a.tmps.getD 142 undef = .int .u32 (N xa) := hD ⟨4, .data⟩ (by simp) rfl _ rfl _ rfl
      refine step_yes rfl ?_
      refine ok_call (f := 35) (args := #[.int .u32 (N xa), .int .i64 13]) (by simp [execOp, resolve, Act.eval, d4, go_sem]) ?_
      refine (rot_13 xa w1).mono ?_
      rintro e w2 ⟨rfl, nd, rfl⟩
      exact ⟨_, rfl, below_drewN (Below.refl _ _) nd, TV.mk rfl⟩
    · obtain rfl := Option.some.inj hi
      clear hi hlt
      intro a w1 hL hS hD
      have d2 : a.tmps.getD 140 undef = .int .u32 (N (rotr xa 2)) := hD ⟨2, .data⟩ (by simp) rfl _ rfl _ rfl
      have d5 : a.tmps.getD 143 undef = .int .u32 (N (rotr xa 13)) := hD ⟨5, .data⟩ (by simp) rfl _ rfl _ rfl
      refine step_yes rfl ?_
      exact ok_value Lat.refl (.int .u32 (N ((rotr xa 2) ^^^ (rotr xa 13)))) (by simp [execOp, Act.eval, d2, d5, N_xor, go_sem]) (TV.mk rfl)
    · obtain rfl := Option.some.inj hi
      clear hi hlt
      intro a w1 hL hS hD
      have e11 : a.tmps.getD 11 undef = .pointer (some ⟨gs, 0, none⟩) := (hS.slot 11 (by kernel_rfl)).trans s11
      refine step_yes rfl ?_
      exact ok_value Lat.refl (.pointer (some ⟨gs, 0, none⟩)) (by simp [execOp, Act.eval, e11, go_sem]) (TV.mk rfl)
    · obtain rfl := Option.some.inj hi
      clear hi hlt
      intro a w1 hL hS hD
      have d7 : a.tmps.getD 145 undef = .pointer (some ⟨gs, 0, none⟩) := hD ⟨7, .data⟩ (by simp) rfl _ rfl _ rfl
      refine step_yes rfl ?_
      have hc := hc0 w1 hL
      exact ok_value Lat.refl (.int .u32 (N xa)) (by simp [execOp, Act.eval, d7, hc, go_sem]) (TV.mk rfl)
    · obtain rfl := Option.some.inj hi
      clear hi hlt
      intro a w1 hL hS hD
      have d8 : a.tmps.getD 146 undef = .int .u32 (N xa) := hD ⟨8, .data⟩ (by simp) rfl _ rfl _ rfl
      refine step_yes rfl ?_
      refine ok_call (f := 35) (args := #[.int .u32 (N xa), .int .i64 22]) (by simp [execOp, resolve, Act.eval, d8, go_sem]) ?_
      refine (rot_22 xa w1).mono ?_
      rintro e w2 ⟨rfl, nd, rfl⟩
      exact ⟨_, rfl, below_drewN (Below.refl _ _) nd, TV.mk rfl⟩
    · obtain rfl := Option.some.inj hi
      clear hi hlt
      intro a w1 hL hS hD
      have d6 : a.tmps.getD 144 undef = .int .u32 (N ((rotr xa 2) ^^^ (rotr xa 13))) := hD ⟨6, .data⟩ (by simp) rfl _ rfl _ rfl
      have d9 : a.tmps.getD 147 undef = .int .u32 (N (rotr xa 22)) := hD ⟨9, .data⟩ (by simp) rfl _ rfl _ rfl
      refine step_yes rfl ?_
      exact ok_value Lat.refl (.int .u32 (N (((rotr xa 2) ^^^ (rotr xa 13)) ^^^ (rotr xa 22)))) (by simp [execOp, Act.eval, d6, d9, N_xor, go_sem]) (TV.mk rfl)
    · obtain rfl := Option.some.inj hi
      clear hi hlt
      intro a w1 hL hS hD
      have e11 : a.tmps.getD 11 undef = .pointer (some ⟨gs, 0, none⟩) := (hS.slot 11 (by kernel_rfl)).trans s11
      refine step_yes rfl ?_
      exact ok_value Lat.refl (.pointer (some ⟨gs, 0, none⟩)) (by simp [execOp, Act.eval, e11, go_sem]) (TV.mk rfl)
    · obtain rfl := Option.some.inj hi
      clear hi hlt
      intro a w1 hL hS hD
      have d11 : a.tmps.getD 149 undef = .pointer (some ⟨gs, 0, none⟩) := hD ⟨11, .data⟩ (by simp) rfl _ rfl _ rfl
      refine step_yes rfl ?_
      have hc := hc0 w1 hL
      exact ok_value Lat.refl (.int .u32 (N xa)) (by simp [execOp, Act.eval, d11, hc, go_sem]) (TV.mk rfl)
    · obtain rfl := Option.some.inj hi
      clear hi hlt
      intro a w1 hL hS hD
      have e11 : a.tmps.getD 11 undef = .pointer (some ⟨gs, 0, none⟩) := (hS.slot 11 (by kernel_rfl)).trans s11
      refine step_yes rfl ?_
      exact ok_value Lat.refl (.pointer (some ⟨gs, 1, none⟩)) (by simp [execOp, Act.eval, e11, go_sem]) (TV.mk rfl)
    · obtain rfl := Option.some.inj hi
      clear hi hlt
      intro a w1 hL hS hD
      have d13 : a.tmps.getD 151 undef = .pointer (some ⟨gs, 1, none⟩) := hD ⟨13, .data⟩ (by simp) rfl _ rfl _ rfl
      refine step_yes rfl ?_
      have hc := hc1 w1 hL
      exact ok_value Lat.refl (.int .u32 (N xb)) (by simp [execOp, Act.eval, d13, hc, go_sem]) (TV.mk rfl)
    · obtain rfl := Option.some.inj hi
      clear hi hlt
      intro a w1 hL hS hD
      have d12 : a.tmps.getD 150 undef = .int .u32 (N xa) := hD ⟨12, .data⟩ (by simp) rfl _ rfl _ rfl
      have d14 : a.tmps.getD 152 undef = .int .u32 (N xb) := hD ⟨14, .data⟩ (by simp) rfl _ rfl _ rfl
      refine step_yes rfl ?_
      exact ok_value Lat.refl (.int .u32 (N (xa &&& xb))) (by simp [execOp, Act.eval, d12, d14, N_and, go_sem]) (TV.mk rfl)
    · obtain rfl := Option.some.inj hi
      clear hi hlt
      intro a w1 hL hS hD
      have e11 : a.tmps.getD 11 undef = .pointer (some ⟨gs, 0, none⟩) := (hS.slot 11 (by kernel_rfl)).trans s11
      refine step_yes rfl ?_
      exact ok_value Lat.refl (.pointer (some ⟨gs, 0, none⟩)) (by simp [execOp, Act.eval, e11, go_sem]) (TV.mk rfl)
    · obtain rfl := Option.some.inj hi
      clear hi hlt
      intro a w1 hL hS hD
      have d16 : a.tmps.getD 154 undef = .pointer (some ⟨gs, 0, none⟩) := hD ⟨16, .data⟩ (by simp) rfl _ rfl _ rfl
      refine step_yes rfl ?_
      have hc := hc0 w1 hL
      exact ok_value Lat.refl (.int .u32 (N xa)) (by simp [execOp, Act.eval, d16, hc, go_sem]) (TV.mk rfl)
    · obtain rfl := Option.some.inj hi
      clear hi hlt
      intro a w1 hL hS hD
      have e11 : a.tmps.getD 11 undef = .pointer (some ⟨gs, 0, none⟩) := (hS.slot 11 (by kernel_rfl)).trans s11
      refine step_yes rfl ?_
      exact ok_value Lat.refl (.pointer (some ⟨gs, 2, none⟩)) (by simp [execOp, Act.eval, e11, go_sem]) (TV.mk rfl)
    · obtain rfl := Option.some.inj hi
      clear hi hlt
      intro a w1 hL hS hD
      have d18 : a.tmps.getD 156 undef = .pointer (some ⟨gs, 2, none⟩) := hD ⟨18, .data⟩ (by simp) rfl _ rfl _ rfl
      refine step_yes rfl ?_
      have hc := hc2 w1 hL
      exact ok_value Lat.refl (.int .u32 (N xc)) (by simp [execOp, Act.eval, d18, hc, go_sem]) (TV.mk rfl)
    · obtain rfl := Option.some.inj hi
      clear hi hlt
      intro a w1 hL hS hD
      have d17 : a.tmps.getD 155 undef = .int .u32 (N xa) := hD ⟨17, .data⟩ (by simp) rfl _ rfl _ rfl
      have d19 : a.tmps.getD 157 undef = .int .u32 (N xc) := hD ⟨19, .data⟩ (by simp) rfl _ rfl _ rfl
      refine step_yes rfl ?_
      exact ok_value Lat.refl (.int .u32 (N (xa &&& xc))) (by simp [execOp, Act.eval, d17, d19, N_and, go_sem]) (TV.mk rfl)
    · obtain rfl := Option.some.inj hi
      clear hi hlt
      intro a w1 hL hS hD
      have d15 : a.tmps.getD 153 undef = .int .u32 (N (xa &&& xb)) := hD ⟨15, .data⟩ (by simp) rfl _ rfl _ rfl
      have d20 : a.tmps.getD 158 undef = .int .u32 (N (xa &&& xc)) := hD ⟨20, .data⟩ (by simp) rfl _ rfl _ rfl
      refine step_yes rfl ?_
      exact ok_value Lat.refl (.int .u32 (N ((xa &&& xb) ^^^ (xa &&& xc)))) (by simp [execOp, Act.eval, d15, d20, N_xor, go_sem]) (TV.mk rfl)
    · obtain rfl := Option.some.inj hi
      clear hi hlt
      intro a w1 hL hS hD
      have e11 : a.tmps.getD 11 undef = .pointer (some ⟨gs, 0, none⟩) := (hS.slot 11 (by kernel_rfl)).trans s11
      refine step_yes rfl ?_
      exact ok_value Lat.refl (.pointer (some ⟨gs, 1, none⟩)) (by simp [execOp, Act.eval, e11, go_sem]) (TV.mk rfl)
    · obtain rfl := Option.some.inj hi
      clear hi hlt
      intro a w1 hL hS hD
      have d22 : a.tmps.getD 160 undef = .pointer (some ⟨gs, 1, none⟩) := hD ⟨22, .data⟩ (by simp) rfl _ rfl _ rfl
      refine step_yes rfl ?_
      have hc := hc1 w1 hL
      exact ok_value Lat.refl (.int .u32 (N xb)) (by simp [execOp, Act.eval, d22, hc, go_sem]) (TV.mk rfl)
    · obtain rfl := Option.some.inj hi
      clear hi hlt
      intro a w1 hL hS hD
      have e11 : a.tmps.getD 11 undef = .pointer (some ⟨gs, 0, none⟩) := (hS.slot 11 (by kernel_rfl)).trans s11
      refine step_yes rfl ?_
      exact ok_value Lat.refl (.pointer (some ⟨gs, 2, none⟩)) (by simp [execOp, Act.eval, e11, go_sem]) (TV.mk rfl)
    · obtain rfl := Option.some.inj hi
      clear hi hlt
      intro a w1 hL hS hD
      have d24 : a.tmps.getD 162 undef = .pointer (some ⟨gs, 2, none⟩) := hD ⟨24, .data⟩ (by simp) rfl _ rfl _ rfl
      refine step_yes rfl ?_
      have hc := hc2 w1 hL
      exact ok_value Lat.refl (.int .u32 (N xc)) (by simp [execOp, Act.eval, d24, hc, go_sem]) (TV.mk rfl)
    · obtain rfl := Option.some.inj hi
      clear hi hlt
      intro a w1 hL hS hD
      have d23 : a.tmps.getD 161 undef = .int .u32 (N xb) := hD ⟨23, .data⟩ (by simp) rfl _ rfl _ rfl
      have d25 : a.tmps.getD 163 undef = .int .u32 (N xc) := hD ⟨25, .data⟩ (by simp) rfl _ rfl _ rfl
      refine step_yes rfl ?_
      exact ok_value Lat.refl (.int .u32 (N (xb &&& xc))) (by simp [execOp, Act.eval, d23, d25, N_and, go_sem]) (TV.mk rfl)
    · obtain rfl := Option.some.inj hi
      clear hi hlt
      intro a w1 hL hS hD
      have d21 : a.tmps.getD 159 undef = .int .u32 (N ((xa &&& xb) ^^^ (xa &&& xc))) := hD ⟨21, .data⟩ (by simp) rfl _ rfl _ rfl
      have d26 : a.tmps.getD 164 undef = .int .u32 (N (xb &&& xc)) := hD ⟨26, .data⟩ (by simp) rfl _ rfl _ rfl
      refine step_yes rfl ?_
      exact ok_value Lat.refl (.int .u32 (N (((xa &&& xb) ^^^ (xa &&& xc)) ^^^ (xb &&& xc)))) (by simp [execOp, Act.eval, d21, d26, N_xor, go_sem]) (TV.mk rfl)
    · obtain rfl := Option.some.inj hi
      clear hi hlt
      intro a w1 hL hS hD
      have d10 : a.tmps.getD 148 undef = .int .u32 (N (((rotr xa 2) ^^^ (rotr xa 13)) ^^^ (rotr xa 22))) := hD ⟨10, .data⟩ (by simp) rfl _ rfl _ rfl
      have d27 : a.tmps.getD 165 undef = .int .u32 (N (((xa &&& xb) ^^^ (xa &&& xc)) ^^^ (xb &&& xc))) := hD ⟨27, .data⟩ (by simp) rfl _ rfl _ rfl
      refine step_yes rfl ?_
      exact ok_value Lat.refl (.int .u32 (N ((((rotr xa 2) ^^^ (rotr xa 13)) ^^^ (rotr xa 22)) + (((xa &&& xb) ^^^ (xa &&& xc)) ^^^ (xb &&& xc))))) (by simp [execOp, Act.eval, d10, d27, N_add, go_sem]) (TV.mk rfl)
    · obtain rfl := Option.some.inj hi
      clear hi hlt
      intro a w1 hL hS hD
      have d28 : a.tmps.getD 166 undef = .int .u32 (N ((((rotr xa 2) ^^^ (rotr xa 13)) ^^^ (rotr xa 22)) + (((xa &&& xb) ^^^ (xa &&& xc)) ^^^ (xb &&& xc)))) := hD ⟨28, .data⟩ (by simp) rfl _ rfl _ rfl
      refine step_yes rfl ?_
      exact ok_value Lat.refl (.int .u32 (N ((((rotr xa 2) ^^^ (rotr xa 13)) ^^^ (rotr xa 22)) + (((xa &&& xb) ^^^ (xa &&& xc)) ^^^ (xb &&& xc))))) (by simp [execOp, Act.eval, d28, go_sem]) (TV.mk rfl)

end Go.Proofs.Ytfieglepljmmkaa
