/-
  SeriesKeeps: may, a rule a case.
-/
import Derived.Test.YtlppibigceeimaaDoorSfF
import Derived.Test.YtlppibigceeimaaDoorAnyP
namespace Go.Proofs.YtlppibigceeimaaDoor
open Go.RowKit
set_option linter.unusedVariables false
set_option linter.unusedSimpArgs false

set_option maxRecDepth 100000 in
set_option maxHeartbeats 4000000 in
theorem may_no  (w : World) (a0 : Act) (Q : Exit → Act → World → Prop) (hsz : a0.tmps.size = 306)
    (s20 : a0.tmps.getD 20 undef = .bool false)
    (hQ : ∀ (v125 v126 v127 v128 v129 v130 v131 v132 v133 v134 v135 v136 v137 v138 v139 v140 v141 v142 v143 v144 v145 v146 v147 v148 v149 v150 v151 v152 v153 v154 v155 v156 v157 v158 v159 v160 v161 v162 v163 v164 v165 v166 : Value) (w1 : World), Lat w w1 → Q .normal (((((((((((((((((((((((((((((((((((((((((((a0.put (some 125) v125).put (some 126) v126).put (some 127) v127).put (some 128) v128).put (some 129) v129).put (some 130) v130).put (some 131) v131).put (some 132) v132).put (some 133) v133).put (some 134) v134).put (some 135) v135).put (some 136) v136).put (some 137) v137).put (some 138) v138).put (some 139) v139).put (some 140) v140).put (some 141) v141).put (some 142) v142).put (some 143) v143).put (some 144) v144).put (some 145) v145).put (some 146) v146).put (some 147) v147).put (some 148) v148).put (some 149) v149).put (some 150) v150).put (some 151) v151).put (some 152) v152).put (some 153) v153).put (some 154) v154).put (some 155) v155).put (some 156) v156).put (some 157) v157).put (some 158) v158).put (some 159) v159).put (some 160) v160).put (some 161) v161).put (some 162) v162).put (some 163) v163).put (some 164) v164).put (some 165) v165).put (some 166) v166).put (some 20) (.bool false)) w1) :
    Code.wp Tryd.prog ((Tryd.f3.body.bind (findRegion 25)).getD .skip) Q a0 w := by
  conv => arg 2; whnf
  refine wp_region_lastP 42 Lat (TV [.bool false, .bool false, undef, undef, undef, undef, undef, undef, undef, undef, undef, undef, undef, undef, undef, undef, undef, undef, undef, undef, undef, undef, undef, undef, undef, undef, undef, undef, undef, undef, undef, undef, undef, undef, undef, undef, undef, undef, undef, undef, undef, .bool false]) (by kernel_rfl) (by kernel_rfl) (by kernel_rfl) (by rw [hsz]; kernel_rfl) (by kernel_rfl) (by kernel_rfl) Lat.refl Lat.trans (TV.stable _) (Lat.draw w) ?hop ?hlast
  case hlast =>
    intro o a w1 ho hL hS hT
    obtain rfl := Option.some.inj ho
    have he := same_putsP hS
    have dl : a.tmps.getD 166 undef = .bool false := hT 41 _ (by omega) rfl _ rfl
    have hQ2 := hQ (a.tmps.getD 125 undef) (a.tmps.getD 126 undef) (a.tmps.getD 127 undef) (a.tmps.getD 128 undef) (a.tmps.getD 129 undef) (a.tmps.getD 130 undef) (a.tmps.getD 131 undef) (a.tmps.getD 132 undef) (a.tmps.getD 133 undef) (a.tmps.getD 134 undef) (a.tmps.getD 135 undef) (a.tmps.getD 136 undef) (a.tmps.getD 137 undef) (a.tmps.getD 138 undef) (a.tmps.getD 139 undef) (a.tmps.getD 140 undef) (a.tmps.getD 141 undef) (a.tmps.getD 142 undef) (a.tmps.getD 143 undef) (a.tmps.getD 144 undef) (a.tmps.getD 145 undef) (a.tmps.getD 146 undef) (a.tmps.getD 147 undef) (a.tmps.getD 148 undef) (a.tmps.getD 149 undef) (a.tmps.getD 150 undef) (a.tmps.getD 151 undef) (a.tmps.getD 152 undef) (a.tmps.getD 153 undef) (a.tmps.getD 154 undef) (a.tmps.getD 155 undef) (a.tmps.getD 156 undef) (a.tmps.getD 157 undef) (a.tmps.getD 158 undef) (a.tmps.getD 159 undef) (a.tmps.getD 160 undef) (a.tmps.getD 161 undef) (a.tmps.getD 162 undef) (a.tmps.getD 163 undef) (a.tmps.getD 164 undef) (a.tmps.getD 165 undef) (a.tmps.getD 166 undef) w1 hL
    refine wp_valr (.bool false) (w' := w1) (by simp only [Array.getD_eq_getD_getElem?] at dl; simp [execOp, Act.eval, dl, go_sem]) ?_
    show Q .normal (a.put (some 20) (.bool false)) w1
    rw [he]
    exact hQ2
  case hop =>
    intro i o hlt hi
    rcases (show i = 0 ∨ i = 1 ∨ i = 2 ∨ i = 3 ∨ i = 4 ∨ i = 5 ∨ i = 6 ∨ i = 7 ∨ i = 8 ∨ i = 9 ∨ i = 10 ∨ i = 11 ∨ i = 12 ∨ i = 13 ∨ i = 14 ∨ i = 15 ∨ i = 16 ∨ i = 17 ∨ i = 18 ∨ i = 19 ∨ i = 20 ∨ i = 21 ∨ i = 22 ∨ i = 23 ∨ i = 24 ∨ i = 25 ∨ i = 26 ∨ i = 27 ∨ i = 28 ∨ i = 29 ∨ i = 30 ∨ i = 31 ∨ i = 32 ∨ i = 33 ∨ i = 34 ∨ i = 35 ∨ i = 36 ∨ i = 37 ∨ i = 38 ∨ i = 39 ∨ i = 40 ∨ i = 41 by omega) with rfl | rfl | rfl | rfl | rfl | rfl | rfl | rfl | rfl | rfl | rfl | rfl | rfl | rfl | rfl | rfl | rfl | rfl | rfl | rfl | rfl | rfl | rfl | rfl | rfl | rfl | rfl | rfl | rfl | rfl | rfl | rfl | rfl | rfl | rfl | rfl | rfl | rfl | rfl | rfl | rfl | rfl
    · obtain rfl := Option.some.inj hi
      clear hi hlt
      intro a w1 hL hS hD
      have e20 : a.tmps.getD 20 undef = .bool false := (hS.slot 20 (by kernel_rfl)).trans s20
      refine step_yes rfl ?_
      exact ok_value Lat.refl (.bool false) (by simp [execOp, Act.eval, e20, go_sem]) (TV.mk rfl)
    · obtain rfl := Option.some.inj hi
      clear hi hlt
      intro a w1 hL hS hD
      have d0 : a.tmps.getD 125 undef = .bool false := hD ⟨0, .data⟩ (by simp) rfl _ rfl _ rfl
      refine step_yes rfl ?_
      exact ok_value Lat.refl (.bool false) (by simp [execOp, Act.eval, d0, go_sem]) (TV.mk rfl)
    · obtain rfl := Option.some.inj hi
      clear hi hlt
      intro a w1 hL hS hD
      have d1 : a.tmps.getD 126 undef = .bool false := hD ⟨1, .guard⟩ (by simp) rfl _ rfl _ rfl
      exact step_no (wanted_no rfl rfl rfl d1 rfl) (TV.mk rfl)
    · obtain rfl := Option.some.inj hi
      clear hi hlt
      intro a w1 hL hS hD
      have d1 : a.tmps.getD 126 undef = .bool false := hD ⟨1, .guard⟩ (by simp) rfl _ rfl _ rfl
      exact step_no (wanted_no rfl rfl rfl d1 rfl) (TV.mk rfl)
    · obtain rfl := Option.some.inj hi
      clear hi hlt
      intro a w1 hL hS hD
      have d1 : a.tmps.getD 126 undef = .bool false := hD ⟨1, .guard⟩ (by simp) rfl _ rfl _ rfl
      exact step_no (wanted_no rfl rfl rfl d1 rfl) (TV.mk rfl)
    · obtain rfl := Option.some.inj hi
      clear hi hlt
      intro a w1 hL hS hD
      have d4 : a.tmps.getD 129 undef = undef := hD ⟨4, .guard⟩ (by simp) rfl _ rfl _ rfl
      exact step_no (wanted_undef rfl rfl rfl d4) (TV.mk rfl)
    · obtain rfl := Option.some.inj hi
      clear hi hlt
      intro a w1 hL hS hD
      have d4 : a.tmps.getD 129 undef = undef := hD ⟨4, .guard⟩ (by simp) rfl _ rfl _ rfl
      exact step_no (wanted_undef rfl rfl rfl d4) (TV.mk rfl)
    · obtain rfl := Option.some.inj hi
      clear hi hlt
      intro a w1 hL hS hD
      have d4 : a.tmps.getD 129 undef = undef := hD ⟨4, .guard⟩ (by simp) rfl _ rfl _ rfl
      exact step_no (wanted_undef rfl rfl rfl d4) (TV.mk rfl)
    · obtain rfl := Option.some.inj hi
      clear hi hlt
      intro a w1 hL hS hD
      have d4 : a.tmps.getD 129 undef = undef := hD ⟨4, .guard⟩ (by simp) rfl _ rfl _ rfl
      exact step_no (wanted_undef rfl rfl rfl d4) (TV.mk rfl)
    · obtain rfl := Option.some.inj hi
      clear hi hlt
      intro a w1 hL hS hD
      have d8 : a.tmps.getD 133 undef = undef := hD ⟨8, .guard⟩ (by simp) rfl _ rfl _ rfl
      exact step_no (wanted_undef rfl rfl rfl d8) (TV.mk rfl)
    · obtain rfl := Option.some.inj hi
      clear hi hlt
      intro a w1 hL hS hD
      have d8 : a.tmps.getD 133 undef = undef := hD ⟨8, .guard⟩ (by simp) rfl _ rfl _ rfl
      exact step_no (wanted_undef rfl rfl rfl d8) (TV.mk rfl)
    · obtain rfl := Option.some.inj hi
      clear hi hlt
      intro a w1 hL hS hD
      have d8 : a.tmps.getD 133 undef = undef := hD ⟨8, .guard⟩ (by simp) rfl _ rfl _ rfl
      exact step_no (wanted_undef rfl rfl rfl d8) (TV.mk rfl)
    · obtain rfl := Option.some.inj hi
      clear hi hlt
      intro a w1 hL hS hD
      have d8 : a.tmps.getD 133 undef = undef := hD ⟨8, .guard⟩ (by simp) rfl _ rfl _ rfl
      exact step_no (wanted_undef rfl rfl rfl d8) (TV.mk rfl)
    · obtain rfl := Option.some.inj hi
      clear hi hlt
      intro a w1 hL hS hD
      have d8 : a.tmps.getD 133 undef = undef := hD ⟨8, .guard⟩ (by simp) rfl _ rfl _ rfl
      exact step_no (wanted_undef rfl rfl rfl d8) (TV.mk rfl)
    · obtain rfl := Option.some.inj hi
      clear hi hlt
      intro a w1 hL hS hD
      have d8 : a.tmps.getD 133 undef = undef := hD ⟨8, .guard⟩ (by simp) rfl _ rfl _ rfl
      exact step_no (wanted_undef rfl rfl rfl d8) (TV.mk rfl)
    · obtain rfl := Option.some.inj hi
      clear hi hlt
      intro a w1 hL hS hD
      have d8 : a.tmps.getD 133 undef = undef := hD ⟨8, .guard⟩ (by simp) rfl _ rfl _ rfl
      exact step_no (wanted_undef rfl rfl rfl d8) (TV.mk rfl)
    · obtain rfl := Option.some.inj hi
      clear hi hlt
      intro a w1 hL hS hD
      have d8 : a.tmps.getD 133 undef = undef := hD ⟨8, .guard⟩ (by simp) rfl _ rfl _ rfl
      exact step_no (wanted_undef rfl rfl rfl d8) (TV.mk rfl)
    · obtain rfl := Option.some.inj hi
      clear hi hlt
      intro a w1 hL hS hD
      have d8 : a.tmps.getD 133 undef = undef := hD ⟨8, .guard⟩ (by simp) rfl _ rfl _ rfl
      exact step_no (wanted_undef rfl rfl rfl d8) (TV.mk rfl)
    · obtain rfl := Option.some.inj hi
      clear hi hlt
      intro a w1 hL hS hD
      have d8 : a.tmps.getD 133 undef = undef := hD ⟨8, .guard⟩ (by simp) rfl _ rfl _ rfl
      exact step_no (wanted_undef rfl rfl rfl d8) (TV.mk rfl)
    · obtain rfl := Option.some.inj hi
      clear hi hlt
      intro a w1 hL hS hD
      have d8 : a.tmps.getD 133 undef = undef := hD ⟨8, .guard⟩ (by simp) rfl _ rfl _ rfl
      exact step_no (wanted_undef rfl rfl rfl d8) (TV.mk rfl)
    · obtain rfl := Option.some.inj hi
      clear hi hlt
      intro a w1 hL hS hD
      have d8 : a.tmps.getD 133 undef = undef := hD ⟨8, .guard⟩ (by simp) rfl _ rfl _ rfl
      exact step_no (wanted_undef rfl rfl rfl d8) (TV.mk rfl)
    · obtain rfl := Option.some.inj hi
      clear hi hlt
      intro a w1 hL hS hD
      have d4 : a.tmps.getD 129 undef = undef := hD ⟨4, .guard⟩ (by simp) rfl _ rfl _ rfl
      exact step_no (wanted_undef rfl rfl rfl d4) (TV.mk rfl)
    · obtain rfl := Option.some.inj hi
      clear hi hlt
      intro a w1 hL hS hD
      have d1 : a.tmps.getD 126 undef = .bool false := hD ⟨1, .guard⟩ (by simp) rfl _ rfl _ rfl
      exact step_no (wanted_no rfl rfl rfl d1 rfl) (TV.mk rfl)
    · obtain rfl := Option.some.inj hi
      clear hi hlt
      intro a w1 hL hS hD
      have d1 : a.tmps.getD 126 undef = .bool false := hD ⟨1, .guard⟩ (by simp) rfl _ rfl _ rfl
      exact step_no (wanted_no rfl rfl rfl d1 rfl) (TV.mk rfl)
    · obtain rfl := Option.some.inj hi
      clear hi hlt
      intro a w1 hL hS hD
      have d23 : a.tmps.getD 148 undef = undef := hD ⟨23, .guard⟩ (by simp) rfl _ rfl _ rfl
      exact step_no (wanted_undef rfl rfl rfl d23) (TV.mk rfl)
    · obtain rfl := Option.some.inj hi
      clear hi hlt
      intro a w1 hL hS hD
      have d23 : a.tmps.getD 148 undef = undef := hD ⟨23, .guard⟩ (by simp) rfl _ rfl _ rfl
      exact step_no (wanted_undef rfl rfl rfl d23) (TV.mk rfl)
    · obtain rfl := Option.some.inj hi
      clear hi hlt
      intro a w1 hL hS hD
      have d23 : a.tmps.getD 148 undef = undef := hD ⟨23, .guard⟩ (by simp) rfl _ rfl _ rfl
      exact step_no (wanted_undef rfl rfl rfl d23) (TV.mk rfl)
    · obtain rfl := Option.some.inj hi
      clear hi hlt
      intro a w1 hL hS hD
      have d26 : a.tmps.getD 151 undef = undef := hD ⟨26, .guard⟩ (by simp) rfl _ rfl _ rfl
      exact step_no (wanted_undef rfl rfl rfl d26) (TV.mk rfl)
    · obtain rfl := Option.some.inj hi
      clear hi hlt
      intro a w1 hL hS hD
      have d26 : a.tmps.getD 151 undef = undef := hD ⟨26, .guard⟩ (by simp) rfl _ rfl _ rfl
      exact step_no (wanted_undef rfl rfl rfl d26) (TV.mk rfl)
    · obtain rfl := Option.some.inj hi
      clear hi hlt
      intro a w1 hL hS hD
      have d26 : a.tmps.getD 151 undef = undef := hD ⟨26, .guard⟩ (by simp) rfl _ rfl _ rfl
      exact step_no (wanted_undef rfl rfl rfl d26) (TV.mk rfl)
    · obtain rfl := Option.some.inj hi
      clear hi hlt
      intro a w1 hL hS hD
      have d26 : a.tmps.getD 151 undef = undef := hD ⟨26, .guard⟩ (by simp) rfl _ rfl _ rfl
      exact step_no (wanted_undef rfl rfl rfl d26) (TV.mk rfl)
    · obtain rfl := Option.some.inj hi
      clear hi hlt
      intro a w1 hL hS hD
      have d26 : a.tmps.getD 151 undef = undef := hD ⟨26, .guard⟩ (by simp) rfl _ rfl _ rfl
      exact step_no (wanted_undef rfl rfl rfl d26) (TV.mk rfl)
    · obtain rfl := Option.some.inj hi
      clear hi hlt
      intro a w1 hL hS hD
      have d26 : a.tmps.getD 151 undef = undef := hD ⟨26, .guard⟩ (by simp) rfl _ rfl _ rfl
      exact step_no (wanted_undef rfl rfl rfl d26) (TV.mk rfl)
    · obtain rfl := Option.some.inj hi
      clear hi hlt
      intro a w1 hL hS hD
      have d26 : a.tmps.getD 151 undef = undef := hD ⟨26, .guard⟩ (by simp) rfl _ rfl _ rfl
      exact step_no (wanted_undef rfl rfl rfl d26) (TV.mk rfl)
    · obtain rfl := Option.some.inj hi
      clear hi hlt
      intro a w1 hL hS hD
      have d26 : a.tmps.getD 151 undef = undef := hD ⟨26, .guard⟩ (by simp) rfl _ rfl _ rfl
      exact step_no (wanted_undef rfl rfl rfl d26) (TV.mk rfl)
    · obtain rfl := Option.some.inj hi
      clear hi hlt
      intro a w1 hL hS hD
      have d26 : a.tmps.getD 151 undef = undef := hD ⟨26, .guard⟩ (by simp) rfl _ rfl _ rfl
      exact step_no (wanted_undef rfl rfl rfl d26) (TV.mk rfl)
    · obtain rfl := Option.some.inj hi
      clear hi hlt
      intro a w1 hL hS hD
      have d26 : a.tmps.getD 151 undef = undef := hD ⟨26, .guard⟩ (by simp) rfl _ rfl _ rfl
      exact step_no (wanted_undef rfl rfl rfl d26) (TV.mk rfl)
    · obtain rfl := Option.some.inj hi
      clear hi hlt
      intro a w1 hL hS hD
      have d26 : a.tmps.getD 151 undef = undef := hD ⟨26, .guard⟩ (by simp) rfl _ rfl _ rfl
      exact step_no (wanted_undef rfl rfl rfl d26) (TV.mk rfl)
    · obtain rfl := Option.some.inj hi
      clear hi hlt
      intro a w1 hL hS hD
      have d26 : a.tmps.getD 151 undef = undef := hD ⟨26, .guard⟩ (by simp) rfl _ rfl _ rfl
      exact step_no (wanted_undef rfl rfl rfl d26) (TV.mk rfl)
    · obtain rfl := Option.some.inj hi
      clear hi hlt
      intro a w1 hL hS hD
      have d23 : a.tmps.getD 148 undef = undef := hD ⟨23, .guard⟩ (by simp) rfl _ rfl _ rfl
      exact step_no (wanted_undef rfl rfl rfl d23) (TV.mk rfl)
    · obtain rfl := Option.some.inj hi
      clear hi hlt
      intro a w1 hL hS hD
      have d1 : a.tmps.getD 126 undef = .bool false := hD ⟨1, .guard⟩ (by simp) rfl _ rfl _ rfl
      exact step_no (wanted_no rfl rfl rfl d1 rfl) (TV.mk rfl)
    · obtain rfl := Option.some.inj hi
      clear hi hlt
      intro a w1 hL hS hD
      have d1 : a.tmps.getD 126 undef = .bool false := hD ⟨1, .data⟩ (by simp) rfl _ rfl _ rfl
      have d40 : a.tmps.getD 165 undef = undef := hD ⟨40, .data⟩ (by simp) rfl _ rfl _ rfl
      refine step_yes rfl ?_
      exact ok_value Lat.refl (.bool false) (by simp [execOp, Act.eval, d1, d40, go_sem]) (TV.mk rfl)

set_option maxRecDepth 100000 in
set_option maxHeartbeats 4000000 in
theorem may_first (ad : Option Addr) (c : Nat) (w : World) (a0 : Act) (Q : Exit → Act → World → Prop) (hsz : a0.tmps.size = 306)
    (s20 : a0.tmps.getD 20 undef = .bool true)
    (s21 : a0.tmps.getD 21 undef = .int .i64 0)
    (s15 : a0.tmps.getD 15 undef = .slice ad 0 c)
    (hQ : ∀ (v125 v126 v127 v128 v129 v130 v131 v132 v133 v134 v135 v136 v137 v138 v139 v140 v141 v142 v143 v144 v145 v146 v147 v148 v149 v150 v151 v152 v153 v154 v155 v156 v157 v158 v159 v160 v161 v162 v163 v164 v165 v166 : Value) (w1 : World), Lat w w1 → Q .normal (((((((((((((((((((((((((((((((((((((((((((a0.put (some 125) v125).put (some 126) v126).put (some 127) v127).put (some 128) v128).put (some 129) v129).put (some 130) v130).put (some 131) v131).put (some 132) v132).put (some 133) v133).put (some 134) v134).put (some 135) v135).put (some 136) v136).put (some 137) v137).put (some 138) v138).put (some 139) v139).put (some 140) v140).put (some 141) v141).put (some 142) v142).put (some 143) v143).put (some 144) v144).put (some 145) v145).put (some 146) v146).put (some 147) v147).put (some 148) v148).put (some 149) v149).put (some 150) v150).put (some 151) v151).put (some 152) v152).put (some 153) v153).put (some 154) v154).put (some 155) v155).put (some 156) v156).put (some 157) v157).put (some 158) v158).put (some 159) v159).put (some 160) v160).put (some 161) v161).put (some 162) v162).put (some 163) v163).put (some 164) v164).put (some 165) v165).put (some 166) v166).put (some 20) (.bool true)) w1) :
    Code.wp Tryd.prog ((Tryd.f3.body.bind (findRegion 25)).getD .skip) Q a0 w := by
  conv => arg 2; whnf
  refine wp_region_lastP 42 Lat (TV [.bool true, .bool true, .int .i64 0, .bool true, .bool true, .slice ad 0 c, .int .i64 0, .bool true, .bool true, undef, undef, undef, undef, undef, undef, undef, undef, undef, undef, undef, undef, .bool true, .bool true, .bool true, undef, undef, undef, undef, undef, undef, undef, undef, undef, undef, undef, undef, undef, undef, undef, undef, .bool true, .bool true]) (by kernel_rfl) (by kernel_rfl) (by kernel_rfl) (by rw [hsz]; kernel_rfl) (by kernel_rfl) (by kernel_rfl) Lat.refl Lat.trans (TV.stable _) (Lat.draw w) ?hop ?hlast
  case hlast =>
    intro o a w1 ho hL hS hT
    obtain rfl := Option.some.inj ho
    have he := same_putsP hS
    have dl : a.tmps.getD 166 undef = .bool true := hT 41 _ (by omega) rfl _ rfl
    have hQ2 := hQ (a.tmps.getD 125 undef) (a.tmps.getD 126 undef) (a.tmps.getD 127 undef) (a.tmps.getD 128 undef) (a.tmps.getD 129 undef) (a.tmps.getD 130 undef) (a.tmps.getD 131 undef) (a.tmps.getD 132 undef) (a.tmps.getD 133 undef) (a.tmps.getD 134 undef) (a.tmps.getD 135 undef) (a.tmps.getD 136 undef) (a.tmps.getD 137 undef) (a.tmps.getD 138 undef) (a.tmps.getD 139 undef) (a.tmps.getD 140 undef) (a.tmps.getD 141 undef) (a.tmps.getD 142 undef) (a.tmps.getD 143 undef) (a.tmps.getD 144 undef) (a.tmps.getD 145 undef) (a.tmps.getD 146 undef) (a.tmps.getD 147 undef) (a.tmps.getD 148 undef) (a.tmps.getD 149 undef) (a.tmps.getD 150 undef) (a.tmps.getD 151 undef) (a.tmps.getD 152 undef) (a.tmps.getD 153 undef) (a.tmps.getD 154 undef) (a.tmps.getD 155 undef) (a.tmps.getD 156 undef) (a.tmps.getD 157 undef) (a.tmps.getD 158 undef) (a.tmps.getD 159 undef) (a.tmps.getD 160 undef) (a.tmps.getD 161 undef) (a.tmps.getD 162 undef) (a.tmps.getD 163 undef) (a.tmps.getD 164 undef) (a.tmps.getD 165 undef) (a.tmps.getD 166 undef) w1 hL
    refine wp_valr (.bool true) (w' := w1) (by simp only [Array.getD_eq_getD_getElem?] at dl; simp [execOp, Act.eval, dl, go_sem]) ?_
    show Q .normal (a.put (some 20) (.bool true)) w1
    rw [he]
    exact hQ2
  case hop =>
    intro i o hlt hi
    rcases (show i = 0 ∨ i = 1 ∨ i = 2 ∨ i = 3 ∨ i = 4 ∨ i = 5 ∨ i = 6 ∨ i = 7 ∨ i = 8 ∨ i = 9 ∨ i = 10 ∨ i = 11 ∨ i = 12 ∨ i = 13 ∨ i = 14 ∨ i = 15 ∨ i = 16 ∨ i = 17 ∨ i = 18 ∨ i = 19 ∨ i = 20 ∨ i = 21 ∨ i = 22 ∨ i = 23 ∨ i = 24 ∨ i = 25 ∨ i = 26 ∨ i = 27 ∨ i = 28 ∨ i = 29 ∨ i = 30 ∨ i = 31 ∨ i = 32 ∨ i = 33 ∨ i = 34 ∨ i = 35 ∨ i = 36 ∨ i = 37 ∨ i = 38 ∨ i = 39 ∨ i = 40 ∨ i = 41 by omega) with rfl | rfl | rfl | rfl | rfl | rfl | rfl | rfl | rfl | rfl | rfl | rfl | rfl | rfl | rfl | rfl | rfl | rfl | rfl | rfl | rfl | rfl | rfl | rfl | rfl | rfl | rfl | rfl | rfl | rfl | rfl | rfl | rfl | rfl | rfl | rfl | rfl | rfl | rfl | rfl | rfl | rfl
    · obtain rfl := Option.some.inj hi
      clear hi hlt
      intro a w1 hL hS hD
      have e20 : a.tmps.getD 20 undef = .bool true := (hS.slot 20 (by kernel_rfl)).trans s20
      refine step_yes rfl ?_
      exact ok_value Lat.refl (.bool true) (by simp [execOp, Act.eval, e20, go_sem]) (TV.mk rfl)
    · obtain rfl := Option.some.inj hi
      clear hi hlt
      intro a w1 hL hS hD
      have d0 : a.tmps.getD 125 undef = .bool true := hD ⟨0, .data⟩ (by simp) rfl _ rfl _ rfl
      refine step_yes rfl ?_
      exact ok_value Lat.refl (.bool true) (by simp [execOp, Act.eval, d0, go_sem]) (TV.mk rfl)
    · obtain rfl := Option.some.inj hi
      clear hi hlt
      intro a w1 hL hS hD
      have d1 : a.tmps.getD 126 undef = .bool true := hD ⟨1, .guard⟩ (by simp) rfl _ rfl _ rfl
      have e21 : a.tmps.getD 21 undef = .int .i64 0 := (hS.slot 21 (by kernel_rfl)).trans s21
      refine step_yes (wanted_yes rfl rfl rfl d1) ?_
      exact ok_value Lat.refl (.int .i64 0) (by simp [execOp, Act.eval, e21, go_sem]) (TV.mk rfl)
    · obtain rfl := Option.some.inj hi
      clear hi hlt
      intro a w1 hL hS hD
      have d1 : a.tmps.getD 126 undef = .bool true := hD ⟨1, .guard⟩ (by simp) rfl _ rfl _ rfl
      have d2 : a.tmps.getD 127 undef = .int .i64 0 := hD ⟨2, .data⟩ (by simp) rfl _ rfl _ rfl
      refine step_yes (wanted_yes rfl rfl rfl d1) ?_
      exact ok_value Lat.refl (.bool true) (by simp [execOp, Act.eval, d2, go_sem]) (TV.mk rfl)
    · obtain rfl := Option.some.inj hi
      clear hi hlt
      intro a w1 hL hS hD
      have d1 : a.tmps.getD 126 undef = .bool true := hD ⟨1, .guard⟩ (by simp) rfl _ rfl _ rfl
      have d3 : a.tmps.getD 128 undef = .bool true := hD ⟨3, .data⟩ (by simp) rfl _ rfl _ rfl
      refine step_yes (wanted_yes rfl rfl rfl d1) ?_
      exact ok_value Lat.refl (.bool true) (by simp [execOp, Act.eval, d3, go_sem]) (TV.mk rfl)
    · obtain rfl := Option.some.inj hi
      clear hi hlt
      intro a w1 hL hS hD
      have d4 : a.tmps.getD 129 undef = .bool true := hD ⟨4, .guard⟩ (by simp) rfl _ rfl _ rfl
      have e15 : a.tmps.getD 15 undef = .slice ad 0 c := (hS.slot 15 (by kernel_rfl)).trans s15
      refine step_yes (wanted_yes rfl rfl rfl d4) ?_
      exact ok_value Lat.refl (.slice ad 0 c) (by simp [execOp, Act.eval, e15, go_sem]) (TV.mk rfl)
    · obtain rfl := Option.some.inj hi
      clear hi hlt
      intro a w1 hL hS hD
      have d4 : a.tmps.getD 129 undef = .bool true := hD ⟨4, .guard⟩ (by simp) rfl _ rfl _ rfl
      have d5 : a.tmps.getD 130 undef = .slice ad 0 c := hD ⟨5, .data⟩ (by simp) rfl _ rfl _ rfl
      refine step_yes (wanted_yes rfl rfl rfl d4) ?_
      exact ok_value Lat.refl (.int .i64 0) (by simp [execOp, Act.eval, d5, resolve, invoke, builtin, go_sem]) (TV.mk rfl)
    · obtain rfl := Option.some.inj hi
      clear hi hlt
      intro a w1 hL hS hD
      have d4 : a.tmps.getD 129 undef = .bool true := hD ⟨4, .guard⟩ (by simp) rfl _ rfl _ rfl
      have d6 : a.tmps.getD 131 undef = .int .i64 0 := hD ⟨6, .data⟩ (by simp) rfl _ rfl _ rfl
      refine step_yes (wanted_yes rfl rfl rfl d4) ?_
      exact ok_value Lat.refl (.bool true) (by simp [execOp, Act.eval, d6, go_sem]) (TV.mk rfl)
    · obtain rfl := Option.some.inj hi
      clear hi hlt
      intro a w1 hL hS hD
      have d4 : a.tmps.getD 129 undef = .bool true := hD ⟨4, .guard⟩ (by simp) rfl _ rfl _ rfl
      have d7 : a.tmps.getD 132 undef = .bool true := hD ⟨7, .data⟩ (by simp) rfl _ rfl _ rfl
      refine step_yes (wanted_yes rfl rfl rfl d4) ?_
      exact ok_value Lat.refl (.bool true) (by simp [execOp, Act.eval, d7, go_sem]) (TV.mk rfl)
    · obtain rfl := Option.some.inj hi
      clear hi hlt
      intro a w1 hL hS hD
      have d8 : a.tmps.getD 133 undef = .bool true := hD ⟨8, .guard⟩ (by simp) rfl _ rfl _ rfl
      exact step_no (wanted_no rfl rfl rfl d8 rfl) (TV.mk rfl)
    · obtain rfl := Option.some.inj hi
      clear hi hlt
      intro a w1 hL hS hD
      have d8 : a.tmps.getD 133 undef = .bool true := hD ⟨8, .guard⟩ (by simp) rfl _ rfl _ rfl
      exact step_no (wanted_no rfl rfl rfl d8 rfl) (TV.mk rfl)
    · obtain rfl := Option.some.inj hi
      clear hi hlt
      intro a w1 hL hS hD
      have d8 : a.tmps.getD 133 undef = .bool true := hD ⟨8, .guard⟩ (by simp) rfl _ rfl _ rfl
      exact step_no (wanted_no rfl rfl rfl d8 rfl) (TV.mk rfl)
    · obtain rfl := Option.some.inj hi
      clear hi hlt
      intro a w1 hL hS hD
      have d8 : a.tmps.getD 133 undef = .bool true := hD ⟨8, .guard⟩ (by simp) rfl _ rfl _ rfl
      exact step_no (wanted_no rfl rfl rfl d8 rfl) (TV.mk rfl)
    · obtain rfl := Option.some.inj hi
      clear hi hlt
      intro a w1 hL hS hD
      have d8 : a.tmps.getD 133 undef = .bool true := hD ⟨8, .guard⟩ (by simp) rfl _ rfl _ rfl
      exact step_no (wanted_no rfl rfl rfl d8 rfl) (TV.mk rfl)
    · obtain rfl := Option.some.inj hi
      clear hi hlt
      intro a w1 hL hS hD
      have d8 : a.tmps.getD 133 undef = .bool true := hD ⟨8, .guard⟩ (by simp) rfl _ rfl _ rfl
      exact step_no (wanted_no rfl rfl rfl d8 rfl) (TV.mk rfl)
    · obtain rfl := Option.some.inj hi
      clear hi hlt
      intro a w1 hL hS hD
      have d8 : a.tmps.getD 133 undef = .bool true := hD ⟨8, .guard⟩ (by simp) rfl _ rfl _ rfl
      exact step_no (wanted_no rfl rfl rfl d8 rfl) (TV.mk rfl)
    · obtain rfl := Option.some.inj hi
      clear hi hlt
      intro a w1 hL hS hD
      have d8 : a.tmps.getD 133 undef = .bool true := hD ⟨8, .guard⟩ (by simp) rfl _ rfl _ rfl
      exact step_no (wanted_no rfl rfl rfl d8 rfl) (TV.mk rfl)
    · obtain rfl := Option.some.inj hi
      clear hi hlt
      intro a w1 hL hS hD
      have d8 : a.tmps.getD 133 undef = .bool true := hD ⟨8, .guard⟩ (by simp) rfl _ rfl _ rfl
      exact step_no (wanted_no rfl rfl rfl d8 rfl) (TV.mk rfl)
    · obtain rfl := Option.some.inj hi
      clear hi hlt
      intro a w1 hL hS hD
      have d8 : a.tmps.getD 133 undef = .bool true := hD ⟨8, .guard⟩ (by simp) rfl _ rfl _ rfl
      exact step_no (wanted_no rfl rfl rfl d8 rfl) (TV.mk rfl)
    · obtain rfl := Option.some.inj hi
      clear hi hlt
      intro a w1 hL hS hD
      have d8 : a.tmps.getD 133 undef = .bool true := hD ⟨8, .guard⟩ (by simp) rfl _ rfl _ rfl
      exact step_no (wanted_no rfl rfl rfl d8 rfl) (TV.mk rfl)
    · obtain rfl := Option.some.inj hi
      clear hi hlt
      intro a w1 hL hS hD
      have d8 : a.tmps.getD 133 undef = .bool true := hD ⟨8, .guard⟩ (by simp) rfl _ rfl _ rfl
      exact step_no (wanted_no rfl rfl rfl d8 rfl) (TV.mk rfl)
    · obtain rfl := Option.some.inj hi
      clear hi hlt
      intro a w1 hL hS hD
      have d4 : a.tmps.getD 129 undef = .bool true := hD ⟨4, .guard⟩ (by simp) rfl _ rfl _ rfl
      have d8 : a.tmps.getD 133 undef = .bool true := hD ⟨8, .data⟩ (by simp) rfl _ rfl _ rfl
      have d20 : a.tmps.getD 145 undef = undef := hD ⟨20, .data⟩ (by simp) rfl _ rfl _ rfl
      refine step_yes (wanted_yes rfl rfl rfl d4) ?_
      exact ok_value Lat.refl (.bool true) (by simp [execOp, Act.eval, d8, d20, go_sem]) (TV.mk rfl)
    · obtain rfl := Option.some.inj hi
      clear hi hlt
      intro a w1 hL hS hD
      have d1 : a.tmps.getD 126 undef = .bool true := hD ⟨1, .guard⟩ (by simp) rfl _ rfl _ rfl
      have d4 : a.tmps.getD 129 undef = .bool true := hD ⟨4, .data⟩ (by simp) rfl _ rfl _ rfl
      have d21 : a.tmps.getD 146 undef = .bool true := hD ⟨21, .data⟩ (by simp) rfl _ rfl _ rfl
      refine step_yes (wanted_yes rfl rfl rfl d1) ?_
      exact ok_value Lat.refl (.bool true) (by simp [execOp, Act.eval, d4, d21, go_sem]) (TV.mk rfl)
    · obtain rfl := Option.some.inj hi
      clear hi hlt
      intro a w1 hL hS hD
      have d1 : a.tmps.getD 126 undef = .bool true := hD ⟨1, .guard⟩ (by simp) rfl _ rfl _ rfl
      have d22 : a.tmps.getD 147 undef = .bool true := hD ⟨22, .data⟩ (by simp) rfl _ rfl _ rfl
      refine step_yes (wanted_yes rfl rfl rfl d1) ?_
      exact ok_value Lat.refl (.bool true) (by simp [execOp, Act.eval, d22, go_sem]) (TV.mk rfl)
    · obtain rfl := Option.some.inj hi
      clear hi hlt
      intro a w1 hL hS hD
      have d23 : a.tmps.getD 148 undef = .bool true := hD ⟨23, .guard⟩ (by simp) rfl _ rfl _ rfl
      exact step_no (wanted_no rfl rfl rfl d23 rfl) (TV.mk rfl)
    · obtain rfl := Option.some.inj hi
      clear hi hlt
      intro a w1 hL hS hD
      have d23 : a.tmps.getD 148 undef = .bool true := hD ⟨23, .guard⟩ (by simp) rfl _ rfl _ rfl
      exact step_no (wanted_no rfl rfl rfl d23 rfl) (TV.mk rfl)
    · obtain rfl := Option.some.inj hi
      clear hi hlt
      intro a w1 hL hS hD
      have d23 : a.tmps.getD 148 undef = .bool true := hD ⟨23, .guard⟩ (by simp) rfl _ rfl _ rfl
      exact step_no (wanted_no rfl rfl rfl d23 rfl) (TV.mk rfl)
    · obtain rfl := Option.some.inj hi
      clear hi hlt
      intro a w1 hL hS hD
      have d26 : a.tmps.getD 151 undef = undef := hD ⟨26, .guard⟩ (by simp) rfl _ rfl _ rfl
      exact step_no (wanted_undef rfl rfl rfl d26) (TV.mk rfl)
    · obtain rfl := Option.some.inj hi
      clear hi hlt
      intro a w1 hL hS hD
      have d26 : a.tmps.getD 151 undef = undef := hD ⟨26, .guard⟩ (by simp) rfl _ rfl _ rfl
      exact step_no (wanted_undef rfl rfl rfl d26) (TV.mk rfl)
    · obtain rfl := Option.some.inj hi
      clear hi hlt
      intro a w1 hL hS hD
      have d26 : a.tmps.getD 151 undef = undef := hD ⟨26, .guard⟩ (by simp) rfl _ rfl _ rfl
      exact step_no (wanted_undef rfl rfl rfl d26) (TV.mk rfl)
    · obtain rfl := Option.some.inj hi
      clear hi hlt
      intro a w1 hL hS hD
      have d26 : a.tmps.getD 151 undef = undef := hD ⟨26, .guard⟩ (by simp) rfl _ rfl _ rfl
      exact step_no (wanted_undef rfl rfl rfl d26) (TV.mk rfl)
    · obtain rfl := Option.some.inj hi
      clear hi hlt
      intro a w1 hL hS hD
      have d26 : a.tmps.getD 151 undef = undef := hD ⟨26, .guard⟩ (by simp) rfl _ rfl _ rfl
      exact step_no (wanted_undef rfl rfl rfl d26) (TV.mk rfl)
    · obtain rfl := Option.some.inj hi
      clear hi hlt
      intro a w1 hL hS hD
      have d26 : a.tmps.getD 151 undef = undef := hD ⟨26, .guard⟩ (by simp) rfl _ rfl _ rfl
      exact step_no (wanted_undef rfl rfl rfl d26) (TV.mk rfl)
    · obtain rfl := Option.some.inj hi
      clear hi hlt
      intro a w1 hL hS hD
      have d26 : a.tmps.getD 151 undef = undef := hD ⟨26, .guard⟩ (by simp) rfl _ rfl _ rfl
      exact step_no (wanted_undef rfl rfl rfl d26) (TV.mk rfl)
    · obtain rfl := Option.some.inj hi
      clear hi hlt
      intro a w1 hL hS hD
      have d26 : a.tmps.getD 151 undef = undef := hD ⟨26, .guard⟩ (by simp) rfl _ rfl _ rfl
      exact step_no (wanted_undef rfl rfl rfl d26) (TV.mk rfl)
    · obtain rfl := Option.some.inj hi
      clear hi hlt
      intro a w1 hL hS hD
      have d26 : a.tmps.getD 151 undef = undef := hD ⟨26, .guard⟩ (by simp) rfl _ rfl _ rfl
      exact step_no (wanted_undef rfl rfl rfl d26) (TV.mk rfl)
    · obtain rfl := Option.some.inj hi
      clear hi hlt
      intro a w1 hL hS hD
      have d26 : a.tmps.getD 151 undef = undef := hD ⟨26, .guard⟩ (by simp) rfl _ rfl _ rfl
      exact step_no (wanted_undef rfl rfl rfl d26) (TV.mk rfl)
    · obtain rfl := Option.some.inj hi
      clear hi hlt
      intro a w1 hL hS hD
      have d26 : a.tmps.getD 151 undef = undef := hD ⟨26, .guard⟩ (by simp) rfl _ rfl _ rfl
      exact step_no (wanted_undef rfl rfl rfl d26) (TV.mk rfl)
    · obtain rfl := Option.some.inj hi
      clear hi hlt
      intro a w1 hL hS hD
      have d26 : a.tmps.getD 151 undef = undef := hD ⟨26, .guard⟩ (by simp) rfl _ rfl _ rfl
      exact step_no (wanted_undef rfl rfl rfl d26) (TV.mk rfl)
    · obtain rfl := Option.some.inj hi
      clear hi hlt
      intro a w1 hL hS hD
      have d23 : a.tmps.getD 148 undef = .bool true := hD ⟨23, .guard⟩ (by simp) rfl _ rfl _ rfl
      exact step_no (wanted_no rfl rfl rfl d23 rfl) (TV.mk rfl)
    · obtain rfl := Option.some.inj hi
      clear hi hlt
      intro a w1 hL hS hD
      have d1 : a.tmps.getD 126 undef = .bool true := hD ⟨1, .guard⟩ (by simp) rfl _ rfl _ rfl
      have d23 : a.tmps.getD 148 undef = .bool true := hD ⟨23, .data⟩ (by simp) rfl _ rfl _ rfl
      have d39 : a.tmps.getD 164 undef = undef := hD ⟨39, .data⟩ (by simp) rfl _ rfl _ rfl
      refine step_yes (wanted_yes rfl rfl rfl d1) ?_
      exact ok_value Lat.refl (.bool true) (by simp [execOp, Act.eval, d23, d39, go_sem]) (TV.mk rfl)
    · obtain rfl := Option.some.inj hi
      clear hi hlt
      intro a w1 hL hS hD
      have d1 : a.tmps.getD 126 undef = .bool true := hD ⟨1, .data⟩ (by simp) rfl _ rfl _ rfl
      have d40 : a.tmps.getD 165 undef = .bool true := hD ⟨40, .data⟩ (by simp) rfl _ rfl _ rfl
      refine step_yes rfl ?_
      exact ok_value Lat.refl (.bool true) (by simp [execOp, Act.eval, d1, d40, go_sem]) (TV.mk rfl)


end Go.Proofs.YtlppibigceeimaaDoor
