import Derived.Test.YtnfjhdedcnbdbaaGreatWgM
import Derived.Test.YtnfjhdedcnbdbaaGreatWgL
/-
  WalPlays: the regions of a step: Crash.
-/
namespace Go.Proofs.YtnfjhdedcnbdbaaGreat
open Go.RowKit
set_option linter.unusedVariables false
set_option linter.unusedSimpArgs false

/-- Two numbers in a new row. -/
def newI (B : Nat) (k j : Int) : Ent Lat := ⟨fun v w => ∃ b, v = .slice (some ⟨b, 0, none⟩) 2 2 ∧ B ≤ b ∧ Blk w b 3 [.int .i64 k, .int .i64 j], fun v a b h hl => by obtain ⟨g, h1, h2, h3⟩ := h; exact ⟨g, h1, h2, h3.later hl⟩⟩
theorem sn_two {w : World} {b : Nat} {k j : Int} (h : Blk w b 3 [.int .i64 k, .int .i64 j]) (hk : -9223372036854775808 ≤ k ∧ k ≤ 9223372036854775807) (hj : -9223372036854775808 ≤ j ∧ j ≤ 9223372036854775807) : Sn w (some ⟨b, 0, none⟩) 2 [k, j] := by
  refine ⟨rfl, fun n hn => ?_, fun i hi => ⟨_, rfl, ?_⟩⟩
  · simp only [List.mem_cons, List.not_mem_nil, or_false] at hn
    rcases hn with rfl | rfl <;> omega
  · rw [Addr.add_lit, Nat.zero_add, h.cell i]
    match i, hi with
    | 0, _ => rfl
    | 1, _ => rfl

set_option maxRecDepth 100000 in
set_option maxHeartbeats 2000000 in
theorem step_r20 (wp ob p : Nat) (nn mm : Int) (R : Value → World → Prop) (w : World) (a0 : Act) (Q : Exit → Act → World → Prop) (hsz : a0.tmps.size = 198)
    (s0 : a0.tmps.getD 0 undef = .pointer (some ⟨wp, 0, none⟩))
    (s3 : a0.tmps.getD 3 undef = .pointer (some ⟨ob, 0, none⟩))
    (c0 : ∀ w1, Lat w w1 → w1.cell? ⟨wp, 0, none⟩ = some (.pointer (some ⟨p, 0, none⟩)))
    (o1 : ∀ w1, Lat w w1 → w1.cell? ⟨ob, 1, none⟩ = some (.int .i64 nn))
    (o2 : ∀ w1, Lat w w1 → w1.cell? ⟨ob, 2, none⟩ = some (.int .i64 mm))
    (hcall : ∀ w1, Lat w w1 → ∀ kb, w.heap.size ≤ kb → Blk w1 kb 3 [.int .i64 mm, .int .i64 nn] → Calls Tryz.prog 28 #[.pointer (some ⟨p, 0, none⟩), .slice (some ⟨kb, 0, none⟩) 2 2] w1 fun e w2 => ∃ x, e = .returned x ∧ R x w2)
    (hQ : ∀ (v120 v121 v122 v123 v124 v125 v126 v127 v128 v129 : Value) (x : Value) (w2 : World), R x w2 → Q .normal (((((((((((a0.put (some 120) v120).put (some 121) v121).put (some 122) v122).put (some 123) v123).put (some 124) v124).put (some 125) v125).put (some 126) v126).put (some 127) v127).put (some 128) v128).put (some 129) v129).put (some 129) (x)) w2) :
    Code.wp Tryz.prog ((Tryz.f6.body.bind (findRegion 20)).getD .skip) Q a0 w := by
  conv => arg 2; whnf
  refine wp_region_tail 9 Lat (TE [Ent.val (.pointer (some ⟨wp, 0, none⟩)), Ent.val (.pointer (some ⟨wp, 0, none⟩)), Ent.val (.pointer (some ⟨wp, 0, none⟩)), Ent.val (.pointer (some ⟨p, 0, none⟩)), Ent.val (.pointer (some ⟨ob, 2, none⟩)), Ent.val (.int .i64 mm), Ent.val (.pointer (some ⟨ob, 1, none⟩)), Ent.val (.int .i64 nn), newI w.heap.size mm nn]) (by kernel_rfl) (by kernel_rfl) (by kernel_rfl) (by rw [hsz]; kernel_rfl) (by kernel_rfl) (by kernel_rfl) Lat.refl Lat.trans (TE_stable _) (Lat.draw w) ?hop ?hlast
  case hlast =>
    intro a w1 hL hS hT
    have k123 : a.tmps.getD 123 undef = .pointer (some ⟨p, 0, none⟩) := hT 3 _ (by omega) rfl
    have kk128 := hT 8 _ (by omega) rfl
    obtain ⟨kb, k128, hb128, hB128⟩ := kk128
    have k128 : a.tmps.getD 128 undef = .slice (some ⟨kb, 0, none⟩) 2 2 := k128
    refine wpAny_one 9 _ rfl rfl (by kernel_rfl) ?_
    refine wp_call_r (f := 28) (args := #[.pointer (some ⟨p, 0, none⟩), .slice (some ⟨kb, 0, none⟩) 2 2]) (by simp [execOp, resolve, Act.eval, k123, k128, go_sem]) ?_
    refine (hcall w1 hL kb hb128 hB128).mono ?_
    rintro e w2 ⟨x, rfl, hR⟩
    refine ⟨x, rfl, ?_⟩
    show wpAny Tryz.prog .any _ Q _ _ (a.put (some 129) (x)) w2
    obtain ⟨fr1, hfr1⟩ : ∃ y, a.put (some 129) (x) = y := ⟨_, rfl⟩
    rw [hfr1]
    have zfr1 : fr1.tmps.size = 198 := by rw [← hfr1, put_size]; exact (hS.size.trans hsz)
    have c1_123 : fr1.tmps.getD 123 undef = .pointer (some ⟨p, 0, none⟩) := by rw [← hfr1]; exact (put_slot _ 129 123 _ (by decide)).trans k123
    have c1_128 : fr1.tmps.getD 128 undef = .slice (some ⟨kb, 0, none⟩) 2 2 := by rw [← hfr1]; exact (put_slot _ 129 128 _ (by decide)).trans k128
    have c1_129 : fr1.tmps.getD 129 undef = x := by rw [← hfr1]; exact put_same _ 129 _ (by rw [(hS.size.trans hsz)]; decide)
    refine wpAny_nil (by kernel_rfl) ?_
    show Q .normal _ w2
    rw [← hfr1]
    rw [same_puts hS]
    exact hQ (a.tmps.getD 120 undef) (a.tmps.getD 121 undef) (a.tmps.getD 122 undef) (a.tmps.getD 123 undef) (a.tmps.getD 124 undef) (a.tmps.getD 125 undef) (a.tmps.getD 126 undef) (a.tmps.getD 127 undef) (a.tmps.getD 128 undef) (a.tmps.getD 129 undef) x w2 hR
  case hop =>
    intro i o hlt hi
    rcases (show i = 0 ∨ i = 1 ∨ i = 2 ∨ i = 3 ∨ i = 4 ∨ i = 5 ∨ i = 6 ∨ i = 7 ∨ i = 8 by omega) with rfl | rfl | rfl | rfl | rfl | rfl | rfl | rfl | rfl
    · obtain rfl := Option.some.inj hi
      clear hi hlt
      intro a w1 hL hS hD
      have e0 : a.tmps.getD 0 undef = .pointer (some ⟨wp, 0, none⟩) := (hS.slot 0 (by kernel_rfl)).trans s0
      refine step_yes rfl ?_
      exact ok_value Lat.refl (.pointer (some ⟨wp, 0, none⟩)) (by simp [execOp, Act.eval, e0, go_sem]) rfl
    · obtain rfl := Option.some.inj hi
      clear hi hlt
      intro a w1 hL hS hD
      have d0 : a.tmps.getD 120 undef = .pointer (some ⟨wp, 0, none⟩) := hD ⟨0, .data⟩ (by simp) rfl _ rfl
      refine step_yes rfl ?_
      exact ok_value Lat.refl (.pointer (some ⟨wp, 0, none⟩)) (by simp [execOp, Act.eval, d0, go_sem]) rfl
    · obtain rfl := Option.some.inj hi
      clear hi hlt
      intro a w1 hL hS hD
      have d1 : a.tmps.getD 121 undef = .pointer (some ⟨wp, 0, none⟩) := hD ⟨1, .data⟩ (by simp) rfl _ rfl
      refine step_yes rfl ?_
      exact ok_value Lat.refl (.pointer (some ⟨wp, 0, none⟩)) (by simp [execOp, Act.eval, d1, go_sem]) rfl
    · obtain rfl := Option.some.inj hi
      clear hi hlt
      intro a w1 hL hS hD
      have d2 : a.tmps.getD 122 undef = .pointer (some ⟨wp, 0, none⟩) := hD ⟨2, .data⟩ (by simp) rfl _ rfl
      refine step_yes rfl ?_
      exact ok_value Lat.refl (.pointer (some ⟨p, 0, none⟩)) (by simp [execOp, Act.eval, d2, c0 w1 hL, go_sem]) rfl
    · obtain rfl := Option.some.inj hi
      clear hi hlt
      intro a w1 hL hS hD
      have e3 : a.tmps.getD 3 undef = .pointer (some ⟨ob, 0, none⟩) := (hS.slot 3 (by kernel_rfl)).trans s3
      refine step_yes rfl ?_
      exact ok_value Lat.refl (.pointer (some ⟨ob, 2, none⟩)) (by simp [execOp, Act.eval, e3, go_sem]) rfl
    · obtain rfl := Option.some.inj hi
      clear hi hlt
      intro a w1 hL hS hD
      have d4 : a.tmps.getD 124 undef = .pointer (some ⟨ob, 2, none⟩) := hD ⟨4, .data⟩ (by simp) rfl _ rfl
      refine step_yes rfl ?_
      exact ok_value Lat.refl (.int .i64 mm) (by simp [execOp, Act.eval, d4, o2 w1 hL, go_sem]) rfl
    · obtain rfl := Option.some.inj hi
      clear hi hlt
      intro a w1 hL hS hD
      have e3 : a.tmps.getD 3 undef = .pointer (some ⟨ob, 0, none⟩) := (hS.slot 3 (by kernel_rfl)).trans s3
      refine step_yes rfl ?_
      exact ok_value Lat.refl (.pointer (some ⟨ob, 1, none⟩)) (by simp [execOp, Act.eval, e3, go_sem]) rfl
    · obtain rfl := Option.some.inj hi
      clear hi hlt
      intro a w1 hL hS hD
      have d6 : a.tmps.getD 126 undef = .pointer (some ⟨ob, 1, none⟩) := hD ⟨6, .data⟩ (by simp) rfl _ rfl
      refine step_yes rfl ?_
      exact ok_value Lat.refl (.int .i64 nn) (by simp [execOp, Act.eval, d6, o1 w1 hL, go_sem]) rfl
    · obtain rfl := Option.some.inj hi
      clear hi hlt
      intro a w1 hL hS hD
      have d5 : a.tmps.getD 125 undef = .int .i64 mm := hD ⟨5, .data⟩ (by simp) rfl _ rfl
      have d7 : a.tmps.getD 127 undef = .int .i64 nn := hD ⟨7, .data⟩ (by simp) rfl _ rfl
      refine step_yes rfl ?_
      have hwz := hL.size
      refine wp_val (.slice (some ⟨w1.heap.size, 0, none⟩) 2 2) (w' := w1.alloc (.cells #[.int .i64 mm, .int .i64 nn] 3)) (by simp only [Array.getD_eq_getD_getElem?] at d5 d7; simp [execOp, Act.eval, d5, d7, go_sem]) ?_
      exact ⟨_, rfl, (Below.refl _ w1).alloc (Nat.le_refl _) _, w1.heap.size, rfl, hwz, Blk.new w1 3 _⟩

set_option maxRecDepth 100000 in
set_option maxHeartbeats 2000000 in
theorem step_r21 (wp ob p : Nat) (nn mm : Int) (R : Value → World → Prop) (w : World) (a0 : Act) (Q : Exit → Act → World → Prop) (hsz : a0.tmps.size = 198)
    (s0 : a0.tmps.getD 0 undef = .pointer (some ⟨wp, 0, none⟩))
    (s3 : a0.tmps.getD 3 undef = .pointer (some ⟨ob, 0, none⟩))
    (c0 : ∀ w1, Lat w w1 → w1.cell? ⟨wp, 2, none⟩ = some (.pointer (some ⟨p, 0, none⟩)))
    (o1 : ∀ w1, Lat w w1 → w1.cell? ⟨ob, 1, none⟩ = some (.int .i64 nn))
    (o2 : ∀ w1, Lat w w1 → w1.cell? ⟨ob, 2, none⟩ = some (.int .i64 mm))
    (hcall : ∀ w1, Lat w w1 → ∀ kb, w.heap.size ≤ kb → Blk w1 kb 3 [.int .i64 mm, .int .i64 nn] → Calls Tryz.prog 29 #[.pointer (some ⟨p, 0, none⟩), .slice (some ⟨kb, 0, none⟩) 2 2] w1 fun e w2 => ∃ x, e = .returned x ∧ R x w2)
    (hQ : ∀ (v130 v131 v132 v133 v134 v135 v136 v137 v138 v139 : Value) (x : Value) (w2 : World), R x w2 → Q .normal (((((((((((a0.put (some 130) v130).put (some 131) v131).put (some 132) v132).put (some 133) v133).put (some 134) v134).put (some 135) v135).put (some 136) v136).put (some 137) v137).put (some 138) v138).put (some 139) v139).put (some 139) (x)) w2) :
    Code.wp Tryz.prog ((Tryz.f6.body.bind (findRegion 21)).getD .skip) Q a0 w := by
  conv => arg 2; whnf
  refine wp_region_tail 9 Lat (TE [Ent.val (.pointer (some ⟨wp, 0, none⟩)), Ent.val (.pointer (some ⟨wp, 0, none⟩)), Ent.val (.pointer (some ⟨wp, 2, none⟩)), Ent.val (.pointer (some ⟨p, 0, none⟩)), Ent.val (.pointer (some ⟨ob, 2, none⟩)), Ent.val (.int .i64 mm), Ent.val (.pointer (some ⟨ob, 1, none⟩)), Ent.val (.int .i64 nn), newI w.heap.size mm nn]) (by kernel_rfl) (by kernel_rfl) (by kernel_rfl) (by rw [hsz]; kernel_rfl) (by kernel_rfl) (by kernel_rfl) Lat.refl Lat.trans (TE_stable _) (Lat.draw w) ?hop ?hlast
  case hlast =>
    intro a w1 hL hS hT
    have k133 : a.tmps.getD 133 undef = .pointer (some ⟨p, 0, none⟩) := hT 3 _ (by omega) rfl
    have kk138 := hT 8 _ (by omega) rfl
    obtain ⟨kb, k138, hb138, hB138⟩ := kk138
    have k138 : a.tmps.getD 138 undef = .slice (some ⟨kb, 0, none⟩) 2 2 := k138
    refine wpAny_one 9 _ rfl rfl (by kernel_rfl) ?_
    refine wp_call_r (f := 29) (args := #[.pointer (some ⟨p, 0, none⟩), .slice (some ⟨kb, 0, none⟩) 2 2]) (by simp [execOp, resolve, Act.eval, k133, k138, go_sem]) ?_
    refine (hcall w1 hL kb hb138 hB138).mono ?_
    rintro e w2 ⟨x, rfl, hR⟩
    refine ⟨x, rfl, ?_⟩
    show wpAny Tryz.prog .any _ Q _ _ (a.put (some 139) (x)) w2
    obtain ⟨fr1, hfr1⟩ : ∃ y, a.put (some 139) (x) = y := ⟨_, rfl⟩
    rw [hfr1]
    have zfr1 : fr1.tmps.size = 198 := by rw [← hfr1, put_size]; exact (hS.size.trans hsz)
    have c1_133 : fr1.tmps.getD 133 undef = .pointer (some ⟨p, 0, none⟩) := by rw [← hfr1]; exact (put_slot _ 139 133 _ (by decide)).trans k133
    have c1_138 : fr1.tmps.getD 138 undef = .slice (some ⟨kb, 0, none⟩) 2 2 := by rw [← hfr1]; exact (put_slot _ 139 138 _ (by decide)).trans k138
    have c1_139 : fr1.tmps.getD 139 undef = x := by rw [← hfr1]; exact put_same _ 139 _ (by rw [(hS.size.trans hsz)]; decide)
    refine wpAny_nil (by kernel_rfl) ?_
    show Q .normal _ w2
    rw [← hfr1]
    rw [same_puts hS]
    exact hQ (a.tmps.getD 130 undef) (a.tmps.getD 131 undef) (a.tmps.getD 132 undef) (a.tmps.getD 133 undef) (a.tmps.getD 134 undef) (a.tmps.getD 135 undef) (a.tmps.getD 136 undef) (a.tmps.getD 137 undef) (a.tmps.getD 138 undef) (a.tmps.getD 139 undef) x w2 hR
  case hop =>
    intro i o hlt hi
    rcases (show i = 0 ∨ i = 1 ∨ i = 2 ∨ i = 3 ∨ i = 4 ∨ i = 5 ∨ i = 6 ∨ i = 7 ∨ i = 8 by omega) with rfl | rfl | rfl | rfl | rfl | rfl | rfl | rfl | rfl
    · obtain rfl := Option.some.inj hi
      clear hi hlt
      intro a w1 hL hS hD
      have e0 : a.tmps.getD 0 undef = .pointer (some ⟨wp, 0, none⟩) := (hS.slot 0 (by kernel_rfl)).trans s0
      refine step_yes rfl ?_
      exact ok_value Lat.refl (.pointer (some ⟨wp, 0, none⟩)) (by simp [execOp, Act.eval, e0, go_sem]) rfl
    · obtain rfl := Option.some.inj hi
      clear hi hlt
      intro a w1 hL hS hD
      have d0 : a.tmps.getD 130 undef = .pointer (some ⟨wp, 0, none⟩) := hD ⟨0, .data⟩ (by simp) rfl _ rfl
      refine step_yes rfl ?_
      exact ok_value Lat.refl (.pointer (some ⟨wp, 0, none⟩)) (by simp [execOp, Act.eval, d0, go_sem]) rfl
    · obtain rfl := Option.some.inj hi
      clear hi hlt
      intro a w1 hL hS hD
      have d1 : a.tmps.getD 131 undef = .pointer (some ⟨wp, 0, none⟩) := hD ⟨1, .data⟩ (by simp) rfl _ rfl
      refine step_yes rfl ?_
      exact ok_value Lat.refl (.pointer (some ⟨wp, 2, none⟩)) (by simp [execOp, Act.eval, d1, go_sem]) rfl
    · obtain rfl := Option.some.inj hi
      clear hi hlt
      intro a w1 hL hS hD
      have d2 : a.tmps.getD 132 undef = .pointer (some ⟨wp, 2, none⟩) := hD ⟨2, .data⟩ (by simp) rfl _ rfl
      refine step_yes rfl ?_
      exact ok_value Lat.refl (.pointer (some ⟨p, 0, none⟩)) (by simp [execOp, Act.eval, d2, c0 w1 hL, go_sem]) rfl
    · obtain rfl := Option.some.inj hi
      clear hi hlt
      intro a w1 hL hS hD
      have e3 : a.tmps.getD 3 undef = .pointer (some ⟨ob, 0, none⟩) := (hS.slot 3 (by kernel_rfl)).trans s3
      refine step_yes rfl ?_
      exact ok_value Lat.refl (.pointer (some ⟨ob, 2, none⟩)) (by simp [execOp, Act.eval, e3, go_sem]) rfl
    · obtain rfl := Option.some.inj hi
      clear hi hlt
      intro a w1 hL hS hD
      have d4 : a.tmps.getD 134 undef = .pointer (some ⟨ob, 2, none⟩) := hD ⟨4, .data⟩ (by simp) rfl _ rfl
      refine step_yes rfl ?_
      exact ok_value Lat.refl (.int .i64 mm) (by simp [execOp, Act.eval, d4, o2 w1 hL, go_sem]) rfl
    · obtain rfl := Option.some.inj hi
      clear hi hlt
      intro a w1 hL hS hD
      have e3 : a.tmps.getD 3 undef = .pointer (some ⟨ob, 0, none⟩) := (hS.slot 3 (by kernel_rfl)).trans s3
      refine step_yes rfl ?_
      exact ok_value Lat.refl (.pointer (some ⟨ob, 1, none⟩)) (by simp [execOp, Act.eval, e3, go_sem]) rfl
    · obtain rfl := Option.some.inj hi
      clear hi hlt
      intro a w1 hL hS hD
      have d6 : a.tmps.getD 136 undef = .pointer (some ⟨ob, 1, none⟩) := hD ⟨6, .data⟩ (by simp) rfl _ rfl
      refine step_yes rfl ?_
      exact ok_value Lat.refl (.int .i64 nn) (by simp [execOp, Act.eval, d6, o1 w1 hL, go_sem]) rfl
    · obtain rfl := Option.some.inj hi
      clear hi hlt
      intro a w1 hL hS hD
      have d5 : a.tmps.getD 135 undef = .int .i64 mm := hD ⟨5, .data⟩ (by simp) rfl _ rfl
      have d7 : a.tmps.getD 137 undef = .int .i64 nn := hD ⟨7, .data⟩ (by simp) rfl _ rfl
      refine step_yes rfl ?_
      have hwz := hL.size
      refine wp_val (.slice (some ⟨w1.heap.size, 0, none⟩) 2 2) (w' := w1.alloc (.cells #[.int .i64 mm, .int .i64 nn] 3)) (by simp only [Array.getD_eq_getD_getElem?] at d5 d7; simp [execOp, Act.eval, d5, d7, go_sem]) ?_
      exact ⟨_, rfl, (Below.refl _ w1).alloc (Nat.le_refl _) _, w1.heap.size, rfl, hwz, Blk.new w1 3 _⟩

end Go.Proofs.YtnfjhdedcnbdbaaGreat

/-
  WalPlays: the kinds of a step: Crash.
-/
namespace Go.Proofs.YtnfjhdedcnbdbaaGreat
open Go.RowKit
set_option linter.unusedVariables false
set_option linter.unusedSimpArgs false

set_option maxRecDepth 100000 in
set_option maxHeartbeats 0 in
theorem step_crash (W : World) (wp p x : Nat) (F G : Nat → Prop) (S : St) (lo mo : Option Addr) (ll : Option (Nat × Nat × Lw)) (s : Opn) (nf nl : Nat) (w : World) (h : WS W w wp p x F G S lo mo ll) (hs : s.ok W) (hf : S.falls ≤ nf) (hl : FB nl S) (hbf : nf ≤ 1099511620000) (hk : s.kd = 5) :
    Calls Tryz.prog 6 #[.pointer (some ⟨wp, 0, none⟩), s.agg] w fun e w' => Stepd W wp p x (nf + 1) (nl + 0) e w' := by
  have H := hidden h
  have HOK := hidden hs
  have HF := hidden hf
  have HLL := hidden hl
  obtain ⟨kd, nn, mm, ba, bn, bc, bs⟩ := s
  dsimp only at hk
  subst hk
  have hnn : nn ≤ 9223372036854775807 := hs.nn.2
  clear h hs hf hl
  unfold Opn.agg
  go_enter Tryz.func6, Tryz.ntmps6
  go_wp2_with (refine wpList_box_blk rfl 30 (.tmp 1) rfl [.int .i64 5, .int .i64 nn, .int .i64 mm, .slice ba bn bc] rfl ?_; intro w1 B1 bl1 hz1; have HB1 := hidden B1; have HL1 : Hid (Lat w w1) := bl1; have x3 := B1.cell 3; simp only [List.getElem?_cons_succ, List.getElem?_cons_zero] at x3; clear B1 bl1 hz1)
  refine (shortP ba bn bc w1 HOK.out.le HOK.out.non HOK.out.bl).mono ?_
  rintro e w2 ⟨rfl, hw2⟩
  obtain rfl := hw2.symm
  clear hw2 x3
  obtain ⟨m, hm⟩ : ∃ m, min bn 3000 = m := ⟨_, rfl⟩
  have hm1 : m ≤ bn ∧ m ≤ 3000 := by omega
  rw [hm]
  have HSM : Hid (Sl W ba m (bs.take m)) := HOK.out.sl.take hm1.1
  have HSM1 : Hid (Sl w1 ba m (bs.take m)) := HSM.out.later (Lat.trans _ _ _ H.out.bel HL1.out)
  generalize bs.take m = bb at *
  clear hm
  go_wp2_with fail
  refine (lentP ba m bc bb w1 HSM1.out (by omega)).mono ?_
  rintro e w3 ⟨rfl, hB3, hb3⟩
  have HB3 := hidden hB3
  have HL3 : Hid (Lat w w3) := Lat.trans _ _ _ HL1.out hb3
  have HBO := hidden (HB1.out.later hb3)
  obtain ⟨gb, hgb⟩ : ∃ gb, w1.heap.size = gb := ⟨_, rfl⟩
  obtain ⟨ob, hob⟩ : ∃ ob, w.heap.size = ob := ⟨_, rfl⟩
  have HGB : Hid (W.heap.size ≤ gb ∧ w.heap.size ≤ gb) := by have h1 := HL1.out.size; have h2 := H.out.bel.size; exact ⟨by omega, by omega⟩
  rw [hgb] at HB3 ⊢
  rw [hob] at HBO ⊢
  have x0 := HBO.out.cell 0
  simp only [List.getElem?_cons_succ, List.getElem?_cons_zero] at x0
  have H3 := hidden (H.out.lat HL3.out)
  have HSW : Hid (Sl w3 ba m bb) := HSM1.out.later hb3
  have HNG : Hid (¬ F gb ∧ ¬ G gb) := ⟨fun k => by have h1 := H.out.ww.d.lt _ k; have h2 := HGB.out.2; omega, fun k => by have h1 := H.out.ww.r.lt _ k; have h2 := HGB.out.2; omega⟩
  have HBN : Hid (∀ z, ba = some z → 0 < m → z.block < W.heap.size) := fun z hz hp => HSM.out.lt z hz hp
  clear hB3 hb3 HSM1 HB1 HL1 hgb hob
  have HFA : Hid (S.falls ≤ 1099511627776) := Nat.le_trans HF.out (by omega)
  have HOF : Hid (¬ F ob ∧ ¬ G ob) := by
    have t1 : Tg w3 ob 30 := Blk.tg HBO.out
    refine ⟨fun k => ?_, fun k => ?_⟩
    · rcases H3.out.ww.d.tg _ k with q | q | q | q <;> exact absurd (t1.one q) (by decide)
    · rcases H3.out.ww.r.tg _ k with q | q | q | q <;> exact absurd (t1.one q) (by decide)
  have HNM : Hid ((-9223372036854775808 ≤ nn ∧ nn ≤ 9223372036854775807) ∧ -9223372036854775808 ≤ mm ∧ mm ≤ 9223372036854775807) := ⟨HOK.out.nn, HOK.out.mm⟩
  obtain ⟨SK, hSK⟩ : ∃ y, S.crash [mm, nn] = y := ⟨_, rfl⟩
  have HSKQ := hidden hSK
  have HFK : Hid (SK.falls ≤ nf + 1) := by
    rw [← hSK]
    have h2 := HF.out
    show (S.crash [mm, nn]).falls ≤ _
    unfold St.crash
    split
    · show S.falls + 1 ≤ _; omega
    · omega
  have HLK : Hid (FB (nl + 0) SK) := by rw [← hSK]; exact HLL.out.crash _
  clear hSK
  go_wp2_with fail
  clear x0
  refine step_r20 wp ob p nn mm (fun v A => v = .tuple #[] ∧ Dks 64 79 w3 A p F SK) w3 _ _ (by rfl) (by rfl) (by rfl) (fun A hL => (H3.out.ww.b.later hL).cell 0) (fun A hL => (HBO.out.later hL).cell 1) (fun A hL => (HBO.out.later hL).cell 2) (fun A hL kb hkb hB => ?hca) ?hqa
  case hca =>
    refine (crashP p F S (some ⟨kb, 0, none⟩) 2 2 [mm, nn] A (H3.out.ww.d.lat hL) (sn_two hB HNM.out.2 HNM.out.1) (fun z hz _ k => by cases hz; have h1 : kb < w3.heap.size := H3.out.ww.d.lt _ k; omega) HFA.out).mono ?_
    rw [HSKQ.out]
    rintro e A2 ⟨rfl, hd⟩
    exact ⟨_, rfl, rfl, Dks.lat hL hd⟩
  case hqa =>
  intros
  rename_i xv wm hR
  obtain ⟨rfl, hDm⟩ := hR
  have HDM := hidden hDm
  have HRM := hidden (H3.out.r1 hDm)
  have HWM : Hid (Blk wm wp 52 [.pointer (some ⟨p, 0, none⟩), .pointer lo, .pointer (some ⟨x, 0, none⟩), .pointer mo] ∧ Blk wm ob 30 [.int .i64 5, .int .i64 nn, .int .i64 mm, .slice ba bn bc]) := by
    obtain ⟨F1, k1, k2, k3⟩ := hDm
    exact ⟨k2.blk H3.out.ww.b H3.out.ww.nf.1, k2.blk HBO.out HOF.out.1⟩
  clear hDm
  simp only [Act.put, List.setIfInBounds_toArray, List.set_cons_succ, List.set_cons_zero]
  go_wp2_with fail
  refine step_r21 wp ob x nn mm (fun v A => v = .tuple #[] ∧ Dks 82 97 wm A x G SK) wm _ _ (by rfl) (by rfl) (by rfl) (fun A hL => (HWM.out.1.later hL).cell 2) (fun A hL => (HWM.out.2.later hL).cell 1) (fun A hL => (HWM.out.2.later hL).cell 2) (fun A hL kb hkb hB => ?hcb) ?hqb
  case hcb =>
    refine (crashR x G S (some ⟨kb, 0, none⟩) 2 2 [mm, nn] A (HRM.out.lat hL) (sn_two hB HNM.out.2 HNM.out.1) (fun z hz _ k => by cases hz; have h1 : kb < wm.heap.size := HRM.out.lt _ k; omega) HFA.out).mono ?_
    rw [HSKQ.out]
    rintro e A2 ⟨rfl, hd⟩
    exact ⟨_, rfl, rfl, Dks.lat hL hd⟩
  case hqb =>
  intros
  rename_i xv2 wk hR
  obtain ⟨rfl, hDk⟩ := hR
  obtain ⟨FK, GK, hWK, hcK, hnF, hnG⟩ := H3.out.both HDM.out hDk
  have HK := hidden hWK
  clear hDk hWK
  simp only [Act.put, List.setIfInBounds_toArray, List.set_cons_succ, List.set_cons_zero]
  have HBK := hidden (hcK.blk HB3.out (fun k => k.elim HNG.out.1 HNG.out.2))
  have HBOK := hidden (hcK.blk HBO.out (fun k => k.elim HOF.out.1 HOF.out.2))
  have HSK : Hid (Sl wk ba m bb) := hcK.sl HSW.out (fun z hz hp k => by
    have h1 := HBN.out z hz hp
    rcases k with k | k
    · have := H3.out.F _ k; omega
    · have := H3.out.G _ k; omega)
  have HNK : Hid (¬ FK gb ∧ ¬ GK gb) := by
    have hlt : gb < w3.heap.size := HB3.out.lt
    refine ⟨fun k => ?_, fun k => ?_⟩
    · rcases hnF gb k with q | q
      · exact HNG.out.1 q
      · omega
    · rcases hnG gb k with q | q
      · exact HNG.out.2 q
      · omega
  clear hcK hnF hnG
  obtain ⟨lk, hlk⟩ : ∃ y : Option Addr, lo = y := ⟨_, rfl⟩
  obtain ⟨mk, hmk⟩ : ∃ y : Option Addr, mo = y := ⟨_, rfl⟩
  obtain ⟨llk, hllk⟩ : ∃ y : Option (Nat × Nat × Lw), ll = y := ⟨_, rfl⟩
  have HK : Hid (WS W wk wp p x FK GK SK lk mk llk) := by rw [← hlk, ← hmk, ← hllk]; exact HK.out
  clear hlk hmk hllk
  go_wp2_with fail
  refine (backP gb ba m bc bb wk HBK.out HSK.out (fun z hz hp e => by have h1 := HBN.out z hz hp; have h2 := HGB.out.1; omega) (by omega)).mono ?_
  rintro e w4 ⟨rfl, hc4⟩
  have HBO9 := hidden (hc4.blk HBOK.out (fun e => by have t1 : Tg wk ob 30 := Blk.tg HBOK.out; have t2 : Tg wk gb 5 := Blk.tg HBK.out; subst e; exact absurd (t1.one t2) (by decide)))
  have H4 := hidden (HK.out.other gb (Blk.tg HBK.out) HNK.out.1 HNK.out.2 HGB.out.1 hc4)
  clear hc4
  go_wp2_with fail
  refine (filesP wp p x FK GK SK _ _ w4 H4.out.ww).mono ?_
  rintro e w5 ⟨rfl, hl5⟩
  have H5 := hidden (H4.out.lat hl5)
  have x1 := (HBO9.out.later hl5).cell 1
  simp only [List.getElem?_cons_succ, List.getElem?_cons_zero] at x1
  clear hl5
  go_wp2_with fail
  refine (looksP W.heap.size wp p x FK GK SK lk mk llk nn w5 H5.out.ww H5.out.ll hnn).mono ?_
  rintro e w6 ⟨rfl, hl6⟩
  have H6 := hidden (H5.out.lat hl6)
  clear hl6 x1
  go_wp2_with fail
  go_ret
  exact ⟨rfl, FK, GK, SK, lk, mk, llk, H6.out, HFK.out, HLK.out⟩


end Go.Proofs.YtnfjhdedcnbdbaaGreat

/-
  The same, where what is told is a property of the world too, and the reads may make memory. Nothing of the program.
-/
namespace Go.Proofs.YtnfjhdedcnbdbaaGreat
open Go.RowKit
set_option linter.unusedVariables false
set_option linter.unusedSimpArgs false

section
variable {P : Program} {ops : Array Oper} {Q : Exit → Act → World → Prop} {T : Nat → Value → World → Prop} {R : World → World → Prop} {I0 I1 I2 : World → Prop} {qA qB : Nat} {a0 : Act}

/-- A step that only reads. -/
def ReadOkT (P : Program) (ops : Array Oper) (T : Nat → Value → World → Prop) (R : World → World → Prop) (I0 I1 I2 : World → Prop) (a0 : Act) (i : Nat) (o : Oper) : Prop :=
  ∀ (a : Act) (w : World), I0 w ∨ I1 w ∨ I2 w → Same ops a0 a → (∀ e ∈ o.after, Region.binds .any e = true → ∀ oj, ops[e.on]? = some oj → T e.on (valAt a oj) w) →
    Region.wanted o (yielded ops a.tmps) = true ∧ ∃ v w', (execOp a.eval o).run P w = .ok (.value v) w' ∧ R w w' ∧ (I0 w → I0 w') ∧ (I1 w → I1 w') ∧ (I2 w → I2 w') ∧ T i (told o a v) w'
/-- A call. -/
def CallOkT (P : Program) (ops : Array Oper) (Q : Exit → Act → World → Prop) (T : Nat → Value → World → Prop) (R : World → World → Prop) (I J : World → Prop) (a0 : Act) (i : Nat) (o : Oper) : Prop :=
  ∀ (a : Act) (w : World), I w → Same ops a0 a → (∀ e ∈ o.after, Region.binds .any e = true → ∀ oj, ops[e.on]? = some oj → T e.on (valAt a oj) w) →
    Region.wanted o (yielded ops a.tmps) = true ∧ o.wp P a w (fun a' w' => ∃ v, a' = a.put o.dst v ∧ J w' ∧ R w w' ∧ T i (told o a v) w') Q

theorem wpAny_pairT (hap : placesOk ops = true) (hf : forward ops = true) (hsz : within ops a0.tmps.size = true) (hne : qA ≠ qB) (hAs : qA < ops.size) (hBs : qB < ops.size)
    (hwait : ∀ oB, ops[qB]? = some oB → ∃ e ∈ oB.after, Region.binds .any e = true ∧ e.on = qA)
    (hst : ∀ i v w w', T i v w → R w w' → T i v w')
    (hop : ∀ i o, ops[i]? = some o → i ≠ qA → i ≠ qB → ReadOkT P ops T R I0 I1 I2 a0 i o)
    (hA : ∀ o, ops[qA]? = some o → CallOkT P ops Q T R I0 I1 a0 qA o) (hB : ∀ o, ops[qB]? = some o → CallOkT P ops Q T R I1 I2 a0 qB o)
    (hdone : ∀ a w, I2 w → Same ops a0 a → (∀ i o, ops[i]? = some o → T i (valAt a o) w) → Q .normal a w) :
    ∀ (fuel : Nat) (listed : Array Bool) (a : Act) (w : World), listed.size = ops.size → listed.toList.countP id + fuel = ops.size →
      ((listed.getD qB true = true → I2 w) ∧ (listed.getD qB true = false → listed.getD qA true = true → I1 w) ∧ (listed.getD qA true = false → I0 w)) → Same ops a0 a →
      (∀ i o, ops[i]? = some o → listed.getD i true = true → T i (valAt a o) w ∧ ∀ e ∈ o.after, Region.binds .any e = true → listed.getD e.on false = true) → wpAny P .any ops Q fuel listed a w := by
  intro fuel
  induction fuel with
  | zero =>
    intro listed a w hl hc hph hs hT
    have hall2 : ∀ i, i < ops.size → listed.getD i true = true := by
      intro i hi
      have := List.countP_eq_length.1 (show listed.toList.countP id = listed.toList.length by rw [Array.length_toList]; omega) listed[i] (by simp)
      rw [Array.getD_eq_getD_getElem?]
      simpa [show i < listed.size by omega] using this
    refine ⟨?_, hdone a w (hph.1 (hall2 qB hBs)) hs fun i o hi => (hT i o hi (hall2 i (Array.getElem?_eq_some_iff.1 hi).1)).1⟩
    cases hr : Region.ready .any ops listed with
    | nil => rfl
    | cons j t =>
      exfalso
      have hj : j ∈ Region.ready .any ops listed := by rw [hr]; simp
      rw [mem_ready] at hj
      obtain ⟨h0, o, ho, _⟩ := hj
      rw [hall2 j (Array.getElem?_eq_some_iff.1 ho).1] at h0
      cases h0
  | succ fuel ih =>
    intro listed a w hl hc hph hs hT
    refine ⟨fun hr => hdone a w (hph.1 (not_ready hf hl hr qB hBs)) hs fun i o hi => (hT i o hi (not_ready hf hl hr i (Array.getElem?_eq_some_iff.1 hi).1)).1, fun i hi => ?_⟩
    rw [mem_ready] at hi
    obtain ⟨h0, o, ho, hdeps⟩ := hi
    have hlt := (Array.getElem?_eq_some_iff.1 ho).1
    have hyes : ∀ k ok, ops[k]? = some ok → listed.getD k false = true → listed.getD k true = true := by
      intro k ok hk this
      have hlt2 := (Array.getElem?_eq_some_iff.1 hk).1
      rw [Array.getD_eq_getD_getElem?] at this ⊢
      have hb2 : k < listed.size := by omega
      simpa [hb2] using this
    have hany : I0 w ∨ I1 w ∨ I2 w := by
      cases hb : listed.getD qB true with
      | true => exact .inr (.inr (hph.1 hb))
      | false =>
        cases ha : listed.getD qA true with
        | true => exact .inr (.inl (hph.2.1 hb ha))
        | false => exact .inl (hph.2.2 ha)
    have hdv : ∀ e ∈ o.after, Region.binds .any e = true → ∀ oj, ops[e.on]? = some oj → T e.on (valAt a oj) w := fun e he hb oj hoj => (hT e.on oj hoj (hyes _ _ hoj (hdeps e he hb))).1
    have hkeep : ∀ j, i ≠ j → (listed.setIfInBounds i true).getD j true = listed.getD j true := by
      intro j hij
      rw [Array.getD_eq_getD_getElem?, Array.getElem?_setIfInBounds, if_neg hij, ← Array.getD_eq_getD_getElem?]
    have hself : (listed.setIfInBounds i true).getD i true = true := by
      rw [Array.getD_eq_getD_getElem?, Array.getElem?_setIfInBounds]
      simp [show i < listed.size by omega]
    have next : ∀ v w', R w w' → T i (told o a v) w' → (((listed.setIfInBounds i true).getD qB true = true → I2 w') ∧ ((listed.setIfInBounds i true).getD qB true = false → (listed.setIfInBounds i true).getD qA true = true → I1 w') ∧ ((listed.setIfInBounds i true).getD qA true = false → I0 w')) → wpAny P .any ops Q fuel (listed.setIfInBounds i true) (a.put o.dst v) w' := by
      intro v w' hR hv hph2
      have hback : ∀ j, i ≠ j → (listed.setIfInBounds i true).getD j true = true → listed.getD j true = true := fun j hij hjl => by rw [hkeep j hij] at hjl; exact hjl
      have hon : ∀ k, listed.getD k false = true → (listed.setIfInBounds i true).getD k false = true := by
        intro k hk
        rw [Array.getD_eq_getD_getElem?] at hk ⊢
        rw [Array.getElem?_setIfInBounds]
        by_cases hik : i = k
        · simp [hik, show k < listed.size by omega]
        · rw [if_neg hik]; exact hk
      have hval : ∀ j oj, ops[j]? = some oj → i ≠ j → listed.getD j true = true → valAt (a.put o.dst v) oj = valAt a oj := by
        intro j oj hj hij hjl
        refine valAt_put hj ho (fun d hd hp => ?_)
        obtain ⟨e, he, hb, hon2⟩ := placesOk_spec hap hj ho (fun h => hij h.symm) hd hp
        have := (hT j oj hj hjl).2 e he hb
        rw [hon2] at this
        have h3 := hyes i o ho this
        rw [h3] at h0
        cases h0
      refine ih _ _ _ (by rw [Array.size_setIfInBounds]; exact hl) ?_ hph2 (same_put ho hs) ?_
      · rw [Array.toList_setIfInBounds, List.countP_set (by rw [Array.length_toList]; omega)]
        have hf0 : listed.toList[i]'(by rw [Array.length_toList]; omega) = false := by
          rw [Array.getD_eq_getD_getElem?] at h0
          simpa [show i < listed.size by omega] using h0
        rw [hf0]
        show listed.toList.countP id - 0 + 1 + fuel = ops.size
        omega
      · intro j oj hj hjl
        by_cases hij : i = j
        · subst hij
          rw [ho] at hj
          obtain rfl := Option.some.inj hj
          rw [valAt_put_same (by rw [hs.size]; exact hsz) ho]
          exact ⟨hv, fun e he hb => hon _ (hdeps e he hb)⟩
        · have hjl2 := hback j hij hjl
          rw [hval j oj hj hij hjl2]
          obtain ⟨q1, q3⟩ := hT j oj hj hjl2
          exact ⟨hst _ _ _ _ q1 hR, fun e he hb => hon _ (q3 e he hb)⟩
    by_cases hiA : i = qA
    · subst hiA
      have hBl : listed.getD qB true = false := by
        cases hb : listed.getD qB true with
        | false => rfl
        | true =>
          exfalso
          obtain ⟨oB, hoB⟩ : ∃ oB, ops[qB]? = some oB := ⟨_, Array.getElem?_eq_getElem hBs⟩
          obtain ⟨e, he, hb2, hon2⟩ := hwait oB hoB
          have h3 := (hT qB oB hoB hb).2 e he hb2
          rw [hon2] at h3
          rw [hyes i o ho h3] at h0
          cases h0
      obtain ⟨hwant, step⟩ := hA o ho a w (hph.2.2 h0) hs hdv
      unfold wpOp
      simp only [ho]
      rw [if_pos hwant]
      left
      refine Oper.wp_mono (fun a' w' h' => ?_) step
      obtain ⟨v, rfl, h1, hR, h2⟩ := h'
      refine next v w' hR h2 ⟨fun h => ?_, fun _ _ => h1, fun h => ?_⟩
      · rw [hkeep qB hne, hBl] at h; cases h
      · rw [hself] at h; cases h
    · by_cases hiB : i = qB
      · subst hiB
        have hAl : listed.getD qA true = true := by
          obtain ⟨e, he, hb2, hon2⟩ := hwait o ho
          have h3 := hdeps e he hb2
          rw [hon2] at h3
          exact hyes qA _ (Array.getElem?_eq_getElem hAs) h3
        obtain ⟨hwant, step⟩ := hB o ho a w (hph.2.1 h0 hAl) hs hdv
        unfold wpOp
        simp only [ho]
        rw [if_pos hwant]
        left
        refine Oper.wp_mono (fun a' w' h' => ?_) step
        obtain ⟨v, rfl, h1, hR, h2⟩ := h'
        refine next v w' hR h2 ⟨fun _ => h1, fun h => ?_, fun h => ?_⟩
        · rw [hself] at h; cases h
        · rw [hkeep qA hiA, hAl] at h; cases h
      · obtain ⟨hwant, v, w', hr, hR, i0, i1, i2, hv⟩ := hop i o ho hiA hiB a w hany hs hdv
        unfold wpOp
        simp only [ho]
        rw [if_pos hwant]
        left
        unfold Oper.wp
        rw [hr]
        refine next v w' hR hv ?_
        rw [hkeep qB hiB, hkeep qA hiA]
        exact ⟨fun h => i2 (hph.1 h), fun h k => i1 (hph.2.1 h k), fun h => i0 (hph.2.2 h)⟩

theorem wp_region_pairT (T : Nat → Value → World → Prop) (R : World → World → Prop) (I0 I1 I2 : World → Prop) (qA qB : Nat) {id : Nat} {a : Act} {w : World} (hm : P.follows .mixedOrders = true)
    (hap : placesOk ops = true) (hf : forward ops = true) (hsz : within ops a.tmps.size = true) (hne : qA ≠ qB) (hAs : qA < ops.size) (hBs : qB < ops.size)
    (hwait : ∀ oB, ops[qB]? = some oB → ∃ e ∈ oB.after, Region.binds .any e = true ∧ e.on = qA)
    (h0 : I0 { w with drawn := w.drawn + 1 })
    (hst : ∀ i v w w', T i v w → R w w' → T i v w')
    (hop : ∀ i o, ops[i]? = some o → i ≠ qA → i ≠ qB → ReadOkT P ops T R I0 I1 I2 a i o)
    (hA : ∀ o, ops[qA]? = some o → CallOkT P ops Q T R I0 I1 a qA o) (hB : ∀ o, ops[qB]? = some o → CallOkT P ops Q T R I1 I2 a qB o)
    (hdone : ∀ a' w', I2 w' → Same ops a a' → (∀ i o, ops[i]? = some o → T i (valAt a' o) w') → Q .normal a' w') : (Code.region id ops true).wp P Q a w :=
  wp_region_any hm (wpAny_pairT (a0 := a) hap hf hsz hne hAs hBs hwait hst hop hA hB hdone ops.size (Array.replicate ops.size false) a _ (by simp) (by simp)
    ⟨fun h => by rw [Array.getD_eq_getD_getElem?] at h; simp [hBs] at h, fun _ h => by rw [Array.getD_eq_getD_getElem?] at h; simp [hAs] at h, fun _ => h0⟩ ⟨rfl, rfl, fun _ _ => rfl⟩ (fun i o hi hl => by
    have := (Array.getElem?_eq_some_iff.1 hi).1
    rw [Array.getD_eq_getD_getElem?] at hl
    simp [this] at hl))
end

end Go.Proofs.YtnfjhdedcnbdbaaGreat

/-
  WalPlays: the region of a step: Fuse.
-/
namespace Go.Proofs.YtnfjhdedcnbdbaaGreat
open Go.RowKit
set_option linter.unusedVariables false
set_option linter.unusedSimpArgs false

/-- All but two disks' blocks. -/
def Rfg (F G : Nat → Prop) (w w' : World) : Prop := Chg (fun i => F i ∨ G i) w w'
def newFG (F G : Nat → Prop) (k j : Int) : Ent (Rfg F G) := ⟨fun v w => ∃ b, v = .slice (some ⟨b, 0, none⟩) 2 2 ∧ ¬ F b ∧ ¬ G b ∧ Blk w b 3 [.int .i64 k, .int .i64 j], fun v a b h hl => by obtain ⟨g, h1, h2, h3, h4⟩ := h; exact ⟨g, h1, h2, h3, Chg.blk hl h4 (fun k => k.elim h2 h3)⟩⟩

set_option maxRecDepth 100000 in
set_option maxHeartbeats 4000000 in
theorem step_r18 (wp ob p x : Nat) (F G : Nat → Prop) (nn mm ev : Int) (I0 I1 I2 : World → Prop) (w : World) (a0 : Act) (Q : Exit → Act → World → Prop) (hsz : a0.tmps.size = 198)
    (s0 : a0.tmps.getD 0 undef = .pointer (some ⟨wp, 0, none⟩))
    (s3 : a0.tmps.getD 3 undef = .pointer (some ⟨ob, 0, none⟩))
    (c0 : ∀ w1, I0 w1 ∨ I1 w1 ∨ I2 w1 → w1.cell? ⟨wp, 0, none⟩ = some (.pointer (some ⟨p, 0, none⟩)))
    (c2 : ∀ w1, I0 w1 ∨ I1 w1 ∨ I2 w1 → w1.cell? ⟨wp, 2, none⟩ = some (.pointer (some ⟨x, 0, none⟩)))
    (o1 : ∀ w1, I0 w1 ∨ I1 w1 ∨ I2 w1 → w1.cell? ⟨ob, 1, none⟩ = some (.int .i64 nn))
    (o2 : ∀ w1, I0 w1 ∨ I1 w1 ∨ I2 w1 → w1.cell? ⟨ob, 2, none⟩ = some (.int .i64 mm))
    (hz : ∀ w1, I0 w1 ∨ I1 w1 ∨ I2 w1 → w.heap.size ≤ w1.heap.size) (hFl : ∀ i, F i → i < w.heap.size) (hGl : ∀ i, G i → i < w.heap.size)
    (l0 : ∀ a b, I0 a → Lat a b → I0 b) (l1 : ∀ a b, I1 a → Lat a b → I1 b) (l2 : ∀ a b, I2 a → Lat a b → I2 b)
    (h0 : I0 { w with drawn := w.drawn + 1 })
    (hA : ∀ w1, I0 w1 → ∀ kb, ¬ F kb → ¬ G kb → Blk w1 kb 3 [.int .i64 mm, .int .i64 mm] → Calls Tryz.prog 26 #[.pointer (some ⟨p, 0, none⟩), .int .i64 nn, .slice (some ⟨kb, 0, none⟩) 2 2] w1 fun e w2 => e = .returned (.int .i64 ev) ∧ I1 w2 ∧ Chg (fun i => F i ∨ G i) w1 w2)
    (hB : ∀ w1, I1 w1 → ∀ kb, ¬ F kb → ¬ G kb → Blk w1 kb 3 [.int .i64 mm, .int .i64 mm] → Calls Tryz.prog 27 #[.pointer (some ⟨x, 0, none⟩), .int .i64 nn, .slice (some ⟨kb, 0, none⟩) 2 2] w1 fun e w2 => e = .returned (.int .i64 ev) ∧ I2 w2 ∧ Chg (fun i => F i ∨ G i) w1 w2)
    (hQ : ∀ (v93 v94 v95 v96 v97 v98 v99 v100 v101 v102 v103 v104 v105 v106 v107 v108 v109 v110 v111 v112 v113 v114 v115 v116 v117 : Value) (w2 : World), I2 w2 → Q .normal ((((((((((((((((((((((((((a0.put (some 93) v93).put (some 94) v94).put (some 95) v95).put (some 96) v96).put (some 97) v97).put (some 98) v98).put (some 99) v99).put (some 100) v100).put (some 101) v101).put (some 102) v102).put (some 103) v103).put (some 104) v104).put (some 105) v105).put (some 106) v106).put (some 107) v107).put (some 108) v108).put (some 109) v109).put (some 110) v110).put (some 111) v111).put (some 112) v112).put (some 113) v113).put (some 114) v114).put (some 115) v115).put (some 116) v116).put (some 117) v117).put (some 7) (.bool true)) w2) :
    Code.wp Tryz.prog ((Tryz.f6.body.bind (findRegion 18)).getD .skip) Q a0 w := by
  conv => arg 2; whnf
  refine wp_region_pairT (TE [Ent.val (.pointer (some ⟨wp, 0, none⟩)), Ent.val (.pointer (some ⟨wp, 0, none⟩)), Ent.val (.pointer (some ⟨wp, 0, none⟩)), Ent.val (.pointer (some ⟨p, 0, none⟩)), Ent.val (.pointer (some ⟨ob, 1, none⟩)), Ent.val (.int .i64 nn), Ent.val (.pointer (some ⟨ob, 2, none⟩)), Ent.val (.int .i64 mm), Ent.val (.pointer (some ⟨ob, 2, none⟩)), Ent.val (.int .i64 mm), newFG F G mm mm, Ent.val (.int .i64 ev), Ent.val (.pointer (some ⟨wp, 0, none⟩)), Ent.val (.pointer (some ⟨wp, 0, none⟩)), Ent.val (.pointer (some ⟨wp, 2, none⟩)), Ent.val (.pointer (some ⟨x, 0, none⟩)), Ent.val (.pointer (some ⟨ob, 1, none⟩)), Ent.val (.int .i64 nn), Ent.val (.pointer (some ⟨ob, 2, none⟩)), Ent.val (.int .i64 mm), Ent.val (.pointer (some ⟨ob, 2, none⟩)), Ent.val (.int .i64 mm), newFG F G mm mm, Ent.val (.int .i64 ev), Ent.val (.bool true), Ent.val (.bool true)]) (Rfg F G) I0 I1 I2 11 23 (by kernel_rfl) (by kernel_rfl) (by kernel_rfl) (by rw [hsz]; kernel_rfl) (by decide) (of_decide_eq_true (by kernel_rfl)) (of_decide_eq_true (by kernel_rfl)) ?hwait h0 (TE_stable _) ?hop ?hcA ?hcB ?hdone
  case hwait =>
    intro oB hoB
    obtain rfl := Option.some.inj hoB
    exact ⟨⟨11, .chain⟩, by simp, rfl, rfl⟩
  case hdone =>
    intro a w1 hI hS hT
    have kl : a.tmps.getD 7 undef = .bool true := hT 25 _ rfl
    have he := same_puts hS
    have hQ2 := hQ (a.tmps.getD 93 undef) (a.tmps.getD 94 undef) (a.tmps.getD 95 undef) (a.tmps.getD 96 undef) (a.tmps.getD 97 undef) (a.tmps.getD 98 undef) (a.tmps.getD 99 undef) (a.tmps.getD 100 undef) (a.tmps.getD 101 undef) (a.tmps.getD 102 undef) (a.tmps.getD 103 undef) (a.tmps.getD 104 undef) (a.tmps.getD 105 undef) (a.tmps.getD 106 undef) (a.tmps.getD 107 undef) (a.tmps.getD 108 undef) (a.tmps.getD 109 undef) (a.tmps.getD 110 undef) (a.tmps.getD 111 undef) (a.tmps.getD 112 undef) (a.tmps.getD 113 undef) (a.tmps.getD 114 undef) (a.tmps.getD 115 undef) (a.tmps.getD 116 undef) (a.tmps.getD 117 undef) w1 hI
    rw [← kl] at hQ2
    rw [he]
    exact hQ2
  case hcA =>
    intro o ho
    obtain rfl := Option.some.inj ho
    intro a w1 hI hS hD
    have d3 : a.tmps.getD 96 undef = .pointer (some ⟨p, 0, none⟩) := hD ⟨3, .data⟩ (by simp) rfl _ rfl
    have d5 : a.tmps.getD 98 undef = .int .i64 nn := hD ⟨5, .data⟩ (by simp) rfl _ rfl
    have t10 := hD ⟨10, .data⟩ (by simp) rfl _ rfl
    obtain ⟨kb, d10, nf, ng, hB4⟩ := t10
    have d10 : a.tmps.getD 103 undef = .slice (some ⟨kb, 0, none⟩) 2 2 := d10
    refine ⟨rfl, ?_⟩
    refine wp_call_r (f := 26) (args := #[.pointer (some ⟨p, 0, none⟩), .int .i64 nn, .slice (some ⟨kb, 0, none⟩) 2 2]) (by simp [execOp, resolve, Act.eval, d3, d5, d10, go_sem]) ?_
    refine (hA w1 hI kb nf ng hB4).mono ?_
    rintro e w2 ⟨rfl, h2, h3⟩
    exact ⟨_, rfl, _, rfl, h2, h3, rfl⟩
  case hcB =>
    intro o ho
    obtain rfl := Option.some.inj ho
    intro a w1 hI hS hD
    have d15 : a.tmps.getD 108 undef = .pointer (some ⟨x, 0, none⟩) := hD ⟨15, .data⟩ (by simp) rfl _ rfl
    have d17 : a.tmps.getD 110 undef = .int .i64 nn := hD ⟨17, .data⟩ (by simp) rfl _ rfl
    have t22 := hD ⟨22, .data⟩ (by simp) rfl _ rfl
    obtain ⟨kb, d22, nf, ng, hB4⟩ := t22
    have d22 : a.tmps.getD 115 undef = .slice (some ⟨kb, 0, none⟩) 2 2 := d22
    refine ⟨rfl, ?_⟩
    refine wp_call_r (f := 27) (args := #[.pointer (some ⟨x, 0, none⟩), .int .i64 nn, .slice (some ⟨kb, 0, none⟩) 2 2]) (by simp [execOp, resolve, Act.eval, d15, d17, d22, go_sem]) ?_
    refine (hB w1 hI kb nf ng hB4).mono ?_
    rintro e w2 ⟨rfl, h2, h3⟩
    exact ⟨_, rfl, _, rfl, h2, h3, rfl⟩
  case hop =>
    intro i o hi hnA hnB
    have hlt : i < 26 := (Array.getElem?_eq_some_iff.1 hi).1
    rcases (show i = 0 ∨ i = 1 ∨ i = 2 ∨ i = 3 ∨ i = 4 ∨ i = 5 ∨ i = 6 ∨ i = 7 ∨ i = 8 ∨ i = 9 ∨ i = 10 ∨ i = 11 ∨ i = 12 ∨ i = 13 ∨ i = 14 ∨ i = 15 ∨ i = 16 ∨ i = 17 ∨ i = 18 ∨ i = 19 ∨ i = 20 ∨ i = 21 ∨ i = 22 ∨ i = 23 ∨ i = 24 ∨ i = 25 by omega) with rfl | rfl | rfl | rfl | rfl | rfl | rfl | rfl | rfl | rfl | rfl | rfl | rfl | rfl | rfl | rfl | rfl | rfl | rfl | rfl | rfl | rfl | rfl | rfl | rfl | rfl
    · obtain rfl := Option.some.inj hi
      clear hi hlt hnA hnB
      intro a w1 hI hS hD
      have e0 : a.tmps.getD 0 undef = .pointer (some ⟨wp, 0, none⟩) := (hS.slot 0 (by kernel_rfl)).trans s0
      exact ⟨rfl, .pointer (some ⟨wp, 0, none⟩), w1, by simp [execOp, Act.eval, e0, go_sem], Chg.refl _ _, id, id, id, rfl⟩
    · obtain rfl := Option.some.inj hi
      clear hi hlt hnA hnB
      intro a w1 hI hS hD
      have d0 : a.tmps.getD 93 undef = .pointer (some ⟨wp, 0, none⟩) := hD ⟨0, .data⟩ (by simp) rfl _ rfl
      exact ⟨rfl, .pointer (some ⟨wp, 0, none⟩), w1, by simp [execOp, Act.eval, d0, go_sem], Chg.refl _ _, id, id, id, rfl⟩
    · obtain rfl := Option.some.inj hi
      clear hi hlt hnA hnB
      intro a w1 hI hS hD
      have d1 : a.tmps.getD 94 undef = .pointer (some ⟨wp, 0, none⟩) := hD ⟨1, .data⟩ (by simp) rfl _ rfl
      exact ⟨rfl, .pointer (some ⟨wp, 0, none⟩), w1, by simp [execOp, Act.eval, d1, go_sem], Chg.refl _ _, id, id, id, rfl⟩
    · obtain rfl := Option.some.inj hi
      clear hi hlt hnA hnB
      intro a w1 hI hS hD
      have d2 : a.tmps.getD 95 undef = .pointer (some ⟨wp, 0, none⟩) := hD ⟨2, .data⟩ (by simp) rfl _ rfl
      exact ⟨rfl, .pointer (some ⟨p, 0, none⟩), w1, by simp [execOp, Act.eval, d2, c0 w1 hI, go_sem], Chg.refl _ _, id, id, id, rfl⟩
    · obtain rfl := Option.some.inj hi
      clear hi hlt hnA hnB
      intro a w1 hI hS hD
      have e3 : a.tmps.getD 3 undef = .pointer (some ⟨ob, 0, none⟩) := (hS.slot 3 (by kernel_rfl)).trans s3
      exact ⟨rfl, .pointer (some ⟨ob, 1, none⟩), w1, by simp [execOp, Act.eval, e3, go_sem], Chg.refl _ _, id, id, id, rfl⟩
    · obtain rfl := Option.some.inj hi
      clear hi hlt hnA hnB
      intro a w1 hI hS hD
      have d4 : a.tmps.getD 97 undef = .pointer (some ⟨ob, 1, none⟩) := hD ⟨4, .data⟩ (by simp) rfl _ rfl
      exact ⟨rfl, .int .i64 nn, w1, by simp [execOp, Act.eval, d4, o1 w1 hI, go_sem], Chg.refl _ _, id, id, id, rfl⟩
    · obtain rfl := Option.some.inj hi
      clear hi hlt hnA hnB
      intro a w1 hI hS hD
      have e3 : a.tmps.getD 3 undef = .pointer (some ⟨ob, 0, none⟩) := (hS.slot 3 (by kernel_rfl)).trans s3
      exact ⟨rfl, .pointer (some ⟨ob, 2, none⟩), w1, by simp [execOp, Act.eval, e3, go_sem], Chg.refl _ _, id, id, id, rfl⟩
    · obtain rfl := Option.some.inj hi
      clear hi hlt hnA hnB
      intro a w1 hI hS hD
      have d6 : a.tmps.getD 99 undef = .pointer (some ⟨ob, 2, none⟩) := hD ⟨6, .data⟩ (by simp) rfl _ rfl
      exact ⟨rfl, .int .i64 mm, w1, by simp [execOp, Act.eval, d6, o2 w1 hI, go_sem], Chg.refl _ _, id, id, id, rfl⟩
    · obtain rfl := Option.some.inj hi
      clear hi hlt hnA hnB
      intro a w1 hI hS hD
      have e3 : a.tmps.getD 3 undef = .pointer (some ⟨ob, 0, none⟩) := (hS.slot 3 (by kernel_rfl)).trans s3
      exact ⟨rfl, .pointer (some ⟨ob, 2, none⟩), w1, by simp [execOp, Act.eval, e3, go_sem], Chg.refl _ _, id, id, id, rfl⟩
    · obtain rfl := Option.some.inj hi
      clear hi hlt hnA hnB
      intro a w1 hI hS hD
      have d8 : a.tmps.getD 101 undef = .pointer (some ⟨ob, 2, none⟩) := hD ⟨8, .data⟩ (by simp) rfl _ rfl
      exact ⟨rfl, .int .i64 mm, w1, by simp [execOp, Act.eval, d8, o2 w1 hI, go_sem], Chg.refl _ _, id, id, id, rfl⟩
    · obtain rfl := Option.some.inj hi
      clear hi hlt hnA hnB
      intro a w1 hI hS hD
      have d7 : a.tmps.getD 100 undef = .int .i64 mm := hD ⟨7, .data⟩ (by simp) rfl _ rfl
      have d9 : a.tmps.getD 102 undef = .int .i64 mm := hD ⟨9, .data⟩ (by simp) rfl _ rfl
      have hwz := hz w1 hI
      have hal : Lat w1 (w1.alloc (.cells #[.int .i64 mm, .int .i64 mm] 3)) := (Below.refl _ w1).alloc (Nat.le_refl _) _
      exact ⟨rfl, .slice (some ⟨w1.heap.size, 0, none⟩) 2 2, w1.alloc (.cells #[.int .i64 mm, .int .i64 mm] 3), by simp only [Array.getD_eq_getD_getElem?] at d7 d9; simp [execOp, Act.eval, d7, d9, go_sem], Chg.of_below hal, fun h => l0 _ _ h hal, fun h => l1 _ _ h hal, fun h => l2 _ _ h hal, w1.heap.size, rfl, fun q => by have := hFl _ q; omega, fun q => by have := hGl _ q; omega, Blk.new w1 3 _⟩
    · exact absurd rfl hnA
    · obtain rfl := Option.some.inj hi
      clear hi hlt hnA hnB
      intro a w1 hI hS hD
      have e0 : a.tmps.getD 0 undef = .pointer (some ⟨wp, 0, none⟩) := (hS.slot 0 (by kernel_rfl)).trans s0
      exact ⟨rfl, .pointer (some ⟨wp, 0, none⟩), w1, by simp [execOp, Act.eval, e0, go_sem], Chg.refl _ _, id, id, id, rfl⟩
    · obtain rfl := Option.some.inj hi
      clear hi hlt hnA hnB
      intro a w1 hI hS hD
      have d12 : a.tmps.getD 105 undef = .pointer (some ⟨wp, 0, none⟩) := hD ⟨12, .data⟩ (by simp) rfl _ rfl
      exact ⟨rfl, .pointer (some ⟨wp, 0, none⟩), w1, by simp [execOp, Act.eval, d12, go_sem], Chg.refl _ _, id, id, id, rfl⟩
    · obtain rfl := Option.some.inj hi
      clear hi hlt hnA hnB
      intro a w1 hI hS hD
      have d13 : a.tmps.getD 106 undef = .pointer (some ⟨wp, 0, none⟩) := hD ⟨13, .data⟩ (by simp) rfl _ rfl
      exact ⟨rfl, .pointer (some ⟨wp, 2, none⟩), w1, by simp [execOp, Act.eval, d13, go_sem], Chg.refl _ _, id, id, id, rfl⟩
    · obtain rfl := Option.some.inj hi
      clear hi hlt hnA hnB
      intro a w1 hI hS hD
      have d14 : a.tmps.getD 107 undef = .pointer (some ⟨wp, 2, none⟩) := hD ⟨14, .data⟩ (by simp) rfl _ rfl
      exact ⟨rfl, .pointer (some ⟨x, 0, none⟩), w1, by simp [execOp, Act.eval, d14, c2 w1 hI, go_sem], Chg.refl _ _, id, id, id, rfl⟩
    · obtain rfl := Option.some.inj hi
      clear hi hlt hnA hnB
      intro a w1 hI hS hD
      have e3 : a.tmps.getD 3 undef = .pointer (some ⟨ob, 0, none⟩) := (hS.slot 3 (by kernel_rfl)).trans s3
      exact ⟨rfl, .pointer (some ⟨ob, 1, none⟩), w1, by simp [execOp, Act.eval, e3, go_sem], Chg.refl _ _, id, id, id, rfl⟩
    · obtain rfl := Option.some.inj hi
      clear hi hlt hnA hnB
      intro a w1 hI hS hD
      have d16 : a.tmps.getD 109 undef = .pointer (some ⟨ob, 1, none⟩) := hD ⟨16, .data⟩ (by simp) rfl _ rfl
      exact ⟨rfl, .int .i64 nn, w1, by simp [execOp, Act.eval, d16, o1 w1 hI, go_sem], Chg.refl _ _, id, id, id, rfl⟩
    · obtain rfl := Option.some.inj hi
      clear hi hlt hnA hnB
      intro a w1 hI hS hD
      have e3 : a.tmps.getD 3 undef = .pointer (some ⟨ob, 0, none⟩) := (hS.slot 3 (by kernel_rfl)).trans s3
      exact ⟨rfl, .pointer (some ⟨ob, 2, none⟩), w1, by simp [execOp, Act.eval, e3, go_sem], Chg.refl _ _, id, id, id, rfl⟩
    · obtain rfl := Option.some.inj hi
      clear hi hlt hnA hnB
      intro a w1 hI hS hD
      have d18 : a.tmps.getD 111 undef = .pointer (some ⟨ob, 2, none⟩) := hD ⟨18, .data⟩ (by simp) rfl _ rfl
      exact ⟨rfl, .int .i64 mm, w1, by simp [execOp, Act.eval, d18, o2 w1 hI, go_sem], Chg.refl _ _, id, id, id, rfl⟩
    · obtain rfl := Option.some.inj hi
      clear hi hlt hnA hnB
      intro a w1 hI hS hD
      have e3 : a.tmps.getD 3 undef = .pointer (some ⟨ob, 0, none⟩) := (hS.slot 3 (by kernel_rfl)).trans s3
      exact ⟨rfl, .pointer (some ⟨ob, 2, none⟩), w1, by simp [execOp, Act.eval, e3, go_sem], Chg.refl _ _, id, id, id, rfl⟩
    · obtain rfl := Option.some.inj hi
      clear hi hlt hnA hnB
      intro a w1 hI hS hD
      have d20 : a.tmps.getD 113 undef = .pointer (some ⟨ob, 2, none⟩) := hD ⟨20, .data⟩ (by simp) rfl _ rfl
      exact ⟨rfl, .int .i64 mm, w1, by simp [execOp, Act.eval, d20, o2 w1 hI, go_sem], Chg.refl _ _, id, id, id, rfl⟩
    · obtain rfl := Option.some.inj hi
      clear hi hlt hnA hnB
      intro a w1 hI hS hD
      have d19 : a.tmps.getD 112 undef = .int .i64 mm := hD ⟨19, .data⟩ (by simp) rfl _ rfl
      have d21 : a.tmps.getD 114 undef = .int .i64 mm := hD ⟨21, .data⟩ (by simp) rfl _ rfl
      have hwz := hz w1 hI
      have hal : Lat w1 (w1.alloc (.cells #[.int .i64 mm, .int .i64 mm] 3)) := (Below.refl _ w1).alloc (Nat.le_refl _) _
      exact ⟨rfl, .slice (some ⟨w1.heap.size, 0, none⟩) 2 2, w1.alloc (.cells #[.int .i64 mm, .int .i64 mm] 3), by simp only [Array.getD_eq_getD_getElem?] at d19 d21; simp [execOp, Act.eval, d19, d21, go_sem], Chg.of_below hal, fun h => l0 _ _ h hal, fun h => l1 _ _ h hal, fun h => l2 _ _ h hal, w1.heap.size, rfl, fun q => by have := hFl _ q; omega, fun q => by have := hGl _ q; omega, Blk.new w1 3 _⟩
    · exact absurd rfl hnB
    · obtain rfl := Option.some.inj hi
      clear hi hlt hnA hnB
      intro a w1 hI hS hD
      have d11 : a.tmps.getD 104 undef = .int .i64 ev := hD ⟨11, .data⟩ (by simp) rfl _ rfl
      have d23 : a.tmps.getD 116 undef = .int .i64 ev := hD ⟨23, .data⟩ (by simp) rfl _ rfl
      exact ⟨rfl, .bool true, w1, by simp [execOp, Act.eval, d11, d23, go_sem], Chg.refl _ _, id, id, id, rfl⟩
    · obtain rfl := Option.some.inj hi
      clear hi hlt hnA hnB
      intro a w1 hI hS hD
      have d24 : a.tmps.getD 117 undef = .bool true := hD ⟨24, .data⟩ (by simp) rfl _ rfl
      exact ⟨rfl, .bool true, w1, by simp [execOp, Act.eval, d24, go_sem], Chg.refl _ _, id, id, id, rfl⟩

end Go.Proofs.YtnfjhdedcnbdbaaGreat

/-
  WalPlays: the kinds of a step: Fuse.
-/
namespace Go.Proofs.YtnfjhdedcnbdbaaGreat
open Go.RowKit
set_option linter.unusedVariables false
set_option linter.unusedSimpArgs false

theorem Dks.latR {dt ft : TypeId} {a b c : World} {p : Nat} {F : Nat → Prop} {S : St} (k : Dks dt ft a b p F S) (hb : Lat b c) : Dks dt ft a c p F S := by
  obtain ⟨F1, k1, k2, k3⟩ := k
  exact ⟨F1, k1.lat hb, k2.trans (Chg.of_below (F := fun _ => False) hb) (fun _ _ h => h.elim), k3⟩

set_option maxRecDepth 100000 in
set_option maxHeartbeats 0 in
theorem step_fuse (W : World) (wp p x : Nat) (F G : Nat → Prop) (S : St) (lo mo : Option Addr) (ll : Option (Nat × Nat × Lw)) (s : Opn) (nf nl : Nat) (w : World) (h : WS W w wp p x F G S lo mo ll) (hs : s.ok W) (hf : S.falls ≤ nf) (hl : FB nl S) (hbf : nf ≤ 1099511620000) (hk : s.kd = 4) :
    Calls Tryz.prog 6 #[.pointer (some ⟨wp, 0, none⟩), s.agg] w fun e w' => Stepd W wp p x (nf + 0) (nl + 0) e w' := by
  have H := hidden h
  have HOK := hidden hs
  have HF := hidden hf
  have HLL := hidden hl
  obtain ⟨kd, nn, mm, ba, bn, bc, bs⟩ := s
  dsimp only at hk
  subst hk
  have hnn : nn ≤ 9223372036854775807 := hs.nn.2
  clear h hs hf hl
  unfold Opn.agg
  go_enter Tryz.func6, Tryz.ntmps6
  go_wp2_with (refine wpList_box_blk rfl 30 (.tmp 1) rfl [.int .i64 4, .int .i64 nn, .int .i64 mm, .slice ba bn bc] rfl ?_; intro w1 B1 bl1 hz1; have HB1 := hidden B1; have HL1 : Hid (Lat w w1) := bl1; have x3 := B1.cell 3; simp only [List.getElem?_cons_succ, List.getElem?_cons_zero] at x3; clear B1 bl1 hz1)
  refine (shortP ba bn bc w1 HOK.out.le HOK.out.non HOK.out.bl).mono ?_
  rintro e w2 ⟨rfl, hw2⟩
  obtain rfl := hw2.symm
  clear hw2 x3
  obtain ⟨m, hm⟩ : ∃ m, min bn 3000 = m := ⟨_, rfl⟩
  have hm1 : m ≤ bn ∧ m ≤ 3000 := by omega
  rw [hm]
  have HSM : Hid (Sl W ba m (bs.take m)) := HOK.out.sl.take hm1.1
  have HSM1 : Hid (Sl w1 ba m (bs.take m)) := HSM.out.later (Lat.trans _ _ _ H.out.bel HL1.out)
  generalize bs.take m = bb at *
  clear hm
  go_wp2_with fail
  refine (lentP ba m bc bb w1 HSM1.out (by omega)).mono ?_
  rintro e w3 ⟨rfl, hB3, hb3⟩
  have HB3 := hidden hB3
  have HL3 : Hid (Lat w w3) := Lat.trans _ _ _ HL1.out hb3
  have HBO := hidden (HB1.out.later hb3)
  obtain ⟨gb, hgb⟩ : ∃ gb, w1.heap.size = gb := ⟨_, rfl⟩
  obtain ⟨ob, hob⟩ : ∃ ob, w.heap.size = ob := ⟨_, rfl⟩
  have HGB : Hid (W.heap.size ≤ gb ∧ w.heap.size ≤ gb) := by have h1 := HL1.out.size; have h2 := H.out.bel.size; exact ⟨by omega, by omega⟩
  rw [hgb] at HB3 ⊢
  rw [hob] at HBO ⊢
  have x0 := HBO.out.cell 0
  simp only [List.getElem?_cons_succ, List.getElem?_cons_zero] at x0
  have H3 := hidden (H.out.lat HL3.out)
  have HSW : Hid (Sl w3 ba m bb) := HSM1.out.later hb3
  have HNG : Hid (¬ F gb ∧ ¬ G gb) := ⟨fun k => by have h1 := H.out.ww.d.lt _ k; have h2 := HGB.out.2; omega, fun k => by have h1 := H.out.ww.r.lt _ k; have h2 := HGB.out.2; omega⟩
  have HBN : Hid (∀ z, ba = some z → 0 < m → z.block < W.heap.size) := fun z hz hp => HSM.out.lt z hz hp
  clear hB3 hb3 HSM1 HB1 HL1 hgb hob
  have HFA : Hid (S.falls ≤ 1099511627776) := Nat.le_trans HF.out (by omega)
  have HOF : Hid (¬ F ob ∧ ¬ G ob) := by
    have t1 : Tg w3 ob 30 := Blk.tg HBO.out
    refine ⟨fun k => ?_, fun k => ?_⟩
    · rcases H3.out.ww.d.tg _ k with q | q | q | q <;> exact absurd (t1.one q) (by decide)
    · rcases H3.out.ww.r.tg _ k with q | q | q | q <;> exact absurd (t1.one q) (by decide)
  have HNM : Hid ((-9223372036854775808 ≤ nn ∧ nn ≤ 9223372036854775807) ∧ -9223372036854775808 ≤ mm ∧ mm ≤ 9223372036854775807) := ⟨HOK.out.nn, HOK.out.mm⟩
  obtain ⟨q, hq⟩ : ∃ y, S.setFuse nn [mm, mm] = y := ⟨_, rfl⟩
  have HQ := hidden hq
  obtain ⟨ev, SK⟩ := q
  have HFK : Hid (SK.falls ≤ nf + 0) := by
    have h1 : (S.setFuse nn [mm, mm]).2.falls = S.falls := by unfold St.setFuse; split; rfl; split <;> rfl
    rw [hq] at h1
    have h2 := HF.out
    show SK.falls ≤ _
    dsimp only at h1
    omega
  have HLK : Hid (FB (nl + 0) SK) := by have h1 := HLL.out.setFuse nn [mm, mm]; rw [hq] at h1; exact h1
  clear hq
  go_wp2_with fail
  clear x0
  have HSZ : Hid (∀ A, (Lat w3 A ∨ Dks 64 79 w3 A p F SK ∨ ∃ A1, Dks 64 79 w3 A1 p F SK ∧ Dks 82 97 A1 A x G SK) → w3.heap.size ≤ A.heap.size) := by
    rintro A (h | ⟨F1, k1, k2, k3⟩ | ⟨A1, ⟨F1, k1, k2, k3⟩, ⟨G1, j1, j2, j3⟩⟩)
    · exact h.size
    · exact k2.size
    · exact Nat.le_trans k2.size j2.size
  refine step_r18 wp ob p x F G nn mm ev (fun A => Lat w3 A) (fun A => Dks 64 79 w3 A p F SK) (fun A => ∃ A1, Dks 64 79 w3 A1 p F SK ∧ Dks 82 97 A1 A x G SK) w3 _ _ (by rfl) (by rfl) (by rfl)
    (fun A hI => (H3.out.blk hI H3.out.ww.b H3.out.ww.nf.1 H3.out.ww.nf.2).cell 0) (fun A hI => (H3.out.blk hI H3.out.ww.b H3.out.ww.nf.1 H3.out.ww.nf.2).cell 2) (fun A hI => (H3.out.blk hI HBO.out HOF.out.1 HOF.out.2).cell 1) (fun A hI => (H3.out.blk hI HBO.out HOF.out.1 HOF.out.2).cell 2)
    HSZ.out H3.out.ww.d.lt H3.out.ww.r.lt (fun a b h k => Lat.trans _ _ _ h k) (fun a b h k => Dks.latR h k) (fun a b h k => by obtain ⟨A1, h1, h2⟩ := h; exact ⟨A1, h1, Dks.latR h2 k⟩) (Lat.draw w3) (fun A hL kb nf ng hB => ?hca) (fun A hI kb nf ng hB => ?hcb) ?hq
  case hca =>
    refine (fuseP p F S nn (some ⟨kb, 0, none⟩) 2 2 [mm, mm] A (H3.out.ww.d.lat hL) (sn_two hB HNM.out.2 HNM.out.2) (Nat.le_refl _) HNM.out.1).mono ?_
    rw [HQ.out]
    rintro e A2 ⟨rfl, hd⟩
    refine ⟨rfl, Dks.lat hL hd, ?_⟩
    obtain ⟨F1, k1, k2, k3⟩ := hd
    exact k2.mono (fun i _ h => .inl h)
  case hcb =>
    refine (fuseR x G S nn (some ⟨kb, 0, none⟩) 2 2 [mm, mm] A (H3.out.r1 hI) (sn_two hB HNM.out.2 HNM.out.2) (fun h => by cases h) (by decide) (fun z hz _ k => by cases hz; exact ng k) HNM.out.1).mono ?_
    rw [HQ.out]
    rintro e A2 ⟨rfl, hd⟩
    refine ⟨rfl, ⟨A, hI, hd⟩, ?_⟩
    obtain ⟨G1, k1, k2, k3⟩ := hd
    exact k2.mono (fun i _ h => .inr h)
  case hq =>
  intros
  rename_i wk hI
  obtain ⟨A1, hd, hr⟩ := hI
  obtain ⟨FK, GK, hWK, hcK, hnF, hnG⟩ := H3.out.both hd hr
  have HK := hidden hWK
  clear hd hr hWK
  simp only [Act.put, List.setIfInBounds_toArray, List.set_cons_succ, List.set_cons_zero]
  have HBK := hidden (hcK.blk HB3.out (fun k => k.elim HNG.out.1 HNG.out.2))
  have HBOK := hidden (hcK.blk HBO.out (fun k => k.elim HOF.out.1 HOF.out.2))
  have HSK : Hid (Sl wk ba m bb) := hcK.sl HSW.out (fun z hz hp k => by
    have h1 := HBN.out z hz hp
    rcases k with k | k
    · have := H3.out.F _ k; omega
    · have := H3.out.G _ k; omega)
  have HNK : Hid (¬ FK gb ∧ ¬ GK gb) := by
    have hlt : gb < w3.heap.size := HB3.out.lt
    refine ⟨fun k => ?_, fun k => ?_⟩
    · rcases hnF gb k with q | q
      · exact HNG.out.1 q
      · omega
    · rcases hnG gb k with q | q
      · exact HNG.out.2 q
      · omega
  clear hcK hnF hnG
  obtain ⟨lk, hlk⟩ : ∃ y : Option Addr, lo = y := ⟨_, rfl⟩
  obtain ⟨mk, hmk⟩ : ∃ y : Option Addr, mo = y := ⟨_, rfl⟩
  obtain ⟨llk, hllk⟩ : ∃ y : Option (Nat × Nat × Lw), ll = y := ⟨_, rfl⟩
  have HK : Hid (WS W wk wp p x FK GK SK lk mk llk) := by rw [← hlk, ← hmk, ← hllk]; exact HK.out
  clear hlk hmk hllk
  go_wp2_with fail
  refine (backP gb ba m bc bb wk HBK.out HSK.out (fun z hz hp e => by have h1 := HBN.out z hz hp; have h2 := HGB.out.1; omega) (by omega)).mono ?_
  rintro e w4 ⟨rfl, hc4⟩
  have HBO9 := hidden (hc4.blk HBOK.out (fun e => by have t1 : Tg wk ob 30 := Blk.tg HBOK.out; have t2 : Tg wk gb 5 := Blk.tg HBK.out; subst e; exact absurd (t1.one t2) (by decide)))
  have H4 := hidden (HK.out.other gb (Blk.tg HBK.out) HNK.out.1 HNK.out.2 HGB.out.1 hc4)
  clear hc4
  go_wp2_with fail
  refine (filesP wp p x FK GK SK _ _ w4 H4.out.ww).mono ?_
  rintro e w5 ⟨rfl, hl5⟩
  have H5 := hidden (H4.out.lat hl5)
  have x1 := (HBO9.out.later hl5).cell 1
  simp only [List.getElem?_cons_succ, List.getElem?_cons_zero] at x1
  clear hl5
  go_wp2_with fail
  refine (looksP W.heap.size wp p x FK GK SK lk mk llk nn w5 H5.out.ww H5.out.ll hnn).mono ?_
  rintro e w6 ⟨rfl, hl6⟩
  have H6 := hidden (H5.out.lat hl6)
  clear hl6 x1
  go_wp2_with fail
  go_ret
  exact ⟨rfl, FK, GK, SK, lk, mk, llk, H6.out, HFK.out, HLK.out⟩


end Go.Proofs.YtnfjhdedcnbdbaaGreat
