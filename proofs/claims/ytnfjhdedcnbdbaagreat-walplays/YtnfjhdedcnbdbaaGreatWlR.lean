/-
  Regions of the log that draw their order.
-/
import Derived.Test.YtnfjhdedcnbdbaaGreatWlC
import Derived.Test.YtnfjhdedcnbdbaaGreatRngC
namespace Go.Proofs.YtnfjhdedcnbdbaaGreat
open Go.RowKit
set_option linter.unusedVariables false
set_option linter.unusedSimpArgs false

theorem ok_build {P : Program} {Q : Exit → Act → World → Prop} {Later : World → World → Prop} {T : Nat → Value → World → Prop} {i : Nat} {o : Oper} {a : Act} {w : World} (hrf : ∀ a, Later a a) (t : TypeId) (parts : Array (Nat × Operand)) (ho : o.op = .build t parts) (vals : List (Nat × Value)) (cells : Array Value)
    (hv : (parts.map fun (i, x) => (i, a.eval x)).toList = vals) (hc : P.built t vals = some cells) (hT : T i (.agg cells) w) : o.wp P a w (fun a' w' => ∃ v, a' = a.put o.dst v ∧ Later w w' ∧ T i v w') Q := by
  have hr := run_build (P := P) w t (parts.map fun (i, x) => (i, a.eval x)) cells (by rw [hv]; exact hc)
  refine ok_value hrf (.agg cells) ?_ hT
  simp only [execOp, ho, Sem.run_bind, hr, Result.andThen_ok, Sem.run_pure]
theorem built83 (x y z : Int) : Tryz.prog.built 66 [(0, .int .u64 x), (1, .int .i64 y), (2, .int .i64 z)] = some #[.int .u64 x, .int .i64 y, .int .i64 z] := by kernel_rfl
theorem size83 : (Tryz.prog.info? 66).map (·.size) = some 3 := by kernel_rfl

set_option maxRecDepth 100000 in
set_option maxHeartbeats 2000000 in
theorem head_r3 (b off n c hb g p s : Nat) (w : World) (a0 : Act) (Q : Exit → Act → World → Prop) (hsz : a0.tmps.size = 40)
    (s1 : a0.tmps.getD 1 undef = .slice (some ⟨b, off, none⟩) n c)
    (s4 : a0.tmps.getD 4 undef = .pointer (some ⟨hb, 0, none⟩))
    (h16 : ¬ (c : Int) < 16)
    (h20 : ¬ (c : Int) < 20)
    (h24 : ¬ (c : Int) < 24)
    (n8 : ¬ c = 8)
    (n16 : ¬ c = 16)
    (n20 : ¬ c = 20)
    (hp : IntKind.i64.wrap (p : Int) = (p : Int))
    (hs : IntKind.i64.wrap (s : Int) = (s : Int))
    (k1 : ∀ w1, Lat w w1 → Calls Tryz.prog 100 #[.slice (some ⟨b, off + 8, none⟩) 8 (c - 8)] w1 fun e w2 => e = .returned (.int .u64 (g : Int)) ∧ Lat w1 w2)
    (k2 : ∀ w1, Lat w w1 → Calls Tryz.prog 100 #[.slice (some ⟨b, off + 16, none⟩) 4 (c - 16)] w1 fun e w2 => e = .returned (.int .u64 (p : Int)) ∧ Lat w1 w2)
    (k3 : ∀ w1, Lat w w1 → Calls Tryz.prog 100 #[.slice (some ⟨b, off + 20, none⟩) 4 (c - 20)] w1 fun e w2 => e = .returned (.int .u64 (s : Int)) ∧ Lat w1 w2)
    (hth : ∀ w1, Lat w w1 → w1.there hb 0 3)
    (hQ : ∀ (v21 v22 v23 v24 v25 v26 v27 v28 v29 v30 v31 v32 : Value) (w1 : World), Lat w w1 → Q .normal ((((((((((((a0.put (some 21) v21).put (some 22) v22).put (some 23) v23).put (some 24) v24).put (some 25) v25).put (some 26) v26).put (some 27) v27).put (some 28) v28).put (some 29) v29).put (some 30) v30).put (some 31) v31).put (some 32) v32) (w1.setCells hb 0 [.int .u64 (g : Int), .int .i64 (p : Int), .int .i64 (s : Int)])) :
    Code.wp Tryz.prog ((Tryz.f92.body.bind (findRegion 3)).getD .skip) Q a0 w := by
  conv => arg 2; whnf
  refine wp_region_last 12 Lat (TV [.slice (some ⟨b, off, none⟩) n c, .slice (some ⟨b, off + 8, none⟩) 8 (c - 8), .int .u64 (g : Int), .slice (some ⟨b, off, none⟩) n c, .slice (some ⟨b, off + 16, none⟩) 4 (c - 16), .int .u64 (p : Int), .int .i64 (p : Int), .slice (some ⟨b, off, none⟩) n c, .slice (some ⟨b, off + 20, none⟩) 4 (c - 20), .int .u64 (s : Int), .int .i64 (s : Int), .agg #[.int .u64 (g : Int), .int .i64 (p : Int), .int .i64 (s : Int)]]) (by kernel_rfl) (by kernel_rfl) (by kernel_rfl) (by rw [hsz]; kernel_rfl) (by kernel_rfl) (by kernel_rfl) Lat.refl Lat.trans (TV.stable _) (Lat.draw w) ?hop ?hlast
  case hlast =>
    intro o a w1 ho hL hS hT
    obtain rfl := Option.some.inj ho
    have he := same_puts hS
    have hQ2 := hQ (a.tmps.getD 21 undef) (a.tmps.getD 22 undef) (a.tmps.getD 23 undef) (a.tmps.getD 24 undef) (a.tmps.getD 25 undef) (a.tmps.getD 26 undef) (a.tmps.getD 27 undef) (a.tmps.getD 28 undef) (a.tmps.getD 29 undef) (a.tmps.getD 30 undef) (a.tmps.getD 31 undef) (a.tmps.getD 32 undef) w1 hL
    have dA : a.tmps.getD 4 undef = .pointer (some ⟨hb, 0, none⟩) := (hS.slot 4 (by kernel_rfl)).trans s4
    have dV : a.tmps.getD 32 undef = .agg #[.int .u64 (g : Int), .int .i64 (p : Int), .int .i64 (s : Int)] := hT 11 _ (by omega) rfl _ rfl
    refine wp_store_mid 66 (.tmp 4) (.tmp 32) rfl hb 0 #[.int .u64 (g : Int), .int .i64 (p : Int), .int .i64 (s : Int)] dA dV (hth w1 hL) size83 (by simp [Value.oneCell']) ?_
    show Q .normal a _
    rw [he]
    exact hQ2
  case hop =>
    intro i o hlt hi
    rcases (show i = 0 ∨ i = 1 ∨ i = 2 ∨ i = 3 ∨ i = 4 ∨ i = 5 ∨ i = 6 ∨ i = 7 ∨ i = 8 ∨ i = 9 ∨ i = 10 ∨ i = 11 by omega) with rfl | rfl | rfl | rfl | rfl | rfl | rfl | rfl | rfl | rfl | rfl | rfl
    · obtain rfl := Option.some.inj hi
      clear hi hlt
      intro a w1 hL hS hD
      have e1 : a.tmps.getD 1 undef = .slice (some ⟨b, off, none⟩) n c := (hS.slot 1 (by kernel_rfl)).trans s1
      refine step_yes rfl ?_
      exact ok_value Lat.refl (.slice (some ⟨b, off, none⟩) n c) (by simp [execOp, Act.eval, e1, go_sem]) (TV.mk rfl)
    · obtain rfl := Option.some.inj hi
      clear hi hlt
      intro a w1 hL hS hD
      have d0 : a.tmps.getD 21 undef = .slice (some ⟨b, off, none⟩) n c := hD ⟨0, .data⟩ (by simp) rfl _ rfl _ rfl
      refine step_yes rfl ?_
      exact ok_value Lat.refl (.slice (some ⟨b, off + 8, none⟩) 8 (c - 8)) (by simp [execOp, Act.eval, d0, h16, n8, go_sem]) (TV.mk rfl)
    · obtain rfl := Option.some.inj hi
      clear hi hlt
      intro a w1 hL hS hD
      have d1 : a.tmps.getD 22 undef = .slice (some ⟨b, off + 8, none⟩) 8 (c - 8) := hD ⟨1, .data⟩ (by simp) rfl _ rfl _ rfl
      refine step_yes rfl ?_
      refine ok_call (f := 100) (args := #[.slice (some ⟨b, off + 8, none⟩) 8 (c - 8)]) (by simp [execOp, resolve, Act.eval, d1, go_sem]) ?_
      refine (k1 w1 hL).mono ?_
      rintro e w2 ⟨rfl, hb⟩
      exact ⟨_, rfl, hb, TV.mk rfl⟩
    · obtain rfl := Option.some.inj hi
      clear hi hlt
      intro a w1 hL hS hD
      have e1 : a.tmps.getD 1 undef = .slice (some ⟨b, off, none⟩) n c := (hS.slot 1 (by kernel_rfl)).trans s1
      refine step_yes rfl ?_
      exact ok_value Lat.refl (.slice (some ⟨b, off, none⟩) n c) (by simp [execOp, Act.eval, e1, go_sem]) (TV.mk rfl)
    · obtain rfl := Option.some.inj hi
      clear hi hlt
      intro a w1 hL hS hD
      have d3 : a.tmps.getD 24 undef = .slice (some ⟨b, off, none⟩) n c := hD ⟨3, .data⟩ (by simp) rfl _ rfl _ rfl
      refine step_yes rfl ?_
      exact ok_value Lat.refl (.slice (some ⟨b, off + 16, none⟩) 4 (c - 16)) (by simp [execOp, Act.eval, d3, h20, n16, go_sem]) (TV.mk rfl)
    · obtain rfl := Option.some.inj hi
      clear hi hlt
      intro a w1 hL hS hD
      have d4 : a.tmps.getD 25 undef = .slice (some ⟨b, off + 16, none⟩) 4 (c - 16) := hD ⟨4, .data⟩ (by simp) rfl _ rfl _ rfl
      refine step_yes rfl ?_
      refine ok_call (f := 100) (args := #[.slice (some ⟨b, off + 16, none⟩) 4 (c - 16)]) (by simp [execOp, resolve, Act.eval, d4, go_sem]) ?_
      refine (k2 w1 hL).mono ?_
      rintro e w2 ⟨rfl, hb⟩
      exact ⟨_, rfl, hb, TV.mk rfl⟩
    · obtain rfl := Option.some.inj hi
      clear hi hlt
      intro a w1 hL hS hD
      have d5 : a.tmps.getD 26 undef = .int .u64 (p : Int) := hD ⟨5, .data⟩ (by simp) rfl _ rfl _ rfl
      refine step_yes rfl ?_
      exact ok_value Lat.refl (.int .i64 (p : Int)) (by simp [execOp, Act.eval, d5, hp, go_sem]) (TV.mk rfl)
    · obtain rfl := Option.some.inj hi
      clear hi hlt
      intro a w1 hL hS hD
      have e1 : a.tmps.getD 1 undef = .slice (some ⟨b, off, none⟩) n c := (hS.slot 1 (by kernel_rfl)).trans s1
      refine step_yes rfl ?_
      exact ok_value Lat.refl (.slice (some ⟨b, off, none⟩) n c) (by simp [execOp, Act.eval, e1, go_sem]) (TV.mk rfl)
    · obtain rfl := Option.some.inj hi
      clear hi hlt
      intro a w1 hL hS hD
      have d7 : a.tmps.getD 28 undef = .slice (some ⟨b, off, none⟩) n c := hD ⟨7, .data⟩ (by simp) rfl _ rfl _ rfl
      refine step_yes rfl ?_
      exact ok_value Lat.refl (.slice (some ⟨b, off + 20, none⟩) 4 (c - 20)) (by simp [execOp, Act.eval, d7, h24, n20, go_sem]) (TV.mk rfl)
    · obtain rfl := Option.some.inj hi
      clear hi hlt
      intro a w1 hL hS hD
      have d8 : a.tmps.getD 29 undef = .slice (some ⟨b, off + 20, none⟩) 4 (c - 20) := hD ⟨8, .data⟩ (by simp) rfl _ rfl _ rfl
      refine step_yes rfl ?_
      refine ok_call (f := 100) (args := #[.slice (some ⟨b, off + 20, none⟩) 4 (c - 20)]) (by simp [execOp, resolve, Act.eval, d8, go_sem]) ?_
      refine (k3 w1 hL).mono ?_
      rintro e w2 ⟨rfl, hb⟩
      exact ⟨_, rfl, hb, TV.mk rfl⟩
    · obtain rfl := Option.some.inj hi
      clear hi hlt
      intro a w1 hL hS hD
      have d9 : a.tmps.getD 30 undef = .int .u64 (s : Int) := hD ⟨9, .data⟩ (by simp) rfl _ rfl _ rfl
      refine step_yes rfl ?_
      exact ok_value Lat.refl (.int .i64 (s : Int)) (by simp [execOp, Act.eval, d9, hs, go_sem]) (TV.mk rfl)
    · obtain rfl := Option.some.inj hi
      clear hi hlt
      intro a w1 hL hS hD
      have d2 : a.tmps.getD 23 undef = .int .u64 (g : Int) := hD ⟨2, .data⟩ (by simp) rfl _ rfl _ rfl
      have d6 : a.tmps.getD 27 undef = .int .i64 (p : Int) := hD ⟨6, .data⟩ (by simp) rfl _ rfl _ rfl
      have d10 : a.tmps.getD 31 undef = .int .i64 (s : Int) := hD ⟨10, .data⟩ (by simp) rfl _ rfl _ rfl
      refine step_yes rfl ?_
      exact ok_build Lat.refl 66 #[(0, .tmp 23), (1, .tmp 27), (2, .tmp 31)] rfl [(0, .int .u64 (g : Int)), (1, .int .i64 (p : Int)), (2, .int .i64 (s : Int))] #[.int .u64 (g : Int), .int .i64 (p : Int), .int .i64 (s : Int)] (by simp [Act.eval]; simp only [Array.getD_eq_getD_getElem?] at d2 d6 d10; exact ⟨d2, d6, d10⟩) (built83 _ _ _) (TV.mk rfl)

set_option maxRecDepth 100000 in
set_option maxHeartbeats 2000000 in
theorem look_r6 (fb m cc t : Nat) (z : Int) (ax : Option Addr) (w : World) (a0 : Act) (Q : Exit → Act → World → Prop) (lp nn : Nat) (hlo : ¬ LetsOut Q) (hsz : a0.tmps.size = 65)
    (s3 : a0.tmps.getD 3 undef = .pointer (some ⟨fb, 0, none⟩))
    (s5 : a0.tmps.getD 5 undef = .slice ax m cc)
    (hc : ∀ w1, Lat w w1 → w1.cell? ⟨fb, 5, none⟩ = some (.int .i64 (t : Int)))
    (hfrz : ∀ w1, Lat w w1 → w1.frozen? ⟨fb, 5, none⟩ = false)
    (k1 : ∀ w1, Lat w w1 → Calls Tryz.prog 47 #[.int .i64 (m : Int)] w1 fun e w2 => e = .returned (.int .i64 (z : Int)) ∧ Lat w1 w2)
    (hz : IntKind.i64.wrap ((t : Int) + z) = (t : Int) + z)
    (hQ : ∀ (v18 v19 v20 v21 v22 v23 v24 : Value) (w1 : World), Lat w w1 → Q .normal (((((((a0.put (some 18) v18).put (some 19) v19).put (some 20) v20).put (some 21) v21).put (some 22) v22).put (some 23) v23).put (some 24) v24) (w1.setCell ⟨fb, 5, none⟩ (.int .i64 ((t : Int) + z)))) :
    Code.wpIn (Fence.wide.inRound lp) nn Tryz.prog ((Tryz.f77.body.bind (findR 6)).getD .skip) Q a0 w := by
  conv => arg 4; whnf
  refine wpIn_region_last 7 Lat (TV [.pointer (some ⟨fb, 5, none⟩), .int .i64 (t : Int), .slice ax m cc, .int .i64 (m : Int), .int .i64 (z : Int), .int .i64 ((t : Int) + z), .pointer (some ⟨fb, 5, none⟩)]) (by kernel_rfl) hlo (by kernel_rfl) (by kernel_rfl) (by kernel_rfl) (by rw [hsz]; kernel_rfl) (by kernel_rfl) (by kernel_rfl) Lat.refl Lat.trans (TV.stable _) (Lat.draw w) ?hop ?hlast
  case hlast =>
    intro o a w1 ho hL hS hT
    obtain rfl := Option.some.inj ho
    have he := same_puts hS
    have hQ2 := hQ (a.tmps.getD 18 undef) (a.tmps.getD 19 undef) (a.tmps.getD 20 undef) (a.tmps.getD 21 undef) (a.tmps.getD 22 undef) (a.tmps.getD 23 undef) (a.tmps.getD 24 undef) w1 hL
    have dA : a.tmps.getD 24 undef = .pointer (some ⟨fb, 5, none⟩) := hT 6 _ (by omega) rfl _ rfl
    have dV : a.tmps.getD 23 undef = .int .i64 ((t : Int) + z) := hT 5 _ (by omega) rfl _ rfl
    have hc1 := hc w1 hL
    have hf1 := hfrz w1 hL
    unfold Oper.wp
    simp [execOp, Act.eval, dA, dV, hc1, hf1, Result.andThen, go_sem]
    show Q .normal a _
    rw [he]
    exact hQ2
  case hop =>
    intro i o hlt hi
    rcases (show i = 0 ∨ i = 1 ∨ i = 2 ∨ i = 3 ∨ i = 4 ∨ i = 5 ∨ i = 6 by omega) with rfl | rfl | rfl | rfl | rfl | rfl | rfl
    · obtain rfl := Option.some.inj hi
      clear hi hlt
      intro a w1 hL hS hD
      have e3 : a.tmps.getD 3 undef = .pointer (some ⟨fb, 0, none⟩) := (hS.slot 3 (by kernel_rfl)).trans s3
      refine step_yes rfl ?_
      exact ok_value Lat.refl (.pointer (some ⟨fb, 5, none⟩)) (by simp [execOp, Act.eval, e3, go_sem]) (TV.mk rfl)
    · obtain rfl := Option.some.inj hi
      clear hi hlt
      intro a w1 hL hS hD
      have d0 : a.tmps.getD 18 undef = .pointer (some ⟨fb, 5, none⟩) := hD ⟨0, .data⟩ (by simp) rfl _ rfl _ rfl
      refine step_yes rfl ?_
      exact ok_value Lat.refl (.int .i64 (t : Int)) (by simp [execOp, Act.eval, d0, hc w1 hL, go_sem]) (TV.mk rfl)
    · obtain rfl := Option.some.inj hi
      clear hi hlt
      intro a w1 hL hS hD
      have e5 : a.tmps.getD 5 undef = .slice ax m cc := (hS.slot 5 (by kernel_rfl)).trans s5
      refine step_yes rfl ?_
      exact ok_value Lat.refl (.slice ax m cc) (by simp [execOp, Act.eval, e5, go_sem]) (TV.mk rfl)
    · obtain rfl := Option.some.inj hi
      clear hi hlt
      intro a w1 hL hS hD
      have d2 : a.tmps.getD 20 undef = .slice ax m cc := hD ⟨2, .data⟩ (by simp) rfl _ rfl _ rfl
      refine step_yes rfl ?_
      exact ok_value Lat.refl (.int .i64 (m : Int)) (by simp [execOp, Act.eval, d2, go_sem]) (TV.mk rfl)
    · obtain rfl := Option.some.inj hi
      clear hi hlt
      intro a w1 hL hS hD
      have d3 : a.tmps.getD 21 undef = .int .i64 (m : Int) := hD ⟨3, .data⟩ (by simp) rfl _ rfl _ rfl
      refine step_yes rfl ?_
      refine ok_call (f := 47) (args := #[.int .i64 (m : Int)]) (by simp [execOp, resolve, Act.eval, d3, go_sem]) ?_
      refine (k1 w1 hL).mono ?_
      rintro e w2 ⟨rfl, hb⟩
      exact ⟨_, rfl, hb, TV.mk rfl⟩
    · obtain rfl := Option.some.inj hi
      clear hi hlt
      intro a w1 hL hS hD
      have d1 : a.tmps.getD 19 undef = .int .i64 (t : Int) := hD ⟨1, .data⟩ (by simp) rfl _ rfl _ rfl
      have d4 : a.tmps.getD 22 undef = .int .i64 (z : Int) := hD ⟨4, .data⟩ (by simp) rfl _ rfl _ rfl
      refine step_yes rfl ?_
      exact ok_value Lat.refl (.int .i64 ((t : Int) + z)) (by simp [execOp, Act.eval, d1, d4, hz, go_sem]) (TV.mk rfl)
    · obtain rfl := Option.some.inj hi
      clear hi hlt
      intro a w1 hL hS hD
      have e3 : a.tmps.getD 3 undef = .pointer (some ⟨fb, 0, none⟩) := (hS.slot 3 (by kernel_rfl)).trans s3
      refine step_yes rfl ?_
      exact ok_value Lat.refl (.pointer (some ⟨fb, 5, none⟩)) (by simp [execOp, Act.eval, e3, go_sem]) (TV.mk rfl)

end Go.Proofs.YtnfjhdedcnbdbaaGreat
