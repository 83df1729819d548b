import Derived.Test.YtnfjhdedcnbdbaaGreatFrD
import Derived.Test.YtnfjhdedcnbdbaaGreatAnyW
/-
  Get: regions that draw their order.
-/
namespace Go.Proofs.YtnfjhdedcnbdbaaGreat
open Go.RowKit
set_option linter.unusedVariables false
set_option linter.unusedSimpArgs false

/-- A list that came out. -/
def RowE (B n : Nat) (xs : List Int) (v : Value) (w : World) : Prop := ∃ ad c, v = .slice ad n c ∧ w.ownsRow B 5 1 v n (cells8 xs)
theorem RowE.later {B n : Nat} {xs : List Int} {v : Value} {w w' : World} (h : RowE B n xs v w) (hb : Lat w w') : RowE B n xs v w' := by
  obtain ⟨ad, c, rfl, ho⟩ := h
  exact ⟨ad, c, rfl, (Chg.of_below (F := fun _ => False) hb).owns ho (fun _ _ h => h)⟩
def rowE (B n : Nat) (xs : List Int) : Ent Lat := ⟨RowE B n xs, fun _ _ _ h k => h.later k⟩
theorem owns_lower {w : World} {B C : Nat} {v : Value} {n : Nat} {xs : List Value} (h : w.ownsRow B 5 1 v n xs) (hc : C ≤ B) : w.ownsRow C 5 1 v n xs :=
  owns_baseG (owns_zero h) (fun g hg => Nat.le_trans hc (h.lt g hg).1)

set_option maxRecDepth 100000 in
set_option maxHeartbeats 2000000 in
theorem get_r7_ne (b off len cap z x y : Nat) (w : World) (a0 : Act) (Q : Exit → Act → World → Prop) (hsz : a0.tmps.size = 42)
    (s0 : a0.tmps.getD 0 undef = .slice (some ⟨b, off, none⟩) len cap)
    (s6 : a0.tmps.getD 6 undef = .int .i64 (z : Int))
    (hzl : z ≤ len)
    (hzc : z ≤ cap)
    (hcz : ¬ cap < z)
    (hne : ¬ cap = z)
    (h25 : ∀ w1, Lat w w1 → Calls Tryz.prog 103 #[.slice (some ⟨b, off + z, none⟩) (len - z) (cap - z)] w1 fun e w2 => e = .returned (.int .u32 (x : Int)) ∧ Lat w1 w2)
    (h23 : ∀ w1, Lat w w1 → Calls Tryz.prog 94 #[.slice (some ⟨b, off, none⟩) z cap] w1 fun e w2 => e = .returned (.int .u32 (y : Int)) ∧ Lat w1 w2)
    (hxy : ¬ (x : Int) = (y : Int))
    (hQ : ∀ (v25 v26 v27 v28 v29 v30 v31 v32 : Value) (w1 : World), Lat w w1 → Q .normal (((((((((a0.put (some 25) v25).put (some 26) v26).put (some 27) v27).put (some 28) v28).put (some 29) v29).put (some 30) v30).put (some 31) v31).put (some 32) v32).put (some 33) (.bool true)) w1) :
    Code.wp Tryz.prog ((Tryz.f99.body.bind (findRegion 7)).getD .skip) Q a0 w := by
  conv => arg 2; whnf
  refine wp_region_inv Lat (TV [.slice (some ⟨b, off, none⟩) len cap, .int .i64 (z : Int), .slice (some ⟨b, off + z, none⟩) (len - z) (cap - z), .int .u32 (x : Int), .slice (some ⟨b, off, none⟩) len cap, .int .i64 (z : Int), .slice (some ⟨b, off, none⟩) z cap, .int .u32 (y : Int), .bool true]) (by kernel_rfl) (by kernel_rfl) (by kernel_rfl) (by rw [hsz]; kernel_rfl) (by kernel_rfl) Lat.refl Lat.trans (TV.stable _) (Lat.draw w) ?hop ?hdone
  case hdone =>
    intro a w1 hL hS hT
    have k33 : a.tmps.getD 33 undef = .bool true := hT 8 _ rfl _ rfl
    have he := same_puts hS
    have hQ2 := hQ (a.tmps.getD 25 undef) (a.tmps.getD 26 undef) (a.tmps.getD 27 undef) (a.tmps.getD 28 undef) (a.tmps.getD 29 undef) (a.tmps.getD 30 undef) (a.tmps.getD 31 undef) (a.tmps.getD 32 undef) w1 hL
    rw [← k33] at hQ2
    rw [he]
    exact hQ2
  case hop =>
    intro i o hi
    have hlt : i < 9 := (Array.getElem?_eq_some_iff.1 hi).1
    rcases (show i = 0 ∨ i = 1 ∨ i = 2 ∨ i = 3 ∨ i = 4 ∨ i = 5 ∨ i = 6 ∨ i = 7 ∨ i = 8 by omega) with rfl | rfl | rfl | rfl | rfl | rfl | rfl | rfl | rfl
    · obtain rfl := Option.some.inj hi
      clear hi hlt
      intro a w1 hL hS hD
      have e0 : a.tmps.getD 0 undef = .slice (some ⟨b, off, none⟩) len cap := (hS.slot 0 (by kernel_rfl)).trans s0
      refine step_yes rfl ?_
      exact ok_value Lat.refl (.slice (some ⟨b, off, none⟩) len cap) (by simp [execOp, Act.eval, e0, go_sem]) (TV.mk rfl)
    · obtain rfl := Option.some.inj hi
      clear hi hlt
      intro a w1 hL hS hD
      have e6 : a.tmps.getD 6 undef = .int .i64 (z : Int) := (hS.slot 6 (by kernel_rfl)).trans s6
      refine step_yes rfl ?_
      exact ok_value Lat.refl (.int .i64 (z : Int)) (by simp [execOp, Act.eval, e6, go_sem]) (TV.mk rfl)
    · obtain rfl := Option.some.inj hi
      clear hi hlt
      intro a w1 hL hS hD
      have d0 : a.tmps.getD 25 undef = .slice (some ⟨b, off, none⟩) len cap := hD ⟨0, .data⟩ (by simp) rfl _ rfl _ rfl
      have d1 : a.tmps.getD 26 undef = .int .i64 (z : Int) := hD ⟨1, .data⟩ (by simp) rfl _ rfl _ rfl
      refine step_yes rfl ?_
      exact ok_value Lat.refl (.slice (some ⟨b, off + z, none⟩) (len - z) (cap - z)) (by simp [execOp, Act.eval, d0, d1, hzl, hne, go_sem]) (TV.mk rfl)
    · obtain rfl := Option.some.inj hi
      clear hi hlt
      intro a w1 hL hS hD
      have d2 : a.tmps.getD 27 undef = .slice (some ⟨b, off + z, none⟩) (len - z) (cap - z) := hD ⟨2, .data⟩ (by simp) rfl _ rfl _ rfl
      refine step_yes rfl ?_
      refine ok_call (f := 103) (args := #[.slice (some ⟨b, off + z, none⟩) (len - z) (cap - z)]) (by simp [execOp, resolve, Act.eval, d2, go_sem]) ?_
      refine (h25 w1 hL).mono ?_
      rintro e w2 ⟨rfl, hb⟩
      exact ⟨_, rfl, hb, TV.mk rfl⟩
    · obtain rfl := Option.some.inj hi
      clear hi hlt
      intro a w1 hL hS hD
      have e0 : a.tmps.getD 0 undef = .slice (some ⟨b, off, none⟩) len cap := (hS.slot 0 (by kernel_rfl)).trans s0
      refine step_yes rfl ?_
      exact ok_value Lat.refl (.slice (some ⟨b, off, none⟩) len cap) (by simp [execOp, Act.eval, e0, go_sem]) (TV.mk rfl)
    · obtain rfl := Option.some.inj hi
      clear hi hlt
      intro a w1 hL hS hD
      have e6 : a.tmps.getD 6 undef = .int .i64 (z : Int) := (hS.slot 6 (by kernel_rfl)).trans s6
      refine step_yes rfl ?_
      exact ok_value Lat.refl (.int .i64 (z : Int)) (by simp [execOp, Act.eval, e6, go_sem]) (TV.mk rfl)
    · obtain rfl := Option.some.inj hi
      clear hi hlt
      intro a w1 hL hS hD
      have d4 : a.tmps.getD 29 undef = .slice (some ⟨b, off, none⟩) len cap := hD ⟨4, .data⟩ (by simp) rfl _ rfl _ rfl
      have d5 : a.tmps.getD 30 undef = .int .i64 (z : Int) := hD ⟨5, .data⟩ (by simp) rfl _ rfl _ rfl
      refine step_yes rfl ?_
      exact ok_value Lat.refl (.slice (some ⟨b, off, none⟩) z cap) (by simp [execOp, Act.eval, d4, d5, hcz, go_sem]) (TV.mk rfl)
    · obtain rfl := Option.some.inj hi
      clear hi hlt
      intro a w1 hL hS hD
      have d6 : a.tmps.getD 31 undef = .slice (some ⟨b, off, none⟩) z cap := hD ⟨6, .data⟩ (by simp) rfl _ rfl _ rfl
      refine step_yes rfl ?_
      refine ok_call (f := 94) (args := #[.slice (some ⟨b, off, none⟩) z cap]) (by simp [execOp, resolve, Act.eval, d6, go_sem]) ?_
      refine (h23 w1 hL).mono ?_
      rintro e w2 ⟨rfl, hb⟩
      exact ⟨_, rfl, hb, TV.mk rfl⟩
    · obtain rfl := Option.some.inj hi
      clear hi hlt
      intro a w1 hL hS hD
      have d3 : a.tmps.getD 28 undef = .int .u32 (x : Int) := hD ⟨3, .data⟩ (by simp) rfl _ rfl _ rfl
      have d7 : a.tmps.getD 32 undef = .int .u32 (y : Int) := hD ⟨7, .data⟩ (by simp) rfl _ rfl _ rfl
      refine step_yes rfl ?_
      exact ok_value Lat.refl (.bool true) (by simp [execOp, Act.eval, d3, d7, hxy, go_sem]) (TV.mk rfl)

set_option maxRecDepth 100000 in
set_option maxHeartbeats 2000000 in
theorem get_r7_eq (b off len cap z x y : Nat) (w : World) (a0 : Act) (Q : Exit → Act → World → Prop) (hsz : a0.tmps.size = 42)
    (s0 : a0.tmps.getD 0 undef = .slice (some ⟨b, off, none⟩) len cap)
    (s6 : a0.tmps.getD 6 undef = .int .i64 (z : Int))
    (hzl : z ≤ len)
    (hzc : z ≤ cap)
    (hcz : ¬ cap < z)
    (hne : ¬ cap = z)
    (h25 : ∀ w1, Lat w w1 → Calls Tryz.prog 103 #[.slice (some ⟨b, off + z, none⟩) (len - z) (cap - z)] w1 fun e w2 => e = .returned (.int .u32 (x : Int)) ∧ Lat w1 w2)
    (h23 : ∀ w1, Lat w w1 → Calls Tryz.prog 94 #[.slice (some ⟨b, off, none⟩) z cap] w1 fun e w2 => e = .returned (.int .u32 (y : Int)) ∧ Lat w1 w2)
    (hxy : (x : Int) = (y : Int))
    (hQ : ∀ (v25 v26 v27 v28 v29 v30 v31 v32 : Value) (w1 : World), Lat w w1 → Q .normal (((((((((a0.put (some 25) v25).put (some 26) v26).put (some 27) v27).put (some 28) v28).put (some 29) v29).put (some 30) v30).put (some 31) v31).put (some 32) v32).put (some 33) (.bool false)) w1) :
    Code.wp Tryz.prog ((Tryz.f99.body.bind (findRegion 7)).getD .skip) Q a0 w := by
  conv => arg 2; whnf
  refine wp_region_inv Lat (TV [.slice (some ⟨b, off, none⟩) len cap, .int .i64 (z : Int), .slice (some ⟨b, off + z, none⟩) (len - z) (cap - z), .int .u32 (x : Int), .slice (some ⟨b, off, none⟩) len cap, .int .i64 (z : Int), .slice (some ⟨b, off, none⟩) z cap, .int .u32 (y : Int), .bool false]) (by kernel_rfl) (by kernel_rfl) (by kernel_rfl) (by rw [hsz]; kernel_rfl) (by kernel_rfl) Lat.refl Lat.trans (TV.stable _) (Lat.draw w) ?hop ?hdone
  case hdone =>
    intro a w1 hL hS hT
    have k33 : a.tmps.getD 33 undef = .bool false := hT 8 _ rfl _ rfl
    have he := same_puts hS
    have hQ2 := hQ (a.tmps.getD 25 undef) (a.tmps.getD 26 undef) (a.tmps.getD 27 undef) (a.tmps.getD 28 undef) (a.tmps.getD 29 undef) (a.tmps.getD 30 undef) (a.tmps.getD 31 undef) (a.tmps.getD 32 undef) w1 hL
    rw [← k33] at hQ2
    rw [he]
    exact hQ2
  case hop =>
    intro i o hi
    have hlt : i < 9 := (Array.getElem?_eq_some_iff.1 hi).1
    rcases (show i = 0 ∨ i = 1 ∨ i = 2 ∨ i = 3 ∨ i = 4 ∨ i = 5 ∨ i = 6 ∨ i = 7 ∨ i = 8 by omega) with rfl | rfl | rfl | rfl | rfl | rfl | rfl | rfl | rfl
    · obtain rfl := Option.some.inj hi
      clear hi hlt
      intro a w1 hL hS hD
      have e0 : a.tmps.getD 0 undef = .slice (some ⟨b, off, none⟩) len cap := (hS.slot 0 (by kernel_rfl)).trans s0
      refine step_yes rfl ?_
      exact ok_value Lat.refl (.slice (some ⟨b, off, none⟩) len cap) (by simp [execOp, Act.eval, e0, go_sem]) (TV.mk rfl)
    · obtain rfl := Option.some.inj hi
      clear hi hlt
      intro a w1 hL hS hD
      have e6 : a.tmps.getD 6 undef = .int .i64 (z : Int) := (hS.slot 6 (by kernel_rfl)).trans s6
      refine step_yes rfl ?_
      exact ok_value Lat.refl (.int .i64 (z : Int)) (by simp [execOp, Act.eval, e6, go_sem]) (TV.mk rfl)
    · obtain rfl := Option.some.inj hi
      clear hi hlt
      intro a w1 hL hS hD
      have d0 : a.tmps.getD 25 undef = .slice (some ⟨b, off, none⟩) len cap := hD ⟨0, .data⟩ (by simp) rfl _ rfl _ rfl
      have d1 : a.tmps.getD 26 undef = .int .i64 (z : Int) := hD ⟨1, .data⟩ (by simp) rfl _ rfl _ rfl
      refine step_yes rfl ?_
      exact ok_value Lat.refl (.slice (some ⟨b, off + z, none⟩) (len - z) (cap - z)) (by simp [execOp, Act.eval, d0, d1, hzl, hne, go_sem]) (TV.mk rfl)
    · obtain rfl := Option.some.inj hi
      clear hi hlt
      intro a w1 hL hS hD
      have d2 : a.tmps.getD 27 undef = .slice (some ⟨b, off + z, none⟩) (len - z) (cap - z) := hD ⟨2, .data⟩ (by simp) rfl _ rfl _ rfl
      refine step_yes rfl ?_
      refine ok_call (f := 103) (args := #[.slice (some ⟨b, off + z, none⟩) (len - z) (cap - z)]) (by simp [execOp, resolve, Act.eval, d2, go_sem]) ?_
      refine (h25 w1 hL).mono ?_
      rintro e w2 ⟨rfl, hb⟩
      exact ⟨_, rfl, hb, TV.mk rfl⟩
    · obtain rfl := Option.some.inj hi
      clear hi hlt
      intro a w1 hL hS hD
      have e0 : a.tmps.getD 0 undef = .slice (some ⟨b, off, none⟩) len cap := (hS.slot 0 (by kernel_rfl)).trans s0
      refine step_yes rfl ?_
      exact ok_value Lat.refl (.slice (some ⟨b, off, none⟩) len cap) (by simp [execOp, Act.eval, e0, go_sem]) (TV.mk rfl)
    · obtain rfl := Option.some.inj hi
      clear hi hlt
      intro a w1 hL hS hD
      have e6 : a.tmps.getD 6 undef = .int .i64 (z : Int) := (hS.slot 6 (by kernel_rfl)).trans s6
      refine step_yes rfl ?_
      exact ok_value Lat.refl (.int .i64 (z : Int)) (by simp [execOp, Act.eval, e6, go_sem]) (TV.mk rfl)
    · obtain rfl := Option.some.inj hi
      clear hi hlt
      intro a w1 hL hS hD
      have d4 : a.tmps.getD 29 undef = .slice (some ⟨b, off, none⟩) len cap := hD ⟨4, .data⟩ (by simp) rfl _ rfl _ rfl
      have d5 : a.tmps.getD 30 undef = .int .i64 (z : Int) := hD ⟨5, .data⟩ (by simp) rfl _ rfl _ rfl
      refine step_yes rfl ?_
      exact ok_value Lat.refl (.slice (some ⟨b, off, none⟩) z cap) (by simp [execOp, Act.eval, d4, d5, hcz, go_sem]) (TV.mk rfl)
    · obtain rfl := Option.some.inj hi
      clear hi hlt
      intro a w1 hL hS hD
      have d6 : a.tmps.getD 31 undef = .slice (some ⟨b, off, none⟩) z cap := hD ⟨6, .data⟩ (by simp) rfl _ rfl _ rfl
      refine step_yes rfl ?_
      refine ok_call (f := 94) (args := #[.slice (some ⟨b, off, none⟩) z cap]) (by simp [execOp, resolve, Act.eval, d6, go_sem]) ?_
      refine (h23 w1 hL).mono ?_
      rintro e w2 ⟨rfl, hb⟩
      exact ⟨_, rfl, hb, TV.mk rfl⟩
    · obtain rfl := Option.some.inj hi
      clear hi hlt
      intro a w1 hL hS hD
      have d3 : a.tmps.getD 28 undef = .int .u32 (x : Int) := hD ⟨3, .data⟩ (by simp) rfl _ rfl _ rfl
      have d7 : a.tmps.getD 32 undef = .int .u32 (y : Int) := hD ⟨7, .data⟩ (by simp) rfl _ rfl _ rfl
      refine step_yes rfl ?_
      exact ok_value Lat.refl (.bool false) (by simp [execOp, Act.eval, d3, d7, hxy, go_sem]) (TV.mk rfl)

set_option maxRecDepth 100000 in
set_option maxHeartbeats 2000000 in
theorem get_r9 (b off len cap z s : Nat) (k : Int) (B n : Nat) (xs : List Int) (w : World) (a0 : Act) (Q : Exit → Act → World → Prop) (hsz : a0.tmps.size = 42)
    (s0 : a0.tmps.getD 0 undef = .slice (some ⟨b, off, none⟩) len cap)
    (s6 : a0.tmps.getD 6 undef = .int .i64 (z : Int))
    (s5 : a0.tmps.getD 5 undef = .int .i64 (s : Int))
    (hpos : 0 < len)
    (hcz : ¬ cap < z)
    (hzc : z ≤ cap)
    (h5z : ¬ (z : Int) < 5)
    (hn5 : ¬ cap = 5)
    (hc : ∀ w1, Lat w w1 → w1.cell? ⟨b, off, none⟩ = some (.int .u8 k))
    (h26 : ∀ w1, Lat w w1 → Calls Tryz.prog 97 #[.slice (some ⟨b, off + 5, none⟩) (z - 5) (cap - 5)] w1 fun e w2 => ∃ v, e = .returned v ∧ Lat w1 w2 ∧ RowE B n xs v w2)
    (hQ : ∀ (v34 v35 v36 v37 v38 v39 v40 v41 v2 v3 v4 : Value) (w1 : World), Lat w w1 → v2 = .int .u8 k ∧ RowE B n xs v3 w1 ∧ v4 = .int .i64 (s : Int) → Q .normal (((((((((((a0.put (some 34) v34).put (some 35) v35).put (some 36) v36).put (some 37) v37).put (some 38) v38).put (some 39) v39).put (some 40) v40).put (some 41) v41).put (some 2) v2).put (some 3) v3).put (some 4) v4) w1) :
    Code.wp Tryz.prog ((Tryz.f99.body.bind (findRegion 9)).getD .skip) Q a0 w := by
  conv => arg 2; whnf
  refine wp_region_inv Lat (TE [Ent.val (.slice (some ⟨b, off, none⟩) len cap), Ent.val (.pointer (some ⟨b, off, none⟩)), Ent.val (.int .u8 k), Ent.val (.slice (some ⟨b, off, none⟩) len cap), Ent.val (.int .i64 (z : Int)), Ent.val (.slice (some ⟨b, off + 5, none⟩) (z - 5) (cap - 5)), rowE B n xs, Ent.val (.int .i64 (s : Int)), Ent.val (.int .u8 k), rowE B n xs, Ent.val (.int .i64 (s : Int))]) (by kernel_rfl) (by kernel_rfl) (by kernel_rfl) (by rw [hsz]; kernel_rfl) (by kernel_rfl) Lat.refl Lat.trans (TE_stable _) (Lat.draw w) ?hop ?hdone
  case hdone =>
    intro a w1 hL hS hT
    have he := same_puts hS
    rw [he]
    exact hQ (a.tmps.getD 34 undef) (a.tmps.getD 35 undef) (a.tmps.getD 36 undef) (a.tmps.getD 37 undef) (a.tmps.getD 38 undef) (a.tmps.getD 39 undef) (a.tmps.getD 40 undef) (a.tmps.getD 41 undef) (a.tmps.getD 2 undef) (a.tmps.getD 3 undef) (a.tmps.getD 4 undef) w1 hL (⟨hT 8 _ rfl, hT 9 _ rfl, hT 10 _ rfl⟩)
  case hop =>
    intro i o hi
    have hlt : i < 11 := (Array.getElem?_eq_some_iff.1 hi).1
    rcases (show i = 0 ∨ i = 1 ∨ i = 2 ∨ i = 3 ∨ i = 4 ∨ i = 5 ∨ i = 6 ∨ i = 7 ∨ i = 8 ∨ i = 9 ∨ i = 10 by omega) with rfl | rfl | rfl | rfl | rfl | rfl | rfl | rfl | rfl | rfl | rfl
    · obtain rfl := Option.some.inj hi
      clear hi hlt
      intro a w1 hL hS hD
      have e0 : a.tmps.getD 0 undef = .slice (some ⟨b, off, none⟩) len cap := (hS.slot 0 (by kernel_rfl)).trans s0
      refine step_yes rfl ?_
      exact ok_value Lat.refl (.slice (some ⟨b, off, none⟩) len cap) (by simp [execOp, Act.eval, e0, go_sem]) rfl
    · obtain rfl := Option.some.inj hi
      clear hi hlt
      intro a w1 hL hS hD
      have d0 : a.tmps.getD 34 undef = .slice (some ⟨b, off, none⟩) len cap := hD ⟨0, .data⟩ (by simp) rfl _ rfl
      refine step_yes rfl ?_
      exact ok_value Lat.refl (.pointer (some ⟨b, off, none⟩)) (by simp [execOp, Act.eval, d0, hpos, go_sem]) rfl
    · obtain rfl := Option.some.inj hi
      clear hi hlt
      intro a w1 hL hS hD
      have d1 : a.tmps.getD 35 undef = .pointer (some ⟨b, off, none⟩) := hD ⟨1, .data⟩ (by simp) rfl _ rfl
      refine step_yes rfl ?_
      exact ok_value Lat.refl (.int .u8 k) (by simp [execOp, Act.eval, d1, hc w1 hL, go_sem]) rfl
    · obtain rfl := Option.some.inj hi
      clear hi hlt
      intro a w1 hL hS hD
      have e0 : a.tmps.getD 0 undef = .slice (some ⟨b, off, none⟩) len cap := (hS.slot 0 (by kernel_rfl)).trans s0
      refine step_yes rfl ?_
      exact ok_value Lat.refl (.slice (some ⟨b, off, none⟩) len cap) (by simp [execOp, Act.eval, e0, go_sem]) rfl
    · obtain rfl := Option.some.inj hi
      clear hi hlt
      intro a w1 hL hS hD
      have e6 : a.tmps.getD 6 undef = .int .i64 (z : Int) := (hS.slot 6 (by kernel_rfl)).trans s6
      refine step_yes rfl ?_
      exact ok_value Lat.refl (.int .i64 (z : Int)) (by simp [execOp, Act.eval, e6, go_sem]) rfl
    · obtain rfl := Option.some.inj hi
      clear hi hlt
      intro a w1 hL hS hD
      have d3 : a.tmps.getD 37 undef = .slice (some ⟨b, off, none⟩) len cap := hD ⟨3, .data⟩ (by simp) rfl _ rfl
      have d4 : a.tmps.getD 38 undef = .int .i64 (z : Int) := hD ⟨4, .data⟩ (by simp) rfl _ rfl
      refine step_yes rfl ?_
      exact ok_value Lat.refl (.slice (some ⟨b, off + 5, none⟩) (z - 5) (cap - 5)) (by simp [execOp, Act.eval, d3, d4, h5z, hzc, hcz, hn5, go_sem]) rfl
    · obtain rfl := Option.some.inj hi
      clear hi hlt
      intro a w1 hL hS hD
      have d5 : a.tmps.getD 39 undef = .slice (some ⟨b, off + 5, none⟩) (z - 5) (cap - 5) := hD ⟨5, .data⟩ (by simp) rfl _ rfl
      refine step_yes rfl ?_
      refine ok_call (f := 97) (args := #[.slice (some ⟨b, off + 5, none⟩) (z - 5) (cap - 5)]) (by simp [execOp, resolve, Act.eval, d5, go_sem]) ?_
      refine (h26 w1 hL).mono ?_
      rintro e w2 ⟨v, rfl, hb, hr⟩
      exact ⟨v, rfl, hb, hr⟩
    · obtain rfl := Option.some.inj hi
      clear hi hlt
      intro a w1 hL hS hD
      have e5 : a.tmps.getD 5 undef = .int .i64 (s : Int) := (hS.slot 5 (by kernel_rfl)).trans s5
      refine step_yes rfl ?_
      exact ok_value Lat.refl (.int .i64 (s : Int)) (by simp [execOp, Act.eval, e5, go_sem]) rfl
    · obtain rfl := Option.some.inj hi
      clear hi hlt
      intro a w1 hL hS hD
      have d2 : a.tmps.getD 36 undef = .int .u8 k := hD ⟨2, .data⟩ (by simp) rfl _ rfl
      refine step_yes rfl ?_
      exact ok_value Lat.refl (.int .u8 k) (by simp [execOp, Act.eval, d2, go_sem]) rfl
    · obtain rfl := Option.some.inj hi
      clear hi hlt
      intro a w1 hL hS hD
      have d6 := hD ⟨6, .data⟩ (by simp) rfl _ rfl
      refine step_yes rfl ?_
      refine ok_value Lat.refl (a.tmps.getD 40 undef) (by simp [execOp, Act.eval, go_sem]) d6
    · obtain rfl := Option.some.inj hi
      clear hi hlt
      intro a w1 hL hS hD
      have d7 : a.tmps.getD 41 undef = .int .i64 (s : Int) := hD ⟨7, .data⟩ (by simp) rfl _ rfl
      refine step_yes rfl ?_
      exact ok_value Lat.refl (.int .i64 (s : Int)) (by simp [execOp, Act.eval, d7, go_sem]) rfl

set_option maxRecDepth 100000 in
set_option maxHeartbeats 2000000 in
theorem rget_r7_ne (b off len cap z x y : Nat) (w : World) (a0 : Act) (Q : Exit → Act → World → Prop) (hsz : a0.tmps.size = 48)
    (s0 : a0.tmps.getD 0 undef = .slice (some ⟨b, off, none⟩) len cap)
    (s6 : a0.tmps.getD 6 undef = .int .i64 (z : Int))
    (hzl : z ≤ len)
    (hzc : z ≤ cap)
    (hcz : ¬ cap < z)
    (hne : ¬ cap = z)
    (hz4 : IntKind.i64.wrap ((z : Int) + 4) = (z : Int) + 4)
    (hz4c : (z : Int) + 4 ≤ cap)
    (hz40 : ¬ (z : Int) + 4 < 0)
    (hz4d : ¬ (cap : Int) < (z : Int) + 4)
    (hz44 : ((z : Int) + 4).toNat = z + 4)
    (h27 : ∀ w1, Lat w w1 → Calls Tryz.prog 102 #[.slice (some ⟨b, off + z, none⟩) 4 (cap - z)] w1 fun e w2 => e = .returned (.int .u32 (x : Int)) ∧ Lat w1 w2)
    (h28 : ∀ w1, Lat w w1 → Calls Tryz.prog 88 #[.slice (some ⟨b, off, none⟩) z cap] w1 fun e w2 => e = .returned (.int .u32 (y : Int)) ∧ Lat w1 w2)
    (hxy : ¬ (x : Int) = (y : Int))
    (hQ : ∀ (v27 v28 v29 v30 v31 v32 v33 v34 v35 v36 : Value) (w1 : World), Lat w w1 → Q .normal (((((((((((a0.put (some 27) v27).put (some 28) v28).put (some 29) v29).put (some 30) v30).put (some 31) v31).put (some 32) v32).put (some 33) v33).put (some 34) v34).put (some 35) v35).put (some 36) v36).put (some 37) (.bool true)) w1) :
    Code.wp Tryz.prog ((Tryz.f95.body.bind (findRegion 7)).getD .skip) Q a0 w := by
  conv => arg 2; whnf
  refine wp_region_inv Lat (TV [.slice (some ⟨b, off, none⟩) len cap, .int .i64 (z : Int), .int .i64 (z : Int), .int .i64 ((z : Int) + 4), .slice (some ⟨b, off + z, none⟩) 4 (cap - z), .int .u32 (x : Int), .slice (some ⟨b, off, none⟩) len cap, .int .i64 (z : Int), .slice (some ⟨b, off, none⟩) z cap, .int .u32 (y : Int), .bool true]) (by kernel_rfl) (by kernel_rfl) (by kernel_rfl) (by rw [hsz]; kernel_rfl) (by kernel_rfl) Lat.refl Lat.trans (TV.stable _) (Lat.draw w) ?hop ?hdone
  case hdone =>
    intro a w1 hL hS hT
    have k37 : a.tmps.getD 37 undef = .bool true := hT 10 _ rfl _ rfl
    have he := same_puts hS
    have hQ2 := hQ (a.tmps.getD 27 undef) (a.tmps.getD 28 undef) (a.tmps.getD 29 undef) (a.tmps.getD 30 undef) (a.tmps.getD 31 undef) (a.tmps.getD 32 undef) (a.tmps.getD 33 undef) (a.tmps.getD 34 undef) (a.tmps.getD 35 undef) (a.tmps.getD 36 undef) w1 hL
    rw [← k37] at hQ2
    rw [he]
    exact hQ2
  case hop =>
    intro i o hi
    have hlt : i < 11 := (Array.getElem?_eq_some_iff.1 hi).1
    rcases (show i = 0 ∨ i = 1 ∨ i = 2 ∨ i = 3 ∨ i = 4 ∨ i = 5 ∨ i = 6 ∨ i = 7 ∨ i = 8 ∨ i = 9 ∨ i = 10 by omega) with rfl | rfl | rfl | rfl | rfl | rfl | rfl | rfl | rfl | rfl | rfl
    · obtain rfl := Option.some.inj hi
      clear hi hlt
      intro a w1 hL hS hD
      have e0 : a.tmps.getD 0 undef = .slice (some ⟨b, off, none⟩) len cap := (hS.slot 0 (by kernel_rfl)).trans s0
      refine step_yes rfl ?_
      exact ok_value Lat.refl (.slice (some ⟨b, off, none⟩) len cap) (by simp [execOp, Act.eval, e0, go_sem]) (TV.mk rfl)
    · obtain rfl := Option.some.inj hi
      clear hi hlt
      intro a w1 hL hS hD
      have e6 : a.tmps.getD 6 undef = .int .i64 (z : Int) := (hS.slot 6 (by kernel_rfl)).trans s6
      refine step_yes rfl ?_
      exact ok_value Lat.refl (.int .i64 (z : Int)) (by simp [execOp, Act.eval, e6, go_sem]) (TV.mk rfl)
    · obtain rfl := Option.some.inj hi
      clear hi hlt
      intro a w1 hL hS hD
      have e6 : a.tmps.getD 6 undef = .int .i64 (z : Int) := (hS.slot 6 (by kernel_rfl)).trans s6
      refine step_yes rfl ?_
      exact ok_value Lat.refl (.int .i64 (z : Int)) (by simp [execOp, Act.eval, e6, go_sem]) (TV.mk rfl)
    · obtain rfl := Option.some.inj hi
      clear hi hlt
      intro a w1 hL hS hD
      have d2 : a.tmps.getD 29 undef = .int .i64 (z : Int) := hD ⟨2, .data⟩ (by simp) rfl _ rfl _ rfl
      refine step_yes rfl ?_
      exact ok_value Lat.refl (.int .i64 ((z : Int) + 4)) (by simp [execOp, Act.eval, d2, hz4, go_sem]) (TV.mk rfl)
    · obtain rfl := Option.some.inj hi
      clear hi hlt
      intro a w1 hL hS hD
      have d0 : a.tmps.getD 27 undef = .slice (some ⟨b, off, none⟩) len cap := hD ⟨0, .data⟩ (by simp) rfl _ rfl _ rfl
      have d1 : a.tmps.getD 28 undef = .int .i64 (z : Int) := hD ⟨1, .data⟩ (by simp) rfl _ rfl _ rfl
      have d3 : a.tmps.getD 30 undef = .int .i64 ((z : Int) + 4) := hD ⟨3, .data⟩ (by simp) rfl _ rfl _ rfl
      refine step_yes rfl ?_
      exact ok_value Lat.refl (.slice (some ⟨b, off + z, none⟩) 4 (cap - z)) (by simp [execOp, Act.eval, d0, d1, d3, hz40, hz4c, hz4d, hz44, hne, go_sem]) (TV.mk rfl)
    · obtain rfl := Option.some.inj hi
      clear hi hlt
      intro a w1 hL hS hD
      have d4 : a.tmps.getD 31 undef = .slice (some ⟨b, off + z, none⟩) 4 (cap - z) := hD ⟨4, .data⟩ (by simp) rfl _ rfl _ rfl
      refine step_yes rfl ?_
      refine ok_call (f := 102) (args := #[.slice (some ⟨b, off + z, none⟩) 4 (cap - z)]) (by simp [execOp, resolve, Act.eval, d4, go_sem]) ?_
      refine (h27 w1 hL).mono ?_
      rintro e w2 ⟨rfl, hb⟩
      exact ⟨_, rfl, hb, TV.mk rfl⟩
    · obtain rfl := Option.some.inj hi
      clear hi hlt
      intro a w1 hL hS hD
      have e0 : a.tmps.getD 0 undef = .slice (some ⟨b, off, none⟩) len cap := (hS.slot 0 (by kernel_rfl)).trans s0
      refine step_yes rfl ?_
      exact ok_value Lat.refl (.slice (some ⟨b, off, none⟩) len cap) (by simp [execOp, Act.eval, e0, go_sem]) (TV.mk rfl)
    · obtain rfl := Option.some.inj hi
      clear hi hlt
      intro a w1 hL hS hD
      have e6 : a.tmps.getD 6 undef = .int .i64 (z : Int) := (hS.slot 6 (by kernel_rfl)).trans s6
      refine step_yes rfl ?_
      exact ok_value Lat.refl (.int .i64 (z : Int)) (by simp [execOp, Act.eval, e6, go_sem]) (TV.mk rfl)
    · obtain rfl := Option.some.inj hi
      clear hi hlt
      intro a w1 hL hS hD
      have d6 : a.tmps.getD 33 undef = .slice (some ⟨b, off, none⟩) len cap := hD ⟨6, .data⟩ (by simp) rfl _ rfl _ rfl
      have d7 : a.tmps.getD 34 undef = .int .i64 (z : Int) := hD ⟨7, .data⟩ (by simp) rfl _ rfl _ rfl
      refine step_yes rfl ?_
      exact ok_value Lat.refl (.slice (some ⟨b, off, none⟩) z cap) (by simp [execOp, Act.eval, d6, d7, hcz, go_sem]) (TV.mk rfl)
    · obtain rfl := Option.some.inj hi
      clear hi hlt
      intro a w1 hL hS hD
      have d8 : a.tmps.getD 35 undef = .slice (some ⟨b, off, none⟩) z cap := hD ⟨8, .data⟩ (by simp) rfl _ rfl _ rfl
      refine step_yes rfl ?_
      refine ok_call (f := 88) (args := #[.slice (some ⟨b, off, none⟩) z cap]) (by simp [execOp, resolve, Act.eval, d8, go_sem]) ?_
      refine (h28 w1 hL).mono ?_
      rintro e w2 ⟨rfl, hb⟩
      exact ⟨_, rfl, hb, TV.mk rfl⟩
    · obtain rfl := Option.some.inj hi
      clear hi hlt
      intro a w1 hL hS hD
      have d5 : a.tmps.getD 32 undef = .int .u32 (x : Int) := hD ⟨5, .data⟩ (by simp) rfl _ rfl _ rfl
      have d9 : a.tmps.getD 36 undef = .int .u32 (y : Int) := hD ⟨9, .data⟩ (by simp) rfl _ rfl _ rfl
      refine step_yes rfl ?_
      exact ok_value Lat.refl (.bool true) (by simp [execOp, Act.eval, d5, d9, hxy, go_sem]) (TV.mk rfl)

set_option maxRecDepth 100000 in
set_option maxHeartbeats 2000000 in
theorem rget_r7_eq (b off len cap z x y : Nat) (w : World) (a0 : Act) (Q : Exit → Act → World → Prop) (hsz : a0.tmps.size = 48)
    (s0 : a0.tmps.getD 0 undef = .slice (some ⟨b, off, none⟩) len cap)
    (s6 : a0.tmps.getD 6 undef = .int .i64 (z : Int))
    (hzl : z ≤ len)
    (hzc : z ≤ cap)
    (hcz : ¬ cap < z)
    (hne : ¬ cap = z)
    (hz4 : IntKind.i64.wrap ((z : Int) + 4) = (z : Int) + 4)
    (hz4c : (z : Int) + 4 ≤ cap)
    (hz40 : ¬ (z : Int) + 4 < 0)
    (hz4d : ¬ (cap : Int) < (z : Int) + 4)
    (hz44 : ((z : Int) + 4).toNat = z + 4)
    (h27 : ∀ w1, Lat w w1 → Calls Tryz.prog 102 #[.slice (some ⟨b, off + z, none⟩) 4 (cap - z)] w1 fun e w2 => e = .returned (.int .u32 (x : Int)) ∧ Lat w1 w2)
    (h28 : ∀ w1, Lat w w1 → Calls Tryz.prog 88 #[.slice (some ⟨b, off, none⟩) z cap] w1 fun e w2 => e = .returned (.int .u32 (y : Int)) ∧ Lat w1 w2)
    (hxy : (x : Int) = (y : Int))
    (hQ : ∀ (v27 v28 v29 v30 v31 v32 v33 v34 v35 v36 : Value) (w1 : World), Lat w w1 → Q .normal (((((((((((a0.put (some 27) v27).put (some 28) v28).put (some 29) v29).put (some 30) v30).put (some 31) v31).put (some 32) v32).put (some 33) v33).put (some 34) v34).put (some 35) v35).put (some 36) v36).put (some 37) (.bool false)) w1) :
    Code.wp Tryz.prog ((Tryz.f95.body.bind (findRegion 7)).getD .skip) Q a0 w := by
  conv => arg 2; whnf
  refine wp_region_inv Lat (TV [.slice (some ⟨b, off, none⟩) len cap, .int .i64 (z : Int), .int .i64 (z : Int), .int .i64 ((z : Int) + 4), .slice (some ⟨b, off + z, none⟩) 4 (cap - z), .int .u32 (x : Int), .slice (some ⟨b, off, none⟩) len cap, .int .i64 (z : Int), .slice (some ⟨b, off, none⟩) z cap, .int .u32 (y : Int), .bool false]) (by kernel_rfl) (by kernel_rfl) (by kernel_rfl) (by rw [hsz]; kernel_rfl) (by kernel_rfl) Lat.refl Lat.trans (TV.stable _) (Lat.draw w) ?hop ?hdone
  case hdone =>
    intro a w1 hL hS hT
    have k37 : a.tmps.getD 37 undef = .bool false := hT 10 _ rfl _ rfl
    have he := same_puts hS
    have hQ2 := hQ (a.tmps.getD 27 undef) (a.tmps.getD 28 undef) (a.tmps.getD 29 undef) (a.tmps.getD 30 undef) (a.tmps.getD 31 undef) (a.tmps.getD 32 undef) (a.tmps.getD 33 undef) (a.tmps.getD 34 undef) (a.tmps.getD 35 undef) (a.tmps.getD 36 undef) w1 hL
    rw [← k37] at hQ2
    rw [he]
    exact hQ2
  case hop =>
    intro i o hi
    have hlt : i < 11 := (Array.getElem?_eq_some_iff.1 hi).1
    rcases (show i = 0 ∨ i = 1 ∨ i = 2 ∨ i = 3 ∨ i = 4 ∨ i = 5 ∨ i = 6 ∨ i = 7 ∨ i = 8 ∨ i = 9 ∨ i = 10 by omega) with rfl | rfl | rfl | rfl | rfl | rfl | rfl | rfl | rfl | rfl | rfl
    · obtain rfl := Option.some.inj hi
      clear hi hlt
      intro a w1 hL hS hD
      have e0 : a.tmps.getD 0 undef = .slice (some ⟨b, off, none⟩) len cap := (hS.slot 0 (by kernel_rfl)).trans s0
      refine step_yes rfl ?_
      exact ok_value Lat.refl (.slice (some ⟨b, off, none⟩) len cap) (by simp [execOp, Act.eval, e0, go_sem]) (TV.mk rfl)
    · obtain rfl := Option.some.inj hi
      clear hi hlt
      intro a w1 hL hS hD
      have e6 : a.tmps.getD 6 undef = .int .i64 (z : Int) := (hS.slot 6 (by kernel_rfl)).trans s6
      refine step_yes rfl ?_
      exact ok_value Lat.refl (.int .i64 (z : Int)) (by simp [execOp, Act.eval, e6, go_sem]) (TV.mk rfl)
    · obtain rfl := Option.some.inj hi
      clear hi hlt
      intro a w1 hL hS hD
      have e6 : a.tmps.getD 6 undef = .int .i64 (z : Int) := (hS.slot 6 (by kernel_rfl)).trans s6
      refine step_yes rfl ?_
      exact ok_value Lat.refl (.int .i64 (z : Int)) (by simp [execOp, Act.eval, e6, go_sem]) (TV.mk rfl)
    · obtain rfl := Option.some.inj hi
      clear hi hlt
      intro a w1 hL hS hD
      have d2 : a.tmps.getD 29 undef = .int .i64 (z : Int) := hD ⟨2, .data⟩ (by simp) rfl _ rfl _ rfl
      refine step_yes rfl ?_
      exact ok_value Lat.refl (.int .i64 ((z : Int) + 4)) (by simp [execOp, Act.eval, d2, hz4, go_sem]) (TV.mk rfl)
    · obtain rfl := Option.some.inj hi
      clear hi hlt
      intro a w1 hL hS hD
      have d0 : a.tmps.getD 27 undef = .slice (some ⟨b, off, none⟩) len cap := hD ⟨0, .data⟩ (by simp) rfl _ rfl _ rfl
      have d1 : a.tmps.getD 28 undef = .int .i64 (z : Int) := hD ⟨1, .data⟩ (by simp) rfl _ rfl _ rfl
      have d3 : a.tmps.getD 30 undef = .int .i64 ((z : Int) + 4) := hD ⟨3, .data⟩ (by simp) rfl _ rfl _ rfl
      refine step_yes rfl ?_
      exact ok_value Lat.refl (.slice (some ⟨b, off + z, none⟩) 4 (cap - z)) (by simp [execOp, Act.eval, d0, d1, d3, hz40, hz4c, hz4d, hz44, hne, go_sem]) (TV.mk rfl)
    · obtain rfl := Option.some.inj hi
      clear hi hlt
      intro a w1 hL hS hD
      have d4 : a.tmps.getD 31 undef = .slice (some ⟨b, off + z, none⟩) 4 (cap - z) := hD ⟨4, .data⟩ (by simp) rfl _ rfl _ rfl
      refine step_yes rfl ?_
      refine ok_call (f := 102) (args := #[.slice (some ⟨b, off + z, none⟩) 4 (cap - z)]) (by simp [execOp, resolve, Act.eval, d4, go_sem]) ?_
      refine (h27 w1 hL).mono ?_
      rintro e w2 ⟨rfl, hb⟩
      exact ⟨_, rfl, hb, TV.mk rfl⟩
    · obtain rfl := Option.some.inj hi
      clear hi hlt
      intro a w1 hL hS hD
      have e0 : a.tmps.getD 0 undef = .slice (some ⟨b, off, none⟩) len cap := (hS.slot 0 (by kernel_rfl)).trans s0
      refine step_yes rfl ?_
      exact ok_value Lat.refl (.slice (some ⟨b, off, none⟩) len cap) (by simp [execOp, Act.eval, e0, go_sem]) (TV.mk rfl)
    · obtain rfl := Option.some.inj hi
      clear hi hlt
      intro a w1 hL hS hD
      have e6 : a.tmps.getD 6 undef = .int .i64 (z : Int) := (hS.slot 6 (by kernel_rfl)).trans s6
      refine step_yes rfl ?_
      exact ok_value Lat.refl (.int .i64 (z : Int)) (by simp [execOp, Act.eval, e6, go_sem]) (TV.mk rfl)
    · obtain rfl := Option.some.inj hi
      clear hi hlt
      intro a w1 hL hS hD
      have d6 : a.tmps.getD 33 undef = .slice (some ⟨b, off, none⟩) len cap := hD ⟨6, .data⟩ (by simp) rfl _ rfl _ rfl
      have d7 : a.tmps.getD 34 undef = .int .i64 (z : Int) := hD ⟨7, .data⟩ (by simp) rfl _ rfl _ rfl
      refine step_yes rfl ?_
      exact ok_value Lat.refl (.slice (some ⟨b, off, none⟩) z cap) (by simp [execOp, Act.eval, d6, d7, hcz, go_sem]) (TV.mk rfl)
    · obtain rfl := Option.some.inj hi
      clear hi hlt
      intro a w1 hL hS hD
      have d8 : a.tmps.getD 35 undef = .slice (some ⟨b, off, none⟩) z cap := hD ⟨8, .data⟩ (by simp) rfl _ rfl _ rfl
      refine step_yes rfl ?_
      refine ok_call (f := 88) (args := #[.slice (some ⟨b, off, none⟩) z cap]) (by simp [execOp, resolve, Act.eval, d8, go_sem]) ?_
      refine (h28 w1 hL).mono ?_
      rintro e w2 ⟨rfl, hb⟩
      exact ⟨_, rfl, hb, TV.mk rfl⟩
    · obtain rfl := Option.some.inj hi
      clear hi hlt
      intro a w1 hL hS hD
      have d5 : a.tmps.getD 32 undef = .int .u32 (x : Int) := hD ⟨5, .data⟩ (by simp) rfl _ rfl _ rfl
      have d9 : a.tmps.getD 36 undef = .int .u32 (y : Int) := hD ⟨9, .data⟩ (by simp) rfl _ rfl _ rfl
      refine step_yes rfl ?_
      exact ok_value Lat.refl (.bool false) (by simp [execOp, Act.eval, d5, d9, hxy, go_sem]) (TV.mk rfl)

end Go.Proofs.YtnfjhdedcnbdbaaGreat

/-
  Get of the document: its last region.
-/
namespace Go.Proofs.YtnfjhdedcnbdbaaGreat
open Go.RowKit
set_option linter.unusedVariables false
set_option linter.unusedSimpArgs false

set_option maxRecDepth 100000 in
set_option maxHeartbeats 2000000 in
theorem rget_r10 (b off len cap z : Nat) (k : Int) (B n : Nat) (xs : List Int) (w : World) (a0 : Act) (Q : Exit → Act → World → Prop) (hsz : a0.tmps.size = 48)
    (s0 : a0.tmps.getD 0 undef = .slice (some ⟨b, off, none⟩) len cap)
    (s6 : a0.tmps.getD 6 undef = .int .i64 (z : Int))
    (s7 : a0.tmps.getD 7 undef = .slice none 0 0)
    (hpos : 0 < len)
    (hcz : ¬ cap < z)
    (hzc : z ≤ cap)
    (h5z : ¬ (z : Int) < 5)
    (hn5 : ¬ cap = 5)
    (hz4 : IntKind.i64.wrap ((z : Int) + 4) = (z : Int) + 4)
    (hzb : z ≤ 140737488355328)
    (hB : B ≤ w.heap.size)
    (hc : ∀ w1, Lat w w1 → w1.cell? ⟨b, off, none⟩ = some (.int .u8 k))
    (hx : ∀ w1, Lat w w1 → Sl w1 (some ⟨b, off + 5, none⟩) (z - 5) xs)
    (hQ : ∀ (v38 v39 v40 v41 v42 v43 v44 v45 v46 v47 v2 v3 v4 : Value) (w1 : World), Lat w w1 → v2 = .int .u8 k ∧ RowE B (z - 5) xs v3 w1 ∧ v4 = .int .i64 ((z : Int) + 4) → Q .normal (((((((((((((a0.put (some 38) v38).put (some 39) v39).put (some 40) v40).put (some 41) v41).put (some 42) v42).put (some 43) v43).put (some 44) v44).put (some 45) v45).put (some 46) v46).put (some 47) v47).put (some 2) v2).put (some 3) v3).put (some 4) v4) w1) :
    Code.wp Tryz.prog ((Tryz.f95.body.bind (findRegion 10)).getD .skip) Q a0 w := by
  conv => arg 2; whnf
  refine wp_region_inv Lat (TE [Ent.val (.slice (some ⟨b, off, none⟩) len cap), Ent.val (.pointer (some ⟨b, off, none⟩)), Ent.val (.int .u8 k), Ent.val (.slice none 0 0), Ent.val (.slice (some ⟨b, off, none⟩) len cap), Ent.val (.int .i64 (z : Int)), Ent.val (.slice (some ⟨b, off + 5, none⟩) (z - 5) (cap - 5)), rowE B (z - 5) xs, Ent.val (.int .i64 (z : Int)), Ent.val (.int .i64 ((z : Int) + 4)), Ent.val (.int .u8 k), rowE B (z - 5) xs, Ent.val (.int .i64 ((z : Int) + 4))]) (by kernel_rfl) (by kernel_rfl) (by kernel_rfl) (by rw [hsz]; kernel_rfl) (by kernel_rfl) Lat.refl Lat.trans (TE_stable _) (Lat.draw w) ?hop ?hdone
  case hdone =>
    intro a w1 hL hS hT
    have he := same_puts hS
    rw [he]
    exact hQ (a.tmps.getD 38 undef) (a.tmps.getD 39 undef) (a.tmps.getD 40 undef) (a.tmps.getD 41 undef) (a.tmps.getD 42 undef) (a.tmps.getD 43 undef) (a.tmps.getD 44 undef) (a.tmps.getD 45 undef) (a.tmps.getD 46 undef) (a.tmps.getD 47 undef) (a.tmps.getD 2 undef) (a.tmps.getD 3 undef) (a.tmps.getD 4 undef) w1 hL (⟨hT 10 _ rfl, hT 11 _ rfl, hT 12 _ rfl⟩)
  case hop =>
    intro i o hi
    have hlt : i < 13 := (Array.getElem?_eq_some_iff.1 hi).1
    rcases (show i = 0 ∨ i = 1 ∨ i = 2 ∨ i = 3 ∨ i = 4 ∨ i = 5 ∨ i = 6 ∨ i = 7 ∨ i = 8 ∨ i = 9 ∨ i = 10 ∨ i = 11 ∨ i = 12 by omega) with rfl | rfl | rfl | rfl | rfl | rfl | rfl | rfl | rfl | rfl | rfl | rfl | rfl
    · obtain rfl := Option.some.inj hi
      clear hi hlt
      intro a w1 hL hS hD
      have e0 : a.tmps.getD 0 undef = .slice (some ⟨b, off, none⟩) len cap := (hS.slot 0 (by kernel_rfl)).trans s0
      refine step_yes rfl ?_
      exact ok_value Lat.refl (.slice (some ⟨b, off, none⟩) len cap) (by simp [execOp, Act.eval, e0, go_sem]) rfl
    · obtain rfl := Option.some.inj hi
      clear hi hlt
      intro a w1 hL hS hD
      have d0 : a.tmps.getD 38 undef = .slice (some ⟨b, off, none⟩) len cap := hD ⟨0, .data⟩ (by simp) rfl _ rfl
      refine step_yes rfl ?_
      exact ok_value Lat.refl (.pointer (some ⟨b, off, none⟩)) (by simp [execOp, Act.eval, d0, hpos, go_sem]) rfl
    · obtain rfl := Option.some.inj hi
      clear hi hlt
      intro a w1 hL hS hD
      have d1 : a.tmps.getD 39 undef = .pointer (some ⟨b, off, none⟩) := hD ⟨1, .data⟩ (by simp) rfl _ rfl
      refine step_yes rfl ?_
      exact ok_value Lat.refl (.int .u8 k) (by simp [execOp, Act.eval, d1, hc w1 hL, go_sem]) rfl
    · obtain rfl := Option.some.inj hi
      clear hi hlt
      intro a w1 hL hS hD
      have e7 : a.tmps.getD 7 undef = .slice none 0 0 := (hS.slot 7 (by kernel_rfl)).trans s7
      refine step_yes rfl ?_
      exact ok_value Lat.refl (.slice none 0 0) (by simp [execOp, Act.eval, e7, go_sem]) rfl
    · obtain rfl := Option.some.inj hi
      clear hi hlt
      intro a w1 hL hS hD
      have e0 : a.tmps.getD 0 undef = .slice (some ⟨b, off, none⟩) len cap := (hS.slot 0 (by kernel_rfl)).trans s0
      refine step_yes rfl ?_
      exact ok_value Lat.refl (.slice (some ⟨b, off, none⟩) len cap) (by simp [execOp, Act.eval, e0, go_sem]) rfl
    · obtain rfl := Option.some.inj hi
      clear hi hlt
      intro a w1 hL hS hD
      have e6 : a.tmps.getD 6 undef = .int .i64 (z : Int) := (hS.slot 6 (by kernel_rfl)).trans s6
      refine step_yes rfl ?_
      exact ok_value Lat.refl (.int .i64 (z : Int)) (by simp [execOp, Act.eval, e6, go_sem]) rfl
    · obtain rfl := Option.some.inj hi
      clear hi hlt
      intro a w1 hL hS hD
      have d4 : a.tmps.getD 42 undef = .slice (some ⟨b, off, none⟩) len cap := hD ⟨4, .data⟩ (by simp) rfl _ rfl
      have d5 : a.tmps.getD 43 undef = .int .i64 (z : Int) := hD ⟨5, .data⟩ (by simp) rfl _ rfl
      refine step_yes rfl ?_
      exact ok_value Lat.refl (.slice (some ⟨b, off + 5, none⟩) (z - 5) (cap - 5)) (by simp [execOp, Act.eval, d4, d5, h5z, hzc, hcz, hn5, go_sem]) rfl
    · obtain rfl := Option.some.inj hi
      clear hi hlt
      intro a w1 hL hS hD
      have d3 : a.tmps.getD 41 undef = .slice none 0 0 := hD ⟨3, .data⟩ (by simp) rfl _ rfl
      have d6 : a.tmps.getD 44 undef = .slice (some ⟨b, off + 5, none⟩) (z - 5) (cap - 5) := hD ⟨6, .data⟩ (by simp) rfl _ rfl
      refine step_yes rfl ?_
      obtain ⟨i0, hi0, hz0, hz1, hz2⟩ := info_parts info5
      refine wp_appends w1 (.tmp 41) (.tmp 44) 28 rfl 5 i0 (.int .u8 0) Tryz.underlying28 hi0 hz0 hz1 hz2 rfl (.slice none 0 0) 0 [] d3 (World.ownsRow_nil _ _ _ _) (some ⟨b, off + 5, none⟩) (z - 5) (cap - 5) xs d6 (hx w1 hL) (fun h => by cases h) (by omega) ?_
      intro v' w' ho hc hm
      rw [Nat.zero_add, List.nil_append] at ho
      obtain ⟨a1, c1, rfl⟩ := owns_form ho
      exact ⟨_, rfl, hc.bel_none (fun g hg => by cases hg), a1, c1, rfl, owns_baseG ho (fun g hg => Nat.le_trans (Nat.le_trans hB hL.size) (moved_ge hm hg))⟩
    · obtain rfl := Option.some.inj hi
      clear hi hlt
      intro a w1 hL hS hD
      have e6 : a.tmps.getD 6 undef = .int .i64 (z : Int) := (hS.slot 6 (by kernel_rfl)).trans s6
      refine step_yes rfl ?_
      exact ok_value Lat.refl (.int .i64 (z : Int)) (by simp [execOp, Act.eval, e6, go_sem]) rfl
    · obtain rfl := Option.some.inj hi
      clear hi hlt
      intro a w1 hL hS hD
      have d8 : a.tmps.getD 46 undef = .int .i64 (z : Int) := hD ⟨8, .data⟩ (by simp) rfl _ rfl
      refine step_yes rfl ?_
      exact ok_value Lat.refl (.int .i64 ((z : Int) + 4)) (by simp [execOp, Act.eval, d8, hz4, go_sem]) rfl
    · obtain rfl := Option.some.inj hi
      clear hi hlt
      intro a w1 hL hS hD
      have d2 : a.tmps.getD 40 undef = .int .u8 k := hD ⟨2, .data⟩ (by simp) rfl _ rfl
      refine step_yes rfl ?_
      exact ok_value Lat.refl (.int .u8 k) (by simp [execOp, Act.eval, d2, go_sem]) rfl
    · obtain rfl := Option.some.inj hi
      clear hi hlt
      intro a w1 hL hS hD
      have d7 := hD ⟨7, .data⟩ (by simp) rfl _ rfl
      refine step_yes rfl ?_
      refine ok_value Lat.refl (a.tmps.getD 45 undef) (by simp [execOp, Act.eval, go_sem]) d7
    · obtain rfl := Option.some.inj hi
      clear hi hlt
      intro a w1 hL hS hD
      have d9 : a.tmps.getD 47 undef = .int .i64 ((z : Int) + 4) := hD ⟨9, .data⟩ (by simp) rfl _ rfl
      refine step_yes rfl ?_
      exact ok_value Lat.refl (.int .i64 ((z : Int) + 4)) (by simp [execOp, Act.eval, d9, go_sem]) rfl

end Go.Proofs.YtnfjhdedcnbdbaaGreat

/-
  Get: the program's and the document's.
-/
namespace Go.Proofs.YtnfjhdedcnbdbaaGreat
open Go.RowKit
set_option linter.unusedVariables false
set_option linter.unusedSimpArgs false

/-- What Get answers. -/
def GotP (w : World) (l : List Int) (e : Ending) (w' : World) : Prop :=
  ∃ ag c, e = .returned (.tuple #[.int .u8 (gett l).1, .slice ag (gett l).2.1.length c, .int .i64 ((gett l).2.2 : Nat)]) ∧ Bld w w' (.slice ag (gett l).2.1.length c) (gett l).2.1.length (gett l).2.1
theorem got_none {w w' : World} {l : List Int} (h : gett l = (0, [], 0)) (hb : Below w.heap.size w w') : GotP w l (.returned (.tuple #[.int .u8 0, .slice none 0 0, .int .i64 0])) w' := by
  unfold GotP
  rw [h]
  exact ⟨none, 0, rfl, World.ownsRow_nil _ _ _ _, hb, fun g hg => by cases hg⟩
theorem got_some {w w' : World} {l : List Int} {k : Int} {d : List Int} {n : Nat} (h : gett l = (k, d, n)) {ag : Option Addr} {c m : Nat} (hm : d.length = m) (ho : Bld w w' (.slice ag m c) m d) : GotP w l (.returned (.tuple #[.int .u8 k, .slice ag m c, .int .i64 (n : Nat)])) w' := by
  unfold GotP
  rw [h]
  subst hm
  exact ⟨ag, c, rfl, ho⟩
theorem Bld.of_row {w w' : World} {v : Value} {n : Nat} {xs : List Int} (h : w'.ownsRow w.heap.size 5 1 v n (cells8 xs)) (hb : Below w.heap.size w w') : Bld w w' v n xs := ⟨owns_zero h, hb, fun g hg => (h.lt g hg).1⟩
theorem lat_drewN (w : World) (n : Nat) : Lat w (w.drewN n) := below_drewN (Below.refl _ _) n
theorem Sl.cutL {w : World} {b off len K : Nat} {l : List Int} (h : Sl w (some ⟨b, off, none⟩) len l) (hk : K ≤ len) : Sl w (some ⟨b, off + K, none⟩) (len - K) (l.drop K) := by
  have h2 := h.cut (K := K) (N := len - K) (by omega) (ad := some ⟨b, off + K, none⟩) (fun _ => rfl)
  rw [List.take_of_length_le (by rw [List.length_drop, h.len]; omega)] at h2
  exact h2
theorem Sl.cutT {w : World} {b off len K : Nat} {l : List Int} (h : Sl w (some ⟨b, off, none⟩) len l) (hk : K ≤ len) : Sl w (some ⟨b, off, none⟩) K (l.take K) := by
  have h2 := h.cut (K := 0) (N := K) (by omega) (ad := some ⟨b, off, none⟩) (fun _ => rfl)
  rw [List.drop_zero] at h2
  exact h2
theorem wrapI (z : Int) (h1 : -9223372036854775808 ≤ z) (h2 : z ≤ 9223372036854775807) : IntKind.i64.wrap z = z := by
  rw [IntKind.wrap_i64]
  omega

set_option maxHeartbeats 2000000 in
set_option maxRecDepth 100000 in
theorem get_any (ad : Option Addr) (len cap : Nat) (l : List Int) (w : World) (hs : Sl w ad len l) (hc : len ≤ cap) (hb : len ≤ 140737488355328) :
    Calls Tryz.prog 99 #[.slice ad len cap] w (GotP w l) := by
  have hlen := hidden hs.len
  by_cases h5 : len < 5
  · clear hs
    go_enter Tryz.func99, Tryz.ntmps99
    go_wp2_with fail
    go_ret3
    exact got_none (gett_short (by rw [hlen.out]; omega)) (Below.refl _ _)
  obtain ⟨b, off, rfl, _, hcell⟩ := hs.at (by omega)
  have c0 : w.cell? ⟨b, off, none⟩ = some (.int .u8 (l.getD 0 0)) := hcell 0 (by omega)
  have HC0 := hidden c0
  have HS := hidden hs
  have HBT := hidden hs.byte
  clear hs hcell c0
  have hc1 : ¬ cap = 1 := by omega
  have hc2 : 1 ≤ cap := by omega
  have hl1 : 1 ≤ len := by omega
  go_enter Tryz.func99, Tryz.ntmps99
  go_wp2_with fail
  refine (wordAt_any (some ⟨b, off + 1, none⟩) (len - 1) (cap - 1) (l.drop 1) w (HS.out.cutL hl1) (by omega)).mono ?_
  rintro e w1 ⟨rfl, n1, rfl⟩
  have hn4 := num4_lt (l.drop 1) (HBT.out.drop 1)
  obtain ⟨n, hn⟩ : ∃ n, num4 (l.drop 1) = n := ⟨_, rfl⟩
  rw [hn] at hn4 ⊢
  have HN := hidden hn
  clear hn
  have HL1 := hidden (lat_drewN w n1)
  generalize w.drewN n1 = w1 at *
  go_wp2_with fail
  refine (size_any n w1 (by omega)).mono ?_
  rintro e w2 ⟨rfl, rfl⟩
  by_cases hbig : 4194304 < n
  · rw [sizeN_big n hbig]
    go_wp2_with fail
    go_ret3
    exact got_none (gett_none HN.out (.inl hbig)) HL1.out
  rw [sizeN_ok n (by omega)]
  obtain ⟨s, hs⟩ : ∃ s, n + 9 = s := ⟨_, rfl⟩
  rw [hs]
  have hs0 : ¬ ((s : Nat) : Int) = 0 := by omega
  by_cases hsl : len < s
  · have hsl' : ((s : Nat) : Int) > (len : Int) := by omega
    go_wp2_with fail
    go_ret3
    exact got_none (gett_none HN.out (.inr (by rw [hlen.out]; omega))) HL1.out
  have hsl' : ¬ ((s : Nat) : Int) > (len : Int) := by omega
  obtain ⟨z, hz⟩ : ∃ z, n + 5 = z := ⟨_, rfl⟩
  have hz4 : ((s : Nat) : Int) - 4 = (z : Int) := by omega
  have hzc : z ≤ cap := by omega
  have hcz : ¬ cap < z := by omega
  have hne : ¬ cap = z := by omega
  have hzl : z ≤ len := by omega
  have HSW := hidden (HS.out.later HL1.out)
  have H25 : Hid (∀ wx, Lat w2 wx → Calls Tryz.prog 103 #[.slice (some ⟨b, off + z, none⟩) (len - z) (cap - z)] wx fun e w3 => e = .returned (.int .u32 ((num4 (l.drop z) : Nat) : Int)) ∧ Lat wx w3) := fun wx hx =>
    (wordAt_any _ _ _ _ wx ((HSW.out.later hx).cutL hzl) (by omega)).mono (by
      rintro e w3 ⟨rfl, k, rfl⟩
      exact ⟨rfl, lat_drewN wx k⟩)
  have H23 : Hid (∀ wx, Lat w2 wx → Calls Tryz.prog 94 #[.slice (some ⟨b, off, none⟩) z cap] wx fun e w3 => e = .returned (.int .u32 ((crc (l.take z) : Nat) : Int)) ∧ Lat wx w3) := fun wx hx =>
    (crc_any _ _ _ _ wx ((HSW.out.later hx).cutT hzl) (by omega)).mono (by
      rintro e w3 ⟨rfl, k⟩
      exact ⟨rfl, k⟩)
  obtain ⟨x, hx⟩ : ∃ x, num4 (l.drop z) = x := ⟨_, rfl⟩
  obtain ⟨y, hy⟩ : ∃ y, crc (l.take z) = y := ⟨_, rfl⟩
  rw [hx] at H25
  rw [hy] at H23
  have HX := hidden hx
  have HY := hidden hy
  have HZ := hidden hz
  have HSS := hidden hs
  clear hx hy
  go_wp2_with fail
  by_cases hxy : x = y
  · refine get_r7_eq b off len cap z x y w2 _ _ (by rfl) (by rfl) (by rfl) hzl hzc hcz hne H25.out H23.out (by omega) ?_
    intro v25 v26 v27 v28 v29 v30 v31 v32 w3 hL3
    have HL3 := hidden (Lat.trans _ _ _ HL1.out hL3)
    clear hL3 H25 H23
    simp only [Act.put, List.setIfInBounds_toArray, List.set_cons_succ, List.set_cons_zero]
    go_wp2_with fail
    have HS3 := hidden (HS.out.later HL3.out)
    refine get_r9 b off len cap z s (l.getD 0 0) w3.heap.size (z - 5) ((l.drop 5).take (z - 5)) w3 _ _ (by rfl) (by rfl) (by rfl) (by rfl) (by omega) hcz hzc (by omega) (by omega) (fun wx hx => ?_) (fun wx hx => ?_) ?_
    · obtain ⟨b', off', e, _, hc'⟩ := (HS3.out.later hx).at (by omega)
      cases e
      exact hc' 0 (by omega)
    · refine (clone_any _ _ _ ((l.drop 5).take (z - 5)) wx ((HS3.out.later hx).cut (K := 5) (N := z - 5) (by omega) (fun _ => rfl)) (fun h => by cases h) (by omega)).mono ?_
      rintro e w4 ⟨a4, c4, rfl, ho4, hb4, _⟩
      exact ⟨_, rfl, hb4, _, _, rfl, owns_lower ho4 hx.size⟩
    · rintro v34 v35 v36 v37 v38 v39 v40 v41 v2 v3 v4 w4 hL4 ⟨rfl, ⟨a3, c3, rfl, ho⟩, rfl⟩
      have HO := hidden ho
      have HL4 := hidden hL4
      clear ho hL4
      simp only [Act.put, List.setIfInBounds_toArray, List.set_cons_succ, List.set_cons_zero]
      go_wp2_with fail
      go_ret3
      have hz5 : z - 5 = n := by omega
      refine got_some (n := s) (d := (l.drop 5).take (z - 5)) ?_ (by rw [List.length_take, List.length_drop, hlen.out]; omega) (Bld.of_row (owns_lower HO.out HL3.out.size) (Lat.trans _ _ _ HL3.out HL4.out))
      rw [gett_some HN.out (by omega) (by rw [hlen.out]; omega) (by rw [Nat.add_comm 5 n, hz, HX.out, HY.out, hxy]), hz5, hs]
  · refine get_r7_ne b off len cap z x y w2 _ _ (by rfl) (by rfl) (by rfl) hzl hzc hcz hne H25.out H23.out (by omega) ?_
    intro v25 v26 v27 v28 v29 v30 v31 v32 w3 hL3
    have HL3 := hidden (Lat.trans _ _ _ HL1.out hL3)
    clear hL3 H25 H23
    simp only [Act.put, List.setIfInBounds_toArray, List.set_cons_succ, List.set_cons_zero]
    go_wp2_with fail
    go_ret3
    refine got_none (gett_bad HN.out ?_) HL3.out
    rw [Nat.add_comm 5 n, hz, HX.out, HY.out]
    exact hxy

end Go.Proofs.YtnfjhdedcnbdbaaGreat

/-
  Get: the document's.
-/
namespace Go.Proofs.YtnfjhdedcnbdbaaGreat
open Go.RowKit
set_option linter.unusedVariables false
set_option linter.unusedSimpArgs false

set_option maxHeartbeats 2000000 in
set_option maxRecDepth 100000 in
theorem refGet_any (ad : Option Addr) (len cap : Nat) (l : List Int) (w : World) (hs : Sl w ad len l) (hc : len ≤ cap) (hb : len ≤ 140737488355328) :
    Calls Tryz.prog 95 #[.slice ad len cap] w (GotP w l) := by
  have hlen := hidden hs.len
  by_cases h9 : len < 9
  · clear hs
    go_enter Tryz.func95, Tryz.ntmps95
    go_wp2_with fail
    go_ret3
    exact got_none (gett_short (by rw [hlen.out]; omega)) (Below.refl _ _)
  obtain ⟨b, off, rfl, _, hcell⟩ := hs.at (by omega)
  have HS := hidden hs
  have HBT := hidden hs.byte
  clear hs hcell
  have hc1 : ¬ cap = 1 := by omega
  have hc2 : 1 ≤ cap := by omega
  have hc5 : 5 ≤ cap := by omega
  have hc5' : ¬ cap < 5 := by omega
  have hl1 : 1 ≤ len := by omega
  have HN1 : Hid (num4 ((l.drop 1).take 4) = num4 (l.drop 1)) := by
    unfold num4 Hid
    simp only [List.getD, List.getElem?_take]
    rfl
  go_enter Tryz.func95, Tryz.ntmps95
  go_wp2_with fail
  refine (word_any (some ⟨b, off + 1, none⟩) 4 (cap - 1) ((l.drop 1).take 4) w (HS.out.cut (K := 1) (N := 4) (by omega) (fun _ => rfl)) (by omega)).mono ?_
  rintro e w1 ⟨rfl, n1, rfl⟩
  rw [HN1.out]
  have hn4 := num4_lt (l.drop 1) (HBT.out.drop 1)
  obtain ⟨n, hn⟩ : ∃ n, num4 (l.drop 1) = n := ⟨_, rfl⟩
  rw [hn] at hn4 ⊢
  have HN := hidden hn
  clear hn HN1
  have HL1 := hidden (lat_drewN w n1)
  generalize w.drewN n1 = w2 at *
  by_cases hbig : 4194304 < n
  · have hbig' : (n : Int) > 4194304 := by omega
    go_wp2_with fail
    go_ret3
    exact got_none (gett_none HN.out (.inl hbig)) HL1.out
  have hbig' : ¬ (n : Int) > 4194304 := by omega
  by_cases hsl : len < n + 9
  · have hsl' : (len : Int) < (n : Int) + 9 := by omega
    go_wp2_with fail
    go_ret3
    exact got_none (gett_none HN.out (.inr (by rw [hlen.out]; omega))) HL1.out
  have hsl' : ¬ (len : Int) < (n : Int) + 9 := by omega
  obtain ⟨z, hz⟩ : ∃ z, n + 5 = z := ⟨_, rfl⟩
  have hz4 : 5 + (n : Int) = (z : Int) := by omega
  have hzc : z ≤ cap := by omega
  have hcz : ¬ cap < z := by omega
  have hne : ¬ cap = z := by omega
  have hzl : z ≤ len := by omega
  have HSW := hidden (HS.out.later HL1.out)
  have HN2 : Hid (num4 ((l.drop z).take 4) = num4 (l.drop z)) := by
    unfold num4 Hid
    simp only [List.getD, List.getElem?_take]
    rfl
  have H25 : Hid (∀ wx, Lat w2 wx → Calls Tryz.prog 102 #[.slice (some ⟨b, off + z, none⟩) 4 (cap - z)] wx fun e w3 => e = .returned (.int .u32 ((num4 (l.drop z) : Nat) : Int)) ∧ Lat wx w3) := fun wx hx =>
    (word_any _ _ _ _ wx ((HSW.out.later hx).cut (K := z) (N := 4) (by omega) (fun _ => rfl)) (by omega)).mono (by
      rintro e w3 ⟨rfl, k, rfl⟩
      rw [HN2.out]
      exact ⟨rfl, lat_drewN wx k⟩)
  have H23 : Hid (∀ wx, Lat w2 wx → Calls Tryz.prog 88 #[.slice (some ⟨b, off, none⟩) z cap] wx fun e w3 => e = .returned (.int .u32 ((crc (l.take z) : Nat) : Int)) ∧ Lat wx w3) := fun wx hx =>
    (refCrc_any _ _ _ _ wx ((HSW.out.later hx).cutT hzl) (by omega)).mono (by
      rintro e w3 ⟨rfl, rfl⟩
      exact ⟨rfl, Lat.refl _⟩)
  clear HN2
  obtain ⟨x, hx⟩ : ∃ x, num4 (l.drop z) = x := ⟨_, rfl⟩
  obtain ⟨y, hy⟩ : ∃ y, crc (l.take z) = y := ⟨_, rfl⟩
  rw [hx] at H25
  rw [hy] at H23
  have HX := hidden hx
  have HY := hidden hy
  have HZ := hidden hz
  clear hx hy
  have hz0 : IntKind.i64.wrap ((z : Int) + 4) = (z : Int) + 4 := wrapI _ (by omega) (by omega)
  have HZ0 := hidden hz0
  clear hz0
  go_wp2_with fail
  by_cases hxy : x = y
  · refine rget_r7_eq b off len cap z x y w2 _ _ (by rfl) (by rfl) (by rfl) hzl hzc hcz hne HZ0.out (by omega) (by omega) (by omega) (by omega) H25.out H23.out (by omega) ?_
    intro v27 v28 v29 v30 v31 v32 v33 v34 v35 v36 w3 hL3
    have HL3 := hidden (Lat.trans _ _ _ HL1.out hL3)
    clear hL3 H25 H23
    simp only [Act.put, List.setIfInBounds_toArray, List.set_cons_succ, List.set_cons_zero]
    go_wp2_with fail
    have HS3 := hidden (HS.out.later HL3.out)
    refine rget_r10 b off len cap z (l.getD 0 0) w3.heap.size (z - 5) ((l.drop 5).take (z - 5)) w3 _ _ (by rfl) (by rfl) (by rfl) (by rfl) (by omega) hcz hzc (by omega) (by omega) HZ0.out (by omega) (Nat.le_refl _) (fun wx hx => ?_) (fun wx hx => (HS3.out.later hx).cut (K := 5) (N := z - 5) (by omega) (fun _ => rfl)) ?_
    · obtain ⟨b', off', e, _, hc'⟩ := (HS3.out.later hx).at (by omega)
      cases e
      exact hc' 0 (by omega)
    · rintro v38 v39 v40 v41 v42 v43 v44 v45 v46 v47 v2 v3 v4 w4 hL4 ⟨rfl, ⟨a3, c3, rfl, ho⟩, rfl⟩
      have HO := hidden ho
      have HL4 := hidden hL4
      clear ho hL4
      simp only [Act.put, List.setIfInBounds_toArray, List.set_cons_succ, List.set_cons_zero]
      go_wp2_with fail
      go_ret3
      have hz5 : z - 5 = n := by omega
      have hs9 : (z : Int) + 4 = ((n + 9 : Nat) : Int) := by omega
      rw [hs9]
      refine got_some (n := n + 9) (d := (l.drop 5).take (z - 5)) ?_ (by rw [List.length_take, List.length_drop, hlen.out]; omega) (Bld.of_row (owns_lower HO.out HL3.out.size) (Lat.trans _ _ _ HL3.out HL4.out))
      rw [gett_some HN.out (by omega) (by rw [hlen.out]; omega) (by rw [Nat.add_comm 5 n, hz, HX.out, HY.out, hxy]), hz5]
  · refine rget_r7_ne b off len cap z x y w2 _ _ (by rfl) (by rfl) (by rfl) hzl hzc hcz hne HZ0.out (by omega) (by omega) (by omega) (by omega) H25.out H23.out (by omega) ?_
    intro v27 v28 v29 v30 v31 v32 v33 v34 v35 v36 w3 hL3
    have HL3 := hidden (Lat.trans _ _ _ HL1.out hL3)
    clear hL3 H25 H23
    simp only [Act.put, List.setIfInBounds_toArray, List.set_cons_succ, List.set_cons_zero]
    go_wp2_with fail
    go_ret3
    refine got_none (gett_bad HN.out ?_) HL3.out
    rw [Nat.add_comm 5 n, hz, HX.out, HY.out]
    exact hxy

end Go.Proofs.YtnfjhdedcnbdbaaGreat
