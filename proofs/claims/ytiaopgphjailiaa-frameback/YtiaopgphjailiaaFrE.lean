/-
  Get: regions that draw their order.
-/
import Derived.Test.YtiaopgphjailiaaFrD
import Derived.Test.YtiaopgphjailiaaAnyV
import Derived.Test.YtiaopgphjailiaaAnyC
namespace Go.Proofs.Ytiaopgphjailiaa
open Go.RowKit
set_option linter.unusedVariables false
set_option linter.unusedSimpArgs false

/-- A list that came out. -/
def RowE (B n : Nat) (xs : List Int) (v : Value) (w : World) : Prop := ∃ ad c, v = .slice ad n c ∧ w.ownsRow B 5 1 v n (cells8 xs)
theorem RowE.later {B n : Nat} {xs : List Int} {v : Value} {w w' : World} (h : RowE B n xs v w) (hb : Lat w w') : RowE B n xs v w' := by
  obtain ⟨ad, c, rfl, ho⟩ := h
  exact ⟨ad, c, rfl, (Chg.of_below (F := fun _ => False) hb).owns ho (fun _ _ h => h)⟩
def rowE (B n : Nat) (xs : List Int) : Ent Lat := ⟨RowE B n xs, fun _ _ _ h k => h.later k⟩
theorem owns_lower {w : World} {B C : Nat} {v : Value} {n : Nat} {xs : List Value} (h : w.ownsRow B 5 1 v n xs) (hc : C ≤ B) : w.ownsRow C 5 1 v n xs :=
  owns_baseG (owns_zero h) (fun g hg => Nat.le_trans hc (h.lt g hg).1)

set_option maxRecDepth 100000 in
set_option maxHeartbeats 2000000 in
theorem get_r7_ne (b off len cap z x y : Nat) (w : World) (a0 : Act) (Q : Exit → Act → World → Prop) (hsz : a0.tmps.size = 42)
    (s0 : a0.tmps.getD 0 undef = .slice (some ⟨b, off, none⟩) len cap)
    (s6 : a0.tmps.getD 6 undef = .int .i64 (z : Int))
    (hzl : z ≤ len)
    (hzc : z ≤ cap)
    (hcz : ¬ cap < z)
    (hne : ¬ cap = z)
    (h25 : ∀ w1, Lat w w1 → Calls Try.prog 25 #[.slice (some ⟨b, off + z, none⟩) (len - z) (cap - z)] w1 fun e w2 => e = .returned (.int .u32 (x : Int)) ∧ Lat w1 w2)
    (h23 : ∀ w1, Lat w w1 → Calls Try.prog 23 #[.slice (some ⟨b, off, none⟩) z cap] w1 fun e w2 => e = .returned (.int .u32 (y : Int)) ∧ Lat w1 w2)
    (hxy : ¬ (x : Int) = (y : Int))
    (hQ : ∀ (v25 v26 v27 v28 v29 v30 v31 v32 : Value) (w1 : World), Lat w w1 → Q .normal (((((((((a0.put (some 25) v25).put (some 26) v26).put (some 27) v27).put (some 28) v28).put (some 29) v29).put (some 30) v30).put (some 31) v31).put (some 32) v32).put (some 33) (.bool true)) w1) :
    Code.wp Try.prog ((Try.f17.body.bind (findRegion 7)).getD .skip) Q a0 w := by
  conv => arg 2; whnf
  refine wp_region_inv Lat (TV [.slice (some ⟨b, off, none⟩) len cap, .int .i64 (z : Int), .slice (some ⟨b, off + z, none⟩) (len - z) (cap - z), .int .u32 (x : Int), .slice (some ⟨b, off, none⟩) len cap, .int .i64 (z : Int), .slice (some ⟨b, off, none⟩) z cap, .int .u32 (y : Int), .bool true]) (by kernel_rfl) (by kernel_rfl) (by kernel_rfl) (by rw [hsz]; kernel_rfl) (by kernel_rfl) Lat.refl Lat.trans (TV.stable _) (Lat.draw w) ?hop ?hdone
  case hdone =>
    intro a w1 hL hS hT
    have k33 : a.tmps.getD 33 undef = .bool true := hT 8 _ rfl _ rfl
    have he := same_puts hS
    have hQ2 := hQ (a.tmps.getD 25 undef) (a.tmps.getD 26 undef) (a.tmps.getD 27 undef) (a.tmps.getD 28 undef) (a.tmps.getD 29 undef) (a.tmps.getD 30 undef) (a.tmps.getD 31 undef) (a.tmps.getD 32 undef) w1 hL
    rw [← k33] at hQ2
    rw [he]
    exact hQ2
  case hop =>
    intro i o hi
    have hlt : i < 9 := (Array.getElem?_eq_some_iff.1 hi).1
    rcases (show i = 0 ∨ i = 1 ∨ i = 2 ∨ i = 3 ∨ i = 4 ∨ i = 5 ∨ i = 6 ∨ i = 7 ∨ i = 8 by omega) with rfl | rfl | rfl | rfl | rfl | rfl | rfl | rfl | rfl
    · obtain rfl := Option.some.inj hi
      clear hi hlt
      intro a w1 hL hS hD
      have e0 : a.tmps.getD 0 undef = .slice (some ⟨b, off, none⟩) len cap := (hS.slot 0 (by kernel_rfl)).trans s0
      refine step_yes rfl ?_
      exact ok_value Lat.refl (.slice (some ⟨b, off, none⟩) len cap) (by simp [execOp, Act.eval, e0, go_sem]) (TV.mk rfl)
    · obtain rfl := Option.some.inj hi
      clear hi hlt
      intro a w1 hL hS hD
      have e6 : a.tmps.getD 6 undef = .int .i64 (z : Int) := (hS.slot 6 (by kernel_rfl)).trans s6
      refine step_yes rfl ?_
      exact ok_value Lat.refl (.int .i64 (z : Int)) (by simp [execOp, Act.eval, e6, go_sem]) (TV.mk rfl)
    · obtain rfl := Option.some.inj hi
      clear hi hlt
      intro a w1 hL hS hD
      have d0 : a.tmps.getD 25 undef = .slice (some ⟨b, off, none⟩) len cap := hD ⟨0, .data⟩ (by simp) rfl _ rfl _ rfl
      have d1 : a.tmps.getD 26 undef = .int .i64 (z : Int) := hD ⟨1, .data⟩ (by simp) rfl _ rfl _ rfl
      refine step_yes rfl ?_
      exact ok_value Lat.refl (.slice (some ⟨b, off + z, none⟩) (len - z) (cap - z)) (by simp [execOp, Act.eval, d0, d1, hzl, hne, go_sem]) (TV.mk rfl)
    · obtain rfl := Option.some.inj hi
      clear hi hlt
      intro a w1 hL hS hD
      have d2 : a.tmps.getD 27 undef = .slice (some ⟨b, off + z, none⟩) (len - z) (cap - z) := hD ⟨2, .data⟩ (by simp) rfl _ rfl _ rfl
      refine step_yes rfl ?_
      refine ok_call (f := 25) (args := #[.slice (some ⟨b, off + z, none⟩) (len - z) (cap - z)]) (by simp [execOp, resolve, Act.eval, d2, go_sem]) ?_
      refine (h25 w1 hL).mono ?_
      rintro e w2 ⟨rfl, hb⟩
      exact ⟨_, rfl, hb, TV.mk rfl⟩
    · obtain rfl := Option.some.inj hi
      clear hi hlt
      intro a w1 hL hS hD
      have e0 : a.tmps.getD 0 undef = .slice (some ⟨b, off, none⟩) len cap := (hS.slot 0 (by kernel_rfl)).trans s0
      refine step_yes rfl ?_
      exact ok_value Lat.refl (.slice (some ⟨b, off, none⟩) len cap) (by simp [execOp, Act.eval, e0, go_sem]) (TV.mk rfl)
    · obtain rfl := Option.some.inj hi
      clear hi hlt
      intro a w1 hL hS hD
      have e6 : a.tmps.getD 6 undef = .int .i64 (z : Int) := (hS.slot 6 (by kernel_rfl)).trans s6
      refine step_yes rfl ?_
      exact ok_value Lat.refl (.int .i64 (z : Int)) (by simp [execOp, Act.eval, e6, go_sem]) (TV.mk rfl)
    · obtain rfl := Option.some.inj hi
      clear hi hlt
      intro a w1 hL hS hD
      have d4 : a.tmps.getD 29 undef = .slice (some ⟨b, off, none⟩) len cap := hD ⟨4, .data⟩ (by simp) rfl _ rfl _ rfl
      have d5 : a.tmps.getD 30 undef = .int .i64 (z : Int) := hD ⟨5, .data⟩ (by simp) rfl _ rfl _ rfl
      refine step_yes rfl ?_
      exact ok_value Lat.refl (.slice (some ⟨b, off, none⟩) z cap) (by simp [execOp, Act.eval, d4, d5, hcz, go_sem]) (TV.mk rfl)
    · obtain rfl := Option.some.inj hi
      clear hi hlt
      intro a w1 hL hS hD
      have d6 : a.tmps.getD 31 undef = .slice (some ⟨b, off, none⟩) z cap := hD ⟨6, .data⟩ (by simp) rfl _ rfl _ rfl
      refine step_yes rfl ?_
      refine ok_call (f := 23) (args := #[.slice (some ⟨b, off, none⟩) z cap]) (by simp [execOp, resolve, Act.eval, d6, go_sem]) ?_
      refine (h23 w1 hL).mono ?_
      rintro e w2 ⟨rfl, hb⟩
      exact ⟨_, rfl, hb, TV.mk rfl⟩
    · obtain rfl := Option.some.inj hi
      clear hi hlt
      intro a w1 hL hS hD
      have d3 : a.tmps.getD 28 undef = .int .u32 (x : Int) := hD ⟨3, .data⟩ (by simp) rfl _ rfl _ rfl
      have d7 : a.tmps.getD 32 undef = .int .u32 (y : Int) := hD ⟨7, .data⟩ (by simp) rfl _ rfl _ rfl
      refine step_yes rfl ?_
      exact ok_value Lat.refl (.bool true) (by simp [execOp, Act.eval, d3, d7, hxy, go_sem]) (TV.mk rfl)

set_option maxRecDepth 100000 in
set_option maxHeartbeats 2000000 in
theorem get_r7_eq (b off len cap z x y : Nat) (w : World) (a0 : Act) (Q : Exit → Act → World → Prop) (hsz : a0.tmps.size = 42)
    (s0 : a0.tmps.getD 0 undef = .slice (some ⟨b, off, none⟩) len cap)
    (s6 : a0.tmps.getD 6 undef = .int .i64 (z : Int))
    (hzl : z ≤ len)
    (hzc : z ≤ cap)
    (hcz : ¬ cap < z)
    (hne : ¬ cap = z)
    (h25 : ∀ w1, Lat w w1 → Calls Try.prog 25 #[.slice (some ⟨b, off + z, none⟩) (len - z) (cap - z)] w1 fun e w2 => e = .returned (.int .u32 (x : Int)) ∧ Lat w1 w2)
    (h23 : ∀ w1, Lat w w1 → Calls Try.prog 23 #[.slice (some ⟨b, off, none⟩) z cap] w1 fun e w2 => e = .returned (.int .u32 (y : Int)) ∧ Lat w1 w2)
    (hxy : (x : Int) = (y : Int))
    (hQ : ∀ (v25 v26 v27 v28 v29 v30 v31 v32 : Value) (w1 : World), Lat w w1 → Q .normal (((((((((a0.put (some 25) v25).put (some 26) v26).put (some 27) v27).put (some 28) v28).put (some 29) v29).put (some 30) v30).put (some 31) v31).put (some 32) v32).put (some 33) (.bool false)) w1) :
    Code.wp Try.prog ((Try.f17.body.bind (findRegion 7)).getD .skip) Q a0 w := by
  conv => arg 2; whnf
  refine wp_region_inv Lat (TV [.slice (some ⟨b, off, none⟩) len cap, .int .i64 (z : Int), .slice (some ⟨b, off + z, none⟩) (len - z) (cap - z), .int .u32 (x : Int), .slice (some ⟨b, off, none⟩) len cap, .int .i64 (z : Int), .slice (some ⟨b, off, none⟩) z cap, .int .u32 (y : Int), .bool false]) (by kernel_rfl) (by kernel_rfl) (by kernel_rfl) (by rw [hsz]; kernel_rfl) (by kernel_rfl) Lat.refl Lat.trans (TV.stable _) (Lat.draw w) ?hop ?hdone
  case hdone =>
    intro a w1 hL hS hT
    have k33 : a.tmps.getD 33 undef = .bool false := hT 8 _ rfl _ rfl
    have he := same_puts hS
    have hQ2 := hQ (a.tmps.getD 25 undef) (a.tmps.getD 26 undef) (a.tmps.getD 27 undef) (a.tmps.getD 28 undef) (a.tmps.getD 29 undef) (a.tmps.getD 30 undef) (a.tmps.getD 31 undef) (a.tmps.getD 32 undef) w1 hL
    rw [← k33] at hQ2
    rw [he]
    exact hQ2
  case hop =>
    intro i o hi
    have hlt : i < 9 := (Array.getElem?_eq_some_iff.1 hi).1
    rcases (show i = 0 ∨ i = 1 ∨ i = 2 ∨ i = 3 ∨ i = 4 ∨ i = 5 ∨ i = 6 ∨ i = 7 ∨ i = 8 by omega) with rfl | rfl | rfl | rfl | rfl | rfl | rfl | rfl | rfl
    · obtain rfl := Option.some.inj hi
      clear hi hlt
      intro a w1 hL hS hD
      have e0 : a.tmps.getD 0 undef = .slice (some ⟨b, off, none⟩) len cap := (hS.slot 0 (by kernel_rfl)).trans s0
      refine step_yes rfl ?_
      exact ok_value Lat.refl (.slice (some ⟨b, off, none⟩) len cap) (by simp [execOp, Act.eval, e0, go_sem]) (TV.mk rfl)
    · obtain rfl := Option.some.inj hi
      clear hi hlt
      intro a w1 hL hS hD
      have e6 : a.tmps.getD 6 undef = .int .i64 (z : Int) := (hS.slot 6 (by kernel_rfl)).trans s6
      refine step_yes rfl ?_
      exact ok_value Lat.refl (.int .i64 (z : Int)) (by simp [execOp, Act.eval, e6, go_sem]) (TV.mk rfl)
    · obtain rfl := Option.some.inj hi
      clear hi hlt
      intro a w1 hL hS hD
      have d0 : a.tmps.getD 25 undef = .slice (some ⟨b, off, none⟩) len cap := hD ⟨0, .data⟩ (by simp) rfl _ rfl _ rfl
      have d1 : a.tmps.getD 26 undef = .int .i64 (z : Int) := hD ⟨1, .data⟩ (by simp) rfl _ rfl _ rfl
      refine step_yes rfl ?_
      exact ok_value Lat.refl (.slice (some ⟨b, off + z, none⟩) (len - z) (cap - z)) (by simp [execOp, Act.eval, d0, d1, hzl, hne, go_sem]) (TV.mk rfl)
    · obtain rfl := Option.some.inj hi
      clear hi hlt
      intro a w1 hL hS hD
      have d2 : a.tmps.getD 27 undef = .slice (some ⟨b, off + z, none⟩) (len - z) (cap - z) := hD ⟨2, .data⟩ (by simp) rfl _ rfl _ rfl
      refine step_yes rfl ?_
      refine ok_call (f := 25) (args := #[.slice (some ⟨b, off + z, none⟩) (len - z) (cap - z)]) (by simp [execOp, resolve, Act.eval, d2, go_sem]) ?_
      refine (h25 w1 hL).mono ?_
      rintro e w2 ⟨rfl, hb⟩
      exact ⟨_, rfl, hb, TV.mk rfl⟩
    · obtain rfl := Option.some.inj hi
      clear hi hlt
      intro a w1 hL hS hD
      have e0 : a.tmps.getD 0 undef = .slice (some ⟨b, off, none⟩) len cap := (hS.slot 0 (by kernel_rfl)).trans s0
      refine step_yes rfl ?_
      exact ok_value Lat.refl (.slice (some ⟨b, off, none⟩) len cap) (by simp [execOp, Act.eval, e0, go_sem]) (TV.mk rfl)
    · obtain rfl := Option.some.inj hi
      clear hi hlt
      intro a w1 hL hS hD
      have e6 : a.tmps.getD 6 undef = .int .i64 (z : Int) := (hS.slot 6 (by kernel_rfl)).trans s6
      refine step_yes rfl ?_
      exact ok_value Lat.refl (.int .i64 (z : Int)) (by simp [execOp, Act.eval, e6, go_sem]) (TV.mk rfl)
    · obtain rfl := Option.some.inj hi
      clear hi hlt
      intro a w1 hL hS hD
      have d4 : a.tmps.getD 29 undef = .slice (some ⟨b, off, none⟩) len cap := hD ⟨4, .data⟩ (by simp) rfl _ rfl _ rfl
      have d5 : a.tmps.getD 30 undef = .int .i64 (z : Int) := hD ⟨5, .data⟩ (by simp) rfl _ rfl _ rfl
      refine step_yes rfl ?_
      exact ok_value Lat.refl (.slice (some ⟨b, off, none⟩) z cap) (by simp [execOp, Act.eval, d4, d5, hcz, go_sem]) (TV.mk rfl)
    · obtain rfl := Option.some.inj hi
      clear hi hlt
      intro a w1 hL hS hD
      have d6 : a.tmps.getD 31 undef = .slice (some ⟨b, off, none⟩) z cap := hD ⟨6, .data⟩ (by simp) rfl _ rfl _ rfl
      refine step_yes rfl ?_
      refine ok_call (f := 23) (args := #[.slice (some ⟨b, off, none⟩) z cap]) (by simp [execOp, resolve, Act.eval, d6, go_sem]) ?_
      refine (h23 w1 hL).mono ?_
      rintro e w2 ⟨rfl, hb⟩
      exact ⟨_, rfl, hb, TV.mk rfl⟩
    · obtain rfl := Option.some.inj hi
      clear hi hlt
      intro a w1 hL hS hD
      have d3 : a.tmps.getD 28 undef = .int .u32 (x : Int) := hD ⟨3, .data⟩ (by simp) rfl _ rfl _ rfl
      have d7 : a.tmps.getD 32 undef = .int .u32 (y : Int) := hD ⟨7, .data⟩ (by simp) rfl _ rfl _ rfl
      refine step_yes rfl ?_
      exact ok_value Lat.refl (.bool false) (by simp [execOp, Act.eval, d3, d7, hxy, go_sem]) (TV.mk rfl)

set_option maxRecDepth 100000 in
set_option maxHeartbeats 2000000 in
theorem get_r9 (b off len cap z s : Nat) (k : Int) (B n : Nat) (xs : List Int) (w : World) (a0 : Act) (Q : Exit → Act → World → Prop) (hsz : a0.tmps.size = 42)
    (s0 : a0.tmps.getD 0 undef = .slice (some ⟨b, off, none⟩) len cap)
    (s6 : a0.tmps.getD 6 undef = .int .i64 (z : Int))
    (s5 : a0.tmps.getD 5 undef = .int .i64 (s : Int))
    (hpos : 0 < len)
    (hcz : ¬ cap < z)
    (hzc : z ≤ cap)
    (h5z : ¬ (z : Int) < 5)
    (hn5 : ¬ cap = 5)
    (hc : ∀ w1, Lat w w1 → w1.cell? ⟨b, off, none⟩ = some (.int .u8 k))
    (h26 : ∀ w1, Lat w w1 → Calls Try.prog 26 #[.slice (some ⟨b, off + 5, none⟩) (z - 5) (cap - 5)] w1 fun e w2 => ∃ v, e = .returned v ∧ Lat w1 w2 ∧ RowE B n xs v w2)
    (hQ : ∀ (v34 v35 v36 v37 v38 v39 v40 v41 v2 v3 v4 : Value) (w1 : World), Lat w w1 → v2 = .int .u8 k ∧ RowE B n xs v3 w1 ∧ v4 = .int .i64 (s : Int) → Q .normal (((((((((((a0.put (some 34) v34).put (some 35) v35).put (some 36) v36).put (some 37) v37).put (some 38) v38).put (some 39) v39).put (some 40) v40).put (some 41) v41).put (some 2) v2).put (some 3) v3).put (some 4) v4) w1) :
    Code.wp Try.prog ((Try.f17.body.bind (findRegion 9)).getD .skip) Q a0 w := by
  conv => arg 2; whnf
  refine wp_region_inv Lat (TE [Ent.val (.slice (some ⟨b, off, none⟩) len cap), Ent.val (.pointer (some ⟨b, off, none⟩)), Ent.val (.int .u8 k), Ent.val (.slice (some ⟨b, off, none⟩) len cap), Ent.val (.int .i64 (z : Int)), Ent.val (.slice (some ⟨b, off + 5, none⟩) (z - 5) (cap - 5)), rowE B n xs, Ent.val (.int .i64 (s : Int)), Ent.val (.int .u8 k), rowE B n xs, Ent.val (.int .i64 (s : Int))]) (by kernel_rfl) (by kernel_rfl) (by kernel_rfl) (by rw [hsz]; kernel_rfl) (by kernel_rfl) Lat.refl Lat.trans (TE_stable _) (Lat.draw w) ?hop ?hdone
  case hdone =>
    intro a w1 hL hS hT
    have he := same_puts hS
    rw [he]
    exact hQ (a.tmps.getD 34 undef) (a.tmps.getD 35 undef) (a.tmps.getD 36 undef) (a.tmps.getD 37 undef) (a.tmps.getD 38 undef) (a.tmps.getD 39 undef) (a.tmps.getD 40 undef) (a.tmps.getD 41 undef) (a.tmps.getD 2 undef) (a.tmps.getD 3 undef) (a.tmps.getD 4 undef) w1 hL (⟨hT 8 _ rfl, hT 9 _ rfl, hT 10 _ rfl⟩)
  case hop =>
    intro i o hi
    have hlt : i < 11 := (Array.getElem?_eq_some_iff.1 hi).1
    rcases (show i = 0 ∨ i = 1 ∨ i = 2 ∨ i = 3 ∨ i = 4 ∨ i = 5 ∨ i = 6 ∨ i = 7 ∨ i = 8 ∨ i = 9 ∨ i = 10 by omega) with rfl | rfl | rfl | rfl | rfl | rfl | rfl | rfl | rfl | rfl | rfl
    · obtain rfl := Option.some.inj hi
      clear hi hlt
      intro a w1 hL hS hD
      have e0 : a.tmps.getD 0 undef = .slice (some ⟨b, off, none⟩) len cap := (hS.slot 0 (by kernel_rfl)).trans s0
      refine step_yes rfl ?_
      exact ok_value Lat.refl (.slice (some ⟨b, off, none⟩) len cap) (by simp [execOp, Act.eval, e0, go_sem]) rfl
    · obtain rfl := Option.some.inj hi
      clear hi hlt
      intro a w1 hL hS hD
      have d0 : a.tmps.getD 34 undef = .slice (some ⟨b, off, none⟩) len cap := hD ⟨0, .data⟩ (by simp) rfl _ rfl
      refine step_yes rfl ?_
      exact ok_value Lat.refl (.pointer (some ⟨b, off, none⟩)) (by simp [execOp, Act.eval, d0, hpos, go_sem]) rfl
    · obtain rfl := Option.some.inj hi
      clear hi hlt
      intro a w1 hL hS hD
      have d1 : a.tmps.getD 35 undef = .pointer (some ⟨b, off, none⟩) := hD ⟨1, .data⟩ (by simp) rfl _ rfl
      refine step_yes rfl ?_
      exact ok_value Lat.refl (.int .u8 k) (by simp [execOp, Act.eval, d1, hc w1 hL, go_sem]) rfl
    · obtain rfl := Option.some.inj hi
      clear hi hlt
      intro a w1 hL hS hD
      have e0 : a.tmps.getD 0 undef = .slice (some ⟨b, off, none⟩) len cap := (hS.slot 0 (by kernel_rfl)).trans s0
      refine step_yes rfl ?_
      exact ok_value Lat.refl (.slice (some ⟨b, off, none⟩) len cap) (by simp [execOp, Act.eval, e0, go_sem]) rfl
    · obtain rfl := Option.some.inj hi
      clear hi hlt
      intro a w1 hL hS hD
      have e6 : a.tmps.getD 6 undef = .int .i64 (z : Int) := (hS.slot 6 (by kernel_rfl)).trans s6
      refine step_yes rfl ?_
      exact ok_value Lat.refl (.int .i64 (z : Int)) (by simp [execOp, Act.eval, e6, go_sem]) rfl
    · obtain rfl := Option.some.inj hi
      clear hi hlt
      intro a w1 hL hS hD
      have d3 : a.tmps.getD 37 undef = .slice (some ⟨b, off, none⟩) len cap := hD ⟨3, .data⟩ (by simp) rfl _ rfl
      have d4 : a.tmps.getD 38 undef = .int .i64 (z : Int) := hD ⟨4, .data⟩ (by simp) rfl _ rfl
      refine step_yes rfl ?_
      exact ok_value Lat.refl (.slice (some ⟨b, off + 5, none⟩) (z - 5) (cap - 5)) (by simp [execOp, Act.eval, d3, d4, h5z, hzc, hcz, hn5, go_sem]) rfl
    · obtain rfl := Option.some.inj hi
      clear hi hlt
      intro a w1 hL hS hD
      have d5 : a.tmps.getD 39 undef = .slice (some ⟨b, off + 5, none⟩) (z - 5) (cap - 5) := hD ⟨5, .data⟩ (by simp) rfl _ rfl
      refine step_yes rfl ?_
      refine ok_call (f := 26) (args := #[.slice (some ⟨b, off + 5, none⟩) (z - 5) (cap - 5)]) (by simp [execOp, resolve, Act.eval, d5, go_sem]) ?_
      refine (h26 w1 hL).mono ?_
      rintro e w2 ⟨v, rfl, hb, hr⟩
      exact ⟨v, rfl, hb, hr⟩
    · obtain rfl := Option.some.inj hi
      clear hi hlt
      intro a w1 hL hS hD
      have e5 : a.tmps.getD 5 undef = .int .i64 (s : Int) := (hS.slot 5 (by kernel_rfl)).trans s5
      refine step_yes rfl ?_
      exact ok_value Lat.refl (.int .i64 (s : Int)) (by simp [execOp, Act.eval, e5, go_sem]) rfl
    · obtain rfl := Option.some.inj hi
      clear hi hlt
      intro a w1 hL hS hD
      have d2 : a.tmps.getD 36 undef = .int .u8 k := hD ⟨2, .data⟩ (by simp) rfl _ rfl
      refine step_yes rfl ?_
      exact ok_value Lat.refl (.int .u8 k) (by simp [execOp, Act.eval, d2, go_sem]) rfl
    · obtain rfl := Option.some.inj hi
      clear hi hlt
      intro a w1 hL hS hD
      have d6 := hD ⟨6, .data⟩ (by simp) rfl _ rfl
      refine step_yes rfl ?_
      refine ok_value Lat.refl (a.tmps.getD 40 undef) (by simp [execOp, Act.eval, go_sem]) d6
    · obtain rfl := Option.some.inj hi
      clear hi hlt
      intro a w1 hL hS hD
      have d7 : a.tmps.getD 41 undef = .int .i64 (s : Int) := hD ⟨7, .data⟩ (by simp) rfl _ rfl
      refine step_yes rfl ?_
      exact ok_value Lat.refl (.int .i64 (s : Int)) (by simp [execOp, Act.eval, d7, go_sem]) rfl

set_option maxRecDepth 100000 in
set_option maxHeartbeats 2000000 in
theorem rget_r7_ne (b off len cap z x y : Nat) (w : World) (a0 : Act) (Q : Exit → Act → World → Prop) (hsz : a0.tmps.size = 48)
    (s0 : a0.tmps.getD 0 undef = .slice (some ⟨b, off, none⟩) len cap)
    (s6 : a0.tmps.getD 6 undef = .int .i64 (z : Int))
    (hzl : z ≤ len)
    (hzc : z ≤ cap)
    (hcz : ¬ cap < z)
    (hne : ¬ cap = z)
    (hz4 : IntKind.i64.wrap ((z : Int) + 4) = (z : Int) + 4)
    (hz4c : (z : Int) + 4 ≤ cap)
    (hz40 : ¬ (z : Int) + 4 < 0)
    (hz4d : ¬ (cap : Int) < (z : Int) + 4)
    (hz44 : ((z : Int) + 4).toNat = z + 4)
    (h27 : ∀ w1, Lat w w1 → Calls Try.prog 27 #[.slice (some ⟨b, off + z, none⟩) 4 (cap - z)] w1 fun e w2 => e = .returned (.int .u32 (x : Int)) ∧ Lat w1 w2)
    (h28 : ∀ w1, Lat w w1 → Calls Try.prog 28 #[.slice (some ⟨b, off, none⟩) z cap] w1 fun e w2 => e = .returned (.int .u32 (y : Int)) ∧ Lat w1 w2)
    (hxy : ¬ (x : Int) = (y : Int))
    (hQ : ∀ (v27 v28 v29 v30 v31 v32 v33 v34 v35 v36 : Value) (w1 : World), Lat w w1 → Q .normal (((((((((((a0.put (some 27) v27).put (some 28) v28).put (some 29) v29).put (some 30) v30).put (some 31) v31).put (some 32) v32).put (some 33) v33).put (some 34) v34).put (some 35) v35).put (some 36) v36).put (some 37) (.bool true)) w1) :
    Code.wp Try.prog ((Try.f18.body.bind (findRegion 7)).getD .skip) Q a0 w := by
  conv => arg 2; whnf
  refine wp_region_inv Lat (TV [.slice (some ⟨b, off, none⟩) len cap, .int .i64 (z : Int), .int .i64 (z : Int), .int .i64 ((z : Int) + 4), .slice (some ⟨b, off + z, none⟩) 4 (cap - z), .int .u32 (x : Int), .slice (some ⟨b, off, none⟩) len cap, .int .i64 (z : Int), .slice (some ⟨b, off, none⟩) z cap, .int .u32 (y : Int), .bool true]) (by kernel_rfl) (by kernel_rfl) (by kernel_rfl) (by rw [hsz]; kernel_rfl) (by kernel_rfl) Lat.refl Lat.trans (TV.stable _) (Lat.draw w) ?hop ?hdone
  case hdone =>
    intro a w1 hL hS hT
    have k37 : a.tmps.getD 37 undef = .bool true := hT 10 _ rfl _ rfl
    have he := same_puts hS
    have hQ2 := hQ (a.tmps.getD 27 undef) (a.tmps.getD 28 undef) (a.tmps.getD 29 undef) (a.tmps.getD 30 undef) (a.tmps.getD 31 undef) (a.tmps.getD 32 undef) (a.tmps.getD 33 undef) (a.tmps.getD 34 undef) (a.tmps.getD 35 undef) (a.tmps.getD 36 undef) w1 hL
    rw [← k37] at hQ2
    rw [he]
    exact hQ2
  case hop =>
    intro i o hi
    have hlt : i < 11 := (Array.getElem?_eq_some_iff.1 hi).1
    rcases (show i = 0 ∨ i = 1 ∨ i = 2 ∨ i = 3 ∨ i = 4 ∨ i = 5 ∨ i = 6 ∨ i = 7 ∨ i = 8 ∨ i = 9 ∨ i = 10 by omega) with rfl | rfl | rfl | rfl | rfl | rfl | rfl | rfl | rfl | rfl | rfl
    · obtain rfl := Option.some.inj hi
      clear hi hlt
      intro a w1 hL hS hD
      have e0 : a.tmps.getD 0 undef = .slice (some ⟨b, off, none⟩) len cap := (hS.slot 0 (by kernel_rfl)).trans s0
      refine step_yes rfl ?_
      exact ok_value Lat.refl (.slice (some ⟨b, off, none⟩) len cap) (by simp [execOp, Act.eval, e0, go_sem]) (TV.mk rfl)
    · obtain rfl := Option.some.inj hi
      clear hi hlt
      intro a w1 hL hS hD
      have e6 : a.tmps.getD 6 undef = .int .i64 (z : Int) := (hS.slot 6 (by kernel_rfl)).trans s6
      refine step_yes rfl ?_
      exact ok_value Lat.refl (.int .i64 (z : Int)) (by simp [execOp, Act.eval, e6, go_sem]) (TV.mk rfl)
    · obtain rfl := Option.some.inj hi
      clear hi hlt
      intro a w1 hL hS hD
      have e6 : a.tmps.getD 6 undef = .int .i64 (z : Int) := (hS.slot 6 (by kernel_rfl)).trans s6
      refine step_yes rfl ?_
      exact ok_value Lat.refl (.int .i64 (z : Int)) (by simp [execOp, Act.eval, e6, go_sem]) (TV.mk rfl)
    · obtain rfl := Option.some.inj hi
      clear hi hlt
      intro a w1 hL hS hD
      have d2 : a.tmps.getD 29 undef = .int .i64 (z : Int) := hD ⟨2, .data⟩ (by simp) rfl _ rfl _ rfl
      refine step_yes rfl ?_
      exact ok_value Lat.refl (.int .i64 ((z : Int) + 4)) (by simp [execOp, Act.eval, d2, hz4, go_sem]) (TV.mk rfl)
    · obtain rfl := Option.some.inj hi
      clear hi hlt
      intro a w1 hL hS hD
      have d0 : a.tmps.getD 27 undef = .slice (some ⟨b, off, none⟩) len cap := hD ⟨0, .data⟩ (by simp) rfl _ rfl _ rfl
      have d1 : a.tmps.getD 28 undef = .int .i64 (z : Int) := hD ⟨1, .data⟩ (by simp) rfl _ rfl _ rfl
      have d3 : a.tmps.getD 30 undef = .int .i64 ((z : Int) + 4) := hD ⟨3, .data⟩ (by simp) rfl _ rfl _ rfl
      refine step_yes rfl ?_
      exact ok_value Lat.refl (.slice (some ⟨b, off + z, none⟩) 4 (cap - z)) (by simp [execOp, Act.eval, d0, d1, d3, hz40, hz4c, hz4d, hz44, hne, go_sem]) (TV.mk rfl)
    · obtain rfl := Option.some.inj hi
      clear hi hlt
      intro a w1 hL hS hD
      have d4 : a.tmps.getD 31 undef = .slice (some ⟨b, off + z, none⟩) 4 (cap - z) := hD ⟨4, .data⟩ (by simp) rfl _ rfl _ rfl
      refine step_yes rfl ?_
      refine ok_call (f := 27) (args := #[.slice (some ⟨b, off + z, none⟩) 4 (cap - z)]) (by simp [execOp, resolve, Act.eval, d4, go_sem]) ?_
      refine (h27 w1 hL).mono ?_
      rintro e w2 ⟨rfl, hb⟩
      exact ⟨_, rfl, hb, TV.mk rfl⟩
    · obtain rfl := Option.some.inj hi
      clear hi hlt
      intro a w1 hL hS hD
      have e0 : a.tmps.getD 0 undef = .slice (some ⟨b, off, none⟩) len cap := (hS.slot 0 (by kernel_rfl)).trans s0
      refine step_yes rfl ?_
      exact ok_value Lat.refl (.slice (some ⟨b, off, none⟩) len cap) (by simp [execOp, Act.eval, e0, go_sem]) (TV.mk rfl)
    · obtain rfl := Option.some.inj hi
      clear hi hlt
      intro a w1 hL hS hD
      have e6 : a.tmps.getD 6 undef = .int .i64 (z : Int) := (hS.slot 6 (by kernel_rfl)).trans s6
      refine step_yes rfl ?_
      exact ok_value Lat.refl (.int .i64 (z : Int)) (by simp [execOp, Act.eval, e6, go_sem]) (TV.mk rfl)
    · obtain rfl := Option.some.inj hi
      clear hi hlt
      intro a w1 hL hS hD
      have d6 : a.tmps.getD 33 undef = .slice (some ⟨b, off, none⟩) len cap := hD ⟨6, .data⟩ (by simp) rfl _ rfl _ rfl
      have d7 : a.tmps.getD 34 undef = .int .i64 (z : Int) := hD ⟨7, .data⟩ (by simp) rfl _ rfl _ rfl
      refine step_yes rfl ?_
      exact ok_value Lat.refl (.slice (some ⟨b, off, none⟩) z cap) (by simp [execOp, Act.eval, d6, d7, hcz, go_sem]) (TV.mk rfl)
    · obtain rfl := Option.some.inj hi
      clear hi hlt
      intro a w1 hL hS hD
      have d8 : a.tmps.getD 35 undef = .slice (some ⟨b, off, none⟩) z cap := hD ⟨8, .data⟩ (by simp) rfl _ rfl _ rfl
      refine step_yes rfl ?_
      refine ok_call (f := 28) (args := #[.slice (some ⟨b, off, none⟩) z cap]) (by simp [execOp, resolve, Act.eval, d8, go_sem]) ?_
      refine (h28 w1 hL).mono ?_
      rintro e w2 ⟨rfl, hb⟩
      exact ⟨_, rfl, hb, TV.mk rfl⟩
    · obtain rfl := Option.some.inj hi
      clear hi hlt
      intro a w1 hL hS hD
      have d5 : a.tmps.getD 32 undef = .int .u32 (x : Int) := hD ⟨5, .data⟩ (by simp) rfl _ rfl _ rfl
      have d9 : a.tmps.getD 36 undef = .int .u32 (y : Int) := hD ⟨9, .data⟩ (by simp) rfl _ rfl _ rfl
      refine step_yes rfl ?_
      exact ok_value Lat.refl (.bool true) (by simp [execOp, Act.eval, d5, d9, hxy, go_sem]) (TV.mk rfl)

set_option maxRecDepth 100000 in
set_option maxHeartbeats 2000000 in
theorem rget_r7_eq (b off len cap z x y : Nat) (w : World) (a0 : Act) (Q : Exit → Act → World → Prop) (hsz : a0.tmps.size = 48)
    (s0 : a0.tmps.getD 0 undef = .slice (some ⟨b, off, none⟩) len cap)
    (s6 : a0.tmps.getD 6 undef = .int .i64 (z : Int))
    (hzl : z ≤ len)
    (hzc : z ≤ cap)
    (hcz : ¬ cap < z)
    (hne : ¬ cap = z)
    (hz4 : IntKind.i64.wrap ((z : Int) + 4) = (z : Int) + 4)
    (hz4c : (z : Int) + 4 ≤ cap)
    (hz40 : ¬ (z : Int) + 4 < 0)
    (hz4d : ¬ (cap : Int) < (z : Int) + 4)
    (hz44 : ((z : Int) + 4).toNat = z + 4)
    (h27 : ∀ w1, Lat w w1 → Calls Try.prog 27 #[.slice (some ⟨b, off + z, none⟩) 4 (cap - z)] w1 fun e w2 => e = .returned (.int .u32 (x : Int)) ∧ Lat w1 w2)
    (h28 : ∀ w1, Lat w w1 → Calls Try.prog 28 #[.slice (some ⟨b, off, none⟩) z cap] w1 fun e w2 => e = .returned (.int .u32 (y : Int)) ∧ Lat w1 w2)
    (hxy : (x : Int) = (y : Int))
    (hQ : ∀ (v27 v28 v29 v30 v31 v32 v33 v34 v35 v36 : Value) (w1 : World), Lat w w1 → Q .normal (((((((((((a0.put (some 27) v27).put (some 28) v28).put (some 29) v29).put (some 30) v30).put (some 31) v31).put (some 32) v32).put (some 33) v33).put (some 34) v34).put (some 35) v35).put (some 36) v36).put (some 37) (.bool false)) w1) :
    Code.wp Try.prog ((Try.f18.body.bind (findRegion 7)).getD .skip) Q a0 w := by
  conv => arg 2; whnf
  refine wp_region_inv Lat (TV [.slice (some ⟨b, off, none⟩) len cap, .int .i64 (z : Int), .int .i64 (z : Int), .int .i64 ((z : Int) + 4), .slice (some ⟨b, off + z, none⟩) 4 (cap - z), .int .u32 (x : Int), .slice (some ⟨b, off, none⟩) len cap, .int .i64 (z : Int), .slice (some ⟨b, off, none⟩) z cap, .int .u32 (y : Int), .bool false]) (by kernel_rfl) (by kernel_rfl) (by kernel_rfl) (by rw [hsz]; kernel_rfl) (by kernel_rfl) Lat.refl Lat.trans (TV.stable _) (Lat.draw w) ?hop ?hdone
  case hdone =>
    intro a w1 hL hS hT
    have k37 : a.tmps.getD 37 undef = .bool false := hT 10 _ rfl _ rfl
    have he := same_puts hS
    have hQ2 := hQ (a.tmps.getD 27 undef) (a.tmps.getD 28 undef) (a.tmps.getD 29 undef) (a.tmps.getD 30 undef) (a.tmps.getD 31 undef) (a.tmps.getD 32 undef) (a.tmps.getD 33 undef) (a.tmps.getD 34 undef) (a.tmps.getD 35 undef) (a.tmps.getD 36 undef) w1 hL
    rw [← k37] at hQ2
    rw [he]
    exact hQ2
  case hop =>
    intro i o hi
    have hlt : i < 11 := (Array.getElem?_eq_some_iff.1 hi).1
    rcases (show i = 0 ∨ i = 1 ∨ i = 2 ∨ i = 3 ∨ i = 4 ∨ i = 5 ∨ i = 6 ∨ i = 7 ∨ i = 8 ∨ i = 9 ∨ i = 10 by omega) with rfl | rfl | rfl | rfl | rfl | rfl | rfl | rfl | rfl | rfl | rfl
    · obtain rfl := Option.some.inj hi
      clear hi hlt
      intro a w1 hL hS hD
      have e0 : a.tmps.getD 0 undef = .slice (some ⟨b, off, none⟩) len cap := (hS.slot 0 (by kernel_rfl)).trans s0
      refine step_yes rfl ?_
      exact ok_value Lat.refl (.slice (some ⟨b, off, none⟩) len cap) (by simp [execOp, Act.eval, e0, go_sem]) (TV.mk rfl)
    · obtain rfl := Option.some.inj hi
      clear hi hlt
      intro a w1 hL hS hD
      have e6 : a.tmps.getD 6 undef = .int .i64 (z : Int) := (hS.slot 6 (by kernel_rfl)).trans s6
      refine step_yes rfl ?_
      exact ok_value Lat.refl (.int .i64 (z : Int)) (by simp [execOp, Act.eval, e6, go_sem]) (TV.mk rfl)
    · obtain rfl := Option.some.inj hi
      clear hi hlt
      intro a w1 hL hS hD
      have e6 : a.tmps.getD 6 undef = .int .i64 (z : Int) := (hS.slot 6 (by kernel_rfl)).trans s6
      refine step_yes rfl ?_
      exact ok_value Lat.refl (.int .i64 (z : Int)) (by simp [execOp, Act.eval, e6, go_sem]) (TV.mk rfl)
    · obtain rfl := Option.some.inj hi
      clear hi hlt
      intro a w1 hL hS hD
      have d2 : a.tmps.getD 29 undef = .int .i64 (z : Int) := hD ⟨2, .data⟩ (by simp) rfl _ rfl _ rfl
      refine step_yes rfl ?_
      exact ok_value Lat.refl (.int .i64 ((z : Int) + 4)) (by simp [execOp, Act.eval, d2, hz4, go_sem]) (TV.mk rfl)
    · obtain rfl := Option.some.inj hi
      clear hi hlt
      intro a w1 hL hS hD
      have d0 : a.tmps.getD 27 undef = .slice (some ⟨b, off, none⟩) len cap := hD ⟨0, .data⟩ (by simp) rfl _ rfl _ rfl
      have d1 : a.tmps.getD 28 undef = .int .i64 (z : Int) := hD ⟨1, .data⟩ (by simp) rfl _ rfl _ rfl
      have d3 : a.tmps.getD 30 undef = .int .i64 ((z : Int) + 4) := hD ⟨3, .data⟩ (by simp) rfl _ rfl _ rfl
      refine step_yes rfl ?_
      exact ok_value Lat.refl (.slice (some ⟨b, off + z, none⟩) 4 (cap - z)) (by simp [execOp, Act.eval, d0, d1, d3, hz40, hz4c, hz4d, hz44, hne, go_sem]) (TV.mk rfl)
    · obtain rfl := Option.some.inj hi
      clear hi hlt
      intro a w1 hL hS hD
      have d4 : a.tmps.getD 31 undef = .slice (some ⟨b, off + z, none⟩) 4 (cap - z) := hD ⟨4, .data⟩ (by simp) rfl _ rfl _ rfl
      refine step_yes rfl ?_
      refine ok_call (f := 27) (args := #[.slice (some ⟨b, off + z, none⟩) 4 (cap - z)]) (by simp [execOp, resolve, Act.eval, d4, go_sem]) ?_
      refine (h27 w1 hL).mono ?_
      rintro e w2 ⟨rfl, hb⟩
      exact ⟨_, rfl, hb, TV.mk rfl⟩
    · obtain rfl := Option.some.inj hi
      clear hi hlt
      intro a w1 hL hS hD
      have e0 : a.tmps.getD 0 undef = .slice (some ⟨b, off, none⟩) len cap := (hS.slot 0 (by kernel_rfl)).trans s0
      refine step_yes rfl ?_
      exact ok_value Lat.refl (.slice (some ⟨b, off, none⟩) len cap) (by simp [execOp, Act.eval, e0, go_sem]) (TV.mk rfl)
    · obtain rfl := Option.some.inj hi
      clear hi hlt
      intro a w1 hL hS hD
      have e6 : a.tmps.getD 6 undef = .int .i64 (z : Int) := (hS.slot 6 (by kernel_rfl)).trans s6
      refine step_yes rfl ?_
      exact ok_value Lat.refl (.int .i64 (z : Int)) (by simp [execOp, Act.eval, e6, go_sem]) (TV.mk rfl)
    · obtain rfl := Option.some.inj hi
      clear hi hlt
      intro a w1 hL hS hD
      have d6 : a.tmps.getD 33 undef = .slice (some ⟨b, off, none⟩) len cap := hD ⟨6, .data⟩ (by simp) rfl _ rfl _ rfl
      have d7 : a.tmps.getD 34 undef = .int .i64 (z : Int) := hD ⟨7, .data⟩ (by simp) rfl _ rfl _ rfl
      refine step_yes rfl ?_
      exact ok_value Lat.refl (.slice (some ⟨b, off, none⟩) z cap) (by simp [execOp, Act.eval, d6, d7, hcz, go_sem]) (TV.mk rfl)
    · obtain rfl := Option.some.inj hi
      clear hi hlt
      intro a w1 hL hS hD
      have d8 : a.tmps.getD 35 undef = .slice (some ⟨b, off, none⟩) z cap := hD ⟨8, .data⟩ (by simp) rfl _ rfl _ rfl
      refine step_yes rfl ?_
      refine ok_call (f := 28) (args := #[.slice (some ⟨b, off, none⟩) z cap]) (by simp [execOp, resolve, Act.eval, d8, go_sem]) ?_
      refine (h28 w1 hL).mono ?_
      rintro e w2 ⟨rfl, hb⟩
      exact ⟨_, rfl, hb, TV.mk rfl⟩
    · obtain rfl := Option.some.inj hi
      clear hi hlt
      intro a w1 hL hS hD
      have d5 : a.tmps.getD 32 undef = .int .u32 (x : Int) := hD ⟨5, .data⟩ (by simp) rfl _ rfl _ rfl
      have d9 : a.tmps.getD 36 undef = .int .u32 (y : Int) := hD ⟨9, .data⟩ (by simp) rfl _ rfl _ rfl
      refine step_yes rfl ?_
      exact ok_value Lat.refl (.bool false) (by simp [execOp, Act.eval, d5, d9, hxy, go_sem]) (TV.mk rfl)

end Go.Proofs.Ytiaopgphjailiaa
