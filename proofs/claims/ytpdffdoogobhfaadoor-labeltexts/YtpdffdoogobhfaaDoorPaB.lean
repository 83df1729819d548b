/-
  take: its region that draws its order, behind a call that moves the reader.
-/
import Derived.Test.YtpdffdoogobhfaaDoorPaA
namespace Go.Proofs.YtpdffdoogobhfaaDoor
open Go Go.RowKit
set_option linter.unusedVariables false
set_option linter.unusedSimpArgs false

/-- The reader may have been moved from a to b. -/
def RdL (r : Nat) (s : ByteArray) (a b : Nat) (u v : World) : Prop := Chg (fun i => i = r) u v ∧ ((Rd u r s a ∨ Rd u r s b) → (Rd v r s a ∨ Rd v r s b)) ∧ (Rd u r s b → Rd v r s b)
theorem RdL.refl {r : Nat} {s : ByteArray} {a b : Nat} (u : World) : RdL r s a b u u := ⟨Chg.refl _ _, fun h => h, fun h => h⟩
theorem RdL.trans {r : Nat} {s : ByteArray} {a b : Nat} (u v w : World) (h : RdL r s a b u v) (k : RdL r s a b v w) : RdL r s a b u w :=
  ⟨h.1.trans k.1 (fun _ _ e => e), fun x => k.2.1 (h.2.1 x), fun x => k.2.2 (h.2.2 x)⟩
theorem RdL.draw {r : Nat} {s : ByteArray} {a b : Nat} (w : World) : RdL r s a b w w.drew := ⟨Chg.drew _ _, fun h => h, fun h => h⟩
theorem RdL.moved {r : Nat} {s : ByteArray} {a b : Nat} {u v : World} (hc : Chg (fun i => i = r) u v) (h : Rd v r s b) : RdL r s a b u v := ⟨hc, fun _ => Or.inr h, fun _ => h⟩
def TR (r : Nat) (s : ByteArray) (b : Nat) (tab : List Value) (i : Nat) (v : Value) (w : World) : Prop := TV tab i v w ∧ (1 ≤ i → Rd w r s b)
theorem TR.stable {r : Nat} {s : ByteArray} {a b : Nat} (tab : List Value) : ∀ i v w w', TR r s b tab i v w → RdL r s a b w w' → TR r s b tab i v w' := fun i v w w' h k => ⟨h.1, fun hi => k.2.2 (h.2 hi)⟩

set_option maxRecDepth 100000 in
set_option maxHeartbeats 2000000 in
theorem take_end (r : Nat) (s : ByteArray) (a b : Nat) (c : Int) (w : World) (a0 : Act) (Q : Exit → Act → World → Prop) (hsz : a0.tmps.size = 27)
    (s0 : a0.tmps.getD 0 undef = .pointer (some ⟨r, 0, none⟩))
    (s1 : a0.tmps.getD 1 undef = .int .u8 c)
    (h0 : Rd w r s a)
    (hcall : ∀ w1, Rd w1 r s a ∨ Rd w1 r s b → Calls Tryd.prog 62 #[.pointer (some ⟨r, 0, none⟩)] w1 fun e w' => e = .returned (.bool true) ∧ Rd w' r s b ∧ Chg (fun i => i = r) w1 w')
    (hQ : ∀ (v5 v6 v7 v8 v9 v10 v11 v12 v13 v14 v15 v16 v17 v18 : Value) (w1 : World), RdL r s a b w w1 → Rd w1 r s b → Q .normal (((((((((((((((a0.put (some 5) v5).put (some 6) v6).put (some 7) v7).put (some 8) v8).put (some 9) v9).put (some 10) v10).put (some 11) v11).put (some 12) v12).put (some 13) v13).put (some 14) v14).put (some 15) v15).put (some 16) v16).put (some 17) v17).put (some 18) v18).put (some 19) (.bool true)) w1) :
    Code.wp Tryd.prog ((Tryd.f60.body.bind (findRegion 1)).getD .skip) Q a0 w := by
  conv => arg 2; whnf
  refine wp_region_inv (RdL r s a b) (TR r s b [.pointer (some ⟨r, 0, none⟩), .bool true, .bool true, undef, undef, undef, undef, undef, undef, undef, undef, undef, undef, undef, .bool true]) (by kernel_rfl) (by kernel_rfl) (by kernel_rfl) (by rw [hsz]; kernel_rfl) (by kernel_rfl) RdL.refl RdL.trans (TR.stable _) (RdL.draw w) ?hop ?hdone
  case hdone =>
    intro a1 w1 hL hS hT
    have k19 : a1.tmps.getD 19 undef = .bool true := (hT 14 _ rfl).1 _ rfl
    have he := same_puts hS
    have hQ2 := hQ (a1.tmps.getD 5 undef) (a1.tmps.getD 6 undef) (a1.tmps.getD 7 undef) (a1.tmps.getD 8 undef) (a1.tmps.getD 9 undef) (a1.tmps.getD 10 undef) (a1.tmps.getD 11 undef) (a1.tmps.getD 12 undef) (a1.tmps.getD 13 undef) (a1.tmps.getD 14 undef) (a1.tmps.getD 15 undef) (a1.tmps.getD 16 undef) (a1.tmps.getD 17 undef) (a1.tmps.getD 18 undef) w1 hL ((hT 1 _ rfl).2 (by decide))
    rw [← k19] at hQ2
    rw [he]
    exact hQ2
  case hop =>
    intro i o hi
    have hlt : i < 15 := (Array.getElem?_eq_some_iff.1 hi).1
    rcases (show i = 0 ∨ i = 1 ∨ i = 2 ∨ i = 3 ∨ i = 4 ∨ i = 5 ∨ i = 6 ∨ i = 7 ∨ i = 8 ∨ i = 9 ∨ i = 10 ∨ i = 11 ∨ i = 12 ∨ i = 13 ∨ i = 14 by omega) with rfl | rfl | rfl | rfl | rfl | rfl | rfl | rfl | rfl | rfl | rfl | rfl | rfl | rfl | rfl
    · obtain rfl := Option.some.inj hi
      clear hi hlt
      intro a1 w1 hL hS hD
      have e0 : a1.tmps.getD 0 undef = .pointer (some ⟨r, 0, none⟩) := (hS.slot 0 (by kernel_rfl)).trans s0
      refine step_yes rfl ?_
      exact ok_value RdL.refl (.pointer (some ⟨r, 0, none⟩)) (by simp [execOp, Act.eval, e0, go_sem]) ⟨TV.mk rfl, fun h => by omega⟩
    · obtain rfl := Option.some.inj hi
      clear hi hlt
      intro a1 w1 hL hS hD
      have d0 : a1.tmps.getD 5 undef = .pointer (some ⟨r, 0, none⟩) := (hD ⟨0, .data⟩ (by simp) rfl _ rfl).1 _ rfl
      refine step_yes rfl ?_
      refine ok_call (f := 62) (args := #[.pointer (some ⟨r, 0, none⟩)]) (by simp [execOp, resolve, Act.eval, d0, go_sem]) ?_
      refine (hcall w1 (hL.2.1 (Or.inl h0))).mono ?_
      rintro e w' ⟨rfl, h1, hc⟩
      exact ⟨_, rfl, RdL.moved hc h1, ⟨TV.mk rfl, fun _ => h1⟩⟩
    · obtain rfl := Option.some.inj hi
      clear hi hlt
      intro a1 w1 hL hS hD
      have hRd := (hD ⟨1, .data⟩ (by simp) rfl _ rfl).2 (by decide)
      have d1 : a1.tmps.getD 6 undef = .bool true := (hD ⟨1, .data⟩ (by simp) rfl _ rfl).1 _ rfl
      refine step_yes rfl ?_
      exact ok_value RdL.refl (.bool true) (by simp [execOp, Act.eval, d1, go_sem]) ⟨TV.mk rfl, fun _ => hRd⟩
    · obtain rfl := Option.some.inj hi
      clear hi hlt
      intro a1 w1 hL hS hD
      have hRd := (hD ⟨2, .guard⟩ (by simp) rfl _ rfl).2 (by decide)
      have d2 : a1.tmps.getD 7 undef = .bool true := (hD ⟨2, .guard⟩ (by simp) rfl _ rfl).1 _ rfl
      exact step_no (wanted_no rfl rfl rfl d2 rfl) ⟨TV.mk rfl, fun _ => hRd⟩
    · obtain rfl := Option.some.inj hi
      clear hi hlt
      intro a1 w1 hL hS hD
      have hRd := (hD ⟨2, .guard⟩ (by simp) rfl _ rfl).2 (by decide)
      have d2 : a1.tmps.getD 7 undef = .bool true := (hD ⟨2, .guard⟩ (by simp) rfl _ rfl).1 _ rfl
      exact step_no (wanted_no rfl rfl rfl d2 rfl) ⟨TV.mk rfl, fun _ => hRd⟩
    · obtain rfl := Option.some.inj hi
      clear hi hlt
      intro a1 w1 hL hS hD
      have hRd := (hD ⟨2, .guard⟩ (by simp) rfl _ rfl).2 (by decide)
      have d2 : a1.tmps.getD 7 undef = .bool true := (hD ⟨2, .guard⟩ (by simp) rfl _ rfl).1 _ rfl
      exact step_no (wanted_no rfl rfl rfl d2 rfl) ⟨TV.mk rfl, fun _ => hRd⟩
    · obtain rfl := Option.some.inj hi
      clear hi hlt
      intro a1 w1 hL hS hD
      have hRd := (hD ⟨2, .guard⟩ (by simp) rfl _ rfl).2 (by decide)
      have d2 : a1.tmps.getD 7 undef = .bool true := (hD ⟨2, .guard⟩ (by simp) rfl _ rfl).1 _ rfl
      exact step_no (wanted_no rfl rfl rfl d2 rfl) ⟨TV.mk rfl, fun _ => hRd⟩
    · obtain rfl := Option.some.inj hi
      clear hi hlt
      intro a1 w1 hL hS hD
      have hRd := (hD ⟨2, .guard⟩ (by simp) rfl _ rfl).2 (by decide)
      have d2 : a1.tmps.getD 7 undef = .bool true := (hD ⟨2, .guard⟩ (by simp) rfl _ rfl).1 _ rfl
      exact step_no (wanted_no rfl rfl rfl d2 rfl) ⟨TV.mk rfl, fun _ => hRd⟩
    · obtain rfl := Option.some.inj hi
      clear hi hlt
      intro a1 w1 hL hS hD
      have hRd := (hD ⟨2, .guard⟩ (by simp) rfl _ rfl).2 (by decide)
      have d2 : a1.tmps.getD 7 undef = .bool true := (hD ⟨2, .guard⟩ (by simp) rfl _ rfl).1 _ rfl
      exact step_no (wanted_no rfl rfl rfl d2 rfl) ⟨TV.mk rfl, fun _ => hRd⟩
    · obtain rfl := Option.some.inj hi
      clear hi hlt
      intro a1 w1 hL hS hD
      have hRd := (hD ⟨2, .guard⟩ (by simp) rfl _ rfl).2 (by decide)
      have d2 : a1.tmps.getD 7 undef = .bool true := (hD ⟨2, .guard⟩ (by simp) rfl _ rfl).1 _ rfl
      exact step_no (wanted_no rfl rfl rfl d2 rfl) ⟨TV.mk rfl, fun _ => hRd⟩
    · obtain rfl := Option.some.inj hi
      clear hi hlt
      intro a1 w1 hL hS hD
      have hRd := (hD ⟨2, .guard⟩ (by simp) rfl _ rfl).2 (by decide)
      have d2 : a1.tmps.getD 7 undef = .bool true := (hD ⟨2, .guard⟩ (by simp) rfl _ rfl).1 _ rfl
      exact step_no (wanted_no rfl rfl rfl d2 rfl) ⟨TV.mk rfl, fun _ => hRd⟩
    · obtain rfl := Option.some.inj hi
      clear hi hlt
      intro a1 w1 hL hS hD
      have hRd := (hD ⟨2, .guard⟩ (by simp) rfl _ rfl).2 (by decide)
      have d2 : a1.tmps.getD 7 undef = .bool true := (hD ⟨2, .guard⟩ (by simp) rfl _ rfl).1 _ rfl
      exact step_no (wanted_no rfl rfl rfl d2 rfl) ⟨TV.mk rfl, fun _ => hRd⟩
    · obtain rfl := Option.some.inj hi
      clear hi hlt
      intro a1 w1 hL hS hD
      have hRd := (hD ⟨2, .guard⟩ (by simp) rfl _ rfl).2 (by decide)
      have d2 : a1.tmps.getD 7 undef = .bool true := (hD ⟨2, .guard⟩ (by simp) rfl _ rfl).1 _ rfl
      exact step_no (wanted_no rfl rfl rfl d2 rfl) ⟨TV.mk rfl, fun _ => hRd⟩
    · obtain rfl := Option.some.inj hi
      clear hi hlt
      intro a1 w1 hL hS hD
      have hRd := (hD ⟨2, .guard⟩ (by simp) rfl _ rfl).2 (by decide)
      have d2 : a1.tmps.getD 7 undef = .bool true := (hD ⟨2, .guard⟩ (by simp) rfl _ rfl).1 _ rfl
      exact step_no (wanted_no rfl rfl rfl d2 rfl) ⟨TV.mk rfl, fun _ => hRd⟩
    · obtain rfl := Option.some.inj hi
      clear hi hlt
      intro a1 w1 hL hS hD
      have hRd := (hD ⟨2, .data⟩ (by simp) rfl _ rfl).2 (by decide)
      have d2 : a1.tmps.getD 7 undef = .bool true := (hD ⟨2, .data⟩ (by simp) rfl _ rfl).1 _ rfl
      have d13 : a1.tmps.getD 18 undef = undef := (hD ⟨13, .data⟩ (by simp) rfl _ rfl).1 _ rfl
      refine step_yes rfl ?_
      exact ok_value RdL.refl (.bool true) (by simp [execOp, Act.eval, d2, d13, go_sem]) ⟨TV.mk rfl, fun _ => hRd⟩

set_option maxRecDepth 100000 in
set_option maxHeartbeats 2000000 in
theorem take_at (r : Nat) (s : ByteArray) (a b : Nat) (c x : Int) (q : Bool) (w : World) (a0 : Act) (Q : Exit → Act → World → Prop) (hsz : a0.tmps.size = 27)
    (s0 : a0.tmps.getD 0 undef = .pointer (some ⟨r, 0, none⟩))
    (s1 : a0.tmps.getD 1 undef = .int .u8 c)
    (h0 : Rd w r s a)
    (hcall : ∀ w1, Rd w1 r s a ∨ Rd w1 r s b → Calls Tryd.prog 62 #[.pointer (some ⟨r, 0, none⟩)] w1 fun e w' => e = .returned (.bool false) ∧ Rd w' r s b ∧ Chg (fun i => i = r) w1 w')
    (hb : b < s.size) (hbz : (b : Int) < (s.size : Int)) (hx : ((s[b]'hb).toNat : Int) = x) (hq : (x != c) = q)
    (hQ : ∀ (v5 v6 v7 v8 v9 v10 v11 v12 v13 v14 v15 v16 v17 v18 : Value) (w1 : World), RdL r s a b w w1 → Rd w1 r s b → Q .normal (((((((((((((((a0.put (some 5) v5).put (some 6) v6).put (some 7) v7).put (some 8) v8).put (some 9) v9).put (some 10) v10).put (some 11) v11).put (some 12) v12).put (some 13) v13).put (some 14) v14).put (some 15) v15).put (some 16) v16).put (some 17) v17).put (some 18) v18).put (some 19) (.bool q)) w1) :
    Code.wp Tryd.prog ((Tryd.f60.body.bind (findRegion 1)).getD .skip) Q a0 w := by
  conv => arg 2; whnf
  refine wp_region_inv (RdL r s a b) (TR r s b [.pointer (some ⟨r, 0, none⟩), .bool false, .bool false, .pointer (some ⟨r, 0, none⟩), .pointer (some ⟨r, 0, none⟩), .pointer (some ⟨r, 0, none⟩), .string s, .pointer (some ⟨r, 0, none⟩), .pointer (some ⟨r, 0, none⟩), .pointer (some ⟨r, 1, none⟩), .int .i64 (b : Int), .int .u8 x, .int .u8 c, .bool q, .bool q]) (by kernel_rfl) (by kernel_rfl) (by kernel_rfl) (by rw [hsz]; kernel_rfl) (by kernel_rfl) RdL.refl RdL.trans (TR.stable _) (RdL.draw w) ?hop ?hdone
  case hdone =>
    intro a1 w1 hL hS hT
    have k19 : a1.tmps.getD 19 undef = .bool q := (hT 14 _ rfl).1 _ rfl
    have he := same_puts hS
    have hQ2 := hQ (a1.tmps.getD 5 undef) (a1.tmps.getD 6 undef) (a1.tmps.getD 7 undef) (a1.tmps.getD 8 undef) (a1.tmps.getD 9 undef) (a1.tmps.getD 10 undef) (a1.tmps.getD 11 undef) (a1.tmps.getD 12 undef) (a1.tmps.getD 13 undef) (a1.tmps.getD 14 undef) (a1.tmps.getD 15 undef) (a1.tmps.getD 16 undef) (a1.tmps.getD 17 undef) (a1.tmps.getD 18 undef) w1 hL ((hT 1 _ rfl).2 (by decide))
    rw [← k19] at hQ2
    rw [he]
    exact hQ2
  case hop =>
    intro i o hi
    have hlt : i < 15 := (Array.getElem?_eq_some_iff.1 hi).1
    rcases (show i = 0 ∨ i = 1 ∨ i = 2 ∨ i = 3 ∨ i = 4 ∨ i = 5 ∨ i = 6 ∨ i = 7 ∨ i = 8 ∨ i = 9 ∨ i = 10 ∨ i = 11 ∨ i = 12 ∨ i = 13 ∨ i = 14 by omega) with rfl | rfl | rfl | rfl | rfl | rfl | rfl | rfl | rfl | rfl | rfl | rfl | rfl | rfl | rfl
    · obtain rfl := Option.some.inj hi
      clear hi hlt
      intro a1 w1 hL hS hD
      have e0 : a1.tmps.getD 0 undef = .pointer (some ⟨r, 0, none⟩) := (hS.slot 0 (by kernel_rfl)).trans s0
      refine step_yes rfl ?_
      exact ok_value RdL.refl (.pointer (some ⟨r, 0, none⟩)) (by simp [execOp, Act.eval, e0, go_sem]) ⟨TV.mk rfl, fun h => by omega⟩
    · obtain rfl := Option.some.inj hi
      clear hi hlt
      intro a1 w1 hL hS hD
      have d0 : a1.tmps.getD 5 undef = .pointer (some ⟨r, 0, none⟩) := (hD ⟨0, .data⟩ (by simp) rfl _ rfl).1 _ rfl
      refine step_yes rfl ?_
      refine ok_call (f := 62) (args := #[.pointer (some ⟨r, 0, none⟩)]) (by simp [execOp, resolve, Act.eval, d0, go_sem]) ?_
      refine (hcall w1 (hL.2.1 (Or.inl h0))).mono ?_
      rintro e w' ⟨rfl, h1, hc⟩
      exact ⟨_, rfl, RdL.moved hc h1, ⟨TV.mk rfl, fun _ => h1⟩⟩
    · obtain rfl := Option.some.inj hi
      clear hi hlt
      intro a1 w1 hL hS hD
      have hRd := (hD ⟨1, .data⟩ (by simp) rfl _ rfl).2 (by decide)
      have d1 : a1.tmps.getD 6 undef = .bool false := (hD ⟨1, .data⟩ (by simp) rfl _ rfl).1 _ rfl
      refine step_yes rfl ?_
      exact ok_value RdL.refl (.bool false) (by simp [execOp, Act.eval, d1, go_sem]) ⟨TV.mk rfl, fun _ => hRd⟩
    · obtain rfl := Option.some.inj hi
      clear hi hlt
      intro a1 w1 hL hS hD
      have hRd := (hD ⟨2, .guard⟩ (by simp) rfl _ rfl).2 (by decide)
      have d2 : a1.tmps.getD 7 undef = .bool false := (hD ⟨2, .guard⟩ (by simp) rfl _ rfl).1 _ rfl
      have e0 : a1.tmps.getD 0 undef = .pointer (some ⟨r, 0, none⟩) := (hS.slot 0 (by kernel_rfl)).trans s0
      refine step_yes (wanted_yes rfl rfl rfl d2) ?_
      exact ok_value RdL.refl (.pointer (some ⟨r, 0, none⟩)) (by simp [execOp, Act.eval, e0, go_sem]) ⟨TV.mk rfl, fun _ => hRd⟩
    · obtain rfl := Option.some.inj hi
      clear hi hlt
      intro a1 w1 hL hS hD
      have hRd := (hD ⟨2, .guard⟩ (by simp) rfl _ rfl).2 (by decide)
      have d2 : a1.tmps.getD 7 undef = .bool false := (hD ⟨2, .guard⟩ (by simp) rfl _ rfl).1 _ rfl
      have d3 : a1.tmps.getD 8 undef = .pointer (some ⟨r, 0, none⟩) := (hD ⟨3, .data⟩ (by simp) rfl _ rfl).1 _ rfl
      refine step_yes (wanted_yes rfl rfl rfl d2) ?_
      exact ok_value RdL.refl (.pointer (some ⟨r, 0, none⟩)) (by simp [execOp, Act.eval, d3, go_sem]) ⟨TV.mk rfl, fun _ => hRd⟩
    · obtain rfl := Option.some.inj hi
      clear hi hlt
      intro a1 w1 hL hS hD
      have hRd := (hD ⟨2, .guard⟩ (by simp) rfl _ rfl).2 (by decide)
      have d2 : a1.tmps.getD 7 undef = .bool false := (hD ⟨2, .guard⟩ (by simp) rfl _ rfl).1 _ rfl
      have d4 : a1.tmps.getD 9 undef = .pointer (some ⟨r, 0, none⟩) := (hD ⟨4, .data⟩ (by simp) rfl _ rfl).1 _ rfl
      refine step_yes (wanted_yes rfl rfl rfl d2) ?_
      exact ok_value RdL.refl (.pointer (some ⟨r, 0, none⟩)) (by simp [execOp, Act.eval, d4, go_sem]) ⟨TV.mk rfl, fun _ => hRd⟩
    · obtain rfl := Option.some.inj hi
      clear hi hlt
      intro a1 w1 hL hS hD
      have hRd := (hD ⟨2, .guard⟩ (by simp) rfl _ rfl).2 (by decide)
      have d2 : a1.tmps.getD 7 undef = .bool false := (hD ⟨2, .guard⟩ (by simp) rfl _ rfl).1 _ rfl
      have d5 : a1.tmps.getD 10 undef = .pointer (some ⟨r, 0, none⟩) := (hD ⟨5, .data⟩ (by simp) rfl _ rfl).1 _ rfl
      refine step_yes (wanted_yes rfl rfl rfl d2) ?_
      exact ok_value RdL.refl (.string s) (by simp [execOp, Act.eval, d5, (show w1.cell? ⟨r, 0, none⟩ = some (.string s) from hRd.cell 0), go_sem]) ⟨TV.mk rfl, fun _ => hRd⟩
    · obtain rfl := Option.some.inj hi
      clear hi hlt
      intro a1 w1 hL hS hD
      have hRd := (hD ⟨2, .guard⟩ (by simp) rfl _ rfl).2 (by decide)
      have d2 : a1.tmps.getD 7 undef = .bool false := (hD ⟨2, .guard⟩ (by simp) rfl _ rfl).1 _ rfl
      have e0 : a1.tmps.getD 0 undef = .pointer (some ⟨r, 0, none⟩) := (hS.slot 0 (by kernel_rfl)).trans s0
      refine step_yes (wanted_yes rfl rfl rfl d2) ?_
      exact ok_value RdL.refl (.pointer (some ⟨r, 0, none⟩)) (by simp [execOp, Act.eval, e0, go_sem]) ⟨TV.mk rfl, fun _ => hRd⟩
    · obtain rfl := Option.some.inj hi
      clear hi hlt
      intro a1 w1 hL hS hD
      have hRd := (hD ⟨2, .guard⟩ (by simp) rfl _ rfl).2 (by decide)
      have d2 : a1.tmps.getD 7 undef = .bool false := (hD ⟨2, .guard⟩ (by simp) rfl _ rfl).1 _ rfl
      have d7 : a1.tmps.getD 12 undef = .pointer (some ⟨r, 0, none⟩) := (hD ⟨7, .data⟩ (by simp) rfl _ rfl).1 _ rfl
      refine step_yes (wanted_yes rfl rfl rfl d2) ?_
      exact ok_value RdL.refl (.pointer (some ⟨r, 0, none⟩)) (by simp [execOp, Act.eval, d7, go_sem]) ⟨TV.mk rfl, fun _ => hRd⟩
    · obtain rfl := Option.some.inj hi
      clear hi hlt
      intro a1 w1 hL hS hD
      have hRd := (hD ⟨2, .guard⟩ (by simp) rfl _ rfl).2 (by decide)
      have d2 : a1.tmps.getD 7 undef = .bool false := (hD ⟨2, .guard⟩ (by simp) rfl _ rfl).1 _ rfl
      have d8 : a1.tmps.getD 13 undef = .pointer (some ⟨r, 0, none⟩) := (hD ⟨8, .data⟩ (by simp) rfl _ rfl).1 _ rfl
      refine step_yes (wanted_yes rfl rfl rfl d2) ?_
      exact ok_value RdL.refl (.pointer (some ⟨r, 1, none⟩)) (by simp [execOp, Act.eval, d8, go_sem]) ⟨TV.mk rfl, fun _ => hRd⟩
    · obtain rfl := Option.some.inj hi
      clear hi hlt
      intro a1 w1 hL hS hD
      have hRd := (hD ⟨2, .guard⟩ (by simp) rfl _ rfl).2 (by decide)
      have d2 : a1.tmps.getD 7 undef = .bool false := (hD ⟨2, .guard⟩ (by simp) rfl _ rfl).1 _ rfl
      have d9 : a1.tmps.getD 14 undef = .pointer (some ⟨r, 1, none⟩) := (hD ⟨9, .data⟩ (by simp) rfl _ rfl).1 _ rfl
      refine step_yes (wanted_yes rfl rfl rfl d2) ?_
      exact ok_value RdL.refl (.int .i64 (b : Int)) (by simp [execOp, Act.eval, d9, (show w1.cell? ⟨r, 1, none⟩ = some (.int .i64 (b : Int)) from hRd.cell 1), go_sem]) ⟨TV.mk rfl, fun _ => hRd⟩
    · obtain rfl := Option.some.inj hi
      clear hi hlt
      intro a1 w1 hL hS hD
      have hRd := (hD ⟨2, .guard⟩ (by simp) rfl _ rfl).2 (by decide)
      have d2 : a1.tmps.getD 7 undef = .bool false := (hD ⟨2, .guard⟩ (by simp) rfl _ rfl).1 _ rfl
      have d6 : a1.tmps.getD 11 undef = .string s := (hD ⟨6, .data⟩ (by simp) rfl _ rfl).1 _ rfl
      have d10 : a1.tmps.getD 15 undef = .int .i64 (b : Int) := (hD ⟨10, .data⟩ (by simp) rfl _ rfl).1 _ rfl
      refine step_yes (wanted_yes rfl rfl rfl d2) ?_
      exact ok_value RdL.refl (.int .u8 x) (by simp [execOp, Act.eval, d6, d10, hb, hbz, hx, go_sem]) ⟨TV.mk rfl, fun _ => hRd⟩
    · obtain rfl := Option.some.inj hi
      clear hi hlt
      intro a1 w1 hL hS hD
      have hRd := (hD ⟨2, .guard⟩ (by simp) rfl _ rfl).2 (by decide)
      have d2 : a1.tmps.getD 7 undef = .bool false := (hD ⟨2, .guard⟩ (by simp) rfl _ rfl).1 _ rfl
      have e1 : a1.tmps.getD 1 undef = .int .u8 c := (hS.slot 1 (by kernel_rfl)).trans s1
      refine step_yes (wanted_yes rfl rfl rfl d2) ?_
      exact ok_value RdL.refl (.int .u8 c) (by simp [execOp, Act.eval, e1, go_sem]) ⟨TV.mk rfl, fun _ => hRd⟩
    · obtain rfl := Option.some.inj hi
      clear hi hlt
      intro a1 w1 hL hS hD
      have hRd := (hD ⟨2, .guard⟩ (by simp) rfl _ rfl).2 (by decide)
      have d2 : a1.tmps.getD 7 undef = .bool false := (hD ⟨2, .guard⟩ (by simp) rfl _ rfl).1 _ rfl
      have d11 : a1.tmps.getD 16 undef = .int .u8 x := (hD ⟨11, .data⟩ (by simp) rfl _ rfl).1 _ rfl
      have d12 : a1.tmps.getD 17 undef = .int .u8 c := (hD ⟨12, .data⟩ (by simp) rfl _ rfl).1 _ rfl
      refine step_yes (wanted_yes rfl rfl rfl d2) ?_
      exact ok_value RdL.refl (.bool q) (by simp [execOp, Act.eval, d11, d12, hq, go_sem]) ⟨TV.mk rfl, fun _ => hRd⟩
    · obtain rfl := Option.some.inj hi
      clear hi hlt
      intro a1 w1 hL hS hD
      have hRd := (hD ⟨2, .data⟩ (by simp) rfl _ rfl).2 (by decide)
      have d2 : a1.tmps.getD 7 undef = .bool false := (hD ⟨2, .data⟩ (by simp) rfl _ rfl).1 _ rfl
      have d13 : a1.tmps.getD 18 undef = .bool q := (hD ⟨13, .data⟩ (by simp) rfl _ rfl).1 _ rfl
      refine step_yes rfl ?_
      exact ok_value RdL.refl (.bool q) (by simp [execOp, Act.eval, d2, d13, go_sem]) ⟨TV.mk rfl, fun _ => hRd⟩

end Go.Proofs.YtpdffdoogobhfaaDoor
