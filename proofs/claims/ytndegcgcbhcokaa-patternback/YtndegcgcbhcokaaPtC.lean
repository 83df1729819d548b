/-
  character: its region that draws its order.
-/
import Derived.Test.YtndegcgcbhcokaaPtB
import Derived.Test.YtndegcgcbhcokaaAnyW
namespace Go.Proofs.Ytndegcgcbhcokaa
open Go Go.RowKit
set_option linter.unusedVariables false
set_option linter.unusedSimpArgs false

set_option maxRecDepth 100000 in
set_option maxHeartbeats 2000000 in
theorem char_r2 (r a9 c k : Nat) (s : ByteArray) (w : World) (a0 : Act) (Q : Exit → Act → World → Prop) (hsz : a0.tmps.size = 39)
    (s0 : a0.tmps.getD 0 undef = .pointer (some ⟨r, 0, none⟩))
    (hle : (a9 : Int) ≤ (s.size : Int)) (hle2 : a9 ≤ s.size)
    (c0 : ∀ w1, Lat w w1 → w1.cell? ⟨r, 0, none⟩ = some (.string s)) (c1 : ∀ w1, Lat w w1 → w1.cell? ⟨r, 1, none⟩ = some (.int .i64 (a9 : Int)))
    (hcall : ∀ w1, Lat w w1 → Calls Try.prog 26 #[.string (s.extract a9 s.size)] w1 fun e w' => e = .returned (.tuple #[.int .i32 (c : Int), .int .i64 (k : Int)]) ∧ Below w1.heap.size w1 w')
    (hQ : ∀ (v10 v11 v12 v13 v14 v15 v16 v17 v18 v19 v9 v20 v21 : Value) (w1 : World), Lat w w1 → Q .normal (((((((((((((((a0.put (some 10) v10).put (some 11) v11).put (some 12) v12).put (some 13) v13).put (some 14) v14).put (some 15) v15).put (some 16) v16).put (some 17) v17).put (some 18) v18).put (some 19) v19).put (some 9) v9).put (some 20) v20).put (some 21) v21).put (some 5) (.int .i32 (c : Int))).put (some 6) (.int .i64 (k : Int))) w1) :
    Code.wp Try.prog ((Try.f44.body.bind (findRegion 2)).getD .skip) Q a0 w := by
  conv => arg 2; whnf
  refine wp_region_inv Lat (TV [.pointer (some ⟨r, 0, none⟩), .pointer (some ⟨r, 0, none⟩), .pointer (some ⟨r, 0, none⟩), .string s, .pointer (some ⟨r, 0, none⟩), .pointer (some ⟨r, 0, none⟩), .pointer (some ⟨r, 1, none⟩), .int .i64 (a9 : Int), .string (s.extract a9 s.size), .tuple #[.int .i32 (c : Int), .int .i64 (k : Int)], .tuple #[.int .i32 (c : Int), .int .i64 (k : Int)], .int .i32 (c : Int), .int .i64 (k : Int), .int .i32 (c : Int), .int .i64 (k : Int)]) (by kernel_rfl) (by kernel_rfl) (by kernel_rfl) (by rw [hsz]; kernel_rfl) (by kernel_rfl) Lat.refl Lat.trans (TV.stable _) (Lat.draw w) ?hop ?hdone
  case hdone =>
    intro a w1 hL hS hT
    have k5 : a.tmps.getD 5 undef = .int .i32 (c : Int) := hT 13 _ rfl _ rfl
    have k6 : a.tmps.getD 6 undef = .int .i64 (k : Int) := hT 14 _ rfl _ rfl
    have he := same_puts hS
    have hQ2 := hQ (a.tmps.getD 10 undef) (a.tmps.getD 11 undef) (a.tmps.getD 12 undef) (a.tmps.getD 13 undef) (a.tmps.getD 14 undef) (a.tmps.getD 15 undef) (a.tmps.getD 16 undef) (a.tmps.getD 17 undef) (a.tmps.getD 18 undef) (a.tmps.getD 19 undef) (a.tmps.getD 9 undef) (a.tmps.getD 20 undef) (a.tmps.getD 21 undef) w1 hL
    rw [← k5, ← k6] at hQ2
    rw [he]
    exact hQ2
  case hop =>
    intro i o hi
    have hlt : i < 15 := (Array.getElem?_eq_some_iff.1 hi).1
    rcases (show i = 0 ∨ i = 1 ∨ i = 2 ∨ i = 3 ∨ i = 4 ∨ i = 5 ∨ i = 6 ∨ i = 7 ∨ i = 8 ∨ i = 9 ∨ i = 10 ∨ i = 11 ∨ i = 12 ∨ i = 13 ∨ i = 14 by omega) with rfl | rfl | rfl | rfl | rfl | rfl | rfl | rfl | rfl | rfl | rfl | rfl | rfl | rfl | rfl
    · obtain rfl := Option.some.inj hi
      clear hi hlt
      intro a w1 hL hS hD
      have e0 : a.tmps.getD 0 undef = .pointer (some ⟨r, 0, none⟩) := (hS.slot 0 (by kernel_rfl)).trans s0
      refine step_yes rfl ?_
      exact ok_value Lat.refl (.pointer (some ⟨r, 0, none⟩)) (by simp [execOp, Act.eval, e0, go_sem]) (TV.mk rfl)
    · obtain rfl := Option.some.inj hi
      clear hi hlt
      intro a w1 hL hS hD
      have d0 : a.tmps.getD 10 undef = .pointer (some ⟨r, 0, none⟩) := hD ⟨0, .data⟩ (by simp) rfl _ rfl _ rfl
      refine step_yes rfl ?_
      exact ok_value Lat.refl (.pointer (some ⟨r, 0, none⟩)) (by simp [execOp, Act.eval, d0, go_sem]) (TV.mk rfl)
    · obtain rfl := Option.some.inj hi
      clear hi hlt
      intro a w1 hL hS hD
      have d1 : a.tmps.getD 11 undef = .pointer (some ⟨r, 0, none⟩) := hD ⟨1, .data⟩ (by simp) rfl _ rfl _ rfl
      refine step_yes rfl ?_
      exact ok_value Lat.refl (.pointer (some ⟨r, 0, none⟩)) (by simp [execOp, Act.eval, d1, go_sem]) (TV.mk rfl)
    · obtain rfl := Option.some.inj hi
      clear hi hlt
      intro a w1 hL hS hD
      have d2 : a.tmps.getD 12 undef = .pointer (some ⟨r, 0, none⟩) := hD ⟨2, .data⟩ (by simp) rfl _ rfl _ rfl
      refine step_yes rfl ?_
      exact ok_value Lat.refl (.string s) (by simp [execOp, Act.eval, d2, c0 w1 hL, go_sem]) (TV.mk rfl)
    · obtain rfl := Option.some.inj hi
      clear hi hlt
      intro a w1 hL hS hD
      have e0 : a.tmps.getD 0 undef = .pointer (some ⟨r, 0, none⟩) := (hS.slot 0 (by kernel_rfl)).trans s0
      refine step_yes rfl ?_
      exact ok_value Lat.refl (.pointer (some ⟨r, 0, none⟩)) (by simp [execOp, Act.eval, e0, go_sem]) (TV.mk rfl)
    · obtain rfl := Option.some.inj hi
      clear hi hlt
      intro a w1 hL hS hD
      have d4 : a.tmps.getD 14 undef = .pointer (some ⟨r, 0, none⟩) := hD ⟨4, .data⟩ (by simp) rfl _ rfl _ rfl
      refine step_yes rfl ?_
      exact ok_value Lat.refl (.pointer (some ⟨r, 0, none⟩)) (by simp [execOp, Act.eval, d4, go_sem]) (TV.mk rfl)
    · obtain rfl := Option.some.inj hi
      clear hi hlt
      intro a w1 hL hS hD
      have d5 : a.tmps.getD 15 undef = .pointer (some ⟨r, 0, none⟩) := hD ⟨5, .data⟩ (by simp) rfl _ rfl _ rfl
      refine step_yes rfl ?_
      exact ok_value Lat.refl (.pointer (some ⟨r, 1, none⟩)) (by simp [execOp, Act.eval, d5, go_sem]) (TV.mk rfl)
    · obtain rfl := Option.some.inj hi
      clear hi hlt
      intro a w1 hL hS hD
      have d6 : a.tmps.getD 16 undef = .pointer (some ⟨r, 1, none⟩) := hD ⟨6, .data⟩ (by simp) rfl _ rfl _ rfl
      refine step_yes rfl ?_
      exact ok_value Lat.refl (.int .i64 (a9 : Int)) (by simp [execOp, Act.eval, d6, c1 w1 hL, go_sem]) (TV.mk rfl)
    · obtain rfl := Option.some.inj hi
      clear hi hlt
      intro a w1 hL hS hD
      have d3 : a.tmps.getD 13 undef = .string s := hD ⟨3, .data⟩ (by simp) rfl _ rfl _ rfl
      have d7 : a.tmps.getD 17 undef = .int .i64 (a9 : Int) := hD ⟨7, .data⟩ (by simp) rfl _ rfl _ rfl
      refine step_yes rfl ?_
      exact ok_value Lat.refl (.string (s.extract a9 s.size)) (by simp [execOp, Act.eval, d3, d7, hle, hle2, go_sem]) (TV.mk rfl)
    · obtain rfl := Option.some.inj hi
      clear hi hlt
      intro a w1 hL hS hD
      have d8 : a.tmps.getD 18 undef = .string (s.extract a9 s.size) := hD ⟨8, .data⟩ (by simp) rfl _ rfl _ rfl
      refine step_yes rfl ?_
      refine ok_call (f := 26) (args := #[.string (s.extract a9 s.size)]) (by simp [execOp, resolve, Act.eval, d8, go_sem]) ?_
      refine (hcall w1 hL).mono ?_
      rintro e w' ⟨rfl, hb⟩
      exact ⟨_, rfl, hb, TV.mk rfl⟩
    · obtain rfl := Option.some.inj hi
      clear hi hlt
      intro a w1 hL hS hD
      have d9 : a.tmps.getD 19 undef = .tuple #[.int .i32 (c : Int), .int .i64 (k : Int)] := hD ⟨9, .data⟩ (by simp) rfl _ rfl _ rfl
      refine step_yes rfl ?_
      exact ok_value Lat.refl (.tuple #[.int .i32 (c : Int), .int .i64 (k : Int)]) (by simp [execOp, Act.eval, d9, go_sem]) (TV.mk rfl)
    · obtain rfl := Option.some.inj hi
      clear hi hlt
      intro a w1 hL hS hD
      have d10 : a.tmps.getD 9 undef = .tuple #[.int .i32 (c : Int), .int .i64 (k : Int)] := hD ⟨10, .data⟩ (by simp) rfl _ rfl _ rfl
      refine step_yes rfl ?_
      exact ok_value Lat.refl (.int .i32 (c : Int)) (by simp [execOp, Act.eval, d10, go_sem]) (TV.mk rfl)
    · obtain rfl := Option.some.inj hi
      clear hi hlt
      intro a w1 hL hS hD
      have d10 : a.tmps.getD 9 undef = .tuple #[.int .i32 (c : Int), .int .i64 (k : Int)] := hD ⟨10, .data⟩ (by simp) rfl _ rfl _ rfl
      refine step_yes rfl ?_
      exact ok_value Lat.refl (.int .i64 (k : Int)) (by simp [execOp, Act.eval, d10, go_sem]) (TV.mk rfl)
    · obtain rfl := Option.some.inj hi
      clear hi hlt
      intro a w1 hL hS hD
      have d11 : a.tmps.getD 20 undef = .int .i32 (c : Int) := hD ⟨11, .data⟩ (by simp) rfl _ rfl _ rfl
      refine step_yes rfl ?_
      exact ok_value Lat.refl (.int .i32 (c : Int)) (by simp [execOp, Act.eval, d11, go_sem]) (TV.mk rfl)
    · obtain rfl := Option.some.inj hi
      clear hi hlt
      intro a w1 hL hS hD
      have d12 : a.tmps.getD 21 undef = .int .i64 (k : Int) := hD ⟨12, .data⟩ (by simp) rfl _ rfl _ rfl
      refine step_yes rfl ?_
      exact ok_value Lat.refl (.int .i64 (k : Int)) (by simp [execOp, Act.eval, d12, go_sem]) (TV.mk rfl)

end Go.Proofs.Ytndegcgcbhcokaa
