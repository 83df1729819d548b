import Derived.Test.YtpdffdoogobhfaaDoorLwG
import Derived.Test.YtpdffdoogobhfaaDoorLwA
import Derived.Test.YtpdffdoogobhfaaDoorAnyW
/-
  still: its region that draws its order, where a mark is made.
-/
namespace Go.Proofs.YtpdffdoogobhfaaDoor
open Go Go.RowKit
set_option linter.unusedVariables false
set_option linter.unusedSimpArgs false

set_option maxRecDepth 100000 in
set_option maxHeartbeats 2000000 in
theorem still_r5 (g k c n d i : Nat) (ad : Option Addr) (x : Lb) (w : World) (a0 : Act) (Q : Exit → Act → World → Prop) (hsz : a0.tmps.size = 47)
    (s1 : a0.tmps.getD 1 undef = .slice ad n d)
    (s5 : a0.tmps.getD 5 undef = .slice (some ⟨g, 0, none⟩) k c)
    (s6 : a0.tmps.getD 6 undef = .int .i64 (i : Int))
    (hin : (i : Int) < (k : Int)) (hinN : i < k) (hge : ¬ (i : Int) < (n : Int)) (hge2 : (n : Int) ≤ (i : Int))
    (c0 : ∀ w1, Lat w w1 → w1.cell? ⟨g, i * 2, none⟩ = some (.string x.n)) (c1 : ∀ w1, Lat w w1 → w1.cell? ⟨g, i * 2 + 1, none⟩ = some (.string x.v))
    (hq : ∀ w, (binOp .neq 35 (.agg #[.string x.n, .string x.v]) (.agg #[.string x.n, .string x.v])).run Tryd.prog w = .ok (.bool false) w)
    (hcall : ∀ w1, Lat w w1 → Calls Tryd.prog 26 #[.int .i64 25] w1 fun e w' => e = .returned (.agg #[.string x.n, .string x.v]) ∧ Below w1.heap.size w1 w')
    (hQ : ∀ (v18 v19 v20 v21 v22 v23 v24 v25 v26 v27 v28 v29 v30 v31 v32 v33 v34 v35 v36 v37 v38 v39 v40 v41 v42 v43 v44 v45 : Value) (w1 : World), Lat w w1 → Q .normal (((((((((((((((((((((((((((((a0.put (some 18) v18).put (some 19) v19).put (some 20) v20).put (some 21) v21).put (some 22) v22).put (some 23) v23).put (some 24) v24).put (some 25) v25).put (some 26) v26).put (some 27) v27).put (some 28) v28).put (some 29) v29).put (some 30) v30).put (some 31) v31).put (some 32) v32).put (some 33) v33).put (some 34) v34).put (some 35) v35).put (some 36) v36).put (some 37) v37).put (some 38) v38).put (some 39) v39).put (some 40) v40).put (some 41) v41).put (some 42) v42).put (some 43) v43).put (some 44) v44).put (some 45) v45).put (some 46) (.bool false)) w1) :
    Code.wp Tryd.prog ((Tryd.f10.body.bind (findRegion 5)).getD .skip) Q a0 w := by
  conv => arg 2; whnf
  refine wp_region_inv Lat (TV [.int .i64 (i : Int), .slice ad n d, .int .i64 (n : Int), .bool false, .bool false, undef, undef, undef, undef, undef, undef, undef, undef, undef, .bool false, .bool false, .int .i64 (i : Int), .slice ad n d, .int .i64 (n : Int), .bool true, .bool true, .slice (some ⟨g, 0, none⟩) k c, .int .i64 (i : Int), .pointer (some ⟨g, i * 2, none⟩), .agg #[.string x.n, .string x.v], .agg #[.string x.n, .string x.v], .bool false, .bool false, .bool false]) (by kernel_rfl) (by kernel_rfl) (by kernel_rfl) (by rw [hsz]; kernel_rfl) (by kernel_rfl) Lat.refl Lat.trans (TV.stable _) (Lat.draw w) ?hop ?hdone
  case hdone =>
    intro a w1 hL hS hT
    have k46 : a.tmps.getD 46 undef = .bool false := hT 28 _ rfl _ rfl
    have he := same_puts hS
    have hQ2 := hQ (a.tmps.getD 18 undef) (a.tmps.getD 19 undef) (a.tmps.getD 20 undef) (a.tmps.getD 21 undef) (a.tmps.getD 22 undef) (a.tmps.getD 23 undef) (a.tmps.getD 24 undef) (a.tmps.getD 25 undef) (a.tmps.getD 26 undef) (a.tmps.getD 27 undef) (a.tmps.getD 28 undef) (a.tmps.getD 29 undef) (a.tmps.getD 30 undef) (a.tmps.getD 31 undef) (a.tmps.getD 32 undef) (a.tmps.getD 33 undef) (a.tmps.getD 34 undef) (a.tmps.getD 35 undef) (a.tmps.getD 36 undef) (a.tmps.getD 37 undef) (a.tmps.getD 38 undef) (a.tmps.getD 39 undef) (a.tmps.getD 40 undef) (a.tmps.getD 41 undef) (a.tmps.getD 42 undef) (a.tmps.getD 43 undef) (a.tmps.getD 44 undef) (a.tmps.getD 45 undef) w1 hL
    rw [← k46] at hQ2
    rw [he]
    exact hQ2
  case hop =>
    intro i o hi
    have hlt : i < 29 := (Array.getElem?_eq_some_iff.1 hi).1
    rcases (show i = 0 ∨ i = 1 ∨ i = 2 ∨ i = 3 ∨ i = 4 ∨ i = 5 ∨ i = 6 ∨ i = 7 ∨ i = 8 ∨ i = 9 ∨ i = 10 ∨ i = 11 ∨ i = 12 ∨ i = 13 ∨ i = 14 ∨ i = 15 ∨ i = 16 ∨ i = 17 ∨ i = 18 ∨ i = 19 ∨ i = 20 ∨ i = 21 ∨ i = 22 ∨ i = 23 ∨ i = 24 ∨ i = 25 ∨ i = 26 ∨ i = 27 ∨ i = 28 by omega) with rfl | rfl | rfl | rfl | rfl | rfl | rfl | rfl | rfl | rfl | rfl | rfl | rfl | rfl | rfl | rfl | rfl | rfl | rfl | rfl | rfl | rfl | rfl | rfl | rfl | rfl | rfl | rfl | rfl
    · obtain rfl := Option.some.inj hi
      clear hi hlt
      intro a w1 hL hS hD
      have e6 : a.tmps.getD 6 undef = .int .i64 (i : Int) := (hS.slot 6 (by kernel_rfl)).trans s6
      refine step_yes rfl ?_
      exact ok_value Lat.refl (.int .i64 (i : Int)) (by simp [execOp, Act.eval, e6, go_sem]) (TV.mk rfl)
    · obtain rfl := Option.some.inj hi
      clear hi hlt
      intro a w1 hL hS hD
      have e1 : a.tmps.getD 1 undef = .slice ad n d := (hS.slot 1 (by kernel_rfl)).trans s1
      refine step_yes rfl ?_
      exact ok_value Lat.refl (.slice ad n d) (by simp [execOp, Act.eval, e1, go_sem]) (TV.mk rfl)
    · obtain rfl := Option.some.inj hi
      clear hi hlt
      intro a w1 hL hS hD
      have d1 : a.tmps.getD 19 undef = .slice ad n d := hD ⟨1, .data⟩ (by simp) rfl _ rfl _ rfl
      refine step_yes rfl ?_
      exact ok_value Lat.refl (.int .i64 (n : Int)) (by simp [execOp, Act.eval, d1, go_sem]) (TV.mk rfl)
    · obtain rfl := Option.some.inj hi
      clear hi hlt
      intro a w1 hL hS hD
      have d0 : a.tmps.getD 18 undef = .int .i64 (i : Int) := hD ⟨0, .data⟩ (by simp) rfl _ rfl _ rfl
      have d2 : a.tmps.getD 20 undef = .int .i64 (n : Int) := hD ⟨2, .data⟩ (by simp) rfl _ rfl _ rfl
      refine step_yes rfl ?_
      exact ok_value Lat.refl (.bool false) (by simp [execOp, Act.eval, d0, d2, hge, go_sem]) (TV.mk rfl)
    · obtain rfl := Option.some.inj hi
      clear hi hlt
      intro a w1 hL hS hD
      have d3 : a.tmps.getD 21 undef = .bool false := hD ⟨3, .data⟩ (by simp) rfl _ rfl _ rfl
      refine step_yes rfl ?_
      exact ok_value Lat.refl (.bool false) (by simp [execOp, Act.eval, d3, go_sem]) (TV.mk rfl)
    · obtain rfl := Option.some.inj hi
      clear hi hlt
      intro a w1 hL hS hD
      have d4 : a.tmps.getD 22 undef = .bool false := hD ⟨4, .guard⟩ (by simp) rfl _ rfl _ rfl
      exact step_no (wanted_no rfl rfl rfl d4 rfl) (TV.mk rfl)
    · obtain rfl := Option.some.inj hi
      clear hi hlt
      intro a w1 hL hS hD
      have d4 : a.tmps.getD 22 undef = .bool false := hD ⟨4, .guard⟩ (by simp) rfl _ rfl _ rfl
      exact step_no (wanted_no rfl rfl rfl d4 rfl) (TV.mk rfl)
    · obtain rfl := Option.some.inj hi
      clear hi hlt
      intro a w1 hL hS hD
      have d4 : a.tmps.getD 22 undef = .bool false := hD ⟨4, .guard⟩ (by simp) rfl _ rfl _ rfl
      exact step_no (wanted_no rfl rfl rfl d4 rfl) (TV.mk rfl)
    · obtain rfl := Option.some.inj hi
      clear hi hlt
      intro a w1 hL hS hD
      have d4 : a.tmps.getD 22 undef = .bool false := hD ⟨4, .guard⟩ (by simp) rfl _ rfl _ rfl
      exact step_no (wanted_no rfl rfl rfl d4 rfl) (TV.mk rfl)
    · obtain rfl := Option.some.inj hi
      clear hi hlt
      intro a w1 hL hS hD
      have d4 : a.tmps.getD 22 undef = .bool false := hD ⟨4, .guard⟩ (by simp) rfl _ rfl _ rfl
      exact step_no (wanted_no rfl rfl rfl d4 rfl) (TV.mk rfl)
    · obtain rfl := Option.some.inj hi
      clear hi hlt
      intro a w1 hL hS hD
      have d4 : a.tmps.getD 22 undef = .bool false := hD ⟨4, .guard⟩ (by simp) rfl _ rfl _ rfl
      exact step_no (wanted_no rfl rfl rfl d4 rfl) (TV.mk rfl)
    · obtain rfl := Option.some.inj hi
      clear hi hlt
      intro a w1 hL hS hD
      have d4 : a.tmps.getD 22 undef = .bool false := hD ⟨4, .guard⟩ (by simp) rfl _ rfl _ rfl
      exact step_no (wanted_no rfl rfl rfl d4 rfl) (TV.mk rfl)
    · obtain rfl := Option.some.inj hi
      clear hi hlt
      intro a w1 hL hS hD
      have d4 : a.tmps.getD 22 undef = .bool false := hD ⟨4, .guard⟩ (by simp) rfl _ rfl _ rfl
      exact step_no (wanted_no rfl rfl rfl d4 rfl) (TV.mk rfl)
    · obtain rfl := Option.some.inj hi
      clear hi hlt
      intro a w1 hL hS hD
      have d4 : a.tmps.getD 22 undef = .bool false := hD ⟨4, .guard⟩ (by simp) rfl _ rfl _ rfl
      exact step_no (wanted_no rfl rfl rfl d4 rfl) (TV.mk rfl)
    · obtain rfl := Option.some.inj hi
      clear hi hlt
      intro a w1 hL hS hD
      have d4 : a.tmps.getD 22 undef = .bool false := hD ⟨4, .data⟩ (by simp) rfl _ rfl _ rfl
      have d13 : a.tmps.getD 31 undef = undef := hD ⟨13, .data⟩ (by simp) rfl _ rfl _ rfl
      refine step_yes rfl ?_
      exact ok_value Lat.refl (.bool false) (by simp [execOp, Act.eval, d4, d13, go_sem]) (TV.mk rfl)
    · obtain rfl := Option.some.inj hi
      clear hi hlt
      intro a w1 hL hS hD
      have d14 : a.tmps.getD 32 undef = .bool false := hD ⟨14, .data⟩ (by simp) rfl _ rfl _ rfl
      refine step_yes rfl ?_
      exact ok_value Lat.refl (.bool false) (by simp [execOp, Act.eval, d14, go_sem]) (TV.mk rfl)
    · obtain rfl := Option.some.inj hi
      clear hi hlt
      intro a w1 hL hS hD
      have d15 : a.tmps.getD 33 undef = .bool false := hD ⟨15, .guard⟩ (by simp) rfl _ rfl _ rfl
      have e6 : a.tmps.getD 6 undef = .int .i64 (i : Int) := (hS.slot 6 (by kernel_rfl)).trans s6
      refine step_yes (wanted_yes rfl rfl rfl d15) ?_
      exact ok_value Lat.refl (.int .i64 (i : Int)) (by simp [execOp, Act.eval, e6, go_sem]) (TV.mk rfl)
    · obtain rfl := Option.some.inj hi
      clear hi hlt
      intro a w1 hL hS hD
      have d15 : a.tmps.getD 33 undef = .bool false := hD ⟨15, .guard⟩ (by simp) rfl _ rfl _ rfl
      have e1 : a.tmps.getD 1 undef = .slice ad n d := (hS.slot 1 (by kernel_rfl)).trans s1
      refine step_yes (wanted_yes rfl rfl rfl d15) ?_
      exact ok_value Lat.refl (.slice ad n d) (by simp [execOp, Act.eval, e1, go_sem]) (TV.mk rfl)
    · obtain rfl := Option.some.inj hi
      clear hi hlt
      intro a w1 hL hS hD
      have d15 : a.tmps.getD 33 undef = .bool false := hD ⟨15, .guard⟩ (by simp) rfl _ rfl _ rfl
      have d17 : a.tmps.getD 35 undef = .slice ad n d := hD ⟨17, .data⟩ (by simp) rfl _ rfl _ rfl
      refine step_yes (wanted_yes rfl rfl rfl d15) ?_
      exact ok_value Lat.refl (.int .i64 (n : Int)) (by simp [execOp, Act.eval, d17, go_sem]) (TV.mk rfl)
    · obtain rfl := Option.some.inj hi
      clear hi hlt
      intro a w1 hL hS hD
      have d15 : a.tmps.getD 33 undef = .bool false := hD ⟨15, .guard⟩ (by simp) rfl _ rfl _ rfl
      have d16 : a.tmps.getD 34 undef = .int .i64 (i : Int) := hD ⟨16, .data⟩ (by simp) rfl _ rfl _ rfl
      have d18 : a.tmps.getD 36 undef = .int .i64 (n : Int) := hD ⟨18, .data⟩ (by simp) rfl _ rfl _ rfl
      refine step_yes (wanted_yes rfl rfl rfl d15) ?_
      exact ok_value Lat.refl (.bool true) (by simp [execOp, Act.eval, d16, d18, hge2, go_sem]) (TV.mk rfl)
    · obtain rfl := Option.some.inj hi
      clear hi hlt
      intro a w1 hL hS hD
      have d15 : a.tmps.getD 33 undef = .bool false := hD ⟨15, .guard⟩ (by simp) rfl _ rfl _ rfl
      have d19 : a.tmps.getD 37 undef = .bool true := hD ⟨19, .data⟩ (by simp) rfl _ rfl _ rfl
      refine step_yes (wanted_yes rfl rfl rfl d15) ?_
      exact ok_value Lat.refl (.bool true) (by simp [execOp, Act.eval, d19, go_sem]) (TV.mk rfl)
    · obtain rfl := Option.some.inj hi
      clear hi hlt
      intro a w1 hL hS hD
      have d20 : a.tmps.getD 38 undef = .bool true := hD ⟨20, .guard⟩ (by simp) rfl _ rfl _ rfl
      have e5 : a.tmps.getD 5 undef = .slice (some ⟨g, 0, none⟩) k c := (hS.slot 5 (by kernel_rfl)).trans s5
      refine step_yes (wanted_yes rfl rfl rfl d20) ?_
      exact ok_value Lat.refl (.slice (some ⟨g, 0, none⟩) k c) (by simp [execOp, Act.eval, e5, go_sem]) (TV.mk rfl)
    · obtain rfl := Option.some.inj hi
      clear hi hlt
      intro a w1 hL hS hD
      have d20 : a.tmps.getD 38 undef = .bool true := hD ⟨20, .guard⟩ (by simp) rfl _ rfl _ rfl
      have e6 : a.tmps.getD 6 undef = .int .i64 (i : Int) := (hS.slot 6 (by kernel_rfl)).trans s6
      refine step_yes (wanted_yes rfl rfl rfl d20) ?_
      exact ok_value Lat.refl (.int .i64 (i : Int)) (by simp [execOp, Act.eval, e6, go_sem]) (TV.mk rfl)
    · obtain rfl := Option.some.inj hi
      clear hi hlt
      intro a w1 hL hS hD
      have d20 : a.tmps.getD 38 undef = .bool true := hD ⟨20, .guard⟩ (by simp) rfl _ rfl _ rfl
      have d21 : a.tmps.getD 39 undef = .slice (some ⟨g, 0, none⟩) k c := hD ⟨21, .data⟩ (by simp) rfl _ rfl _ rfl
      have d22 : a.tmps.getD 40 undef = .int .i64 (i : Int) := hD ⟨22, .data⟩ (by simp) rfl _ rfl _ rfl
      refine step_yes (wanted_yes rfl rfl rfl d20) ?_
      exact ok_value Lat.refl (.pointer (some ⟨g, i * 2, none⟩)) (by simp [execOp, Act.eval, d21, d22, hin, hinN, go_sem]) (TV.mk rfl)
    · obtain rfl := Option.some.inj hi
      clear hi hlt
      intro a w1 hL hS hD
      have d20 : a.tmps.getD 38 undef = .bool true := hD ⟨20, .guard⟩ (by simp) rfl _ rfl _ rfl
      have d23 : a.tmps.getD 41 undef = .pointer (some ⟨g, i * 2, none⟩) := hD ⟨23, .data⟩ (by simp) rfl _ rfl _ rfl
      refine step_yes (wanted_yes rfl rfl rfl d20) ?_
      exact ok_value Lat.refl (.agg #[.string x.n, .string x.v]) (by simp [execOp, Act.eval, d23, c0 w1 hL, c1 w1 hL, go_sem]) (TV.mk rfl)
    · obtain rfl := Option.some.inj hi
      clear hi hlt
      intro a w1 hL hS hD
      have d20 : a.tmps.getD 38 undef = .bool true := hD ⟨20, .guard⟩ (by simp) rfl _ rfl _ rfl
      refine step_yes (wanted_yes rfl rfl rfl d20) ?_
      refine ok_call (f := 26) (args := #[.int .i64 25]) (by simp [execOp, resolve, Act.eval, go_sem]) ?_
      refine (hcall w1 hL).mono ?_
      rintro e w' ⟨rfl, hb⟩
      exact ⟨_, rfl, hb, TV.mk rfl⟩
    · obtain rfl := Option.some.inj hi
      clear hi hlt
      intro a w1 hL hS hD
      have d20 : a.tmps.getD 38 undef = .bool true := hD ⟨20, .guard⟩ (by simp) rfl _ rfl _ rfl
      have d24 : a.tmps.getD 42 undef = .agg #[.string x.n, .string x.v] := hD ⟨24, .data⟩ (by simp) rfl _ rfl _ rfl
      have d25 : a.tmps.getD 43 undef = .agg #[.string x.n, .string x.v] := hD ⟨25, .data⟩ (by simp) rfl _ rfl _ rfl
      refine step_yes (wanted_yes rfl rfl rfl d20) ?_
      exact ok_value Lat.refl (.bool false) (by simp [execOp, Act.eval, d24, d25, hq w1, go_sem]) (TV.mk rfl)
    · obtain rfl := Option.some.inj hi
      clear hi hlt
      intro a w1 hL hS hD
      have d15 : a.tmps.getD 33 undef = .bool false := hD ⟨15, .guard⟩ (by simp) rfl _ rfl _ rfl
      have d20 : a.tmps.getD 38 undef = .bool true := hD ⟨20, .data⟩ (by simp) rfl _ rfl _ rfl
      have d26 : a.tmps.getD 44 undef = .bool false := hD ⟨26, .data⟩ (by simp) rfl _ rfl _ rfl
      refine step_yes (wanted_yes rfl rfl rfl d15) ?_
      exact ok_value Lat.refl (.bool false) (by simp [execOp, Act.eval, d20, d26, go_sem]) (TV.mk rfl)
    · obtain rfl := Option.some.inj hi
      clear hi hlt
      intro a w1 hL hS hD
      have d15 : a.tmps.getD 33 undef = .bool false := hD ⟨15, .data⟩ (by simp) rfl _ rfl _ rfl
      have d27 : a.tmps.getD 45 undef = .bool false := hD ⟨27, .data⟩ (by simp) rfl _ rfl _ rfl
      refine step_yes rfl ?_
      exact ok_value Lat.refl (.bool false) (by simp [execOp, Act.eval, d15, d27, go_sem]) (TV.mk rfl)

end Go.Proofs.YtpdffdoogobhfaaDoor

/-
  still.
-/
namespace Go.Proofs.YtpdffdoogobhfaaDoor
open Go.RowKit
set_option linter.unusedVariables false
set_option linter.unusedSimpArgs false

def mk3 : List Lb := [mkL 25, mkL 25, mkL 25]
theorem mk3_get (l : List Lb) {i : Nat} (h1 : l.length ≤ i) (h2 : i < l.length + 3) : (l ++ mk3)[i]? = some (mkL 25) := by
  rw [List.getElem?_append_right h1]
  rcases (show i - l.length = 0 ∨ i - l.length = 1 ∨ i - l.length = 2 by omega) with e | e | e <;> rw [e] <;> rfl

set_option maxRecDepth 100000 in
set_option maxHeartbeats 4000000 in
theorem stillP (g c d : Nat) (ad : Option Addr) (l : List Lb) (w : World) (hL : Ls w ad l) (hM : Ls w (some ⟨g, 0, none⟩) (l ++ mk3)) (hlen : l.length ≤ 4611686018427387904) (hc : l.length + 3 ≤ c) :
    Calls Tryd.prog 10 #[.slice (some ⟨g, 0, none⟩) l.length c, .slice ad l.length d] w fun e w' => e = .returned (.bool true) ∧ Below w.heap.size w w' := by
  obtain ⟨n, hn⟩ : ∃ n, l.length = n := ⟨_, rfl⟩
  rw [hn] at hlen hc ⊢
  have HL := hidden hL
  have HM := hidden hM
  have HN := hidden hn
  have hcz : (n : Int) + 3 ≤ (c : Int) := by omega
  clear hL hM hn
  go_enter Tryd.func10, Tryd.ntmps10
  go_wp2
  go_loopw [6] (fun s0 wx => ∃ i : Nat, s0 = .int .i64 (i : Int) ∧ i ≤ n + 3 ∧ Hid (Below w.heap.size w wx)) (fun s0 _ => n + 3 - (intOf s0).toNat)
  case atStart => exact ⟨0, rfl, by omega, hidden (Below.refl _ _)⟩
  case round =>
    rename World => wr
    obtain ⟨i, rfl, hi, hbel⟩ := hrel
    by_cases hlt : i < n + 3
    · have hltz : (i : Int) < (n : Int) + 3 := by omega
      by_cases hin : i < n
      · have hinz : (i : Int) < (n : Int) := by omega
        have hgz : ¬ (n : Int) ≤ (i : Int) := by omega
        have hgz' : decide ((n : Int) ≤ (i : Int)) = false := decide_eq_false hgz
        have hgn : decide (n ≤ i) = false := decide_eq_false (by omega)
        obtain ⟨b, off, x, rfl, hb, hx, hx', c0, c1, z0, z1⟩ := (HL.out.later hbel.out).get (i := i) (by rw [HN.out]; exact hin)
        obtain ⟨g', off', y, e2, hb', hy, hy', d0, d1, y0, y1⟩ := (HM.out.later hbel.out).get (i := i) (by rw [List.length_append, HN.out]; omega)
        injection e2 with e2
        injection e2 with e3 e4
        subst e3 e4
        obtain rfl : x = y := by
          rw [List.getElem?_append_left (by rw [HN.out]; exact hin), hx] at hy
          exact Option.some.inj hy
        rw [Nat.zero_add] at d0 d1
        have hq := fun w => neq35 x x w
        rw [decide_eq_true rfl] at hq
        clear hx hx' hy hy' z0 z1 y0 y1
        go_wp2
        go_quiet (fail)
        go_wp2
        refine ⟨⟨i + 1, by first | rfl | simp, by omega, hidden (below_drewN hbel.out _)⟩, ?_⟩
        simp [intOf]
        omega
      · have hinz : ¬ (i : Int) < (n : Int) := by omega
        have hgz : (n : Int) ≤ (i : Int) := by omega
        obtain ⟨g', off', y, e2, hb', hy, hy', d0, d1, y0, y1⟩ := (HM.out.later hbel.out).get (i := i) (by rw [List.length_append, HN.out]; show i < n + 3; exact hlt)
        injection e2 with e2
        injection e2 with e3 e4
        subst e3 e4
        obtain rfl : mkL 25 = y := by
          rw [mk3_get l (by rw [HN.out]; omega) (by rw [HN.out]; exact hlt)] at hy
          exact Option.some.inj hy
        rw [Nat.zero_add] at d0 d1
        have kM : ∀ w1, Calls Tryd.prog 26 #[.int .i64 25] w1 fun e w' => e = .returned (.agg #[.string (mkL 25).n, .string (mkL 25).v]) ∧ Below w1.heap.size w1 w' := fun w1 => markP 25 (by omega) w1
        have hq := fun w => neq35 (mkL 25) (mkL 25) w
        rw [decide_eq_true rfl] at hq
        clear hy hy' y0 y1
        go_upto_region 5 with fail
        refine still_r5 g (n + 3) c n d i ad (mkL 25) wr _ _ (by rfl) (by rfl) (by rfl) (by rfl) (by simpa using hltz) hlt hinz hgz (fun w1 hl => (hl.cell (p := ⟨g, i * 2, none⟩) hb').trans d0) (fun w1 hl => (hl.cell (p := ⟨g, i * 2 + 1, none⟩) hb').trans d1) hq (fun w1 _ => kM w1) ?_
        intros
        rename_i w7 hl7
        simp only [Act.put, List.setIfInBounds_toArray, List.set_cons_succ, List.set_cons_zero]
        have B7 := hidden (hbel.out.trans (hl7.mono hbel.out.size))
        clear hl7 kM hq
        go_wp2
        refine ⟨⟨i + 1, by first | rfl | simp, by omega, B7⟩, ?_⟩
        simp [intOf]
        omega
    · have hltz : ¬ (i : Int) < (n : Int) + 3 := by omega
      go_wp2
      go_ret
      exact ⟨rfl, hbel.out⟩

end Go.Proofs.YtpdffdoogobhfaaDoor
