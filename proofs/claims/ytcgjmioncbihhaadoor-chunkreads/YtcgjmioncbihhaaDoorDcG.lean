/-
  The statements' own tells: a region that draws its order.
-/
import Derived.Test.YtcgjmioncbihhaaDoorDcE
import Derived.Test.YtcgjmioncbihhaaDoorAnyB
import Derived.Test.YtcgjmioncbihhaaDoorAnyM
namespace Go.Proofs.YtcgjmioncbihhaaDoor
open Go.RowKit
set_option linter.unusedVariables false
set_option linter.unusedSimpArgs false

set_option maxRecDepth 100000 in
set_option maxHeartbeats 2000000 in
theorem tells_r4 (bx c x n c1 c2 m : Nat) (ad1 ad2 : Option Addr) (S : ByteArray) (w : World) (a0 : Act) (Q : Exit → Act → World → Prop) (hsz : a0.tmps.size = 124)
    (s3 : a0.tmps.getD 3 undef = .slice ad1 n c1)
    (s4 : a0.tmps.getD 4 undef = .slice ad2 n c2)
    (s5 : a0.tmps.getD 5 undef = .string S)
    (s1 : a0.tmps.getD 1 undef = .pointer (some ⟨bx, 0, none⟩))
    (hs1 : ∀ w1, Lat w w1 → (convert 38 9 (.slice ad1 n c1)).run Tryd.prog w1 = .ok (.string S) w1)
    (hs2 : ∀ w1, Lat w w1 → (convert 38 9 (.slice ad2 n c2)).run Tryd.prog w1 = .ok (.string S) w1)
    (hc0 : ∀ w1, Lat w w1 → w1.cell? ⟨bx, 0, none⟩ = some (.pointer (some ⟨c, 0, none⟩)))
    (hc1 : ∀ w1, Lat w w1 → w1.cell? ⟨bx, 1, none⟩ = some (.pointer (some ⟨x, 0, none⟩)))
    (hle : ∀ wx, Lat w wx → Calls Tryd.prog 10 #[.pointer (some ⟨c, 0, none⟩)] wx fun e w' => e = .returned (.int .i64 (m : Int)) ∧ Lat wx w')
    (hlx : ∀ wx, Lat w wx → Calls Tryd.prog 11 #[.pointer (some ⟨x, 0, none⟩)] wx fun e w' => e = .returned (.int .i64 (m : Int)) ∧ Lat wx w')
    (hQ : ∀ (v23 v24 v25 v26 v27 v28 v29 v30 v31 v32 v33 v34 v35 v36 v37 v38 v39 v40 v41 : Value) (w1 : World), Lat w w1 → v41 = .bool false → Q .normal (((((((((((((((((((a0.put (some 23) v23).put (some 24) v24).put (some 25) v25).put (some 26) v26).put (some 27) v27).put (some 28) v28).put (some 29) v29).put (some 30) v30).put (some 31) v31).put (some 32) v32).put (some 33) v33).put (some 34) v34).put (some 35) v35).put (some 36) v36).put (some 37) v37).put (some 38) v38).put (some 39) v39).put (some 40) v40).put (some 41) v41) w1) :
    Code.wp Tryd.prog ((Tryd.f12.body.bind (findRegion 4)).getD .skip) Q a0 w := by
  conv => arg 2; whnf
  refine wp_region_inv Lat (TE [Ent.val (.slice ad1 n c1), Ent.val (.string S), Ent.val (.string S), Ent.val (.bool false), Ent.val (.bool false), Ent.val (.slice ad2 n c2), Ent.val (.string S), Ent.val (.string S), Ent.val (.bool false), Ent.val (.bool false), Ent.val (.bool false), Ent.val (.pointer (some ⟨bx, 0, none⟩)), Ent.val (.pointer (some ⟨c, 0, none⟩)), Ent.val (.int .i64 (m : Int)), Ent.val (.pointer (some ⟨bx, 1, none⟩)), Ent.val (.pointer (some ⟨x, 0, none⟩)), Ent.val (.int .i64 (m : Int)), Ent.val (.bool false), Ent.val (.bool false)]) (by kernel_rfl) (by kernel_rfl) (by kernel_rfl) (by rw [hsz]; kernel_rfl) (by kernel_rfl) Lat.refl Lat.trans (TE_stable _) (Lat.draw w) ?hop ?hdone
  case hdone =>
    intro a w1 hL hS hT
    have he := same_puts hS
    rw [he]
    exact hQ (a.tmps.getD 23 undef) (a.tmps.getD 24 undef) (a.tmps.getD 25 undef) (a.tmps.getD 26 undef) (a.tmps.getD 27 undef) (a.tmps.getD 28 undef) (a.tmps.getD 29 undef) (a.tmps.getD 30 undef) (a.tmps.getD 31 undef) (a.tmps.getD 32 undef) (a.tmps.getD 33 undef) (a.tmps.getD 34 undef) (a.tmps.getD 35 undef) (a.tmps.getD 36 undef) (a.tmps.getD 37 undef) (a.tmps.getD 38 undef) (a.tmps.getD 39 undef) (a.tmps.getD 40 undef) (a.tmps.getD 41 undef) w1 hL (hT 18 _ rfl)
  case hop =>
    intro i o hi
    have hlt : i < 19 := (Array.getElem?_eq_some_iff.1 hi).1
    rcases (show i = 0 ∨ i = 1 ∨ i = 2 ∨ i = 3 ∨ i = 4 ∨ i = 5 ∨ i = 6 ∨ i = 7 ∨ i = 8 ∨ i = 9 ∨ i = 10 ∨ i = 11 ∨ i = 12 ∨ i = 13 ∨ i = 14 ∨ i = 15 ∨ i = 16 ∨ i = 17 ∨ i = 18 by omega) with rfl | rfl | rfl | rfl | rfl | rfl | rfl | rfl | rfl | rfl | rfl | rfl | rfl | rfl | rfl | rfl | rfl | rfl | rfl
    · obtain rfl := Option.some.inj hi
      clear hi hlt
      intro a w1 hL hS hD
      have e3 : a.tmps.getD 3 undef = .slice ad1 n c1 := (hS.slot 3 (by kernel_rfl)).trans s3
      refine step_yes rfl ?_
      exact ok_value Lat.refl (.slice ad1 n c1) (by simp [execOp, Act.eval, e3, go_sem]) rfl
    · obtain rfl := Option.some.inj hi
      clear hi hlt
      intro a w1 hL hS hD
      have d0 : a.tmps.getD 23 undef = .slice ad1 n c1 := hD ⟨0, .data⟩ (by simp) rfl _ rfl
      refine step_yes rfl ?_
      exact ok_value Lat.refl (.string S) (by simp [execOp, Act.eval, d0, hs1 w1 hL, go_sem]) rfl
    · obtain rfl := Option.some.inj hi
      clear hi hlt
      intro a w1 hL hS hD
      have e5 : a.tmps.getD 5 undef = .string S := (hS.slot 5 (by kernel_rfl)).trans s5
      refine step_yes rfl ?_
      exact ok_value Lat.refl (.string S) (by simp [execOp, Act.eval, e5, go_sem]) rfl
    · obtain rfl := Option.some.inj hi
      clear hi hlt
      intro a w1 hL hS hD
      have d1 : a.tmps.getD 24 undef = .string S := hD ⟨1, .data⟩ (by simp) rfl _ rfl
      have d2 : a.tmps.getD 25 undef = .string S := hD ⟨2, .data⟩ (by simp) rfl _ rfl
      refine step_yes rfl ?_
      exact ok_value Lat.refl (.bool false) (by simp [execOp, Act.eval, d1, d2, go_sem]) rfl
    · obtain rfl := Option.some.inj hi
      clear hi hlt
      intro a w1 hL hS hD
      have d3 : a.tmps.getD 26 undef = .bool false := hD ⟨3, .data⟩ (by simp) rfl _ rfl
      refine step_yes rfl ?_
      exact ok_value Lat.refl (.bool false) (by simp [execOp, Act.eval, d3, go_sem]) rfl
    · obtain rfl := Option.some.inj hi
      clear hi hlt
      intro a w1 hL hS hD
      have e4 : a.tmps.getD 4 undef = .slice ad2 n c2 := (hS.slot 4 (by kernel_rfl)).trans s4
      have d4 : a.tmps.getD 27 undef = .bool false := hD ⟨4, .guard⟩ (by simp) rfl _ rfl
      refine step_yes (wanted_yes rfl rfl rfl d4) ?_
      exact ok_value Lat.refl (.slice ad2 n c2) (by simp [execOp, Act.eval, e4, go_sem]) rfl
    · obtain rfl := Option.some.inj hi
      clear hi hlt
      intro a w1 hL hS hD
      have d4 : a.tmps.getD 27 undef = .bool false := hD ⟨4, .guard⟩ (by simp) rfl _ rfl
      have d5 : a.tmps.getD 28 undef = .slice ad2 n c2 := hD ⟨5, .data⟩ (by simp) rfl _ rfl
      refine step_yes (wanted_yes rfl rfl rfl d4) ?_
      exact ok_value Lat.refl (.string S) (by simp [execOp, Act.eval, d5, hs2 w1 hL, go_sem]) rfl
    · obtain rfl := Option.some.inj hi
      clear hi hlt
      intro a w1 hL hS hD
      have e5 : a.tmps.getD 5 undef = .string S := (hS.slot 5 (by kernel_rfl)).trans s5
      have d4 : a.tmps.getD 27 undef = .bool false := hD ⟨4, .guard⟩ (by simp) rfl _ rfl
      refine step_yes (wanted_yes rfl rfl rfl d4) ?_
      exact ok_value Lat.refl (.string S) (by simp [execOp, Act.eval, e5, go_sem]) rfl
    · obtain rfl := Option.some.inj hi
      clear hi hlt
      intro a w1 hL hS hD
      have d4 : a.tmps.getD 27 undef = .bool false := hD ⟨4, .guard⟩ (by simp) rfl _ rfl
      have d6 : a.tmps.getD 29 undef = .string S := hD ⟨6, .data⟩ (by simp) rfl _ rfl
      have d7 : a.tmps.getD 30 undef = .string S := hD ⟨7, .data⟩ (by simp) rfl _ rfl
      refine step_yes (wanted_yes rfl rfl rfl d4) ?_
      exact ok_value Lat.refl (.bool false) (by simp [execOp, Act.eval, d6, d7, go_sem]) rfl
    · obtain rfl := Option.some.inj hi
      clear hi hlt
      intro a w1 hL hS hD
      have d4 : a.tmps.getD 27 undef = .bool false := hD ⟨4, .data⟩ (by simp) rfl _ rfl
      have d8 : a.tmps.getD 31 undef = .bool false := hD ⟨8, .data⟩ (by simp) rfl _ rfl
      refine step_yes rfl ?_
      exact ok_value Lat.refl (.bool false) (by simp [execOp, Act.eval, d4, d8, go_sem]) rfl
    · obtain rfl := Option.some.inj hi
      clear hi hlt
      intro a w1 hL hS hD
      have d9 : a.tmps.getD 32 undef = .bool false := hD ⟨9, .data⟩ (by simp) rfl _ rfl
      refine step_yes rfl ?_
      exact ok_value Lat.refl (.bool false) (by simp [execOp, Act.eval, d9, go_sem]) rfl
    · obtain rfl := Option.some.inj hi
      clear hi hlt
      intro a w1 hL hS hD
      have e1 : a.tmps.getD 1 undef = .pointer (some ⟨bx, 0, none⟩) := (hS.slot 1 (by kernel_rfl)).trans s1
      have d10 : a.tmps.getD 33 undef = .bool false := hD ⟨10, .guard⟩ (by simp) rfl _ rfl
      refine step_yes (wanted_yes rfl rfl rfl d10) ?_
      exact ok_value Lat.refl (.pointer (some ⟨bx, 0, none⟩)) (by simp [execOp, Act.eval, e1, go_sem]) rfl
    · obtain rfl := Option.some.inj hi
      clear hi hlt
      intro a w1 hL hS hD
      have d10 : a.tmps.getD 33 undef = .bool false := hD ⟨10, .guard⟩ (by simp) rfl _ rfl
      have d11 : a.tmps.getD 34 undef = .pointer (some ⟨bx, 0, none⟩) := hD ⟨11, .data⟩ (by simp) rfl _ rfl
      refine step_yes (wanted_yes rfl rfl rfl d10) ?_
      exact ok_value Lat.refl (.pointer (some ⟨c, 0, none⟩)) (by simp [execOp, Act.eval, d11, hc0 w1 hL, go_sem]) rfl
    · obtain rfl := Option.some.inj hi
      clear hi hlt
      intro a w1 hL hS hD
      have d10 : a.tmps.getD 33 undef = .bool false := hD ⟨10, .guard⟩ (by simp) rfl _ rfl
      have d12 : a.tmps.getD 35 undef = .pointer (some ⟨c, 0, none⟩) := hD ⟨12, .data⟩ (by simp) rfl _ rfl
      refine step_yes (wanted_yes rfl rfl rfl d10) ?_
      refine ok_call (f := 10) (args := #[.pointer (some ⟨c, 0, none⟩)]) (by simp [execOp, resolve, Act.eval, d12, go_sem]) ?_
      refine (hle w1 hL).mono ?_
      rintro e w2 ⟨rfl, b5⟩
      exact ⟨_, rfl, b5, rfl⟩
    · obtain rfl := Option.some.inj hi
      clear hi hlt
      intro a w1 hL hS hD
      have e1 : a.tmps.getD 1 undef = .pointer (some ⟨bx, 0, none⟩) := (hS.slot 1 (by kernel_rfl)).trans s1
      have d10 : a.tmps.getD 33 undef = .bool false := hD ⟨10, .guard⟩ (by simp) rfl _ rfl
      refine step_yes (wanted_yes rfl rfl rfl d10) ?_
      exact ok_value Lat.refl (.pointer (some ⟨bx, 1, none⟩)) (by simp [execOp, Act.eval, e1, go_sem]) rfl
    · obtain rfl := Option.some.inj hi
      clear hi hlt
      intro a w1 hL hS hD
      have d10 : a.tmps.getD 33 undef = .bool false := hD ⟨10, .guard⟩ (by simp) rfl _ rfl
      have d14 : a.tmps.getD 37 undef = .pointer (some ⟨bx, 1, none⟩) := hD ⟨14, .data⟩ (by simp) rfl _ rfl
      refine step_yes (wanted_yes rfl rfl rfl d10) ?_
      exact ok_value Lat.refl (.pointer (some ⟨x, 0, none⟩)) (by simp [execOp, Act.eval, d14, hc1 w1 hL, go_sem]) rfl
    · obtain rfl := Option.some.inj hi
      clear hi hlt
      intro a w1 hL hS hD
      have d10 : a.tmps.getD 33 undef = .bool false := hD ⟨10, .guard⟩ (by simp) rfl _ rfl
      have d15 : a.tmps.getD 38 undef = .pointer (some ⟨x, 0, none⟩) := hD ⟨15, .data⟩ (by simp) rfl _ rfl
      refine step_yes (wanted_yes rfl rfl rfl d10) ?_
      refine ok_call (f := 11) (args := #[.pointer (some ⟨x, 0, none⟩)]) (by simp [execOp, resolve, Act.eval, d15, go_sem]) ?_
      refine (hlx w1 hL).mono ?_
      rintro e w2 ⟨rfl, b5⟩
      exact ⟨_, rfl, b5, rfl⟩
    · obtain rfl := Option.some.inj hi
      clear hi hlt
      intro a w1 hL hS hD
      have d10 : a.tmps.getD 33 undef = .bool false := hD ⟨10, .guard⟩ (by simp) rfl _ rfl
      have d13 : a.tmps.getD 36 undef = .int .i64 (m : Int) := hD ⟨13, .data⟩ (by simp) rfl _ rfl
      have d16 : a.tmps.getD 39 undef = .int .i64 (m : Int) := hD ⟨16, .data⟩ (by simp) rfl _ rfl
      refine step_yes (wanted_yes rfl rfl rfl d10) ?_
      exact ok_value Lat.refl (.bool false) (by simp [execOp, Act.eval, d13, d16, go_sem]) rfl
    · obtain rfl := Option.some.inj hi
      clear hi hlt
      intro a w1 hL hS hD
      have d10 : a.tmps.getD 33 undef = .bool false := hD ⟨10, .data⟩ (by simp) rfl _ rfl
      have d17 : a.tmps.getD 40 undef = .bool false := hD ⟨17, .data⟩ (by simp) rfl _ rfl
      refine step_yes rfl ?_
      exact ok_value Lat.refl (.bool false) (by simp [execOp, Act.eval, d10, d17, go_sem]) rfl

end Go.Proofs.YtcgjmioncbihhaaDoor
