/-
  Package chunk: Append, whether there is room.
-/
import Derived.Test.YtcgjmioncbihhaaDoorChH
import Derived.Test.YtcgjmioncbihhaaDoorAnyB
import Derived.Test.YtcgjmioncbihhaaDoorAnyM
namespace Go.Proofs.YtcgjmioncbihhaaDoor
open Go.RowKit
set_option linter.unusedVariables false
set_option linter.unusedSimpArgs false

/-- A slice of so many elements. -/
def EntS (k : Nat) : Ent Lat := ⟨fun v _ => ∃ ad c', v = .slice ad k c', fun _ _ _ h _ => h⟩

set_option maxRecDepth 100000 in
set_option maxHeartbeats 2000000 in
theorem app_r4 (c p n gk sk : Nat) (most : Int) (w : World) (a0 : Act) (Q : Exit → Act → World → Prop) (hsz : a0.tmps.size = 55)
    (s9 : a0.tmps.getD 9 undef = .int .i64 ((n : Int) + 1))
    (s0 : a0.tmps.getD 0 undef = .pointer (some ⟨c, 0, none⟩))
    (hc0 : ∀ w1, Lat w w1 → w1.cell? ⟨c, 0, none⟩ = some (.int .i64 most))
    (hc5 : ∀ w1, Lat w w1 → w1.cell? ⟨c, 5, none⟩ = some (.pointer (some ⟨p, 0, none⟩)))
    (hadd : IntKind.i64.wrap ((gk : Int) + (sk : Int)) = (gk : Int) + (sk : Int))
    (hco : ∀ wx, Calls Tryd.prog 22 #[.int .i64 ((n : Int) + 1)] wx fun e w' => ∃ ad c', e = .returned (.slice ad gk c') ∧ Lat wx w')
    (hsi : ∀ wx, Lat w wx → Calls Tryd.prog 23 #[.agg #[.pointer (some ⟨p, 0, none⟩)]] wx fun e w' => e = .returned (.int .i64 (sk : Int)) ∧ Lat wx w')
    (hQ : ∀ (v26 v27 v28 v29 v30 v31 v32 v33 v34 v35 v36 v37 v38 v39 : Value) (w1 : World), Lat w w1 → v39 = .bool (decide ((gk : Int) + (sk : Int) > most)) → Q .normal ((((((((((((((a0.put (some 26) v26).put (some 27) v27).put (some 28) v28).put (some 29) v29).put (some 30) v30).put (some 31) v31).put (some 32) v32).put (some 33) v33).put (some 34) v34).put (some 35) v35).put (some 36) v36).put (some 37) v37).put (some 38) v38).put (some 39) v39) w1) :
    Code.wp Tryd.prog ((Tryd.f8.body.bind (findRegion 4)).getD .skip) Q a0 w := by
  conv => arg 2; whnf
  refine wp_region_inv Lat (TE [Ent.val (.int .i64 ((n : Int) + 1)), EntS gk, Ent.val (.int .i64 (gk : Int)), Ent.val (.pointer (some ⟨c, 0, none⟩)), Ent.val (.pointer (some ⟨c, 0, none⟩)), Ent.val (.pointer (some ⟨c, 5, none⟩)), Ent.val (.agg #[.pointer (some ⟨p, 0, none⟩)]), Ent.val (.int .i64 (sk : Int)), Ent.val (.int .i64 ((gk : Int) + (sk : Int))), Ent.val (.pointer (some ⟨c, 0, none⟩)), Ent.val (.pointer (some ⟨c, 0, none⟩)), Ent.val (.pointer (some ⟨c, 0, none⟩)), Ent.val (.int .i64 most), Ent.val (.bool (decide ((gk : Int) + (sk : Int) > most)))]) (by kernel_rfl) (by kernel_rfl) (by kernel_rfl) (by rw [hsz]; kernel_rfl) (by kernel_rfl) Lat.refl Lat.trans (TE_stable _) (Lat.draw w) ?hop ?hdone
  case hdone =>
    intro a w1 hL hS hT
    have he := same_puts hS
    rw [he]
    exact hQ (a.tmps.getD 26 undef) (a.tmps.getD 27 undef) (a.tmps.getD 28 undef) (a.tmps.getD 29 undef) (a.tmps.getD 30 undef) (a.tmps.getD 31 undef) (a.tmps.getD 32 undef) (a.tmps.getD 33 undef) (a.tmps.getD 34 undef) (a.tmps.getD 35 undef) (a.tmps.getD 36 undef) (a.tmps.getD 37 undef) (a.tmps.getD 38 undef) (a.tmps.getD 39 undef) w1 hL (hT 13 _ rfl)
  case hop =>
    intro i o hi
    have hlt : i < 14 := (Array.getElem?_eq_some_iff.1 hi).1
    rcases (show i = 0 ∨ i = 1 ∨ i = 2 ∨ i = 3 ∨ i = 4 ∨ i = 5 ∨ i = 6 ∨ i = 7 ∨ i = 8 ∨ i = 9 ∨ i = 10 ∨ i = 11 ∨ i = 12 ∨ i = 13 by omega) with rfl | rfl | rfl | rfl | rfl | rfl | rfl | rfl | rfl | rfl | rfl | rfl | rfl | rfl
    · obtain rfl := Option.some.inj hi
      clear hi hlt
      intro a w1 hL hS hD
      have e9 : a.tmps.getD 9 undef = .int .i64 ((n : Int) + 1) := (hS.slot 9 (by kernel_rfl)).trans s9
      refine step_yes rfl ?_
      exact ok_value Lat.refl (.int .i64 ((n : Int) + 1)) (by simp [execOp, Act.eval, e9, go_sem]) rfl
    · obtain rfl := Option.some.inj hi
      clear hi hlt
      intro a w1 hL hS hD
      have d0 : a.tmps.getD 26 undef = .int .i64 ((n : Int) + 1) := hD ⟨0, .data⟩ (by simp) rfl _ rfl
      refine step_yes rfl ?_
      refine ok_call (f := 22) (args := #[.int .i64 ((n : Int) + 1)]) (by simp [execOp, resolve, Act.eval, d0, go_sem]) ?_
      refine (hco w1).mono ?_
      rintro e w2 ⟨ad5, c5, rfl, b5⟩
      exact ⟨_, rfl, b5, ad5, c5, rfl⟩
    · obtain rfl := Option.some.inj hi
      clear hi hlt
      intro a w1 hL hS hD
      have d1 := hD ⟨1, .data⟩ (by simp) rfl _ rfl
      refine step_yes rfl ?_
      obtain ⟨ad5, c5, h5⟩ := d1
      have h7 : a.tmps.getD 27 undef = .slice ad5 gk c5 := h5
      have h6 : a.tmps[27]?.getD undef = .slice ad5 gk c5 := by simpa using h7
      exact ok_value Lat.refl (.int .i64 (gk : Int)) (by simp [execOp, resolve, invoke, builtin, Act.eval, h6, go_sem]) rfl
    · obtain rfl := Option.some.inj hi
      clear hi hlt
      intro a w1 hL hS hD
      have e0 : a.tmps.getD 0 undef = .pointer (some ⟨c, 0, none⟩) := (hS.slot 0 (by kernel_rfl)).trans s0
      refine step_yes rfl ?_
      exact ok_value Lat.refl (.pointer (some ⟨c, 0, none⟩)) (by simp [execOp, Act.eval, e0, go_sem]) rfl
    · obtain rfl := Option.some.inj hi
      clear hi hlt
      intro a w1 hL hS hD
      have d3 : a.tmps.getD 29 undef = .pointer (some ⟨c, 0, none⟩) := hD ⟨3, .data⟩ (by simp) rfl _ rfl
      refine step_yes rfl ?_
      exact ok_value Lat.refl (.pointer (some ⟨c, 0, none⟩)) (by simp [execOp, Act.eval, d3, go_sem]) rfl
    · obtain rfl := Option.some.inj hi
      clear hi hlt
      intro a w1 hL hS hD
      have d4 : a.tmps.getD 30 undef = .pointer (some ⟨c, 0, none⟩) := hD ⟨4, .data⟩ (by simp) rfl _ rfl
      refine step_yes rfl ?_
      exact ok_value Lat.refl (.pointer (some ⟨c, 5, none⟩)) (by simp [execOp, Act.eval, d4, go_sem]) rfl
    · obtain rfl := Option.some.inj hi
      clear hi hlt
      intro a w1 hL hS hD
      have d5 : a.tmps.getD 31 undef = .pointer (some ⟨c, 5, none⟩) := hD ⟨5, .data⟩ (by simp) rfl _ rfl
      refine step_yes rfl ?_
      exact ok_value Lat.refl (.agg #[.pointer (some ⟨p, 0, none⟩)]) (by simp [execOp, Act.eval, d5, hc5 w1 hL, go_sem]) rfl
    · obtain rfl := Option.some.inj hi
      clear hi hlt
      intro a w1 hL hS hD
      have d6 : a.tmps.getD 32 undef = .agg #[.pointer (some ⟨p, 0, none⟩)] := hD ⟨6, .data⟩ (by simp) rfl _ rfl
      refine step_yes rfl ?_
      refine ok_call (f := 23) (args := #[.agg #[.pointer (some ⟨p, 0, none⟩)]]) (by simp [execOp, resolve, Act.eval, d6, go_sem]) ?_
      refine (hsi w1 hL).mono ?_
      rintro e w2 ⟨rfl, b6⟩
      exact ⟨_, rfl, b6, rfl⟩
    · obtain rfl := Option.some.inj hi
      clear hi hlt
      intro a w1 hL hS hD
      have d2 : a.tmps.getD 28 undef = .int .i64 (gk : Int) := hD ⟨2, .data⟩ (by simp) rfl _ rfl
      have d7 : a.tmps.getD 33 undef = .int .i64 (sk : Int) := hD ⟨7, .data⟩ (by simp) rfl _ rfl
      refine step_yes rfl ?_
      exact ok_value Lat.refl (.int .i64 ((gk : Int) + (sk : Int))) (by simp [execOp, Act.eval, d2, d7, hadd, go_sem]) rfl
    · obtain rfl := Option.some.inj hi
      clear hi hlt
      intro a w1 hL hS hD
      have e0 : a.tmps.getD 0 undef = .pointer (some ⟨c, 0, none⟩) := (hS.slot 0 (by kernel_rfl)).trans s0
      refine step_yes rfl ?_
      exact ok_value Lat.refl (.pointer (some ⟨c, 0, none⟩)) (by simp [execOp, Act.eval, e0, go_sem]) rfl
    · obtain rfl := Option.some.inj hi
      clear hi hlt
      intro a w1 hL hS hD
      have d9 : a.tmps.getD 35 undef = .pointer (some ⟨c, 0, none⟩) := hD ⟨9, .data⟩ (by simp) rfl _ rfl
      refine step_yes rfl ?_
      exact ok_value Lat.refl (.pointer (some ⟨c, 0, none⟩)) (by simp [execOp, Act.eval, d9, go_sem]) rfl
    · obtain rfl := Option.some.inj hi
      clear hi hlt
      intro a w1 hL hS hD
      have d10 : a.tmps.getD 36 undef = .pointer (some ⟨c, 0, none⟩) := hD ⟨10, .data⟩ (by simp) rfl _ rfl
      refine step_yes rfl ?_
      exact ok_value Lat.refl (.pointer (some ⟨c, 0, none⟩)) (by simp [execOp, Act.eval, d10, go_sem]) rfl
    · obtain rfl := Option.some.inj hi
      clear hi hlt
      intro a w1 hL hS hD
      have d11 : a.tmps.getD 37 undef = .pointer (some ⟨c, 0, none⟩) := hD ⟨11, .data⟩ (by simp) rfl _ rfl
      refine step_yes rfl ?_
      exact ok_value Lat.refl (.int .i64 most) (by simp [execOp, Act.eval, d11, hc0 w1 hL, go_sem]) rfl
    · obtain rfl := Option.some.inj hi
      clear hi hlt
      intro a w1 hL hS hD
      have d8 : a.tmps.getD 34 undef = .int .i64 ((gk : Int) + (sk : Int)) := hD ⟨8, .data⟩ (by simp) rfl _ rfl
      have d12 : a.tmps.getD 38 undef = .int .i64 most := hD ⟨12, .data⟩ (by simp) rfl _ rfl
      refine step_yes rfl ?_
      exact ok_value Lat.refl (.bool (decide ((gk : Int) + (sk : Int) > most))) (by simp [execOp, Act.eval, d8, d12, go_sem]) rfl

end Go.Proofs.YtcgjmioncbihhaaDoor
