/-
  The document's own Read: a region that draws its order.
-/
import Derived.Test.YtcgjmioncbihhaaDoorDrD
import Derived.Test.YtcgjmioncbihhaaDoorAnyB
import Derived.Test.YtcgjmioncbihhaaDoorAnyM
namespace Go.Proofs.YtcgjmioncbihhaaDoor
open Go.RowKit
set_option linter.unusedVariables false
set_option linter.unusedSimpArgs false

/-- A slice that reads so. -/
def EntB (E : List Int) : Ent Lat := ⟨fun v w => ∃ ad c', v = .slice ad E.length c' ∧ Sl w ad E.length E, fun _ _ _ h hb => by obtain ⟨ad, c', h1, h2⟩ := h; exact ⟨ad, c', h1, h2.later hb⟩⟩

set_option maxRecDepth 100000 in
set_option maxHeartbeats 2000000 in
theorem read_r20 (r m c7 len cap : Nat) (a7 ad : Option Addr) (E b : List Int) (w : World) (a0 : Act) (Q : Exit → Act → World → Prop) (hsz : a0.tmps.size = 107)
    (s6 : a0.tmps.getD 6 undef = .pointer (some ⟨r, 0, none⟩))
    (s7 : a0.tmps.getD 7 undef = .slice a7 m c7)
    (s0 : a0.tmps.getD 0 undef = .slice ad len cap)
    (hbad : ∀ w1, Lat w w1 → w1.cell? ⟨r, 2, none⟩ = some (.bool false))
    (hs2 : ∀ w1, Lat w w1 → (convert 38 9 (.slice ad len cap)).run Tryd.prog w1 = .ok (.string (strOfNums b)) w1)
    (hen : ∀ wx, Lat w wx → Calls Tryd.prog 25 #[.slice a7 m c7] wx fun e w' => ∃ ad c', e = .returned (.slice ad E.length c') ∧ Sl w' ad E.length E ∧ Lat wx w')
    (hQ : ∀ (v94 v95 v96 v97 v98 v99 v100 v101 v102 v103 v104 v105 : Value) (w1 : World), Lat w w1 → v105 = .bool ((strOfNums E).toList != (strOfNums b).toList) → Q .normal ((((((((((((a0.put (some 94) v94).put (some 95) v95).put (some 96) v96).put (some 97) v97).put (some 98) v98).put (some 99) v99).put (some 100) v100).put (some 101) v101).put (some 102) v102).put (some 103) v103).put (some 104) v104).put (some 105) v105) w1) :
    Code.wp Tryd.prog ((Tryd.f14.body.bind (findRegion 20)).getD .skip) Q a0 w := by
  conv => arg 2; whnf
  refine wp_region_inv Lat (TE [Ent.val (.pointer (some ⟨r, 0, none⟩)), Ent.val (.pointer (some ⟨r, 0, none⟩)), Ent.val (.pointer (some ⟨r, 2, none⟩)), Ent.val (.bool false), Ent.val (.bool false), Ent.val (.slice a7 m c7), EntB E, Ent.val (.string (strOfNums E)), Ent.val (.slice ad len cap), Ent.val (.string (strOfNums b)), Ent.val (.bool ((strOfNums E).toList != (strOfNums b).toList)), Ent.val (.bool ((strOfNums E).toList != (strOfNums b).toList))]) (by kernel_rfl) (by kernel_rfl) (by kernel_rfl) (by rw [hsz]; kernel_rfl) (by kernel_rfl) Lat.refl Lat.trans (TE_stable _) (Lat.draw w) ?hop ?hdone
  case hdone =>
    intro a w1 hL hS hT
    have he := same_puts hS
    rw [he]
    exact hQ (a.tmps.getD 94 undef) (a.tmps.getD 95 undef) (a.tmps.getD 96 undef) (a.tmps.getD 97 undef) (a.tmps.getD 98 undef) (a.tmps.getD 99 undef) (a.tmps.getD 100 undef) (a.tmps.getD 101 undef) (a.tmps.getD 102 undef) (a.tmps.getD 103 undef) (a.tmps.getD 104 undef) (a.tmps.getD 105 undef) w1 hL (hT 11 _ rfl)
  case hop =>
    intro i o hi
    have hlt : i < 12 := (Array.getElem?_eq_some_iff.1 hi).1
    rcases (show i = 0 ∨ i = 1 ∨ i = 2 ∨ i = 3 ∨ i = 4 ∨ i = 5 ∨ i = 6 ∨ i = 7 ∨ i = 8 ∨ i = 9 ∨ i = 10 ∨ i = 11 by omega) with rfl | rfl | rfl | rfl | rfl | rfl | rfl | rfl | rfl | rfl | rfl | rfl
    · obtain rfl := Option.some.inj hi
      clear hi hlt
      intro a w1 hL hS hD
      have e6 : a.tmps.getD 6 undef = .pointer (some ⟨r, 0, none⟩) := (hS.slot 6 (by kernel_rfl)).trans s6
      refine step_yes rfl ?_
      exact ok_value Lat.refl (.pointer (some ⟨r, 0, none⟩)) (by simp [execOp, Act.eval, e6, go_sem]) rfl
    · obtain rfl := Option.some.inj hi
      clear hi hlt
      intro a w1 hL hS hD
      have d0 : a.tmps.getD 94 undef = .pointer (some ⟨r, 0, none⟩) := hD ⟨0, .data⟩ (by simp) rfl _ rfl
      refine step_yes rfl ?_
      exact ok_value Lat.refl (.pointer (some ⟨r, 0, none⟩)) (by simp [execOp, Act.eval, d0, go_sem]) rfl
    · obtain rfl := Option.some.inj hi
      clear hi hlt
      intro a w1 hL hS hD
      have d1 : a.tmps.getD 95 undef = .pointer (some ⟨r, 0, none⟩) := hD ⟨1, .data⟩ (by simp) rfl _ rfl
      refine step_yes rfl ?_
      exact ok_value Lat.refl (.pointer (some ⟨r, 2, none⟩)) (by simp [execOp, Act.eval, d1, go_sem]) rfl
    · obtain rfl := Option.some.inj hi
      clear hi hlt
      intro a w1 hL hS hD
      have d2 : a.tmps.getD 96 undef = .pointer (some ⟨r, 2, none⟩) := hD ⟨2, .data⟩ (by simp) rfl _ rfl
      refine step_yes rfl ?_
      exact ok_value Lat.refl (.bool false) (by simp [execOp, Act.eval, d2, hbad w1 hL, go_sem]) rfl
    · obtain rfl := Option.some.inj hi
      clear hi hlt
      intro a w1 hL hS hD
      have d3 : a.tmps.getD 97 undef = .bool false := hD ⟨3, .data⟩ (by simp) rfl _ rfl
      refine step_yes rfl ?_
      exact ok_value Lat.refl (.bool false) (by simp [execOp, Act.eval, d3, go_sem]) rfl
    · obtain rfl := Option.some.inj hi
      clear hi hlt
      intro a w1 hL hS hD
      have e7 : a.tmps.getD 7 undef = .slice a7 m c7 := (hS.slot 7 (by kernel_rfl)).trans s7
      have d4 : a.tmps.getD 98 undef = .bool false := hD ⟨4, .guard⟩ (by simp) rfl _ rfl
      refine step_yes (wanted_yes rfl rfl rfl d4) ?_
      exact ok_value Lat.refl (.slice a7 m c7) (by simp [execOp, Act.eval, e7, go_sem]) rfl
    · obtain rfl := Option.some.inj hi
      clear hi hlt
      intro a w1 hL hS hD
      have d4 : a.tmps.getD 98 undef = .bool false := hD ⟨4, .guard⟩ (by simp) rfl _ rfl
      have d5 : a.tmps.getD 99 undef = .slice a7 m c7 := hD ⟨5, .data⟩ (by simp) rfl _ rfl
      refine step_yes (wanted_yes rfl rfl rfl d4) ?_
      refine ok_call (f := 25) (args := #[.slice a7 m c7]) (by simp [execOp, resolve, Act.eval, d5, go_sem]) ?_
      refine (hen w1 hL).mono ?_
      rintro e w2 ⟨ad5, c5, rfl, hs, b5⟩
      exact ⟨_, rfl, b5, ad5, c5, rfl, hs⟩
    · obtain rfl := Option.some.inj hi
      clear hi hlt
      intro a w1 hL hS hD
      have d4 : a.tmps.getD 98 undef = .bool false := hD ⟨4, .guard⟩ (by simp) rfl _ rfl
      have d6 := hD ⟨6, .data⟩ (by simp) rfl _ rfl
      refine step_yes (wanted_yes rfl rfl rfl d4) ?_
      obtain ⟨ad5, c5, h5, hs⟩ := d6
      have h7 : a.tmps.getD 100 undef = .slice ad5 E.length c5 := h5
      have h6 : a.tmps[100]?.getD undef = .slice ad5 E.length c5 := by simpa using h7
      have hc := run_string_of (P := Tryd.prog) 38 5 9 Tryd.underlying38 Tryd.underlying5 Tryd.underlying9 (cap := c5) hs
      exact ok_value Lat.refl (.string (strOfNums E)) (by simp [execOp, Act.eval, h6, hc, go_sem]) rfl
    · obtain rfl := Option.some.inj hi
      clear hi hlt
      intro a w1 hL hS hD
      have e0 : a.tmps.getD 0 undef = .slice ad len cap := (hS.slot 0 (by kernel_rfl)).trans s0
      have d4 : a.tmps.getD 98 undef = .bool false := hD ⟨4, .guard⟩ (by simp) rfl _ rfl
      refine step_yes (wanted_yes rfl rfl rfl d4) ?_
      exact ok_value Lat.refl (.slice ad len cap) (by simp [execOp, Act.eval, e0, go_sem]) rfl
    · obtain rfl := Option.some.inj hi
      clear hi hlt
      intro a w1 hL hS hD
      have d4 : a.tmps.getD 98 undef = .bool false := hD ⟨4, .guard⟩ (by simp) rfl _ rfl
      have d8 : a.tmps.getD 102 undef = .slice ad len cap := hD ⟨8, .data⟩ (by simp) rfl _ rfl
      refine step_yes (wanted_yes rfl rfl rfl d4) ?_
      exact ok_value Lat.refl (.string (strOfNums b)) (by simp [execOp, Act.eval, d8, hs2 w1 hL, go_sem]) rfl
    · obtain rfl := Option.some.inj hi
      clear hi hlt
      intro a w1 hL hS hD
      have d4 : a.tmps.getD 98 undef = .bool false := hD ⟨4, .guard⟩ (by simp) rfl _ rfl
      have d7 : a.tmps.getD 101 undef = .string (strOfNums E) := hD ⟨7, .data⟩ (by simp) rfl _ rfl
      have d9 : a.tmps.getD 103 undef = .string (strOfNums b) := hD ⟨9, .data⟩ (by simp) rfl _ rfl
      refine step_yes (wanted_yes rfl rfl rfl d4) ?_
      exact ok_value Lat.refl (.bool ((strOfNums E).toList != (strOfNums b).toList)) (by simp [execOp, Act.eval, d7, d9, bne, go_sem]) rfl
    · obtain rfl := Option.some.inj hi
      clear hi hlt
      intro a w1 hL hS hD
      have d4 : a.tmps.getD 98 undef = .bool false := hD ⟨4, .data⟩ (by simp) rfl _ rfl
      have d10 : a.tmps.getD 104 undef = .bool ((strOfNums E).toList != (strOfNums b).toList) := hD ⟨10, .data⟩ (by simp) rfl _ rfl
      refine step_yes rfl ?_
      exact ok_value Lat.refl (.bool ((strOfNums E).toList != (strOfNums b).toList)) (by simp [execOp, Act.eval, d4, d10, go_sem]) rfl
set_option maxRecDepth 100000 in
set_option maxHeartbeats 2000000 in
theorem read_r20t (r : Nat) (w : World) (a0 : Act) (Q : Exit → Act → World → Prop) (hsz : a0.tmps.size = 107)
    (s6 : a0.tmps.getD 6 undef = .pointer (some ⟨r, 0, none⟩))
    (hbad : ∀ w1, Lat w w1 → w1.cell? ⟨r, 2, none⟩ = some (.bool true))
    (hQ : ∀ (v94 v95 v96 v97 v98 v99 v100 v101 v102 v103 v104 : Value) (w1 : World), Lat w w1 → Q .normal ((((((((((((a0.put (some 94) v94).put (some 95) v95).put (some 96) v96).put (some 97) v97).put (some 98) v98).put (some 99) v99).put (some 100) v100).put (some 101) v101).put (some 102) v102).put (some 103) v103).put (some 104) v104).put (some 105) (.bool true)) w1) :
    Code.wp Tryd.prog ((Tryd.f14.body.bind (findRegion 20)).getD .skip) Q a0 w := by
  conv => arg 2; whnf
  refine wp_region_inv Lat (TV [.pointer (some ⟨r, 0, none⟩), .pointer (some ⟨r, 0, none⟩), .pointer (some ⟨r, 2, none⟩), .bool true, .bool true, undef, undef, undef, undef, undef, undef, .bool true]) (by kernel_rfl) (by kernel_rfl) (by kernel_rfl) (by rw [hsz]; kernel_rfl) (by kernel_rfl) Lat.refl Lat.trans (TV.stable _) (Lat.draw w) ?hop ?hdone
  case hdone =>
    intro a w1 hL hS hT
    have k105 : a.tmps.getD 105 undef = .bool true := hT 11 _ rfl _ rfl
    have he := same_puts hS
    have hQ2 := hQ (a.tmps.getD 94 undef) (a.tmps.getD 95 undef) (a.tmps.getD 96 undef) (a.tmps.getD 97 undef) (a.tmps.getD 98 undef) (a.tmps.getD 99 undef) (a.tmps.getD 100 undef) (a.tmps.getD 101 undef) (a.tmps.getD 102 undef) (a.tmps.getD 103 undef) (a.tmps.getD 104 undef) w1 hL
    rw [← k105] at hQ2
    rw [he]
    exact hQ2
  case hop =>
    intro i o hi
    have hlt : i < 12 := (Array.getElem?_eq_some_iff.1 hi).1
    rcases (show i = 0 ∨ i = 1 ∨ i = 2 ∨ i = 3 ∨ i = 4 ∨ i = 5 ∨ i = 6 ∨ i = 7 ∨ i = 8 ∨ i = 9 ∨ i = 10 ∨ i = 11 by omega) with rfl | rfl | rfl | rfl | rfl | rfl | rfl | rfl | rfl | rfl | rfl | rfl
    · obtain rfl := Option.some.inj hi
      clear hi hlt
      intro a w1 hL hS hD
      have e6 : a.tmps.getD 6 undef = .pointer (some ⟨r, 0, none⟩) := (hS.slot 6 (by kernel_rfl)).trans s6
      refine step_yes rfl ?_
      exact ok_value Lat.refl (.pointer (some ⟨r, 0, none⟩)) (by simp [execOp, Act.eval, e6, go_sem]) (TV.mk rfl)
    · obtain rfl := Option.some.inj hi
      clear hi hlt
      intro a w1 hL hS hD
      have d0 : a.tmps.getD 94 undef = .pointer (some ⟨r, 0, none⟩) := hD ⟨0, .data⟩ (by simp) rfl _ rfl _ rfl
      refine step_yes rfl ?_
      exact ok_value Lat.refl (.pointer (some ⟨r, 0, none⟩)) (by simp [execOp, Act.eval, d0, go_sem]) (TV.mk rfl)
    · obtain rfl := Option.some.inj hi
      clear hi hlt
      intro a w1 hL hS hD
      have d1 : a.tmps.getD 95 undef = .pointer (some ⟨r, 0, none⟩) := hD ⟨1, .data⟩ (by simp) rfl _ rfl _ rfl
      refine step_yes rfl ?_
      exact ok_value Lat.refl (.pointer (some ⟨r, 2, none⟩)) (by simp [execOp, Act.eval, d1, go_sem]) (TV.mk rfl)
    · obtain rfl := Option.some.inj hi
      clear hi hlt
      intro a w1 hL hS hD
      have d2 : a.tmps.getD 96 undef = .pointer (some ⟨r, 2, none⟩) := hD ⟨2, .data⟩ (by simp) rfl _ rfl _ rfl
      refine step_yes rfl ?_
      exact ok_value Lat.refl (.bool true) (by simp [execOp, Act.eval, d2, hbad w1 hL, go_sem]) (TV.mk rfl)
    · obtain rfl := Option.some.inj hi
      clear hi hlt
      intro a w1 hL hS hD
      have d3 : a.tmps.getD 97 undef = .bool true := hD ⟨3, .data⟩ (by simp) rfl _ rfl _ rfl
      refine step_yes rfl ?_
      exact ok_value Lat.refl (.bool true) (by simp [execOp, Act.eval, d3, go_sem]) (TV.mk rfl)
    · obtain rfl := Option.some.inj hi
      clear hi hlt
      intro a w1 hL hS hD
      have d4 : a.tmps.getD 98 undef = .bool true := hD ⟨4, .guard⟩ (by simp) rfl _ rfl _ rfl
      exact step_no (wanted_no rfl rfl rfl d4 rfl) (TV.mk rfl)
    · obtain rfl := Option.some.inj hi
      clear hi hlt
      intro a w1 hL hS hD
      have d4 : a.tmps.getD 98 undef = .bool true := hD ⟨4, .guard⟩ (by simp) rfl _ rfl _ rfl
      exact step_no (wanted_no rfl rfl rfl d4 rfl) (TV.mk rfl)
    · obtain rfl := Option.some.inj hi
      clear hi hlt
      intro a w1 hL hS hD
      have d4 : a.tmps.getD 98 undef = .bool true := hD ⟨4, .guard⟩ (by simp) rfl _ rfl _ rfl
      exact step_no (wanted_no rfl rfl rfl d4 rfl) (TV.mk rfl)
    · obtain rfl := Option.some.inj hi
      clear hi hlt
      intro a w1 hL hS hD
      have d4 : a.tmps.getD 98 undef = .bool true := hD ⟨4, .guard⟩ (by simp) rfl _ rfl _ rfl
      exact step_no (wanted_no rfl rfl rfl d4 rfl) (TV.mk rfl)
    · obtain rfl := Option.some.inj hi
      clear hi hlt
      intro a w1 hL hS hD
      have d4 : a.tmps.getD 98 undef = .bool true := hD ⟨4, .guard⟩ (by simp) rfl _ rfl _ rfl
      exact step_no (wanted_no rfl rfl rfl d4 rfl) (TV.mk rfl)
    · obtain rfl := Option.some.inj hi
      clear hi hlt
      intro a w1 hL hS hD
      have d4 : a.tmps.getD 98 undef = .bool true := hD ⟨4, .guard⟩ (by simp) rfl _ rfl _ rfl
      exact step_no (wanted_no rfl rfl rfl d4 rfl) (TV.mk rfl)
    · obtain rfl := Option.some.inj hi
      clear hi hlt
      intro a w1 hL hS hD
      have d4 : a.tmps.getD 98 undef = .bool true := hD ⟨4, .data⟩ (by simp) rfl _ rfl _ rfl
      have d10 : a.tmps.getD 104 undef = undef := hD ⟨10, .data⟩ (by simp) rfl _ rfl _ rfl
      refine step_yes rfl ?_
      exact ok_value Lat.refl (.bool true) (by simp [execOp, Act.eval, d4, d10, go_sem]) (TV.mk rfl)

end Go.Proofs.YtcgjmioncbihhaaDoor
