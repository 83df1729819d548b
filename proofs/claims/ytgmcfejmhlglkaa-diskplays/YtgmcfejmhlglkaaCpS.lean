import Derived.Test.YtgmcfejmhlglkaaCpR
namespace Go.Proofs.Ytgmcfejmhlglkaa
open Go.RowKit
set_option linter.unusedVariables false
set_option linter.unusedSimpArgs false

set_option maxRecDepth 100000 in
set_option maxHeartbeats 2000000 in
theorem copy_r5 (p q g fb n fc i m c : Nat) (ad : Option Addr) (l : List Int) (w : World) (a0 : Act) (Q : Exit → Act → World → Prop) (hsz : a0.tmps.size = 60)
    (s3 : a0.tmps.getD 3 undef = .pointer (some ⟨q, 0, none⟩))
    (s4 : a0.tmps.getD 4 undef = .int .i64 (i : Int))
    (s0 : a0.tmps.getD 0 undef = .pointer (some ⟨p, 0, none⟩))
    (hi : i < n) (hii : (i : Int) < (n : Int)) (hn8 : n ≤ 8)
    (hq0 : ∀ w1, Lat w w1 → w1.cell? ⟨q, 0, none⟩ = some (.slice (some ⟨g, 0, none⟩) n n)) (hp0 : ∀ w1, Lat w w1 → w1.cell? ⟨p, 0, none⟩ = some (.slice (some ⟨fb, 0, none⟩) n fc)) (hr : ∀ w1, Lat w w1 → w1.cell? ⟨fb, i * 2, none⟩ = some (.slice ad m c))
    (h46 : ∀ w1, Lat w w1 → Calls Try.prog 46 #[.slice ad m c] w1 fun e w2 => e = .returned (.slice (some ⟨w1.heap.size, 0, none⟩) m m) ∧ w2.ownsRow w1.heap.size 5 1 (.slice (some ⟨w1.heap.size, 0, none⟩) m m) m (cells8 l) ∧ Below w1.heap.size w1 w2)
    (u : Value) (hcell : ∀ w1, Lat w w1 → w1.cell? ⟨g, i * 2, none⟩ = some u) (hfrz : ∀ w1, Lat w w1 → w1.frozen? ⟨g, i * 2, none⟩ = false)
    (hQ : ∀ (v32 v33 v34 v35 v36 v37 v38 v39 v40 v41 v42 v43 v44 v45 v46 v47 : Value) (w1 : World) (b : Nat), Lat w w1 → w.heap.size ≤ b → w1.ownsRow 0 5 1 (.slice (some ⟨b, 0, none⟩) m m) m (cells8 l) → Q .normal ((((((((((((((((a0.put (some 32) v32).put (some 33) v33).put (some 34) v34).put (some 35) v35).put (some 36) v36).put (some 37) v37).put (some 38) v38).put (some 39) v39).put (some 40) v40).put (some 41) v41).put (some 42) v42).put (some 43) v43).put (some 44) v44).put (some 45) v45).put (some 46) v46).put (some 47) v47) (w1.setCell ⟨g, i * 2, none⟩ (.slice (some ⟨b, 0, none⟩) m m))) :
    Code.wp Try.prog ((Try.f36.body.bind (findRegion 5)).getD .skip) Q a0 w := by
  conv => arg 2; whnf
  refine wp_region_last 16 Lat (TE [Ent.val (.pointer (some ⟨q, 0, none⟩)), Ent.val (.pointer (some ⟨q, 0, none⟩)), Ent.val (.pointer (some ⟨q, 0, none⟩)), Ent.val (.slice (some ⟨g, 0, none⟩) n n), Ent.val (.int .i64 (i : Int)), Ent.val (.pointer (some ⟨p, 0, none⟩)), Ent.val (.pointer (some ⟨p, 0, none⟩)), Ent.val (.pointer (some ⟨p, 0, none⟩)), Ent.val (.slice (some ⟨fb, 0, none⟩) n fc), Ent.val (.int .i64 (i : Int)), Ent.val (.pointer (some ⟨fb, i * 2, none⟩)), Ent.val (.pointer (some ⟨fb, i * 2, none⟩)), Ent.val (.slice ad m c), (⟨fun v w1 => ∃ b, w.heap.size ≤ b ∧ v = .slice (some ⟨b, 0, none⟩) m m ∧ w1.ownsRow 0 5 1 (.slice (some ⟨b, 0, none⟩) m m) m (cells8 l), fun v a b h hl => by obtain ⟨g, h0, h1, h2⟩ := h; exact ⟨g, h0, h1, (Chg.of_below (F := fun _ => False) hl).owns h2 (fun _ _ h => h)⟩⟩ : Ent Lat), Ent.val (.pointer (some ⟨g, i * 2, none⟩)), Ent.val (.pointer (some ⟨g, i * 2, none⟩))]) (by kernel_rfl) (by kernel_rfl) (by kernel_rfl) (by rw [hsz]; kernel_rfl) (by kernel_rfl) (by kernel_rfl) Lat.refl Lat.trans (TE_stable _) (Lat.draw w) ?hop ?hlast
  case hlast =>
    intro o a w1 ho hL hS hT
    obtain rfl := Option.some.inj ho
    have dA : a.tmps.getD 47 undef = .pointer (some ⟨g, i * 2, none⟩) := hT 15 _ (by omega) rfl
    have dV0 := hT 13 _ (by omega) rfl
    obtain ⟨b, hb0, dVq, hO⟩ := dV0
    have dV : a.tmps.getD 45 undef = .slice (some ⟨b, 0, none⟩) m m := dVq
    have he := same_puts hS
    have hQ2 := hQ (a.tmps.getD 32 undef) (a.tmps.getD 33 undef) (a.tmps.getD 34 undef) (a.tmps.getD 35 undef) (a.tmps.getD 36 undef) (a.tmps.getD 37 undef) (a.tmps.getD 38 undef) (a.tmps.getD 39 undef) (a.tmps.getD 40 undef) (a.tmps.getD 41 undef) (a.tmps.getD 42 undef) (a.tmps.getD 43 undef) (a.tmps.getD 44 undef) (a.tmps.getD 45 undef) (a.tmps.getD 46 undef) (a.tmps.getD 47 undef) w1 b hL hb0 hO
    have hc1 := hcell w1 hL
    have hf1 := hfrz w1 hL
    unfold Oper.wp
    simp [execOp, Act.eval, dA, dV, hc1, hf1, Result.andThen, go_sem]
    show Q .normal a _
    rw [he]
    exact hQ2
  case hop =>
    intro i o hlt hi
    rcases (show i = 0 ∨ i = 1 ∨ i = 2 ∨ i = 3 ∨ i = 4 ∨ i = 5 ∨ i = 6 ∨ i = 7 ∨ i = 8 ∨ i = 9 ∨ i = 10 ∨ i = 11 ∨ i = 12 ∨ i = 13 ∨ i = 14 ∨ i = 15 by omega) with rfl | rfl | rfl | rfl | rfl | rfl | rfl | rfl | rfl | rfl | rfl | rfl | rfl | rfl | rfl | rfl
    · obtain rfl := Option.some.inj hi
      clear hi hlt
      intro a w1 hL hS hD
      have e3 : a.tmps.getD 3 undef = .pointer (some ⟨q, 0, none⟩) := (hS.slot 3 (by kernel_rfl)).trans s3
      refine step_yes rfl ?_
      exact ok_value Lat.refl (.pointer (some ⟨q, 0, none⟩)) (by simp [execOp, Act.eval, e3, go_sem]) rfl
    · obtain rfl := Option.some.inj hi
      clear hi hlt
      intro a w1 hL hS hD
      have d0 : a.tmps.getD 32 undef = .pointer (some ⟨q, 0, none⟩) := hD ⟨0, .data⟩ (by simp) rfl _ rfl
      refine step_yes rfl ?_
      exact ok_value Lat.refl (.pointer (some ⟨q, 0, none⟩)) (by simp [execOp, Act.eval, d0, go_sem]) rfl
    · obtain rfl := Option.some.inj hi
      clear hi hlt
      intro a w1 hL hS hD
      have d1 : a.tmps.getD 33 undef = .pointer (some ⟨q, 0, none⟩) := hD ⟨1, .data⟩ (by simp) rfl _ rfl
      refine step_yes rfl ?_
      exact ok_value Lat.refl (.pointer (some ⟨q, 0, none⟩)) (by simp [execOp, Act.eval, d1, go_sem]) rfl
    · obtain rfl := Option.some.inj hi
      clear hi hlt
      intro a w1 hL hS hD
      have d2 : a.tmps.getD 34 undef = .pointer (some ⟨q, 0, none⟩) := hD ⟨2, .data⟩ (by simp) rfl _ rfl
      refine step_yes rfl ?_
      exact ok_value Lat.refl (.slice (some ⟨g, 0, none⟩) n n) (by simp [execOp, Act.eval, d2, hq0 w1 hL, go_sem]) rfl
    · obtain rfl := Option.some.inj hi
      clear hi hlt
      intro a w1 hL hS hD
      have e4 : a.tmps.getD 4 undef = .int .i64 (i : Int) := (hS.slot 4 (by kernel_rfl)).trans s4
      refine step_yes rfl ?_
      exact ok_value Lat.refl (.int .i64 (i : Int)) (by simp [execOp, Act.eval, e4, go_sem]) rfl
    · obtain rfl := Option.some.inj hi
      clear hi hlt
      intro a w1 hL hS hD
      have e0 : a.tmps.getD 0 undef = .pointer (some ⟨p, 0, none⟩) := (hS.slot 0 (by kernel_rfl)).trans s0
      refine step_yes rfl ?_
      exact ok_value Lat.refl (.pointer (some ⟨p, 0, none⟩)) (by simp [execOp, Act.eval, e0, go_sem]) rfl
    · obtain rfl := Option.some.inj hi
      clear hi hlt
      intro a w1 hL hS hD
      have d5 : a.tmps.getD 37 undef = .pointer (some ⟨p, 0, none⟩) := hD ⟨5, .data⟩ (by simp) rfl _ rfl
      refine step_yes rfl ?_
      exact ok_value Lat.refl (.pointer (some ⟨p, 0, none⟩)) (by simp [execOp, Act.eval, d5, go_sem]) rfl
    · obtain rfl := Option.some.inj hi
      clear hi hlt
      intro a w1 hL hS hD
      have d6 : a.tmps.getD 38 undef = .pointer (some ⟨p, 0, none⟩) := hD ⟨6, .data⟩ (by simp) rfl _ rfl
      refine step_yes rfl ?_
      exact ok_value Lat.refl (.pointer (some ⟨p, 0, none⟩)) (by simp [execOp, Act.eval, d6, go_sem]) rfl
    · obtain rfl := Option.some.inj hi
      clear hi hlt
      intro a w1 hL hS hD
      have d7 : a.tmps.getD 39 undef = .pointer (some ⟨p, 0, none⟩) := hD ⟨7, .data⟩ (by simp) rfl _ rfl
      refine step_yes rfl ?_
      exact ok_value Lat.refl (.slice (some ⟨fb, 0, none⟩) n fc) (by simp [execOp, Act.eval, d7, hp0 w1 hL, go_sem]) rfl
    · obtain rfl := Option.some.inj hi
      clear hi hlt
      intro a w1 hL hS hD
      have e4 : a.tmps.getD 4 undef = .int .i64 (i : Int) := (hS.slot 4 (by kernel_rfl)).trans s4
      refine step_yes rfl ?_
      exact ok_value Lat.refl (.int .i64 (i : Int)) (by simp [execOp, Act.eval, e4, go_sem]) rfl
    · obtain rfl := Option.some.inj hi
      clear hi hlt
      intro a w1 hL hS hD
      have d8 : a.tmps.getD 40 undef = .slice (some ⟨fb, 0, none⟩) n fc := hD ⟨8, .data⟩ (by simp) rfl _ rfl
      have d9 : a.tmps.getD 41 undef = .int .i64 (i : Int) := hD ⟨9, .data⟩ (by simp) rfl _ rfl
      refine step_yes rfl ?_
      exact ok_value Lat.refl (.pointer (some ⟨fb, i * 2, none⟩)) (by simp [execOp, Act.eval, d8, d9, hi, hii, go_sem]) rfl
    · obtain rfl := Option.some.inj hi
      clear hi hlt
      intro a w1 hL hS hD
      have d10 : a.tmps.getD 42 undef = .pointer (some ⟨fb, i * 2, none⟩) := hD ⟨10, .data⟩ (by simp) rfl _ rfl
      refine step_yes rfl ?_
      exact ok_value Lat.refl (.pointer (some ⟨fb, i * 2, none⟩)) (by simp [execOp, Act.eval, d10, go_sem]) rfl
    · obtain rfl := Option.some.inj hi
      clear hi hlt
      intro a w1 hL hS hD
      have d11 : a.tmps.getD 43 undef = .pointer (some ⟨fb, i * 2, none⟩) := hD ⟨11, .data⟩ (by simp) rfl _ rfl
      refine step_yes rfl ?_
      exact ok_value Lat.refl (.slice ad m c) (by simp [execOp, Act.eval, d11, hr w1 hL, go_sem]) rfl
    · obtain rfl := Option.some.inj hi
      clear hi hlt
      intro a w1 hL hS hD
      have d12 : a.tmps.getD 44 undef = .slice ad m c := hD ⟨12, .data⟩ (by simp) rfl _ rfl
      refine step_yes rfl ?_
      refine ok_call (f := 46) (args := #[.slice ad m c]) (by simp [execOp, resolve, Act.eval, d12, go_sem]) ?_
      refine (h46 w1 hL).mono ?_
      rintro e w2 ⟨rfl, hO, hb⟩
      exact ⟨_, rfl, hb, ⟨w1.heap.size, hL.size, rfl, owns_zero hO⟩⟩
    · obtain rfl := Option.some.inj hi
      clear hi hlt
      intro a w1 hL hS hD
      have d3 : a.tmps.getD 35 undef = .slice (some ⟨g, 0, none⟩) n n := hD ⟨3, .data⟩ (by simp) rfl _ rfl
      have d4 : a.tmps.getD 36 undef = .int .i64 (i : Int) := hD ⟨4, .data⟩ (by simp) rfl _ rfl
      refine step_yes rfl ?_
      exact ok_value Lat.refl (.pointer (some ⟨g, i * 2, none⟩)) (by simp [execOp, Act.eval, d3, d4, hi, hii, go_sem]) rfl
    · obtain rfl := Option.some.inj hi
      clear hi hlt
      intro a w1 hL hS hD
      have d14 : a.tmps.getD 46 undef = .pointer (some ⟨g, i * 2, none⟩) := hD ⟨14, .data⟩ (by simp) rfl _ rfl
      refine step_yes rfl ?_
      exact ok_value Lat.refl (.pointer (some ⟨g, i * 2, none⟩)) (by simp [execOp, Act.eval, d14, go_sem]) rfl

end Go.Proofs.Ytgmcfejmhlglkaa
