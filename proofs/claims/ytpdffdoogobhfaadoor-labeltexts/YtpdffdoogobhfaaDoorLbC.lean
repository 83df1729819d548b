/-
  Cmp: its region that draws its order.
-/
import Derived.Test.YtpdffdoogobhfaaDoorLbA
import Derived.Test.YtpdffdoogobhfaaDoorAnyW
namespace Go.Proofs.YtpdffdoogobhfaaDoor
open Go Go.RowKit
set_option linter.unusedVariables false
set_option linter.unusedSimpArgs false

theorem build85 (p q : Int) (w1 : World) : (Instr.buildSlice 85 2 #[(0, .int .i64 p), (1, .int .i64 q)]).run Tryd.prog w1 = .ok (.slice (some ⟨w1.heap.size, 0, none⟩) 2 2) (w1.alloc (.cells #[.int .i64 p, .int .i64 q] 3)) := by
  simp [go_sem]

theorem wp_val {P : Program} {Q : Exit → Act → World → Prop} {K : Act → World → Prop} {o : Oper} {a : Act} {w w' : World} (v : Value) (h : (execOp a.eval o).run P w = .ok (.value v) w') (hk : K (a.put o.dst v) w') : o.wp P a w K Q := by
  unfold Oper.wp
  rw [h]
  exact hk
theorem put_comm (a : Act) (d e : Tmp) (v u : Value) (h : d ≠ e) : (a.put (some d) v).put (some e) u = (a.put (some e) u).put (some d) v := by
  cases a
  simp only [Act.put, Act.mk.injEq, and_true]
  exact (Array.setIfInBounds_comm _ _ h)
theorem put_size (a : Act) (d : Tmp) (v : Value) : (a.put (some d) v).tmps.size = a.tmps.size := by
  cases a
  simp [Act.put]

set_option maxRecDepth 100000 in
set_option maxHeartbeats 2000000 in
theorem cmp_r4 (b off n c b2 off2 k d i : Nat) (xn xv yn yv : ByteArray) (w : World) (a0 : Act) (Q : Exit → Act → World → Prop) (hsz : a0.tmps.size = 48)
    (s0 : a0.tmps.getD 0 undef = .slice (some ⟨b, off, none⟩) n c)
    (s1 : a0.tmps.getD 1 undef = .slice (some ⟨b2, off2, none⟩) k d)
    (s5 : a0.tmps.getD 5 undef = .int .i64 (i : Int))
    (hin : (i : Int) < (n : Int)) (hinN : i < n) (hik : (i : Int) < (k : Int)) (hikN : i < k)
    (c0 : ∀ w1, Lat w w1 → w1.cell? ⟨b, off + i * 2, none⟩ = some (.string xn)) (c1 : ∀ w1, Lat w w1 → w1.cell? ⟨b, off + i * 2 + 1, none⟩ = some (.string xv))
    (d0 : ∀ w1, Lat w w1 → w1.cell? ⟨b2, off2 + i * 2, none⟩ = some (.string yn)) (d1 : ∀ w1, Lat w w1 → w1.cell? ⟨b2, off2 + i * 2 + 1, none⟩ = some (.string yv))
    (hQ : ∀ (v15 v16 v17 v18 v19 v20 v21 v22 v23 v24 v25 v26 v27 v28 v29 v30 v31 v32 v33 v34 v35 v36 v37 v38 v6 : Value) (w1 : World), Lat w w1 → v6 = .int .i64 (orV (cmpS (bts xn) (bts yn)) (cmpS (bts xv) (bts yv))) → Q .normal (((((((((((((((((((((((((a0.put (some 15) v15).put (some 16) v16).put (some 17) v17).put (some 18) v18).put (some 19) v19).put (some 20) v20).put (some 21) v21).put (some 22) v22).put (some 23) v23).put (some 24) v24).put (some 25) v25).put (some 26) v26).put (some 27) v27).put (some 28) v28).put (some 29) v29).put (some 30) v30).put (some 31) v31).put (some 32) v32).put (some 33) v33).put (some 34) v34).put (some 35) v35).put (some 36) v36).put (some 37) v37).put (some 38) v38).put (some 6) v6) w1) :
    Code.wp Tryd.prog ((Tryd.f18.body.bind (findRegion 4)).getD .skip) Q a0 w := by
  conv => arg 2; whnf
  refine wp_region_inv Lat (TE [Ent.val (.slice (some ⟨b, off, none⟩) n c), Ent.val (.int .i64 (i : Int)), Ent.val (.pointer (some ⟨b, off + i * 2, none⟩)), Ent.val (.pointer (some ⟨b, off + i * 2, none⟩)), Ent.val (.string xn), Ent.val (.slice (some ⟨b2, off2, none⟩) k d), Ent.val (.int .i64 (i : Int)), Ent.val (.pointer (some ⟨b2, off2 + i * 2, none⟩)), Ent.val (.pointer (some ⟨b2, off2 + i * 2, none⟩)), Ent.val (.string yn), Ent.val (.int .i64 (cmpS (bts xn) (bts yn))), Ent.val (.slice (some ⟨b, off, none⟩) n c), Ent.val (.int .i64 (i : Int)), Ent.val (.pointer (some ⟨b, off + i * 2, none⟩)), Ent.val (.pointer (some ⟨b, off + i * 2 + 1, none⟩)), Ent.val (.string xv), Ent.val (.slice (some ⟨b2, off2, none⟩) k d), Ent.val (.int .i64 (i : Int)), Ent.val (.pointer (some ⟨b2, off2 + i * 2, none⟩)), Ent.val (.pointer (some ⟨b2, off2 + i * 2 + 1, none⟩)), Ent.val (.string yv), Ent.val (.int .i64 (cmpS (bts xv) (bts yv))), (⟨fun v w1 => ∃ g, v = .slice (some ⟨g, 0, none⟩) 2 2 ∧ Blk w1 g 3 [.int .i64 (cmpS (bts xn) (bts yn)), .int .i64 (cmpS (bts xv) (bts yv))], fun v x y h hl => by obtain ⟨g, h1, h2⟩ := h; exact ⟨g, h1, h2.later hl⟩⟩ : Ent Lat), Ent.val (.int .i64 (orV (cmpS (bts xn) (bts yn)) (cmpS (bts xv) (bts yv)))), Ent.val (.int .i64 (orV (cmpS (bts xn) (bts yn)) (cmpS (bts xv) (bts yv))))]) (by kernel_rfl) (by kernel_rfl) (by kernel_rfl) (by rw [hsz]; kernel_rfl) (by kernel_rfl) Lat.refl Lat.trans (TE_stable _) (Lat.draw w) ?hop ?hdone
  case hdone =>
    intro a w1 hL hS hT
    have he := same_puts hS
    rw [he]
    exact hQ (a.tmps.getD 15 undef) (a.tmps.getD 16 undef) (a.tmps.getD 17 undef) (a.tmps.getD 18 undef) (a.tmps.getD 19 undef) (a.tmps.getD 20 undef) (a.tmps.getD 21 undef) (a.tmps.getD 22 undef) (a.tmps.getD 23 undef) (a.tmps.getD 24 undef) (a.tmps.getD 25 undef) (a.tmps.getD 26 undef) (a.tmps.getD 27 undef) (a.tmps.getD 28 undef) (a.tmps.getD 29 undef) (a.tmps.getD 30 undef) (a.tmps.getD 31 undef) (a.tmps.getD 32 undef) (a.tmps.getD 33 undef) (a.tmps.getD 34 undef) (a.tmps.getD 35 undef) (a.tmps.getD 36 undef) (a.tmps.getD 37 undef) (a.tmps.getD 38 undef) (a.tmps.getD 6 undef) w1 hL (hT 24 _ rfl)
  case hop =>
    intro i o hi
    have hlt : i < 25 := (Array.getElem?_eq_some_iff.1 hi).1
    rcases (show i = 0 ∨ i = 1 ∨ i = 2 ∨ i = 3 ∨ i = 4 ∨ i = 5 ∨ i = 6 ∨ i = 7 ∨ i = 8 ∨ i = 9 ∨ i = 10 ∨ i = 11 ∨ i = 12 ∨ i = 13 ∨ i = 14 ∨ i = 15 ∨ i = 16 ∨ i = 17 ∨ i = 18 ∨ i = 19 ∨ i = 20 ∨ i = 21 ∨ i = 22 ∨ i = 23 ∨ i = 24 by omega) with rfl | rfl | rfl | rfl | rfl | rfl | rfl | rfl | rfl | rfl | rfl | rfl | rfl | rfl | rfl | rfl | rfl | rfl | rfl | rfl | rfl | rfl | rfl | rfl | rfl
    · obtain rfl := Option.some.inj hi
      clear hi hlt
      intro a w1 hL hS hD
      have e0 : a.tmps.getD 0 undef = .slice (some ⟨b, off, none⟩) n c := (hS.slot 0 (by kernel_rfl)).trans s0
      refine step_yes rfl ?_
      exact ok_value Lat.refl (.slice (some ⟨b, off, none⟩) n c) (by simp [execOp, Act.eval, e0, go_sem]) rfl
    · obtain rfl := Option.some.inj hi
      clear hi hlt
      intro a w1 hL hS hD
      have e5 : a.tmps.getD 5 undef = .int .i64 (i : Int) := (hS.slot 5 (by kernel_rfl)).trans s5
      refine step_yes rfl ?_
      exact ok_value Lat.refl (.int .i64 (i : Int)) (by simp [execOp, Act.eval, e5, go_sem]) rfl
    · obtain rfl := Option.some.inj hi
      clear hi hlt
      intro a w1 hL hS hD
      have d0 : a.tmps.getD 15 undef = .slice (some ⟨b, off, none⟩) n c := hD ⟨0, .data⟩ (by simp) rfl _ rfl
      have d1 : a.tmps.getD 16 undef = .int .i64 (i : Int) := hD ⟨1, .data⟩ (by simp) rfl _ rfl
      refine step_yes rfl ?_
      exact ok_value Lat.refl (.pointer (some ⟨b, off + i * 2, none⟩)) (by simp [execOp, Act.eval, d0, d1, hin, hinN, go_sem]) rfl
    · obtain rfl := Option.some.inj hi
      clear hi hlt
      intro a w1 hL hS hD
      have d2 : a.tmps.getD 17 undef = .pointer (some ⟨b, off + i * 2, none⟩) := hD ⟨2, .data⟩ (by simp) rfl _ rfl
      refine step_yes rfl ?_
      exact ok_value Lat.refl (.pointer (some ⟨b, off + i * 2, none⟩)) (by simp [execOp, Act.eval, d2, go_sem]) rfl
    · obtain rfl := Option.some.inj hi
      clear hi hlt
      intro a w1 hL hS hD
      have d3 : a.tmps.getD 18 undef = .pointer (some ⟨b, off + i * 2, none⟩) := hD ⟨3, .data⟩ (by simp) rfl _ rfl
      refine step_yes rfl ?_
      exact ok_value Lat.refl (.string xn) (by simp [execOp, Act.eval, d3, c0 w1 hL, go_sem]) rfl
    · obtain rfl := Option.some.inj hi
      clear hi hlt
      intro a w1 hL hS hD
      have e1 : a.tmps.getD 1 undef = .slice (some ⟨b2, off2, none⟩) k d := (hS.slot 1 (by kernel_rfl)).trans s1
      refine step_yes rfl ?_
      exact ok_value Lat.refl (.slice (some ⟨b2, off2, none⟩) k d) (by simp [execOp, Act.eval, e1, go_sem]) rfl
    · obtain rfl := Option.some.inj hi
      clear hi hlt
      intro a w1 hL hS hD
      have e5 : a.tmps.getD 5 undef = .int .i64 (i : Int) := (hS.slot 5 (by kernel_rfl)).trans s5
      refine step_yes rfl ?_
      exact ok_value Lat.refl (.int .i64 (i : Int)) (by simp [execOp, Act.eval, e5, go_sem]) rfl
    · obtain rfl := Option.some.inj hi
      clear hi hlt
      intro a w1 hL hS hD
      have d5 : a.tmps.getD 20 undef = .slice (some ⟨b2, off2, none⟩) k d := hD ⟨5, .data⟩ (by simp) rfl _ rfl
      have d6 : a.tmps.getD 21 undef = .int .i64 (i : Int) := hD ⟨6, .data⟩ (by simp) rfl _ rfl
      refine step_yes rfl ?_
      exact ok_value Lat.refl (.pointer (some ⟨b2, off2 + i * 2, none⟩)) (by simp [execOp, Act.eval, d5, d6, hik, hikN, go_sem]) rfl
    · obtain rfl := Option.some.inj hi
      clear hi hlt
      intro a w1 hL hS hD
      have d7 : a.tmps.getD 22 undef = .pointer (some ⟨b2, off2 + i * 2, none⟩) := hD ⟨7, .data⟩ (by simp) rfl _ rfl
      refine step_yes rfl ?_
      exact ok_value Lat.refl (.pointer (some ⟨b2, off2 + i * 2, none⟩)) (by simp [execOp, Act.eval, d7, go_sem]) rfl
    · obtain rfl := Option.some.inj hi
      clear hi hlt
      intro a w1 hL hS hD
      have d8 : a.tmps.getD 23 undef = .pointer (some ⟨b2, off2 + i * 2, none⟩) := hD ⟨8, .data⟩ (by simp) rfl _ rfl
      refine step_yes rfl ?_
      exact ok_value Lat.refl (.string yn) (by simp [execOp, Act.eval, d8, d0 w1 hL, go_sem]) rfl
    · obtain rfl := Option.some.inj hi
      clear hi hlt
      intro a w1 hL hS hD
      have d4 : a.tmps.getD 19 undef = .string xn := hD ⟨4, .data⟩ (by simp) rfl _ rfl
      have d9 : a.tmps.getD 24 undef = .string yn := hD ⟨9, .data⟩ (by simp) rfl _ rfl
      refine step_yes rfl ?_
      refine ok_call (f := 33) (args := #[.string xn, .string yn]) (by simp [execOp, resolve, Act.eval, d4, d9, go_sem]) ?_
      refine (cmpSP xn yn w1).mono ?_
      rintro e w' ⟨rfl, rfl⟩
      exact ⟨_, rfl, Lat.refl _, rfl⟩
    · obtain rfl := Option.some.inj hi
      clear hi hlt
      intro a w1 hL hS hD
      have e0 : a.tmps.getD 0 undef = .slice (some ⟨b, off, none⟩) n c := (hS.slot 0 (by kernel_rfl)).trans s0
      refine step_yes rfl ?_
      exact ok_value Lat.refl (.slice (some ⟨b, off, none⟩) n c) (by simp [execOp, Act.eval, e0, go_sem]) rfl
    · obtain rfl := Option.some.inj hi
      clear hi hlt
      intro a w1 hL hS hD
      have e5 : a.tmps.getD 5 undef = .int .i64 (i : Int) := (hS.slot 5 (by kernel_rfl)).trans s5
      refine step_yes rfl ?_
      exact ok_value Lat.refl (.int .i64 (i : Int)) (by simp [execOp, Act.eval, e5, go_sem]) rfl
    · obtain rfl := Option.some.inj hi
      clear hi hlt
      intro a w1 hL hS hD
      have d11 : a.tmps.getD 26 undef = .slice (some ⟨b, off, none⟩) n c := hD ⟨11, .data⟩ (by simp) rfl _ rfl
      have d12 : a.tmps.getD 27 undef = .int .i64 (i : Int) := hD ⟨12, .data⟩ (by simp) rfl _ rfl
      refine step_yes rfl ?_
      exact ok_value Lat.refl (.pointer (some ⟨b, off + i * 2, none⟩)) (by simp [execOp, Act.eval, d11, d12, hin, hinN, go_sem]) rfl
    · obtain rfl := Option.some.inj hi
      clear hi hlt
      intro a w1 hL hS hD
      have d13 : a.tmps.getD 28 undef = .pointer (some ⟨b, off + i * 2, none⟩) := hD ⟨13, .data⟩ (by simp) rfl _ rfl
      refine step_yes rfl ?_
      exact ok_value Lat.refl (.pointer (some ⟨b, off + i * 2 + 1, none⟩)) (by simp [execOp, Act.eval, d13, go_sem]) rfl
    · obtain rfl := Option.some.inj hi
      clear hi hlt
      intro a w1 hL hS hD
      have d14 : a.tmps.getD 29 undef = .pointer (some ⟨b, off + i * 2 + 1, none⟩) := hD ⟨14, .data⟩ (by simp) rfl _ rfl
      refine step_yes rfl ?_
      exact ok_value Lat.refl (.string xv) (by simp [execOp, Act.eval, d14, c1 w1 hL, go_sem]) rfl
    · obtain rfl := Option.some.inj hi
      clear hi hlt
      intro a w1 hL hS hD
      have e1 : a.tmps.getD 1 undef = .slice (some ⟨b2, off2, none⟩) k d := (hS.slot 1 (by kernel_rfl)).trans s1
      refine step_yes rfl ?_
      exact ok_value Lat.refl (.slice (some ⟨b2, off2, none⟩) k d) (by simp [execOp, Act.eval, e1, go_sem]) rfl
    · obtain rfl := Option.some.inj hi
      clear hi hlt
      intro a w1 hL hS hD
      have e5 : a.tmps.getD 5 undef = .int .i64 (i : Int) := (hS.slot 5 (by kernel_rfl)).trans s5
      refine step_yes rfl ?_
      exact ok_value Lat.refl (.int .i64 (i : Int)) (by simp [execOp, Act.eval, e5, go_sem]) rfl
    · obtain rfl := Option.some.inj hi
      clear hi hlt
      intro a w1 hL hS hD
      have d16 : a.tmps.getD 31 undef = .slice (some ⟨b2, off2, none⟩) k d := hD ⟨16, .data⟩ (by simp) rfl _ rfl
      have d17 : a.tmps.getD 32 undef = .int .i64 (i : Int) := hD ⟨17, .data⟩ (by simp) rfl _ rfl
      refine step_yes rfl ?_
      exact ok_value Lat.refl (.pointer (some ⟨b2, off2 + i * 2, none⟩)) (by simp [execOp, Act.eval, d16, d17, hik, hikN, go_sem]) rfl
    · obtain rfl := Option.some.inj hi
      clear hi hlt
      intro a w1 hL hS hD
      have d18 : a.tmps.getD 33 undef = .pointer (some ⟨b2, off2 + i * 2, none⟩) := hD ⟨18, .data⟩ (by simp) rfl _ rfl
      refine step_yes rfl ?_
      exact ok_value Lat.refl (.pointer (some ⟨b2, off2 + i * 2 + 1, none⟩)) (by simp [execOp, Act.eval, d18, go_sem]) rfl
    · obtain rfl := Option.some.inj hi
      clear hi hlt
      intro a w1 hL hS hD
      have d19 : a.tmps.getD 34 undef = .pointer (some ⟨b2, off2 + i * 2 + 1, none⟩) := hD ⟨19, .data⟩ (by simp) rfl _ rfl
      refine step_yes rfl ?_
      exact ok_value Lat.refl (.string yv) (by simp [execOp, Act.eval, d19, d1 w1 hL, go_sem]) rfl
    · obtain rfl := Option.some.inj hi
      clear hi hlt
      intro a w1 hL hS hD
      have d15 : a.tmps.getD 30 undef = .string xv := hD ⟨15, .data⟩ (by simp) rfl _ rfl
      have d20 : a.tmps.getD 35 undef = .string yv := hD ⟨20, .data⟩ (by simp) rfl _ rfl
      refine step_yes rfl ?_
      refine ok_call (f := 33) (args := #[.string xv, .string yv]) (by simp [execOp, resolve, Act.eval, d15, d20, go_sem]) ?_
      refine (cmpSP xv yv w1).mono ?_
      rintro e w' ⟨rfl, rfl⟩
      exact ⟨_, rfl, Lat.refl _, rfl⟩
    · obtain rfl := Option.some.inj hi
      clear hi hlt
      intro a w1 hL hS hD
      have d10 : a.tmps.getD 25 undef = .int .i64 (cmpS (bts xn) (bts yn)) := hD ⟨10, .data⟩ (by simp) rfl _ rfl
      have d21 : a.tmps.getD 36 undef = .int .i64 (cmpS (bts xv) (bts yv)) := hD ⟨21, .data⟩ (by simp) rfl _ rfl
      refine step_yes rfl ?_
      have hbs := build85 (cmpS (bts xn) (bts yn)) (cmpS (bts xv) (bts yv)) w1
      refine wp_val (.slice (some ⟨w1.heap.size, 0, none⟩) 2 2) (w' := w1.alloc (.cells #[.int .i64 (cmpS (bts xn) (bts yn)), .int .i64 (cmpS (bts xv) (bts yv))] 3)) (by simp only [Array.getD_eq_getD_getElem?] at d10 d21; simp [execOp, Act.eval, d10, d21, hbs, Result.andThen]) ?_
      exact ⟨_, rfl, (Below.refl _ _).alloc (Nat.le_refl _) _, ⟨w1.heap.size, rfl, Blk.new w1 3 _⟩⟩
    · obtain rfl := Option.some.inj hi
      clear hi hlt
      intro a w1 hL hS hD
      have d22 := hD ⟨22, .data⟩ (by simp) rfl _ rfl
      refine step_yes rfl ?_
      obtain ⟨g, dq, hB⟩ := d22
      have d37 : a.tmps.getD 37 undef = .slice (some ⟨g, 0, none⟩) 2 2 := dq
      refine ok_call (f := 32) (args := #[.slice (some ⟨g, 0, none⟩) 2 2]) (by simp [execOp, resolve, Act.eval, d37, go_sem]) ?_
      refine (orP g 2 (cmpS (bts xn) (bts yn)) (cmpS (bts xv) (bts yv)) w1 (hB.cell 0) (hB.cell 1)).mono ?_
      rintro e w' ⟨rfl, rfl⟩
      exact ⟨_, rfl, Lat.refl _, rfl⟩
    · obtain rfl := Option.some.inj hi
      clear hi hlt
      intro a w1 hL hS hD
      have d23 : a.tmps.getD 38 undef = .int .i64 (orV (cmpS (bts xn) (bts yn)) (cmpS (bts xv) (bts yv))) := hD ⟨23, .data⟩ (by simp) rfl _ rfl
      refine step_yes rfl ?_
      exact ok_value Lat.refl (.int .i64 (orV (cmpS (bts xn) (bts yn)) (cmpS (bts xv) (bts yv)))) (by simp [execOp, Act.eval, d23, go_sem]) rfl

end Go.Proofs.YtpdffdoogobhfaaDoor
