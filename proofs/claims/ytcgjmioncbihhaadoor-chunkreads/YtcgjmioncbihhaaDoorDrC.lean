/-
  The document's own reader: d's region that draws its order.
-/
import Derived.Test.YtcgjmioncbihhaaDoorDrB
import Derived.Test.YtcgjmioncbihhaaDoorAnyO
namespace Go.Proofs.YtcgjmioncbihhaaDoor
open Go.RowKit
set_option linter.unusedVariables false
set_option linter.unusedSimpArgs false

theorem wp_callr {P : Program} {o : Oper} {a : Act} {w : World} {K : Act → World → Prop} {Q : Exit → Act → World → Prop} {f : FuncId} {args : Array Value} (h : (execOp a.eval o).run P w = .ok (.enter f args) w) (hc : Calls P f args w fun e w' => ∃ v, e = .returned v ∧ K (a.put o.dst v) w') : o.wp P a w K Q := by
  unfold Oper.wp
  rw [h]
  refine Calls.mono hc ?_
  rintro e w' ⟨v, rfl, hk⟩
  exact hk
theorem wp_valr {P : Program} {Q : Exit → Act → World → Prop} {K : Act → World → Prop} {o : Oper} {a : Act} {w w' : World} (v : Value) (h : (execOp a.eval o).run P w = .ok (.value v) w') (hk : K (a.put o.dst v) w') : o.wp P a w K Q := by
  unfold Oper.wp
  rw [h]
  exact hk

set_option maxRecDepth 100000 in
set_option maxHeartbeats 4000000 in
theorem d_r9 (r gn kk wd v : Nat) (dd : Int) (I0 I1 : World → Prop) (w : World) (a0 : Act) (Q : Exit → Act → World → Prop) (hsz : a0.tmps.size = 30)
    (s0 : a0.tmps.getD 0 undef = .pointer (some ⟨r, 0, none⟩))
    (s3 : a0.tmps.getD 3 undef = .slice (some ⟨gn, 0, none⟩) 4 4)
    (s4 : a0.tmps.getD 4 undef = .int .i64 ((kk : Int) + 1))
    (hw : IntKind.i64.wrap (kk : Int) = (kk : Int)) (hj1 : (kk : Int) < 4) (hj2 : (0 : Int) ≤ (kk : Int))
    (h0 : I0 { w with drawn := w.drawn + 1 })
    (hb : ∀ w1, I0 w1 ∨ I1 w1 → w1.cell? ⟨gn, kk, none⟩ = some (.int .i64 (wd : Int)))
    (hA : ∀ w1, I0 w1 → Calls Tryd.prog 28 #[.pointer (some ⟨r, 0, none⟩), .int .i64 (wd : Int)] w1 fun e w2 => e = .returned (.int .u64 (v : Int)) ∧ I1 w2)
    (hsg : ∀ w1, Calls Tryd.prog 46 #[.int .u64 (v : Int), .int .i64 (wd : Int)] w1 fun e w2 => e = .returned (.int .i64 dd) ∧ w2 = w1)
    (hQ : ∀ (v17 v18 v19 v20 v21 v22 v23 v24 v25 v26 v27 v28 v29 v2 : Value) (w2 : World), I1 w2 → v2 = .int .i64 dd → Q .normal ((((((((((((((a0.put (some 17) v17).put (some 18) v18).put (some 19) v19).put (some 20) v20).put (some 21) v21).put (some 22) v22).put (some 23) v23).put (some 24) v24).put (some 25) v25).put (some 26) v26).put (some 27) v27).put (some 28) v28).put (some 29) v29).put (some 2) v2) w2) :
    Code.wp Tryd.prog ((Tryd.f29.body.bind (findRegion 9)).getD .skip) Q a0 w := by
  conv => arg 2; whnf
  refine wp_region_oneW (TE [Ent.val (.pointer (some ⟨r, 0, none⟩)), Ent.val (.slice (some ⟨gn, 0, none⟩) 4 4), Ent.val (.int .i64 ((kk : Int) + 1)), Ent.val (.int .i64 (kk : Int)), Ent.val (.pointer (some ⟨gn, kk, none⟩)), Ent.val (.int .i64 (wd : Int)), Ent.val (.int .u64 (v : Int)), Ent.val (.slice (some ⟨gn, 0, none⟩) 4 4), Ent.val (.int .i64 ((kk : Int) + 1)), Ent.val (.int .i64 (kk : Int)), Ent.val (.pointer (some ⟨gn, kk, none⟩)), Ent.val (.int .i64 (wd : Int)), Ent.val (.int .i64 dd), Ent.val (.int .i64 dd)]) (fun w w' => I1 w → I1 w') I0 I1 6 (by kernel_rfl) (by kernel_rfl) (by kernel_rfl) (by rw [hsz]; kernel_rfl) (of_decide_eq_true (by kernel_rfl)) h0 (TE_stable _) ?hop ?hcA ?hdone
  case hdone =>
    intro a w1 hI hS hT
    have he := same_puts hS
    rw [he]
    exact hQ (a.tmps.getD 17 undef) (a.tmps.getD 18 undef) (a.tmps.getD 19 undef) (a.tmps.getD 20 undef) (a.tmps.getD 21 undef) (a.tmps.getD 22 undef) (a.tmps.getD 23 undef) (a.tmps.getD 24 undef) (a.tmps.getD 25 undef) (a.tmps.getD 26 undef) (a.tmps.getD 27 undef) (a.tmps.getD 28 undef) (a.tmps.getD 29 undef) (a.tmps.getD 2 undef) w1 hI (hT 13 _ rfl)
  case hcA =>
    intro o ho
    obtain rfl := Option.some.inj ho
    intro a w1 hI hS hD
    have d0 : a.tmps.getD 17 undef = .pointer (some ⟨r, 0, none⟩) := hD ⟨0, .data⟩ (by simp) rfl _ rfl
    have d5 : a.tmps.getD 22 undef = .int .i64 (wd : Int) := hD ⟨5, .data⟩ (by simp) rfl _ rfl
    refine ⟨rfl, ?_⟩
    refine wp_callr (f := 28) (args := #[.pointer (some ⟨r, 0, none⟩), .int .i64 (wd : Int)]) (by simp [execOp, resolve, Act.eval, d0, d5, go_sem]) ?_
    refine (hA w1 hI).mono ?_
    rintro e w2 ⟨rfl, h2⟩
    exact ⟨_, rfl, _, rfl, h2, fun _ => h2, rfl⟩
  case hop =>
    intro i o hi hnA
    have hlt : i < 14 := (Array.getElem?_eq_some_iff.1 hi).1
    rcases (show i = 0 ∨ i = 1 ∨ i = 2 ∨ i = 3 ∨ i = 4 ∨ i = 5 ∨ i = 6 ∨ i = 7 ∨ i = 8 ∨ i = 9 ∨ i = 10 ∨ i = 11 ∨ i = 12 ∨ i = 13 by omega) with rfl | rfl | rfl | rfl | rfl | rfl | rfl | rfl | rfl | rfl | rfl | rfl | rfl | rfl
    · obtain rfl := Option.some.inj hi
      clear hi hlt hnA
      intro a w1 hI hS hD
      have e0 : a.tmps.getD 0 undef = .pointer (some ⟨r, 0, none⟩) := (hS.slot 0 (by kernel_rfl)).trans s0
      refine ⟨rfl, ?_⟩
      exact wp_valr (.pointer (some ⟨r, 0, none⟩)) (by simp [execOp, Act.eval, e0, go_sem]) ⟨_, rfl, id, id, id, rfl⟩
    · obtain rfl := Option.some.inj hi
      clear hi hlt hnA
      intro a w1 hI hS hD
      have e3 : a.tmps.getD 3 undef = .slice (some ⟨gn, 0, none⟩) 4 4 := (hS.slot 3 (by kernel_rfl)).trans s3
      refine ⟨rfl, ?_⟩
      exact wp_valr (.slice (some ⟨gn, 0, none⟩) 4 4) (by simp [execOp, Act.eval, e3, go_sem]) ⟨_, rfl, id, id, id, rfl⟩
    · obtain rfl := Option.some.inj hi
      clear hi hlt hnA
      intro a w1 hI hS hD
      have e4 : a.tmps.getD 4 undef = .int .i64 ((kk : Int) + 1) := (hS.slot 4 (by kernel_rfl)).trans s4
      refine ⟨rfl, ?_⟩
      exact wp_valr (.int .i64 ((kk : Int) + 1)) (by simp [execOp, Act.eval, e4, go_sem]) ⟨_, rfl, id, id, id, rfl⟩
    · obtain rfl := Option.some.inj hi
      clear hi hlt hnA
      intro a w1 hI hS hD
      have d2 : a.tmps.getD 19 undef = .int .i64 ((kk : Int) + 1) := hD ⟨2, .data⟩ (by simp) rfl _ rfl
      refine ⟨rfl, ?_⟩
      exact wp_valr (.int .i64 (kk : Int)) (by simp [execOp, Act.eval, d2, hw, go_sem]) ⟨_, rfl, id, id, id, rfl⟩
    · obtain rfl := Option.some.inj hi
      clear hi hlt hnA
      intro a w1 hI hS hD
      have d1 : a.tmps.getD 18 undef = .slice (some ⟨gn, 0, none⟩) 4 4 := hD ⟨1, .data⟩ (by simp) rfl _ rfl
      have d3 : a.tmps.getD 20 undef = .int .i64 (kk : Int) := hD ⟨3, .data⟩ (by simp) rfl _ rfl
      refine ⟨rfl, ?_⟩
      exact wp_valr (.pointer (some ⟨gn, kk, none⟩)) (by simp [execOp, Act.eval, d1, d3, hj1, hj2, go_sem]) ⟨_, rfl, id, id, id, rfl⟩
    · obtain rfl := Option.some.inj hi
      clear hi hlt hnA
      intro a w1 hI hS hD
      have d4 : a.tmps.getD 21 undef = .pointer (some ⟨gn, kk, none⟩) := hD ⟨4, .data⟩ (by simp) rfl _ rfl
      refine ⟨rfl, ?_⟩
      exact wp_valr (.int .i64 (wd : Int)) (by simp [execOp, Act.eval, d4, (hb w1 hI), go_sem]) ⟨_, rfl, id, id, id, rfl⟩
    · exact absurd rfl hnA
    · obtain rfl := Option.some.inj hi
      clear hi hlt hnA
      intro a w1 hI hS hD
      have e3 : a.tmps.getD 3 undef = .slice (some ⟨gn, 0, none⟩) 4 4 := (hS.slot 3 (by kernel_rfl)).trans s3
      refine ⟨rfl, ?_⟩
      exact wp_valr (.slice (some ⟨gn, 0, none⟩) 4 4) (by simp [execOp, Act.eval, e3, go_sem]) ⟨_, rfl, id, id, id, rfl⟩
    · obtain rfl := Option.some.inj hi
      clear hi hlt hnA
      intro a w1 hI hS hD
      have e4 : a.tmps.getD 4 undef = .int .i64 ((kk : Int) + 1) := (hS.slot 4 (by kernel_rfl)).trans s4
      refine ⟨rfl, ?_⟩
      exact wp_valr (.int .i64 ((kk : Int) + 1)) (by simp [execOp, Act.eval, e4, go_sem]) ⟨_, rfl, id, id, id, rfl⟩
    · obtain rfl := Option.some.inj hi
      clear hi hlt hnA
      intro a w1 hI hS hD
      have d8 : a.tmps.getD 25 undef = .int .i64 ((kk : Int) + 1) := hD ⟨8, .data⟩ (by simp) rfl _ rfl
      refine ⟨rfl, ?_⟩
      exact wp_valr (.int .i64 (kk : Int)) (by simp [execOp, Act.eval, d8, hw, go_sem]) ⟨_, rfl, id, id, id, rfl⟩
    · obtain rfl := Option.some.inj hi
      clear hi hlt hnA
      intro a w1 hI hS hD
      have d7 : a.tmps.getD 24 undef = .slice (some ⟨gn, 0, none⟩) 4 4 := hD ⟨7, .data⟩ (by simp) rfl _ rfl
      have d9 : a.tmps.getD 26 undef = .int .i64 (kk : Int) := hD ⟨9, .data⟩ (by simp) rfl _ rfl
      refine ⟨rfl, ?_⟩
      exact wp_valr (.pointer (some ⟨gn, kk, none⟩)) (by simp [execOp, Act.eval, d7, d9, hj1, hj2, go_sem]) ⟨_, rfl, id, id, id, rfl⟩
    · obtain rfl := Option.some.inj hi
      clear hi hlt hnA
      intro a w1 hI hS hD
      have d10 : a.tmps.getD 27 undef = .pointer (some ⟨gn, kk, none⟩) := hD ⟨10, .data⟩ (by simp) rfl _ rfl
      refine ⟨rfl, ?_⟩
      exact wp_valr (.int .i64 (wd : Int)) (by simp [execOp, Act.eval, d10, (hb w1 hI), go_sem]) ⟨_, rfl, id, id, id, rfl⟩
    · obtain rfl := Option.some.inj hi
      clear hi hlt hnA
      intro a w1 hI hS hD
      have d6 : a.tmps.getD 23 undef = .int .u64 (v : Int) := hD ⟨6, .data⟩ (by simp) rfl _ rfl
      have d11 : a.tmps.getD 28 undef = .int .i64 (wd : Int) := hD ⟨11, .data⟩ (by simp) rfl _ rfl
      refine ⟨rfl, ?_⟩
      refine wp_callr (f := 46) (args := #[.int .u64 (v : Int), .int .i64 (wd : Int)]) (by simp [execOp, resolve, Act.eval, d6, d11, go_sem]) ?_
      refine (hsg w1).mono ?_
      rintro e w2 ⟨rfl, rfl⟩
      exact ⟨_, rfl, _, rfl, id, id, id, rfl⟩
    · obtain rfl := Option.some.inj hi
      clear hi hlt hnA
      intro a w1 hI hS hD
      have d12 : a.tmps.getD 29 undef = .int .i64 dd := hD ⟨12, .data⟩ (by simp) rfl _ rfl
      refine ⟨rfl, ?_⟩
      exact wp_valr (.int .i64 dd) (by simp [execOp, Act.eval, d12, go_sem]) ⟨_, rfl, id, id, id, rfl⟩

end Go.Proofs.YtcgjmioncbihhaaDoor
