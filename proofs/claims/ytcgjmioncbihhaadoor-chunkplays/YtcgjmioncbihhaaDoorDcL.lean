/-
  ChunkPlays: a region that draws its order.
-/
import Derived.Test.YtcgjmioncbihhaaDoorDcJ
import Derived.Test.YtcgjmioncbihhaaDoorAnyO
namespace Go.Proofs.YtcgjmioncbihhaaDoor
open Go.RowKit
set_option linter.unusedVariables false
set_option linter.unusedSimpArgs false

theorem wp_callr {P : Program} {o : Oper} {a : Act} {w : World} {K : Act → World → Prop} {Q : Exit → Act → World → Prop} {f : FuncId} {args : Array Value} (h : (execOp a.eval o).run P w = .ok (.enter f args) w) (hc : Calls P f args w fun e w' => ∃ v, e = .returned v ∧ K (a.put o.dst v) w') : o.wp P a w K Q := by
  unfold Oper.wp
  rw [h]
  refine Calls.mono hc ?_
  rintro e w' ⟨v, rfl, hk⟩
  exact hk
theorem wp_valr {P : Program} {Q : Exit → Act → World → Prop} {K : Act → World → Prop} {o : Oper} {a : Act} {w w' : World} (v : Value) (h : (execOp a.eval o).run P w = .ok (.value v) w') (hk : K (a.put o.dst v) w') : o.wp P a w K Q := by
  unfold Oper.wp
  rw [h]
  exact hk
/-- A value that is there once things are so. -/
def EntI (I1 : World → Prop) (c : Value) : Ent (fun w w' => I1 w → I1 w') := ⟨fun v w => v = c ∧ I1 w, fun _ _ _ h hr => ⟨h.1, hr h.2⟩⟩

set_option maxRecDepth 100000 in
set_option maxHeartbeats 4000000 in
theorem plays_r14 (go g14 c x m v : Nat) (t : Int) (ff : Bool) (I0 I1 : World → Prop) (w : World) (a0 : Act) (Q : Exit → Act → World → Prop) (hsz : a0.tmps.size = 106)
    (s13 : a0.tmps.getD 13 undef = .pointer (some ⟨go, 0, none⟩))
    (s14 : a0.tmps.getD 14 undef = .pointer (some ⟨g14, 0, none⟩))
    (s15 : a0.tmps.getD 15 undef = .bool ff)
    (h0 : I0 { w with drawn := w.drawn + 1 })
    (hb : ∀ w1, I0 w1 ∨ I1 w1 → w1.cell? ⟨go, 0, none⟩ = some (.pointer (some ⟨c, 0, none⟩)) ∧ w1.cell? ⟨go, 1, none⟩ = some (.pointer (some ⟨x, 0, none⟩)) ∧ w1.cell? ⟨g14, 0, none⟩ = some (.int .i64 t) ∧ w1.cell? ⟨g14, 1, none⟩ = some (.int .u64 (v : Int)))
    (hA : ∀ w1, I0 w1 → Calls Tryd.prog 9 #[.pointer (some ⟨x, 0, none⟩), .int .i64 t, .int .u64 (v : Int)] w1 fun e w2 => e = .returned (.bool ff) ∧ I1 w2)
    (hlc : ∀ w1, I1 w1 → Calls Tryd.prog 10 #[.pointer (some ⟨c, 0, none⟩)] w1 fun e w2 => e = .returned (.int .i64 (m : Int)) ∧ w2 = w1)
    (hlx : ∀ w1, I1 w1 → Calls Tryd.prog 11 #[.pointer (some ⟨x, 0, none⟩)] w1 fun e w2 => e = .returned (.int .i64 (m : Int)) ∧ w2 = w1)
    (hQ : ∀ (v69 v70 v71 v72 v73 v74 v75 v76 v77 v78 v79 v80 v81 v82 v83 v84 v85 v86 : Value) (w2 : World), I1 w2 → v86 = .bool false → Q .normal ((((((((((((((((((a0.put (some 69) v69).put (some 70) v70).put (some 71) v71).put (some 72) v72).put (some 73) v73).put (some 74) v74).put (some 75) v75).put (some 76) v76).put (some 77) v77).put (some 78) v78).put (some 79) v79).put (some 80) v80).put (some 81) v81).put (some 82) v82).put (some 83) v83).put (some 84) v84).put (some 85) v85).put (some 86) v86) w2) :
    Code.wp Tryd.prog ((Tryd.f3.body.bind (findRegion 14)).getD .skip) Q a0 w := by
  conv => arg 2; whnf
  refine wp_region_oneW (TE [Ent.val (.bool ff), Ent.val (.pointer (some ⟨go, 1, none⟩)), Ent.val (.pointer (some ⟨x, 0, none⟩)), Ent.val (.pointer (some ⟨g14, 0, none⟩)), Ent.val (.int .i64 t), Ent.val (.pointer (some ⟨g14, 1, none⟩)), Ent.val (.int .u64 (v : Int)), EntI I1 (.bool ff), EntI I1 (.bool false), EntI I1 (.bool false), Ent.val (.pointer (some ⟨go, 0, none⟩)), Ent.val (.pointer (some ⟨c, 0, none⟩)), Ent.val (.int .i64 (m : Int)), Ent.val (.pointer (some ⟨go, 1, none⟩)), Ent.val (.pointer (some ⟨x, 0, none⟩)), Ent.val (.int .i64 (m : Int)), Ent.val (.bool false), Ent.val (.bool false)]) (fun w w' => I1 w → I1 w') I0 I1 7 (by kernel_rfl) (by kernel_rfl) (by kernel_rfl) (by rw [hsz]; kernel_rfl) (of_decide_eq_true (by kernel_rfl)) h0 (TE_stable _) ?hop ?hcA ?hdone
  case hdone =>
    intro a w1 hI hS hT
    have he := same_puts hS
    rw [he]
    exact hQ (a.tmps.getD 69 undef) (a.tmps.getD 70 undef) (a.tmps.getD 71 undef) (a.tmps.getD 72 undef) (a.tmps.getD 73 undef) (a.tmps.getD 74 undef) (a.tmps.getD 75 undef) (a.tmps.getD 76 undef) (a.tmps.getD 77 undef) (a.tmps.getD 78 undef) (a.tmps.getD 79 undef) (a.tmps.getD 80 undef) (a.tmps.getD 81 undef) (a.tmps.getD 82 undef) (a.tmps.getD 83 undef) (a.tmps.getD 84 undef) (a.tmps.getD 85 undef) (a.tmps.getD 86 undef) w1 hI (hT 17 _ rfl)
  case hcA =>
    intro o ho
    obtain rfl := Option.some.inj ho
    intro a w1 hI hS hD
    have d2 : a.tmps.getD 71 undef = .pointer (some ⟨x, 0, none⟩) := hD ⟨2, .data⟩ (by simp) rfl _ rfl
    have d4 : a.tmps.getD 73 undef = .int .i64 t := hD ⟨4, .data⟩ (by simp) rfl _ rfl
    have d6 : a.tmps.getD 75 undef = .int .u64 (v : Int) := hD ⟨6, .data⟩ (by simp) rfl _ rfl
    refine ⟨rfl, ?_⟩
    refine wp_callr (f := 9) (args := #[.pointer (some ⟨x, 0, none⟩), .int .i64 t, .int .u64 (v : Int)]) (by simp [execOp, resolve, Act.eval, d2, d4, d6, go_sem]) ?_
    refine (hA w1 hI).mono ?_
    rintro e w2 ⟨rfl, h2⟩
    exact ⟨_, rfl, _, rfl, h2, fun _ => h2, rfl, h2⟩
  case hop =>
    intro i o hi hnA
    have hlt : i < 18 := (Array.getElem?_eq_some_iff.1 hi).1
    rcases (show i = 0 ∨ i = 1 ∨ i = 2 ∨ i = 3 ∨ i = 4 ∨ i = 5 ∨ i = 6 ∨ i = 7 ∨ i = 8 ∨ i = 9 ∨ i = 10 ∨ i = 11 ∨ i = 12 ∨ i = 13 ∨ i = 14 ∨ i = 15 ∨ i = 16 ∨ i = 17 by omega) with rfl | rfl | rfl | rfl | rfl | rfl | rfl | rfl | rfl | rfl | rfl | rfl | rfl | rfl | rfl | rfl | rfl | rfl
    · obtain rfl := Option.some.inj hi
      clear hi hlt hnA
      intro a w1 hI hS hD
      have e15 : a.tmps.getD 15 undef = .bool ff := (hS.slot 15 (by kernel_rfl)).trans s15
      refine ⟨rfl, ?_⟩
      exact wp_valr (.bool ff) (by simp [execOp, Act.eval, e15, go_sem]) ⟨_, rfl, id, id, id, rfl⟩
    · obtain rfl := Option.some.inj hi
      clear hi hlt hnA
      intro a w1 hI hS hD
      have e13 : a.tmps.getD 13 undef = .pointer (some ⟨go, 0, none⟩) := (hS.slot 13 (by kernel_rfl)).trans s13
      refine ⟨rfl, ?_⟩
      exact wp_valr (.pointer (some ⟨go, 1, none⟩)) (by simp [execOp, Act.eval, e13, go_sem]) ⟨_, rfl, id, id, id, rfl⟩
    · obtain rfl := Option.some.inj hi
      clear hi hlt hnA
      intro a w1 hI hS hD
      have d1 : a.tmps.getD 70 undef = .pointer (some ⟨go, 1, none⟩) := hD ⟨1, .data⟩ (by simp) rfl _ rfl
      refine ⟨rfl, ?_⟩
      exact wp_valr (.pointer (some ⟨x, 0, none⟩)) (by simp [execOp, Act.eval, d1, (hb w1 hI).2.1, go_sem]) ⟨_, rfl, id, id, id, rfl⟩
    · obtain rfl := Option.some.inj hi
      clear hi hlt hnA
      intro a w1 hI hS hD
      have e14 : a.tmps.getD 14 undef = .pointer (some ⟨g14, 0, none⟩) := (hS.slot 14 (by kernel_rfl)).trans s14
      refine ⟨rfl, ?_⟩
      exact wp_valr (.pointer (some ⟨g14, 0, none⟩)) (by simp [execOp, Act.eval, e14, go_sem]) ⟨_, rfl, id, id, id, rfl⟩
    · obtain rfl := Option.some.inj hi
      clear hi hlt hnA
      intro a w1 hI hS hD
      have d3 : a.tmps.getD 72 undef = .pointer (some ⟨g14, 0, none⟩) := hD ⟨3, .data⟩ (by simp) rfl _ rfl
      refine ⟨rfl, ?_⟩
      exact wp_valr (.int .i64 t) (by simp [execOp, Act.eval, d3, (hb w1 hI).2.2.1, go_sem]) ⟨_, rfl, id, id, id, rfl⟩
    · obtain rfl := Option.some.inj hi
      clear hi hlt hnA
      intro a w1 hI hS hD
      have e14 : a.tmps.getD 14 undef = .pointer (some ⟨g14, 0, none⟩) := (hS.slot 14 (by kernel_rfl)).trans s14
      refine ⟨rfl, ?_⟩
      exact wp_valr (.pointer (some ⟨g14, 1, none⟩)) (by simp [execOp, Act.eval, e14, go_sem]) ⟨_, rfl, id, id, id, rfl⟩
    · obtain rfl := Option.some.inj hi
      clear hi hlt hnA
      intro a w1 hI hS hD
      have d5 : a.tmps.getD 74 undef = .pointer (some ⟨g14, 1, none⟩) := hD ⟨5, .data⟩ (by simp) rfl _ rfl
      refine ⟨rfl, ?_⟩
      exact wp_valr (.int .u64 (v : Int)) (by simp [execOp, Act.eval, d5, (hb w1 hI).2.2.2, go_sem]) ⟨_, rfl, id, id, id, rfl⟩
    · exact absurd rfl hnA
    · obtain rfl := Option.some.inj hi
      clear hi hlt hnA
      intro a w1 hI hS hD
      have d0 : a.tmps.getD 69 undef = .bool ff := hD ⟨0, .data⟩ (by simp) rfl _ rfl
      have D7 := hD ⟨7, .data⟩ (by simp) rfl _ rfl
      have d7 : a.tmps.getD 76 undef = .bool ff := D7.1
      refine ⟨rfl, ?_⟩
      exact wp_valr (.bool false) (by simp [execOp, Act.eval, d0, d7, go_sem]) ⟨_, rfl, id, id, id, ⟨rfl, D7.2⟩⟩
    · obtain rfl := Option.some.inj hi
      clear hi hlt hnA
      intro a w1 hI hS hD
      have D8 := hD ⟨8, .data⟩ (by simp) rfl _ rfl
      have d8 : a.tmps.getD 77 undef = .bool false := D8.1
      refine ⟨rfl, ?_⟩
      exact wp_valr (.bool false) (by simp [execOp, Act.eval, d8, go_sem]) ⟨_, rfl, id, id, id, ⟨rfl, D8.2⟩⟩
    · obtain rfl := Option.some.inj hi
      clear hi hlt hnA
      intro a w1 hI hS hD
      have D9 := hD ⟨9, .guard⟩ (by simp) rfl _ rfl
      have d9 : a.tmps.getD 78 undef = .bool false := D9.1
      have e13 : a.tmps.getD 13 undef = .pointer (some ⟨go, 0, none⟩) := (hS.slot 13 (by kernel_rfl)).trans s13
      refine ⟨(wanted_yes rfl rfl rfl d9), ?_⟩
      exact wp_valr (.pointer (some ⟨go, 0, none⟩)) (by simp [execOp, Act.eval, e13, go_sem]) ⟨_, rfl, id, id, id, rfl⟩
    · obtain rfl := Option.some.inj hi
      clear hi hlt hnA
      intro a w1 hI hS hD
      have D9 := hD ⟨9, .guard⟩ (by simp) rfl _ rfl
      have d9 : a.tmps.getD 78 undef = .bool false := D9.1
      have d10 : a.tmps.getD 79 undef = .pointer (some ⟨go, 0, none⟩) := hD ⟨10, .data⟩ (by simp) rfl _ rfl
      refine ⟨(wanted_yes rfl rfl rfl d9), ?_⟩
      exact wp_valr (.pointer (some ⟨c, 0, none⟩)) (by simp [execOp, Act.eval, d10, (hb w1 hI).1, go_sem]) ⟨_, rfl, id, id, id, rfl⟩
    · obtain rfl := Option.some.inj hi
      clear hi hlt hnA
      intro a w1 hI hS hD
      have D9 := hD ⟨9, .guard⟩ (by simp) rfl _ rfl
      have d9 : a.tmps.getD 78 undef = .bool false := D9.1
      have d11 : a.tmps.getD 80 undef = .pointer (some ⟨c, 0, none⟩) := hD ⟨11, .data⟩ (by simp) rfl _ rfl
      refine ⟨(wanted_yes rfl rfl rfl d9), ?_⟩
      refine wp_callr (f := 10) (args := #[.pointer (some ⟨c, 0, none⟩)]) (by simp [execOp, resolve, Act.eval, d11, go_sem]) ?_
      refine (hlc w1 D9.2).mono ?_
      rintro e w2 ⟨rfl, rfl⟩
      exact ⟨_, rfl, _, rfl, id, id, id, rfl⟩
    · obtain rfl := Option.some.inj hi
      clear hi hlt hnA
      intro a w1 hI hS hD
      have D9 := hD ⟨9, .guard⟩ (by simp) rfl _ rfl
      have d9 : a.tmps.getD 78 undef = .bool false := D9.1
      have e13 : a.tmps.getD 13 undef = .pointer (some ⟨go, 0, none⟩) := (hS.slot 13 (by kernel_rfl)).trans s13
      refine ⟨(wanted_yes rfl rfl rfl d9), ?_⟩
      exact wp_valr (.pointer (some ⟨go, 1, none⟩)) (by simp [execOp, Act.eval, e13, go_sem]) ⟨_, rfl, id, id, id, rfl⟩
    · obtain rfl := Option.some.inj hi
      clear hi hlt hnA
      intro a w1 hI hS hD
      have D9 := hD ⟨9, .guard⟩ (by simp) rfl _ rfl
      have d9 : a.tmps.getD 78 undef = .bool false := D9.1
      have d13 : a.tmps.getD 82 undef = .pointer (some ⟨go, 1, none⟩) := hD ⟨13, .data⟩ (by simp) rfl _ rfl
      refine ⟨(wanted_yes rfl rfl rfl d9), ?_⟩
      exact wp_valr (.pointer (some ⟨x, 0, none⟩)) (by simp [execOp, Act.eval, d13, (hb w1 hI).2.1, go_sem]) ⟨_, rfl, id, id, id, rfl⟩
    · obtain rfl := Option.some.inj hi
      clear hi hlt hnA
      intro a w1 hI hS hD
      have D9 := hD ⟨9, .guard⟩ (by simp) rfl _ rfl
      have d9 : a.tmps.getD 78 undef = .bool false := D9.1
      have d14 : a.tmps.getD 83 undef = .pointer (some ⟨x, 0, none⟩) := hD ⟨14, .data⟩ (by simp) rfl _ rfl
      refine ⟨(wanted_yes rfl rfl rfl d9), ?_⟩
      refine wp_callr (f := 11) (args := #[.pointer (some ⟨x, 0, none⟩)]) (by simp [execOp, resolve, Act.eval, d14, go_sem]) ?_
      refine (hlx w1 D9.2).mono ?_
      rintro e w2 ⟨rfl, rfl⟩
      exact ⟨_, rfl, _, rfl, id, id, id, rfl⟩
    · obtain rfl := Option.some.inj hi
      clear hi hlt hnA
      intro a w1 hI hS hD
      have D9 := hD ⟨9, .guard⟩ (by simp) rfl _ rfl
      have d9 : a.tmps.getD 78 undef = .bool false := D9.1
      have d12 : a.tmps.getD 81 undef = .int .i64 (m : Int) := hD ⟨12, .data⟩ (by simp) rfl _ rfl
      have d15 : a.tmps.getD 84 undef = .int .i64 (m : Int) := hD ⟨15, .data⟩ (by simp) rfl _ rfl
      refine ⟨(wanted_yes rfl rfl rfl d9), ?_⟩
      exact wp_valr (.bool false) (by simp [execOp, Act.eval, d12, d15, go_sem]) ⟨_, rfl, id, id, id, rfl⟩
    · obtain rfl := Option.some.inj hi
      clear hi hlt hnA
      intro a w1 hI hS hD
      have D9 := hD ⟨9, .data⟩ (by simp) rfl _ rfl
      have d9 : a.tmps.getD 78 undef = .bool false := D9.1
      have d16 : a.tmps.getD 85 undef = .bool false := hD ⟨16, .data⟩ (by simp) rfl _ rfl
      refine ⟨rfl, ?_⟩
      exact wp_valr (.bool false) (by simp [execOp, Act.eval, d9, d16, go_sem]) ⟨_, rfl, id, id, id, rfl⟩

end Go.Proofs.YtcgjmioncbihhaaDoor
