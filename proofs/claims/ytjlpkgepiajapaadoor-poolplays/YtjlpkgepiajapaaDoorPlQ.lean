/-
  PoolShares: two regions that draw their order.
-/
import Derived.Test.YtjlpkgepiajapaaDoorPlN
import Derived.Test.YtjlpkgepiajapaaDoorAnyB
import Derived.Test.YtjlpkgepiajapaaDoorAnyM
import Derived.Test.YtjlpkgepiajapaaDoorAnyO
namespace Go.Proofs.YtjlpkgepiajapaaDoor
open Go.RowKit
set_option linter.unusedVariables false
set_option linter.unusedSimpArgs false

theorem wp_callr {P : Program} {o : Oper} {a : Act} {w : World} {K : Act → World → Prop} {Q : Exit → Act → World → Prop} {f : FuncId} {args : Array Value} (h : (execOp a.eval o).run P w = .ok (.enter f args) w) (hc : Calls P f args w fun e w' => ∃ v, e = .returned v ∧ K (a.put o.dst v) w') : o.wp P a w K Q := by
  unfold Oper.wp
  rw [h]
  refine Calls.mono hc ?_
  rintro e w' ⟨v, rfl, hk⟩
  exact hk
theorem wp_valr {P : Program} {Q : Exit → Act → World → Prop} {K : Act → World → Prop} {o : Oper} {a : Act} {w w' : World} (v : Value) (h : (execOp a.eval o).run P w = .ok (.value v) w') (hk : K (a.put o.dst v) w') : o.wp P a w K Q := by
  unfold Oper.wp
  rw [h]
  exact hk
/-- A value that is there once things are so. -/
def EntI (I1 : World → Prop) (c : Value) : Ent (fun w w' => I1 w → I1 w') := ⟨fun v w => v = c ∧ I1 w, fun _ _ _ h hr => ⟨h.1, hr h.2⟩⟩
/-- A slice of a length. -/
def EntS (L : Nat) : Ent Lat := ⟨fun v _ => ∃ ad c, v = .slice ad L c, fun _ _ _ h _ => h⟩

set_option maxRecDepth 100000 in
set_option maxHeartbeats 4000000 in
theorem sh_r39 (p ob hb k L c : Nat) (ad : Option Addr) (s : ByteArray) (I0 I1 : World → Prop) (w : World) (a0 : Act) (Q : Exit → Act → World → Prop) (hsz : a0.tmps.size = 355)
    (s7 : a0.tmps.getD 7 undef = .pointer (some ⟨p, 0, none⟩))
    (s9 : a0.tmps.getD 9 undef = .slice (some ⟨ob, 0, none⟩) 3 3)
    (s14 : a0.tmps.getD 14 undef = .int .i64 (k : Int))
    (s10 : a0.tmps.getD 10 undef = .slice (some ⟨hb, 0, none⟩) 3 3)
    (h0 : I0 { w with drawn := w.drawn + 1 })
    (hk3 : (k : Int) < 3) (hk0 : ¬ (k : Int) < 0)
    (hb0 : ∀ w1, I0 w1 ∨ I1 w1 → w1.cell? ⟨ob, k, none⟩ = some (.string s) ∧ w1.cell? ⟨hb, k, none⟩ = some (.slice ad L c))
    (hA : ∀ w1, I0 w1 → Calls Tryd.prog 15 #[.pointer (some ⟨p, 0, none⟩), .string s] w1 fun e w2 => e = .returned (.int .i64 (L : Int)) ∧ I1 w2)
    (hQ : ∀ (v234 v235 v236 v237 v238 v239 v240 v241 v242 v243 v244 v245 : Value) (w2 : World), I1 w2 → v245 = .bool false → Q .normal ((((((((((((a0.put (some 234) v234).put (some 235) v235).put (some 236) v236).put (some 237) v237).put (some 238) v238).put (some 239) v239).put (some 240) v240).put (some 241) v241).put (some 242) v242).put (some 243) v243).put (some 244) v244).put (some 245) v245) w2) :
    Code.wp Tryd.prog ((Tryd.f4.body.bind (findRegion 39)).getD .skip) Q a0 w := by
  conv => arg 2; whnf
  refine wp_region_oneW (TE [Ent.val (.pointer (some ⟨p, 0, none⟩)), Ent.val (.slice (some ⟨ob, 0, none⟩) 3 3), Ent.val (.int .i64 (k : Int)), Ent.val (.pointer (some ⟨ob, k, none⟩)), Ent.val (.string s), Ent.val (.int .i64 (L : Int)), Ent.val (.slice (some ⟨hb, 0, none⟩) 3 3), Ent.val (.int .i64 (k : Int)), Ent.val (.pointer (some ⟨hb, k, none⟩)), Ent.val (.slice ad L c), Ent.val (.int .i64 (L : Int)), Ent.val (.bool false)]) (fun w w' => I1 w → I1 w') I0 I1 5 (by kernel_rfl) (by kernel_rfl) (by kernel_rfl) (by rw [hsz]; kernel_rfl) (of_decide_eq_true (by kernel_rfl)) h0 (TE_stable _) ?hop ?hcA ?hdone
  case hdone =>
    intro a w1 hI hS hT
    have he := same_puts hS
    rw [he]
    exact hQ (a.tmps.getD 234 undef) (a.tmps.getD 235 undef) (a.tmps.getD 236 undef) (a.tmps.getD 237 undef) (a.tmps.getD 238 undef) (a.tmps.getD 239 undef) (a.tmps.getD 240 undef) (a.tmps.getD 241 undef) (a.tmps.getD 242 undef) (a.tmps.getD 243 undef) (a.tmps.getD 244 undef) (a.tmps.getD 245 undef) w1 hI (hT 11 _ rfl)
  case hcA =>
    intro o ho
    obtain rfl := Option.some.inj ho
    intro a w1 hI hS hD
    have d0 : a.tmps.getD 234 undef = .pointer (some ⟨p, 0, none⟩) := hD ⟨0, .data⟩ (by simp) rfl _ rfl
    have d4 : a.tmps.getD 238 undef = .string s := hD ⟨4, .data⟩ (by simp) rfl _ rfl
    refine ⟨rfl, ?_⟩
    refine wp_callr (f := 15) (args := #[.pointer (some ⟨p, 0, none⟩), .string s]) (by simp [execOp, resolve, Act.eval, d0, d4, go_sem]) ?_
    refine (hA w1 hI).mono ?_
    rintro e w2 ⟨rfl, h2⟩
    exact ⟨_, rfl, _, rfl, h2, fun _ => h2, rfl⟩
  case hop =>
    intro i o hi hnA
    have hlt : i < 12 := (Array.getElem?_eq_some_iff.1 hi).1
    rcases (show i = 0 ∨ i = 1 ∨ i = 2 ∨ i = 3 ∨ i = 4 ∨ i = 5 ∨ i = 6 ∨ i = 7 ∨ i = 8 ∨ i = 9 ∨ i = 10 ∨ i = 11 by omega) with rfl | rfl | rfl | rfl | rfl | rfl | rfl | rfl | rfl | rfl | rfl | rfl
    · obtain rfl := Option.some.inj hi
      clear hi hlt hnA
      intro a w1 hI hS hD
      have e7 : a.tmps.getD 7 undef = .pointer (some ⟨p, 0, none⟩) := (hS.slot 7 (by kernel_rfl)).trans s7
      refine ⟨rfl, ?_⟩
      exact wp_valr (.pointer (some ⟨p, 0, none⟩)) (by simp [execOp, resolve, invoke, builtin, Act.eval, e7, go_sem]) ⟨_, rfl, id, id, id, rfl⟩
    · obtain rfl := Option.some.inj hi
      clear hi hlt hnA
      intro a w1 hI hS hD
      have e9 : a.tmps.getD 9 undef = .slice (some ⟨ob, 0, none⟩) 3 3 := (hS.slot 9 (by kernel_rfl)).trans s9
      refine ⟨rfl, ?_⟩
      exact wp_valr (.slice (some ⟨ob, 0, none⟩) 3 3) (by simp [execOp, resolve, invoke, builtin, Act.eval, e9, go_sem]) ⟨_, rfl, id, id, id, rfl⟩
    · obtain rfl := Option.some.inj hi
      clear hi hlt hnA
      intro a w1 hI hS hD
      have e14 : a.tmps.getD 14 undef = .int .i64 (k : Int) := (hS.slot 14 (by kernel_rfl)).trans s14
      refine ⟨rfl, ?_⟩
      exact wp_valr (.int .i64 (k : Int)) (by simp [execOp, resolve, invoke, builtin, Act.eval, e14, go_sem]) ⟨_, rfl, id, id, id, rfl⟩
    · obtain rfl := Option.some.inj hi
      clear hi hlt hnA
      intro a w1 hI hS hD
      have d1 : a.tmps.getD 235 undef = .slice (some ⟨ob, 0, none⟩) 3 3 := hD ⟨1, .data⟩ (by simp) rfl _ rfl
      have d2 : a.tmps.getD 236 undef = .int .i64 (k : Int) := hD ⟨2, .data⟩ (by simp) rfl _ rfl
      refine ⟨rfl, ?_⟩
      exact wp_valr (.pointer (some ⟨ob, k, none⟩)) (by simp [execOp, resolve, invoke, builtin, Act.eval, d1, d2, hk3, hk0, go_sem]) ⟨_, rfl, id, id, id, rfl⟩
    · obtain rfl := Option.some.inj hi
      clear hi hlt hnA
      intro a w1 hI hS hD
      have d3 : a.tmps.getD 237 undef = .pointer (some ⟨ob, k, none⟩) := hD ⟨3, .data⟩ (by simp) rfl _ rfl
      refine ⟨rfl, ?_⟩
      exact wp_valr (.string s) (by simp [execOp, resolve, invoke, builtin, Act.eval, d3, (hb0 w1 hI).1, go_sem]) ⟨_, rfl, id, id, id, rfl⟩
    · exact absurd rfl hnA
    · obtain rfl := Option.some.inj hi
      clear hi hlt hnA
      intro a w1 hI hS hD
      have e10 : a.tmps.getD 10 undef = .slice (some ⟨hb, 0, none⟩) 3 3 := (hS.slot 10 (by kernel_rfl)).trans s10
      refine ⟨rfl, ?_⟩
      exact wp_valr (.slice (some ⟨hb, 0, none⟩) 3 3) (by simp [execOp, resolve, invoke, builtin, Act.eval, e10, go_sem]) ⟨_, rfl, id, id, id, rfl⟩
    · obtain rfl := Option.some.inj hi
      clear hi hlt hnA
      intro a w1 hI hS hD
      have e14 : a.tmps.getD 14 undef = .int .i64 (k : Int) := (hS.slot 14 (by kernel_rfl)).trans s14
      refine ⟨rfl, ?_⟩
      exact wp_valr (.int .i64 (k : Int)) (by simp [execOp, resolve, invoke, builtin, Act.eval, e14, go_sem]) ⟨_, rfl, id, id, id, rfl⟩
    · obtain rfl := Option.some.inj hi
      clear hi hlt hnA
      intro a w1 hI hS hD
      have d6 : a.tmps.getD 240 undef = .slice (some ⟨hb, 0, none⟩) 3 3 := hD ⟨6, .data⟩ (by simp) rfl _ rfl
      have d7 : a.tmps.getD 241 undef = .int .i64 (k : Int) := hD ⟨7, .data⟩ (by simp) rfl _ rfl
      refine ⟨rfl, ?_⟩
      exact wp_valr (.pointer (some ⟨hb, k, none⟩)) (by simp [execOp, resolve, invoke, builtin, Act.eval, d6, d7, hk3, hk0, go_sem]) ⟨_, rfl, id, id, id, rfl⟩
    · obtain rfl := Option.some.inj hi
      clear hi hlt hnA
      intro a w1 hI hS hD
      have d8 : a.tmps.getD 242 undef = .pointer (some ⟨hb, k, none⟩) := hD ⟨8, .data⟩ (by simp) rfl _ rfl
      refine ⟨rfl, ?_⟩
      exact wp_valr (.slice ad L c) (by simp [execOp, resolve, invoke, builtin, Act.eval, d8, (hb0 w1 hI).2, go_sem]) ⟨_, rfl, id, id, id, rfl⟩
    · obtain rfl := Option.some.inj hi
      clear hi hlt hnA
      intro a w1 hI hS hD
      have d9 : a.tmps.getD 243 undef = .slice ad L c := hD ⟨9, .data⟩ (by simp) rfl _ rfl
      refine ⟨rfl, ?_⟩
      exact wp_valr (.int .i64 (L : Int)) (by simp [execOp, resolve, invoke, builtin, Act.eval, d9, go_sem]) ⟨_, rfl, id, id, id, rfl⟩
    · obtain rfl := Option.some.inj hi
      clear hi hlt hnA
      intro a w1 hI hS hD
      have d5 : a.tmps.getD 239 undef = .int .i64 (L : Int) := hD ⟨5, .data⟩ (by simp) rfl _ rfl
      have d10 : a.tmps.getD 244 undef = .int .i64 (L : Int) := hD ⟨10, .data⟩ (by simp) rfl _ rfl
      refine ⟨rfl, ?_⟩
      exact wp_valr (.bool false) (by simp [execOp, resolve, invoke, builtin, Act.eval, d5, d10, go_sem]) ⟨_, rfl, id, id, id, rfl⟩

set_option maxRecDepth 100000 in
set_option maxHeartbeats 2000000 in
theorem sh_r46 (p ob hb k L c : Nat) (ad : Option Addr) (s : ByteArray) (w : World) (a0 : Act) (Q : Exit → Act → World → Prop) (hsz : a0.tmps.size = 355)
    (s7 : a0.tmps.getD 7 undef = .pointer (some ⟨p, 0, none⟩))
    (s9 : a0.tmps.getD 9 undef = .slice (some ⟨ob, 0, none⟩) 3 3)
    (s10 : a0.tmps.getD 10 undef = .slice (some ⟨hb, 0, none⟩) 3 3)
    (s23 : a0.tmps.getD 23 undef = .int .i64 (k : Int))
    (hk3 : (k : Int) < 3) (hk0 : ¬ (k : Int) < 0)
    (hob : ∀ w1, Lat w w1 → w1.cell? ⟨ob, k, none⟩ = some (.string s))
    (hhb : ∀ w1, Lat w w1 → w1.cell? ⟨hb, k, none⟩ = some (.slice ad L c))
    (hu : ∀ wx, Lat w wx → Calls Tryd.prog 16 #[.pointer (some ⟨p, 0, none⟩), .string s] wx fun e w' => e = .returned (.int .i64 (L : Int)) ∧ Lat wx w')
    (hs : ∀ wx, Lat w wx → Calls Tryd.prog 17 #[.pointer (some ⟨p, 0, none⟩), .string s] wx fun e w' => ∃ ad c', e = .returned (.slice ad L c') ∧ Lat wx w')
    (hQ : ∀ (v255 v256 v257 v258 v259 v260 v261 v262 v263 v264 v265 v266 v267 v268 v269 v270 v271 v272 v273 v274 v275 v276 v277 v278 v279 v280 v281 : Value) (w1 : World), Lat w w1 → v281 = .bool false → Q .normal (((((((((((((((((((((((((((a0.put (some 255) v255).put (some 256) v256).put (some 257) v257).put (some 258) v258).put (some 259) v259).put (some 260) v260).put (some 261) v261).put (some 262) v262).put (some 263) v263).put (some 264) v264).put (some 265) v265).put (some 266) v266).put (some 267) v267).put (some 268) v268).put (some 269) v269).put (some 270) v270).put (some 271) v271).put (some 272) v272).put (some 273) v273).put (some 274) v274).put (some 275) v275).put (some 276) v276).put (some 277) v277).put (some 278) v278).put (some 279) v279).put (some 280) v280).put (some 281) v281) w1) :
    Code.wp Tryd.prog ((Tryd.f4.body.bind (findRegion 46)).getD .skip) Q a0 w := by
  conv => arg 2; whnf
  refine wp_region_inv Lat (TE [Ent.val (.pointer (some ⟨p, 0, none⟩)), Ent.val (.slice (some ⟨ob, 0, none⟩) 3 3), Ent.val (.int .i64 (k : Int)), Ent.val (.pointer (some ⟨ob, k, none⟩)), Ent.val (.string s), Ent.val (.int .i64 (L : Int)), Ent.val (.slice (some ⟨hb, 0, none⟩) 3 3), Ent.val (.int .i64 (k : Int)), Ent.val (.pointer (some ⟨hb, k, none⟩)), Ent.val (.slice ad L c), Ent.val (.int .i64 (L : Int)), Ent.val (.bool false), Ent.val (.bool false), Ent.val (.pointer (some ⟨p, 0, none⟩)), Ent.val (.slice (some ⟨ob, 0, none⟩) 3 3), Ent.val (.int .i64 (k : Int)), Ent.val (.pointer (some ⟨ob, k, none⟩)), Ent.val (.string s), EntS L, Ent.val (.int .i64 (L : Int)), Ent.val (.slice (some ⟨hb, 0, none⟩) 3 3), Ent.val (.int .i64 (k : Int)), Ent.val (.pointer (some ⟨hb, k, none⟩)), Ent.val (.slice ad L c), Ent.val (.int .i64 (L : Int)), Ent.val (.bool false), Ent.val (.bool false)]) (by kernel_rfl) (by kernel_rfl) (by kernel_rfl) (by rw [hsz]; kernel_rfl) (by kernel_rfl) Lat.refl Lat.trans (TE_stable _) (Lat.draw w) ?hop ?hdone
  case hdone =>
    intro a w1 hL hS hT
    have he := same_puts hS
    rw [he]
    exact hQ (a.tmps.getD 255 undef) (a.tmps.getD 256 undef) (a.tmps.getD 257 undef) (a.tmps.getD 258 undef) (a.tmps.getD 259 undef) (a.tmps.getD 260 undef) (a.tmps.getD 261 undef) (a.tmps.getD 262 undef) (a.tmps.getD 263 undef) (a.tmps.getD 264 undef) (a.tmps.getD 265 undef) (a.tmps.getD 266 undef) (a.tmps.getD 267 undef) (a.tmps.getD 268 undef) (a.tmps.getD 269 undef) (a.tmps.getD 270 undef) (a.tmps.getD 271 undef) (a.tmps.getD 272 undef) (a.tmps.getD 273 undef) (a.tmps.getD 274 undef) (a.tmps.getD 275 undef) (a.tmps.getD 276 undef) (a.tmps.getD 277 undef) (a.tmps.getD 278 undef) (a.tmps.getD 279 undef) (a.tmps.getD 280 undef) (a.tmps.getD 281 undef) w1 hL (hT 26 _ rfl)
  case hop =>
    intro i o hi
    have hlt : i < 27 := (Array.getElem?_eq_some_iff.1 hi).1
    rcases (show i = 0 ∨ i = 1 ∨ i = 2 ∨ i = 3 ∨ i = 4 ∨ i = 5 ∨ i = 6 ∨ i = 7 ∨ i = 8 ∨ i = 9 ∨ i = 10 ∨ i = 11 ∨ i = 12 ∨ i = 13 ∨ i = 14 ∨ i = 15 ∨ i = 16 ∨ i = 17 ∨ i = 18 ∨ i = 19 ∨ i = 20 ∨ i = 21 ∨ i = 22 ∨ i = 23 ∨ i = 24 ∨ i = 25 ∨ i = 26 by omega) with rfl | rfl | rfl | rfl | rfl | rfl | rfl | rfl | rfl | rfl | rfl | rfl | rfl | rfl | rfl | rfl | rfl | rfl | rfl | rfl | rfl | rfl | rfl | rfl | rfl | rfl | rfl
    · obtain rfl := Option.some.inj hi
      clear hi hlt
      intro a w1 hL hS hD
      have e7 : a.tmps.getD 7 undef = .pointer (some ⟨p, 0, none⟩) := (hS.slot 7 (by kernel_rfl)).trans s7
      refine step_yes rfl ?_
      exact ok_value Lat.refl (.pointer (some ⟨p, 0, none⟩)) (by simp [execOp, Act.eval, e7, go_sem]) rfl
    · obtain rfl := Option.some.inj hi
      clear hi hlt
      intro a w1 hL hS hD
      have e9 : a.tmps.getD 9 undef = .slice (some ⟨ob, 0, none⟩) 3 3 := (hS.slot 9 (by kernel_rfl)).trans s9
      refine step_yes rfl ?_
      exact ok_value Lat.refl (.slice (some ⟨ob, 0, none⟩) 3 3) (by simp [execOp, Act.eval, e9, go_sem]) rfl
    · obtain rfl := Option.some.inj hi
      clear hi hlt
      intro a w1 hL hS hD
      have e23 : a.tmps.getD 23 undef = .int .i64 (k : Int) := (hS.slot 23 (by kernel_rfl)).trans s23
      refine step_yes rfl ?_
      exact ok_value Lat.refl (.int .i64 (k : Int)) (by simp [execOp, Act.eval, e23, go_sem]) rfl
    · obtain rfl := Option.some.inj hi
      clear hi hlt
      intro a w1 hL hS hD
      have d1 : a.tmps.getD 256 undef = .slice (some ⟨ob, 0, none⟩) 3 3 := hD ⟨1, .data⟩ (by simp) rfl _ rfl
      have d2 : a.tmps.getD 257 undef = .int .i64 (k : Int) := hD ⟨2, .data⟩ (by simp) rfl _ rfl
      refine step_yes rfl ?_
      exact ok_value Lat.refl (.pointer (some ⟨ob, k, none⟩)) (by simp [execOp, Act.eval, d1, d2, hk3, hk0, go_sem]) rfl
    · obtain rfl := Option.some.inj hi
      clear hi hlt
      intro a w1 hL hS hD
      have d3 : a.tmps.getD 258 undef = .pointer (some ⟨ob, k, none⟩) := hD ⟨3, .data⟩ (by simp) rfl _ rfl
      refine step_yes rfl ?_
      exact ok_value Lat.refl (.string s) (by simp [execOp, Act.eval, d3, hob w1 hL, go_sem]) rfl
    · obtain rfl := Option.some.inj hi
      clear hi hlt
      intro a w1 hL hS hD
      have d0 : a.tmps.getD 255 undef = .pointer (some ⟨p, 0, none⟩) := hD ⟨0, .data⟩ (by simp) rfl _ rfl
      have d4 : a.tmps.getD 259 undef = .string s := hD ⟨4, .data⟩ (by simp) rfl _ rfl
      refine step_yes rfl ?_
      refine ok_call (f := 16) (args := #[.pointer (some ⟨p, 0, none⟩), .string s]) (by simp [execOp, resolve, Act.eval, d0, d4, go_sem]) ?_
      refine (hu w1 hL).mono ?_
      rintro e w2 ⟨rfl, b5⟩
      exact ⟨_, rfl, b5, rfl⟩
    · obtain rfl := Option.some.inj hi
      clear hi hlt
      intro a w1 hL hS hD
      have e10 : a.tmps.getD 10 undef = .slice (some ⟨hb, 0, none⟩) 3 3 := (hS.slot 10 (by kernel_rfl)).trans s10
      refine step_yes rfl ?_
      exact ok_value Lat.refl (.slice (some ⟨hb, 0, none⟩) 3 3) (by simp [execOp, Act.eval, e10, go_sem]) rfl
    · obtain rfl := Option.some.inj hi
      clear hi hlt
      intro a w1 hL hS hD
      have e23 : a.tmps.getD 23 undef = .int .i64 (k : Int) := (hS.slot 23 (by kernel_rfl)).trans s23
      refine step_yes rfl ?_
      exact ok_value Lat.refl (.int .i64 (k : Int)) (by simp [execOp, Act.eval, e23, go_sem]) rfl
    · obtain rfl := Option.some.inj hi
      clear hi hlt
      intro a w1 hL hS hD
      have d6 : a.tmps.getD 261 undef = .slice (some ⟨hb, 0, none⟩) 3 3 := hD ⟨6, .data⟩ (by simp) rfl _ rfl
      have d7 : a.tmps.getD 262 undef = .int .i64 (k : Int) := hD ⟨7, .data⟩ (by simp) rfl _ rfl
      refine step_yes rfl ?_
      exact ok_value Lat.refl (.pointer (some ⟨hb, k, none⟩)) (by simp [execOp, Act.eval, d6, d7, hk3, hk0, go_sem]) rfl
    · obtain rfl := Option.some.inj hi
      clear hi hlt
      intro a w1 hL hS hD
      have d8 : a.tmps.getD 263 undef = .pointer (some ⟨hb, k, none⟩) := hD ⟨8, .data⟩ (by simp) rfl _ rfl
      refine step_yes rfl ?_
      exact ok_value Lat.refl (.slice ad L c) (by simp [execOp, Act.eval, d8, hhb w1 hL, go_sem]) rfl
    · obtain rfl := Option.some.inj hi
      clear hi hlt
      intro a w1 hL hS hD
      have d9 : a.tmps.getD 264 undef = .slice ad L c := hD ⟨9, .data⟩ (by simp) rfl _ rfl
      refine step_yes rfl ?_
      exact ok_value Lat.refl (.int .i64 (L : Int)) (by simp [execOp, Act.eval, d9, resolve, invoke, builtin, go_sem]) rfl
    · obtain rfl := Option.some.inj hi
      clear hi hlt
      intro a w1 hL hS hD
      have d5 : a.tmps.getD 260 undef = .int .i64 (L : Int) := hD ⟨5, .data⟩ (by simp) rfl _ rfl
      have d10 : a.tmps.getD 265 undef = .int .i64 (L : Int) := hD ⟨10, .data⟩ (by simp) rfl _ rfl
      refine step_yes rfl ?_
      exact ok_value Lat.refl (.bool false) (by simp [execOp, Act.eval, d5, d10, go_sem]) rfl
    · obtain rfl := Option.some.inj hi
      clear hi hlt
      intro a w1 hL hS hD
      have d11 : a.tmps.getD 266 undef = .bool false := hD ⟨11, .data⟩ (by simp) rfl _ rfl
      refine step_yes rfl ?_
      exact ok_value Lat.refl (.bool false) (by simp [execOp, Act.eval, d11, go_sem]) rfl
    · obtain rfl := Option.some.inj hi
      clear hi hlt
      intro a w1 hL hS hD
      have e7 : a.tmps.getD 7 undef = .pointer (some ⟨p, 0, none⟩) := (hS.slot 7 (by kernel_rfl)).trans s7
      have d12 : a.tmps.getD 267 undef = .bool false := hD ⟨12, .guard⟩ (by simp) rfl _ rfl
      refine step_yes (wanted_yes rfl rfl rfl d12) ?_
      exact ok_value Lat.refl (.pointer (some ⟨p, 0, none⟩)) (by simp [execOp, Act.eval, e7, go_sem]) rfl
    · obtain rfl := Option.some.inj hi
      clear hi hlt
      intro a w1 hL hS hD
      have e9 : a.tmps.getD 9 undef = .slice (some ⟨ob, 0, none⟩) 3 3 := (hS.slot 9 (by kernel_rfl)).trans s9
      have d12 : a.tmps.getD 267 undef = .bool false := hD ⟨12, .guard⟩ (by simp) rfl _ rfl
      refine step_yes (wanted_yes rfl rfl rfl d12) ?_
      exact ok_value Lat.refl (.slice (some ⟨ob, 0, none⟩) 3 3) (by simp [execOp, Act.eval, e9, go_sem]) rfl
    · obtain rfl := Option.some.inj hi
      clear hi hlt
      intro a w1 hL hS hD
      have e23 : a.tmps.getD 23 undef = .int .i64 (k : Int) := (hS.slot 23 (by kernel_rfl)).trans s23
      have d12 : a.tmps.getD 267 undef = .bool false := hD ⟨12, .guard⟩ (by simp) rfl _ rfl
      refine step_yes (wanted_yes rfl rfl rfl d12) ?_
      exact ok_value Lat.refl (.int .i64 (k : Int)) (by simp [execOp, Act.eval, e23, go_sem]) rfl
    · obtain rfl := Option.some.inj hi
      clear hi hlt
      intro a w1 hL hS hD
      have d12 : a.tmps.getD 267 undef = .bool false := hD ⟨12, .guard⟩ (by simp) rfl _ rfl
      have d14 : a.tmps.getD 269 undef = .slice (some ⟨ob, 0, none⟩) 3 3 := hD ⟨14, .data⟩ (by simp) rfl _ rfl
      have d15 : a.tmps.getD 270 undef = .int .i64 (k : Int) := hD ⟨15, .data⟩ (by simp) rfl _ rfl
      refine step_yes (wanted_yes rfl rfl rfl d12) ?_
      exact ok_value Lat.refl (.pointer (some ⟨ob, k, none⟩)) (by simp [execOp, Act.eval, d14, d15, hk3, hk0, go_sem]) rfl
    · obtain rfl := Option.some.inj hi
      clear hi hlt
      intro a w1 hL hS hD
      have d12 : a.tmps.getD 267 undef = .bool false := hD ⟨12, .guard⟩ (by simp) rfl _ rfl
      have d16 : a.tmps.getD 271 undef = .pointer (some ⟨ob, k, none⟩) := hD ⟨16, .data⟩ (by simp) rfl _ rfl
      refine step_yes (wanted_yes rfl rfl rfl d12) ?_
      exact ok_value Lat.refl (.string s) (by simp [execOp, Act.eval, d16, hob w1 hL, go_sem]) rfl
    · obtain rfl := Option.some.inj hi
      clear hi hlt
      intro a w1 hL hS hD
      have d12 : a.tmps.getD 267 undef = .bool false := hD ⟨12, .guard⟩ (by simp) rfl _ rfl
      have d13 : a.tmps.getD 268 undef = .pointer (some ⟨p, 0, none⟩) := hD ⟨13, .data⟩ (by simp) rfl _ rfl
      have d17 : a.tmps.getD 272 undef = .string s := hD ⟨17, .data⟩ (by simp) rfl _ rfl
      refine step_yes (wanted_yes rfl rfl rfl d12) ?_
      refine ok_call (f := 17) (args := #[.pointer (some ⟨p, 0, none⟩), .string s]) (by simp [execOp, resolve, Act.eval, d13, d17, go_sem]) ?_
      refine (hs w1 hL).mono ?_
      rintro e w2 ⟨ad5, c5, rfl, b5⟩
      exact ⟨_, rfl, b5, ad5, c5, rfl⟩
    · obtain rfl := Option.some.inj hi
      clear hi hlt
      intro a w1 hL hS hD
      have d12 : a.tmps.getD 267 undef = .bool false := hD ⟨12, .guard⟩ (by simp) rfl _ rfl
      have d18 := hD ⟨18, .data⟩ (by simp) rfl _ rfl
      refine step_yes (wanted_yes rfl rfl rfl d12) ?_
      obtain ⟨ad5, c5, h5⟩ := d18
      have h7 : a.tmps.getD 273 undef = .slice ad5 L c5 := h5
      have h6 : a.tmps[273]?.getD undef = .slice ad5 L c5 := by simpa using h7
      exact ok_value Lat.refl (.int .i64 (L : Int)) (by simp [execOp, resolve, invoke, builtin, Act.eval, h6, go_sem]) rfl
    · obtain rfl := Option.some.inj hi
      clear hi hlt
      intro a w1 hL hS hD
      have e10 : a.tmps.getD 10 undef = .slice (some ⟨hb, 0, none⟩) 3 3 := (hS.slot 10 (by kernel_rfl)).trans s10
      have d12 : a.tmps.getD 267 undef = .bool false := hD ⟨12, .guard⟩ (by simp) rfl _ rfl
      refine step_yes (wanted_yes rfl rfl rfl d12) ?_
      exact ok_value Lat.refl (.slice (some ⟨hb, 0, none⟩) 3 3) (by simp [execOp, Act.eval, e10, go_sem]) rfl
    · obtain rfl := Option.some.inj hi
      clear hi hlt
      intro a w1 hL hS hD
      have e23 : a.tmps.getD 23 undef = .int .i64 (k : Int) := (hS.slot 23 (by kernel_rfl)).trans s23
      have d12 : a.tmps.getD 267 undef = .bool false := hD ⟨12, .guard⟩ (by simp) rfl _ rfl
      refine step_yes (wanted_yes rfl rfl rfl d12) ?_
      exact ok_value Lat.refl (.int .i64 (k : Int)) (by simp [execOp, Act.eval, e23, go_sem]) rfl
    · obtain rfl := Option.some.inj hi
      clear hi hlt
      intro a w1 hL hS hD
      have d12 : a.tmps.getD 267 undef = .bool false := hD ⟨12, .guard⟩ (by simp) rfl _ rfl
      have d20 : a.tmps.getD 275 undef = .slice (some ⟨hb, 0, none⟩) 3 3 := hD ⟨20, .data⟩ (by simp) rfl _ rfl
      have d21 : a.tmps.getD 276 undef = .int .i64 (k : Int) := hD ⟨21, .data⟩ (by simp) rfl _ rfl
      refine step_yes (wanted_yes rfl rfl rfl d12) ?_
      exact ok_value Lat.refl (.pointer (some ⟨hb, k, none⟩)) (by simp [execOp, Act.eval, d20, d21, hk3, hk0, go_sem]) rfl
    · obtain rfl := Option.some.inj hi
      clear hi hlt
      intro a w1 hL hS hD
      have d12 : a.tmps.getD 267 undef = .bool false := hD ⟨12, .guard⟩ (by simp) rfl _ rfl
      have d22 : a.tmps.getD 277 undef = .pointer (some ⟨hb, k, none⟩) := hD ⟨22, .data⟩ (by simp) rfl _ rfl
      refine step_yes (wanted_yes rfl rfl rfl d12) ?_
      exact ok_value Lat.refl (.slice ad L c) (by simp [execOp, Act.eval, d22, hhb w1 hL, go_sem]) rfl
    · obtain rfl := Option.some.inj hi
      clear hi hlt
      intro a w1 hL hS hD
      have d12 : a.tmps.getD 267 undef = .bool false := hD ⟨12, .guard⟩ (by simp) rfl _ rfl
      have d23 : a.tmps.getD 278 undef = .slice ad L c := hD ⟨23, .data⟩ (by simp) rfl _ rfl
      refine step_yes (wanted_yes rfl rfl rfl d12) ?_
      exact ok_value Lat.refl (.int .i64 (L : Int)) (by simp [execOp, Act.eval, d23, resolve, invoke, builtin, go_sem]) rfl
    · obtain rfl := Option.some.inj hi
      clear hi hlt
      intro a w1 hL hS hD
      have d12 : a.tmps.getD 267 undef = .bool false := hD ⟨12, .guard⟩ (by simp) rfl _ rfl
      have d19 : a.tmps.getD 274 undef = .int .i64 (L : Int) := hD ⟨19, .data⟩ (by simp) rfl _ rfl
      have d24 : a.tmps.getD 279 undef = .int .i64 (L : Int) := hD ⟨24, .data⟩ (by simp) rfl _ rfl
      refine step_yes (wanted_yes rfl rfl rfl d12) ?_
      exact ok_value Lat.refl (.bool false) (by simp [execOp, Act.eval, d19, d24, go_sem]) rfl
    · obtain rfl := Option.some.inj hi
      clear hi hlt
      intro a w1 hL hS hD
      have d12 : a.tmps.getD 267 undef = .bool false := hD ⟨12, .data⟩ (by simp) rfl _ rfl
      have d25 : a.tmps.getD 280 undef = .bool false := hD ⟨25, .data⟩ (by simp) rfl _ rfl
      refine step_yes rfl ?_
      exact ok_value Lat.refl (.bool false) (by simp [execOp, Act.eval, d12, d25, go_sem]) rfl

set_option maxRecDepth 100000 in
set_option maxHeartbeats 2000000 in
theorem sh_r35 (hb k g L c M q : Nat) (y : Int) (w : World) (a0 : Act) (Q : Exit → Act → World → Prop) (hsz : a0.tmps.size = 355)
    (s10 : a0.tmps.getD 10 undef = .slice (some ⟨hb, 0, none⟩) 3 3)
    (s14 : a0.tmps.getD 14 undef = .int .i64 (k : Int))
    (s21 : a0.tmps.getD 21 undef = .int .i64 (q : Int))
    (hk3 : (k : Int) < 3) (hk0 : ¬ (k : Int) < 0) (hL9 : L ≤ 40) (hM1 : (L : Int) - 1 = (M : Int)) (hwM : IntKind.i64.wrap (M : Int) = (M : Int)) (hhb : ∀ w1, Lat w w1 → w1.cell? ⟨hb, k, none⟩ = some (.slice (some ⟨g, 0, none⟩) L c))
    (hML : (M : Int) < (L : Int)) (hM0 : ¬ (M : Int) < 0) (hqL : (q : Int) < (L : Int)) (hq0 : ¬ (q : Int) < 0) (hcy : ∀ w1, Lat w w1 → w1.cell? ⟨g, M, none⟩ = some (.int .i64 y))
    (u : Value) (hcell : ∀ w1, Lat w w1 → w1.cell? ⟨g, q, none⟩ = some u) (hfrz : ∀ w1, Lat w w1 → w1.frozen? ⟨g, q, none⟩ = false)
    (hQ : ∀ (v196 v197 v198 v199 v200 v201 v202 v203 v204 v205 v206 v207 v208 v209 v210 v211 v212 v213 : Value) (w1 : World), Lat w w1 → Q .normal ((((((((((((((((((a0.put (some 196) v196).put (some 197) v197).put (some 198) v198).put (some 199) v199).put (some 200) v200).put (some 201) v201).put (some 202) v202).put (some 203) v203).put (some 204) v204).put (some 205) v205).put (some 206) v206).put (some 207) v207).put (some 208) v208).put (some 209) v209).put (some 210) v210).put (some 211) v211).put (some 212) v212).put (some 213) v213) (w1.setCell ⟨g, q, none⟩ (.int .i64 y))) :
    Code.wp Tryd.prog ((Tryd.f4.body.bind (findRegion 35)).getD .skip) Q a0 w := by
  conv => arg 2; whnf
  refine wp_region_last 18 Lat (TV [.slice (some ⟨hb, 0, none⟩) 3 3, .int .i64 (k : Int), .pointer (some ⟨hb, k, none⟩), .slice (some ⟨g, 0, none⟩) L c, .int .i64 (q : Int), .slice (some ⟨hb, 0, none⟩) 3 3, .int .i64 (k : Int), .pointer (some ⟨hb, k, none⟩), .slice (some ⟨g, 0, none⟩) L c, .slice (some ⟨hb, 0, none⟩) 3 3, .int .i64 (k : Int), .pointer (some ⟨hb, k, none⟩), .slice (some ⟨g, 0, none⟩) L c, .int .i64 (L : Int), .int .i64 (M : Int), .pointer (some ⟨g, M, none⟩), .int .i64 y, .pointer (some ⟨g, q, none⟩)]) (by kernel_rfl) (by kernel_rfl) (by kernel_rfl) (by rw [hsz]; kernel_rfl) (by kernel_rfl) (by kernel_rfl) Lat.refl Lat.trans (TV.stable _) (Lat.draw w) ?hop ?hlast
  case hlast =>
    intro o a w1 ho hL hS hT
    obtain rfl := Option.some.inj ho
    have he := same_puts hS
    have hQ2 := hQ (a.tmps.getD 196 undef) (a.tmps.getD 197 undef) (a.tmps.getD 198 undef) (a.tmps.getD 199 undef) (a.tmps.getD 200 undef) (a.tmps.getD 201 undef) (a.tmps.getD 202 undef) (a.tmps.getD 203 undef) (a.tmps.getD 204 undef) (a.tmps.getD 205 undef) (a.tmps.getD 206 undef) (a.tmps.getD 207 undef) (a.tmps.getD 208 undef) (a.tmps.getD 209 undef) (a.tmps.getD 210 undef) (a.tmps.getD 211 undef) (a.tmps.getD 212 undef) (a.tmps.getD 213 undef) w1 hL
    have dA : a.tmps.getD 213 undef = .pointer (some ⟨g, q, none⟩) := hT 17 _ (by omega) rfl _ rfl
    have dV : a.tmps.getD 212 undef = .int .i64 y := hT 16 _ (by omega) rfl _ rfl
    have hc1 := hcell w1 hL
    have hf1 := hfrz w1 hL
    unfold Oper.wp
    simp [execOp, Act.eval, dA, dV, hc1, hf1, Result.andThen, go_sem]
    show Q .normal a _
    rw [he]
    exact hQ2
  case hop =>
    intro i o hlt hi
    rcases (show i = 0 ∨ i = 1 ∨ i = 2 ∨ i = 3 ∨ i = 4 ∨ i = 5 ∨ i = 6 ∨ i = 7 ∨ i = 8 ∨ i = 9 ∨ i = 10 ∨ i = 11 ∨ i = 12 ∨ i = 13 ∨ i = 14 ∨ i = 15 ∨ i = 16 ∨ i = 17 by omega) with rfl | rfl | rfl | rfl | rfl | rfl | rfl | rfl | rfl | rfl | rfl | rfl | rfl | rfl | rfl | rfl | rfl | rfl
    · obtain rfl := Option.some.inj hi
      clear hi hlt
      intro a w1 hL hS hD
      have e10 : a.tmps.getD 10 undef = .slice (some ⟨hb, 0, none⟩) 3 3 := (hS.slot 10 (by kernel_rfl)).trans s10
      refine step_yes rfl ?_
      exact ok_value Lat.refl (.slice (some ⟨hb, 0, none⟩) 3 3) (by simp [execOp, Act.eval, e10, go_sem]) (TV.mk rfl)
    · obtain rfl := Option.some.inj hi
      clear hi hlt
      intro a w1 hL hS hD
      have e14 : a.tmps.getD 14 undef = .int .i64 (k : Int) := (hS.slot 14 (by kernel_rfl)).trans s14
      refine step_yes rfl ?_
      exact ok_value Lat.refl (.int .i64 (k : Int)) (by simp [execOp, Act.eval, e14, go_sem]) (TV.mk rfl)
    · obtain rfl := Option.some.inj hi
      clear hi hlt
      intro a w1 hL hS hD
      have d0 : a.tmps.getD 196 undef = .slice (some ⟨hb, 0, none⟩) 3 3 := hD ⟨0, .data⟩ (by simp) rfl _ rfl _ rfl
      have d1 : a.tmps.getD 197 undef = .int .i64 (k : Int) := hD ⟨1, .data⟩ (by simp) rfl _ rfl _ rfl
      refine step_yes rfl ?_
      exact ok_value Lat.refl (.pointer (some ⟨hb, k, none⟩)) (by simp [execOp, Act.eval, d0, d1, hk3, hk0, go_sem]) (TV.mk rfl)
    · obtain rfl := Option.some.inj hi
      clear hi hlt
      intro a w1 hL hS hD
      have d2 : a.tmps.getD 198 undef = .pointer (some ⟨hb, k, none⟩) := hD ⟨2, .data⟩ (by simp) rfl _ rfl _ rfl
      refine step_yes rfl ?_
      exact ok_value Lat.refl (.slice (some ⟨g, 0, none⟩) L c) (by simp [execOp, Act.eval, d2, hhb w1 hL, go_sem]) (TV.mk rfl)
    · obtain rfl := Option.some.inj hi
      clear hi hlt
      intro a w1 hL hS hD
      have e21 : a.tmps.getD 21 undef = .int .i64 (q : Int) := (hS.slot 21 (by kernel_rfl)).trans s21
      refine step_yes rfl ?_
      exact ok_value Lat.refl (.int .i64 (q : Int)) (by simp [execOp, Act.eval, e21, go_sem]) (TV.mk rfl)
    · obtain rfl := Option.some.inj hi
      clear hi hlt
      intro a w1 hL hS hD
      have e10 : a.tmps.getD 10 undef = .slice (some ⟨hb, 0, none⟩) 3 3 := (hS.slot 10 (by kernel_rfl)).trans s10
      refine step_yes rfl ?_
      exact ok_value Lat.refl (.slice (some ⟨hb, 0, none⟩) 3 3) (by simp [execOp, Act.eval, e10, go_sem]) (TV.mk rfl)
    · obtain rfl := Option.some.inj hi
      clear hi hlt
      intro a w1 hL hS hD
      have e14 : a.tmps.getD 14 undef = .int .i64 (k : Int) := (hS.slot 14 (by kernel_rfl)).trans s14
      refine step_yes rfl ?_
      exact ok_value Lat.refl (.int .i64 (k : Int)) (by simp [execOp, Act.eval, e14, go_sem]) (TV.mk rfl)
    · obtain rfl := Option.some.inj hi
      clear hi hlt
      intro a w1 hL hS hD
      have d5 : a.tmps.getD 201 undef = .slice (some ⟨hb, 0, none⟩) 3 3 := hD ⟨5, .data⟩ (by simp) rfl _ rfl _ rfl
      have d6 : a.tmps.getD 202 undef = .int .i64 (k : Int) := hD ⟨6, .data⟩ (by simp) rfl _ rfl _ rfl
      refine step_yes rfl ?_
      exact ok_value Lat.refl (.pointer (some ⟨hb, k, none⟩)) (by simp [execOp, Act.eval, d5, d6, hk3, hk0, go_sem]) (TV.mk rfl)
    · obtain rfl := Option.some.inj hi
      clear hi hlt
      intro a w1 hL hS hD
      have d7 : a.tmps.getD 203 undef = .pointer (some ⟨hb, k, none⟩) := hD ⟨7, .data⟩ (by simp) rfl _ rfl _ rfl
      refine step_yes rfl ?_
      exact ok_value Lat.refl (.slice (some ⟨g, 0, none⟩) L c) (by simp [execOp, Act.eval, d7, hhb w1 hL, go_sem]) (TV.mk rfl)
    · obtain rfl := Option.some.inj hi
      clear hi hlt
      intro a w1 hL hS hD
      have e10 : a.tmps.getD 10 undef = .slice (some ⟨hb, 0, none⟩) 3 3 := (hS.slot 10 (by kernel_rfl)).trans s10
      refine step_yes rfl ?_
      exact ok_value Lat.refl (.slice (some ⟨hb, 0, none⟩) 3 3) (by simp [execOp, Act.eval, e10, go_sem]) (TV.mk rfl)
    · obtain rfl := Option.some.inj hi
      clear hi hlt
      intro a w1 hL hS hD
      have e14 : a.tmps.getD 14 undef = .int .i64 (k : Int) := (hS.slot 14 (by kernel_rfl)).trans s14
      refine step_yes rfl ?_
      exact ok_value Lat.refl (.int .i64 (k : Int)) (by simp [execOp, Act.eval, e14, go_sem]) (TV.mk rfl)
    · obtain rfl := Option.some.inj hi
      clear hi hlt
      intro a w1 hL hS hD
      have d9 : a.tmps.getD 205 undef = .slice (some ⟨hb, 0, none⟩) 3 3 := hD ⟨9, .data⟩ (by simp) rfl _ rfl _ rfl
      have d10 : a.tmps.getD 206 undef = .int .i64 (k : Int) := hD ⟨10, .data⟩ (by simp) rfl _ rfl _ rfl
      refine step_yes rfl ?_
      exact ok_value Lat.refl (.pointer (some ⟨hb, k, none⟩)) (by simp [execOp, Act.eval, d9, d10, hk3, hk0, go_sem]) (TV.mk rfl)
    · obtain rfl := Option.some.inj hi
      clear hi hlt
      intro a w1 hL hS hD
      have d11 : a.tmps.getD 207 undef = .pointer (some ⟨hb, k, none⟩) := hD ⟨11, .data⟩ (by simp) rfl _ rfl _ rfl
      refine step_yes rfl ?_
      exact ok_value Lat.refl (.slice (some ⟨g, 0, none⟩) L c) (by simp [execOp, Act.eval, d11, hhb w1 hL, go_sem]) (TV.mk rfl)
    · obtain rfl := Option.some.inj hi
      clear hi hlt
      intro a w1 hL hS hD
      have d12 : a.tmps.getD 208 undef = .slice (some ⟨g, 0, none⟩) L c := hD ⟨12, .data⟩ (by simp) rfl _ rfl _ rfl
      refine step_yes rfl ?_
      exact ok_value Lat.refl (.int .i64 (L : Int)) (by simp [execOp, Act.eval, d12, resolve, invoke, builtin, go_sem]) (TV.mk rfl)
    · obtain rfl := Option.some.inj hi
      clear hi hlt
      intro a w1 hL hS hD
      have d13 : a.tmps.getD 209 undef = .int .i64 (L : Int) := hD ⟨13, .data⟩ (by simp) rfl _ rfl _ rfl
      refine step_yes rfl ?_
      exact ok_value Lat.refl (.int .i64 (M : Int)) (by simp [execOp, Act.eval, d13, hM1, hwM, go_sem]) (TV.mk rfl)
    · obtain rfl := Option.some.inj hi
      clear hi hlt
      intro a w1 hL hS hD
      have d8 : a.tmps.getD 204 undef = .slice (some ⟨g, 0, none⟩) L c := hD ⟨8, .data⟩ (by simp) rfl _ rfl _ rfl
      have d14 : a.tmps.getD 210 undef = .int .i64 (M : Int) := hD ⟨14, .data⟩ (by simp) rfl _ rfl _ rfl
      refine step_yes rfl ?_
      exact ok_value Lat.refl (.pointer (some ⟨g, M, none⟩)) (by simp [execOp, Act.eval, d8, d14, hML, hM0, go_sem]) (TV.mk rfl)
    · obtain rfl := Option.some.inj hi
      clear hi hlt
      intro a w1 hL hS hD
      have d15 : a.tmps.getD 211 undef = .pointer (some ⟨g, M, none⟩) := hD ⟨15, .data⟩ (by simp) rfl _ rfl _ rfl
      refine step_yes rfl ?_
      exact ok_value Lat.refl (.int .i64 y) (by simp [execOp, Act.eval, d15, hcy w1 hL, go_sem]) (TV.mk rfl)
    · obtain rfl := Option.some.inj hi
      clear hi hlt
      intro a w1 hL hS hD
      have d3 : a.tmps.getD 199 undef = .slice (some ⟨g, 0, none⟩) L c := hD ⟨3, .data⟩ (by simp) rfl _ rfl _ rfl
      have d4 : a.tmps.getD 200 undef = .int .i64 (q : Int) := hD ⟨4, .data⟩ (by simp) rfl _ rfl _ rfl
      refine step_yes rfl ?_
      exact ok_value Lat.refl (.pointer (some ⟨g, q, none⟩)) (by simp [execOp, Act.eval, d3, d4, hqL, hq0, go_sem]) (TV.mk rfl)

set_option maxRecDepth 100000 in
set_option maxHeartbeats 2000000 in
theorem sh_r36 (hb k g L c M : Nat) (w : World) (a0 : Act) (Q : Exit → Act → World → Prop) (hsz : a0.tmps.size = 355)
    (s10 : a0.tmps.getD 10 undef = .slice (some ⟨hb, 0, none⟩) 3 3)
    (s14 : a0.tmps.getD 14 undef = .int .i64 (k : Int))
    (hk3 : (k : Int) < 3) (hk0 : ¬ (k : Int) < 0) (hL9 : L ≤ 40) (hM1 : (L : Int) - 1 = (M : Int)) (hwM : IntKind.i64.wrap (M : Int) = (M : Int)) (hhb : ∀ w1, Lat w w1 → w1.cell? ⟨hb, k, none⟩ = some (.slice (some ⟨g, 0, none⟩) L c))
    (hM0 : ¬ (M : Int) < 0) (hMc : ¬ (c : Int) < (M : Int)) (hMc2 : M ≤ c)
    (u : Value) (hcell : ∀ w1, Lat w w1 → w1.cell? ⟨hb, k, none⟩ = some u) (hfrz : ∀ w1, Lat w w1 → w1.frozen? ⟨hb, k, none⟩ = false)
    (hQ : ∀ (v214 v215 v216 v217 v218 v219 v220 v221 v222 v223 v224 v225 v226 v227 : Value) (w1 : World), Lat w w1 → Q .normal ((((((((((((((a0.put (some 214) v214).put (some 215) v215).put (some 216) v216).put (some 217) v217).put (some 218) v218).put (some 219) v219).put (some 220) v220).put (some 221) v221).put (some 222) v222).put (some 223) v223).put (some 224) v224).put (some 225) v225).put (some 226) v226).put (some 227) v227) (w1.setCell ⟨hb, k, none⟩ (.slice (some ⟨g, 0, none⟩) M c))) :
    Code.wp Tryd.prog ((Tryd.f4.body.bind (findRegion 36)).getD .skip) Q a0 w := by
  conv => arg 2; whnf
  refine wp_region_last 14 Lat (TV [.slice (some ⟨hb, 0, none⟩) 3 3, .int .i64 (k : Int), .slice (some ⟨hb, 0, none⟩) 3 3, .int .i64 (k : Int), .pointer (some ⟨hb, k, none⟩), .slice (some ⟨g, 0, none⟩) L c, .slice (some ⟨hb, 0, none⟩) 3 3, .int .i64 (k : Int), .pointer (some ⟨hb, k, none⟩), .slice (some ⟨g, 0, none⟩) L c, .int .i64 (L : Int), .int .i64 (M : Int), .slice (some ⟨g, 0, none⟩) M c, .pointer (some ⟨hb, k, none⟩)]) (by kernel_rfl) (by kernel_rfl) (by kernel_rfl) (by rw [hsz]; kernel_rfl) (by kernel_rfl) (by kernel_rfl) Lat.refl Lat.trans (TV.stable _) (Lat.draw w) ?hop ?hlast
  case hlast =>
    intro o a w1 ho hL hS hT
    obtain rfl := Option.some.inj ho
    have he := same_puts hS
    have hQ2 := hQ (a.tmps.getD 214 undef) (a.tmps.getD 215 undef) (a.tmps.getD 216 undef) (a.tmps.getD 217 undef) (a.tmps.getD 218 undef) (a.tmps.getD 219 undef) (a.tmps.getD 220 undef) (a.tmps.getD 221 undef) (a.tmps.getD 222 undef) (a.tmps.getD 223 undef) (a.tmps.getD 224 undef) (a.tmps.getD 225 undef) (a.tmps.getD 226 undef) (a.tmps.getD 227 undef) w1 hL
    have dA : a.tmps.getD 227 undef = .pointer (some ⟨hb, k, none⟩) := hT 13 _ (by omega) rfl _ rfl
    have dV : a.tmps.getD 226 undef = .slice (some ⟨g, 0, none⟩) M c := hT 12 _ (by omega) rfl _ rfl
    have hc1 := hcell w1 hL
    have hf1 := hfrz w1 hL
    unfold Oper.wp
    simp [execOp, Act.eval, dA, dV, hc1, hf1, Result.andThen, go_sem]
    show Q .normal a _
    rw [he]
    exact hQ2
  case hop =>
    intro i o hlt hi
    rcases (show i = 0 ∨ i = 1 ∨ i = 2 ∨ i = 3 ∨ i = 4 ∨ i = 5 ∨ i = 6 ∨ i = 7 ∨ i = 8 ∨ i = 9 ∨ i = 10 ∨ i = 11 ∨ i = 12 ∨ i = 13 by omega) with rfl | rfl | rfl | rfl | rfl | rfl | rfl | rfl | rfl | rfl | rfl | rfl | rfl | rfl
    · obtain rfl := Option.some.inj hi
      clear hi hlt
      intro a w1 hL hS hD
      have e10 : a.tmps.getD 10 undef = .slice (some ⟨hb, 0, none⟩) 3 3 := (hS.slot 10 (by kernel_rfl)).trans s10
      refine step_yes rfl ?_
      exact ok_value Lat.refl (.slice (some ⟨hb, 0, none⟩) 3 3) (by simp [execOp, Act.eval, e10, go_sem]) (TV.mk rfl)
    · obtain rfl := Option.some.inj hi
      clear hi hlt
      intro a w1 hL hS hD
      have e14 : a.tmps.getD 14 undef = .int .i64 (k : Int) := (hS.slot 14 (by kernel_rfl)).trans s14
      refine step_yes rfl ?_
      exact ok_value Lat.refl (.int .i64 (k : Int)) (by simp [execOp, Act.eval, e14, go_sem]) (TV.mk rfl)
    · obtain rfl := Option.some.inj hi
      clear hi hlt
      intro a w1 hL hS hD
      have e10 : a.tmps.getD 10 undef = .slice (some ⟨hb, 0, none⟩) 3 3 := (hS.slot 10 (by kernel_rfl)).trans s10
      refine step_yes rfl ?_
      exact ok_value Lat.refl (.slice (some ⟨hb, 0, none⟩) 3 3) (by simp [execOp, Act.eval, e10, go_sem]) (TV.mk rfl)
    · obtain rfl := Option.some.inj hi
      clear hi hlt
      intro a w1 hL hS hD
      have e14 : a.tmps.getD 14 undef = .int .i64 (k : Int) := (hS.slot 14 (by kernel_rfl)).trans s14
      refine step_yes rfl ?_
      exact ok_value Lat.refl (.int .i64 (k : Int)) (by simp [execOp, Act.eval, e14, go_sem]) (TV.mk rfl)
    · obtain rfl := Option.some.inj hi
      clear hi hlt
      intro a w1 hL hS hD
      have d2 : a.tmps.getD 216 undef = .slice (some ⟨hb, 0, none⟩) 3 3 := hD ⟨2, .data⟩ (by simp) rfl _ rfl _ rfl
      have d3 : a.tmps.getD 217 undef = .int .i64 (k : Int) := hD ⟨3, .data⟩ (by simp) rfl _ rfl _ rfl
      refine step_yes rfl ?_
      exact ok_value Lat.refl (.pointer (some ⟨hb, k, none⟩)) (by simp [execOp, Act.eval, d2, d3, hk3, hk0, go_sem]) (TV.mk rfl)
    · obtain rfl := Option.some.inj hi
      clear hi hlt
      intro a w1 hL hS hD
      have d4 : a.tmps.getD 218 undef = .pointer (some ⟨hb, k, none⟩) := hD ⟨4, .data⟩ (by simp) rfl _ rfl _ rfl
      refine step_yes rfl ?_
      exact ok_value Lat.refl (.slice (some ⟨g, 0, none⟩) L c) (by simp [execOp, Act.eval, d4, hhb w1 hL, go_sem]) (TV.mk rfl)
    · obtain rfl := Option.some.inj hi
      clear hi hlt
      intro a w1 hL hS hD
      have e10 : a.tmps.getD 10 undef = .slice (some ⟨hb, 0, none⟩) 3 3 := (hS.slot 10 (by kernel_rfl)).trans s10
      refine step_yes rfl ?_
      exact ok_value Lat.refl (.slice (some ⟨hb, 0, none⟩) 3 3) (by simp [execOp, Act.eval, e10, go_sem]) (TV.mk rfl)
    · obtain rfl := Option.some.inj hi
      clear hi hlt
      intro a w1 hL hS hD
      have e14 : a.tmps.getD 14 undef = .int .i64 (k : Int) := (hS.slot 14 (by kernel_rfl)).trans s14
      refine step_yes rfl ?_
      exact ok_value Lat.refl (.int .i64 (k : Int)) (by simp [execOp, Act.eval, e14, go_sem]) (TV.mk rfl)
    · obtain rfl := Option.some.inj hi
      clear hi hlt
      intro a w1 hL hS hD
      have d6 : a.tmps.getD 220 undef = .slice (some ⟨hb, 0, none⟩) 3 3 := hD ⟨6, .data⟩ (by simp) rfl _ rfl _ rfl
      have d7 : a.tmps.getD 221 undef = .int .i64 (k : Int) := hD ⟨7, .data⟩ (by simp) rfl _ rfl _ rfl
      refine step_yes rfl ?_
      exact ok_value Lat.refl (.pointer (some ⟨hb, k, none⟩)) (by simp [execOp, Act.eval, d6, d7, hk3, hk0, go_sem]) (TV.mk rfl)
    · obtain rfl := Option.some.inj hi
      clear hi hlt
      intro a w1 hL hS hD
      have d8 : a.tmps.getD 222 undef = .pointer (some ⟨hb, k, none⟩) := hD ⟨8, .data⟩ (by simp) rfl _ rfl _ rfl
      refine step_yes rfl ?_
      exact ok_value Lat.refl (.slice (some ⟨g, 0, none⟩) L c) (by simp [execOp, Act.eval, d8, hhb w1 hL, go_sem]) (TV.mk rfl)
    · obtain rfl := Option.some.inj hi
      clear hi hlt
      intro a w1 hL hS hD
      have d9 : a.tmps.getD 223 undef = .slice (some ⟨g, 0, none⟩) L c := hD ⟨9, .data⟩ (by simp) rfl _ rfl _ rfl
      refine step_yes rfl ?_
      exact ok_value Lat.refl (.int .i64 (L : Int)) (by simp [execOp, Act.eval, d9, resolve, invoke, builtin, go_sem]) (TV.mk rfl)
    · obtain rfl := Option.some.inj hi
      clear hi hlt
      intro a w1 hL hS hD
      have d10 : a.tmps.getD 224 undef = .int .i64 (L : Int) := hD ⟨10, .data⟩ (by simp) rfl _ rfl _ rfl
      refine step_yes rfl ?_
      exact ok_value Lat.refl (.int .i64 (M : Int)) (by simp [execOp, Act.eval, d10, hM1, hwM, go_sem]) (TV.mk rfl)
    · obtain rfl := Option.some.inj hi
      clear hi hlt
      intro a w1 hL hS hD
      have d5 : a.tmps.getD 219 undef = .slice (some ⟨g, 0, none⟩) L c := hD ⟨5, .data⟩ (by simp) rfl _ rfl _ rfl
      have d11 : a.tmps.getD 225 undef = .int .i64 (M : Int) := hD ⟨11, .data⟩ (by simp) rfl _ rfl _ rfl
      refine step_yes rfl ?_
      exact ok_value Lat.refl (.slice (some ⟨g, 0, none⟩) M c) (by simp [execOp, Act.eval, d5, d11, hM0, hMc, hMc2, go_sem]) (TV.mk rfl)
    · obtain rfl := Option.some.inj hi
      clear hi hlt
      intro a w1 hL hS hD
      have d0 : a.tmps.getD 214 undef = .slice (some ⟨hb, 0, none⟩) 3 3 := hD ⟨0, .data⟩ (by simp) rfl _ rfl _ rfl
      have d1 : a.tmps.getD 215 undef = .int .i64 (k : Int) := hD ⟨1, .data⟩ (by simp) rfl _ rfl _ rfl
      refine step_yes rfl ?_
      exact ok_value Lat.refl (.pointer (some ⟨hb, k, none⟩)) (by simp [execOp, Act.eval, d0, d1, hk3, hk0, go_sem]) (TV.mk rfl)

end Go.Proofs.YtjlpkgepiajapaaDoor
