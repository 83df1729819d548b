/-
  The document's log: regions that draw their order.
-/
import Derived.Test.YtnfjhdedcnbdbaaGreatWrA
import Derived.Test.YtnfjhdedcnbdbaaGreatWlS
namespace Go.Proofs.YtnfjhdedcnbdbaaGreat
open Go.RowKit
set_option linter.unusedVariables false
set_option linter.unusedSimpArgs false

theorem wp_alloc_any {P : Program} {w : World} {o : Oper} {a : Act} {K : Act → World → Prop} {Q : Exit → Act → World → Prop} (ty : TypeId) (ho : o.op = .alloc ty) (l : List Value) (hi : (P.info? ty).map (fun i => i.zero.map (·.cells)) = some (some l.toArray))
    (h : ∀ w2, Blk w2 w.heap.size ty l → Below w.heap.size w w2 → K (a.put o.dst (.pointer (some ⟨w.heap.size, 0, none⟩))) w2) : o.wp P a w K Q := by
  cases hq : P.info? ty with
  | none => simp [hq] at hi
  | some i =>
    rw [hq] at hi
    simp only [Option.map_some, Option.some.injEq] at hi
    cases hzz : i.zero with
    | none => rw [hzz] at hi; cases hi
    | some z =>
      rw [hzz] at hi
      simp only [Option.map_some, Option.some.injEq] at hi
      have hr : (Instr.alloc ty true (.tuple #[])).run P w = .ok (.pointer (some ⟨w.heap.size, 0, none⟩)) (w.alloc (.cells z.cells ty)) := by
        simp [Instr.alloc, zeroValue, typeInfo, hq, hzz, newVar, newRow]
      rw [hi] at hr
      unfold Oper.wp
      simp only [execOp, ho, Sem.run_bind, hr, Result.andThen_ok, Sem.run_pure]
      exact h _ (Blk.new w ty l) ((Below.refl _ w).alloc (Nat.le_refl _) _)
/-- A new block. -/
def NewT (t : TypeId) (B : Nat) (l : List Value) (v : Value) (w : World) : Prop := ∃ lp, v = .pointer (some ⟨lp, 0, none⟩) ∧ B ≤ lp ∧ Blk w lp t l
def newT (t : TypeId) (B : Nat) (l : List Value) : Ent Lat := ⟨NewT t B l, fun v a b h k => by obtain ⟨lp, h1, h2, h3⟩ := h; exact ⟨lp, h1, h2, h3.later k⟩⟩
theorem built98 (x y z : Int) : Tryz.prog.built 85 [(0, .int .u64 x), (1, .int .i64 y), (2, .int .i64 z)] = some #[.int .u64 x, .int .i64 y, .int .i64 z, .slice none 0 0] := by kernel_rfl
theorem size98 : (Tryz.prog.info? 85).map (·.size) = some 4 := by kernel_rfl
theorem zero98 : (Tryz.prog.info? 85).map (fun i => i.zero.map (·.cells)) = some (some [Value.int .u64 0, .int .i64 0, .int .i64 0, .slice none 0 0].toArray) := by kernel_rfl

set_option maxRecDepth 100000 in
set_option maxHeartbeats 2000000 in
theorem rhead_r4 (b off n c g p s : Nat) (w : World) (a0 : Act) (Q : Exit → Act → World → Prop) (hsz : a0.tmps.size = 63)
    (s5 : a0.tmps.getD 5 undef = .slice (some ⟨b, off, none⟩) n c)
    (h16 : ¬ (c : Int) < 16)
    (h20 : ¬ (c : Int) < 20)
    (h24 : ¬ (c : Int) < 24)
    (n8 : ¬ c = 8)
    (n16 : ¬ c = 16)
    (n20 : ¬ c = 20)
    (hp : IntKind.i64.wrap (p : Int) = (p : Int))
    (hs : IntKind.i64.wrap (s : Int) = (s : Int))
    (k1 : ∀ w1, Lat w w1 → Calls Tryz.prog 96 #[.slice (some ⟨b, off + 8, none⟩) 8 (c - 8)] w1 fun e w2 => e = .returned (.int .u64 (g : Int)) ∧ Lat w1 w2)
    (k2 : ∀ w1, Lat w w1 → Calls Tryz.prog 96 #[.slice (some ⟨b, off + 16, none⟩) 4 (c - 16)] w1 fun e w2 => e = .returned (.int .u64 (p : Int)) ∧ Lat w1 w2)
    (k3 : ∀ w1, Lat w w1 → Calls Tryz.prog 96 #[.slice (some ⟨b, off + 20, none⟩) 4 (c - 20)] w1 fun e w2 => e = .returned (.int .u64 (s : Int)) ∧ Lat w1 w2)
    (hQ : ∀ (v33 v34 v35 v36 v37 v38 v39 v40 v41 v42 v43 v44 v7 : Value) (w1 : World) (hb : Nat), Lat w w1 → w.heap.size ≤ hb → v7 = .pointer (some ⟨hb, 0, none⟩) → Blk w1 hb 85 [Value.int .u64 0, .int .i64 0, .int .i64 0, .slice none 0 0] → Q .normal (((((((((((((a0.put (some 33) v33).put (some 34) v34).put (some 35) v35).put (some 36) v36).put (some 37) v37).put (some 38) v38).put (some 39) v39).put (some 40) v40).put (some 41) v41).put (some 42) v42).put (some 43) v43).put (some 44) v44).put (some 7) v7) (w1.setCells hb 0 [.int .u64 (g : Int), .int .i64 (p : Int), .int .i64 (s : Int), .slice none 0 0])) :
    Code.wp Tryz.prog ((Tryz.f85.body.bind (findRegion 4)).getD .skip) Q a0 w := by
  conv => arg 2; whnf
  refine wp_region_last 13 Lat (TE [Ent.val (.slice (some ⟨b, off, none⟩) n c), Ent.val (.slice (some ⟨b, off + 8, none⟩) 8 (c - 8)), Ent.val (.int .u64 (g : Int)), Ent.val (.slice (some ⟨b, off, none⟩) n c), Ent.val (.slice (some ⟨b, off + 16, none⟩) 4 (c - 16)), Ent.val (.int .u64 (p : Int)), Ent.val (.int .i64 (p : Int)), Ent.val (.slice (some ⟨b, off, none⟩) n c), Ent.val (.slice (some ⟨b, off + 20, none⟩) 4 (c - 20)), Ent.val (.int .u64 (s : Int)), Ent.val (.int .i64 (s : Int)), Ent.val (.agg #[.int .u64 (g : Int), .int .i64 (p : Int), .int .i64 (s : Int), .slice none 0 0]), newT 85 w.heap.size [Value.int .u64 0, .int .i64 0, .int .i64 0, .slice none 0 0]]) (by kernel_rfl) (by kernel_rfl) (by kernel_rfl) (by rw [hsz]; kernel_rfl) (by kernel_rfl) (by kernel_rfl) Lat.refl Lat.trans (TE_stable _) (Lat.draw w) ?hop ?hlast
  case hlast =>
    intro o a w1 ho hL hS hT
    obtain rfl := Option.some.inj ho
    have he := same_puts hS
    have kk := hT 12 _ (by omega) rfl
    obtain ⟨hb, kq, hbB, hbk⟩ := kk
    have dA : a.tmps.getD 7 undef = .pointer (some ⟨hb, 0, none⟩) := kq
    have dV : a.tmps.getD 44 undef = .agg #[.int .u64 (g : Int), .int .i64 (p : Int), .int .i64 (s : Int), .slice none 0 0] := hT 11 _ (by omega) rfl
    refine wp_store_mid 85 (.tmp 7) (.tmp 44) rfl hb 0 #[.int .u64 (g : Int), .int .i64 (p : Int), .int .i64 (s : Int), .slice none 0 0] dA dV (hbk.there 0 4 (by simp)) size98 (by simp [Value.oneCell']) ?_
    have hQ2 := hQ (a.tmps.getD 33 undef) (a.tmps.getD 34 undef) (a.tmps.getD 35 undef) (a.tmps.getD 36 undef) (a.tmps.getD 37 undef) (a.tmps.getD 38 undef) (a.tmps.getD 39 undef) (a.tmps.getD 40 undef) (a.tmps.getD 41 undef) (a.tmps.getD 42 undef) (a.tmps.getD 43 undef) (a.tmps.getD 44 undef) (a.tmps.getD 7 undef) w1 hb hL hbB kq hbk
    show Q .normal a _
    rw [he]
    exact hQ2
  case hop =>
    intro i o hlt hi
    rcases (show i = 0 ∨ i = 1 ∨ i = 2 ∨ i = 3 ∨ i = 4 ∨ i = 5 ∨ i = 6 ∨ i = 7 ∨ i = 8 ∨ i = 9 ∨ i = 10 ∨ i = 11 ∨ i = 12 by omega) with rfl | rfl | rfl | rfl | rfl | rfl | rfl | rfl | rfl | rfl | rfl | rfl | rfl
    · obtain rfl := Option.some.inj hi
      clear hi hlt
      intro a w1 hL hS hD
      have e5 : a.tmps.getD 5 undef = .slice (some ⟨b, off, none⟩) n c := (hS.slot 5 (by kernel_rfl)).trans s5
      refine step_yes rfl ?_
      exact ok_value Lat.refl (.slice (some ⟨b, off, none⟩) n c) (by simp [execOp, Act.eval, e5, go_sem]) rfl
    · obtain rfl := Option.some.inj hi
      clear hi hlt
      intro a w1 hL hS hD
      have d0 : a.tmps.getD 33 undef = .slice (some ⟨b, off, none⟩) n c := hD ⟨0, .data⟩ (by simp) rfl _ rfl
      refine step_yes rfl ?_
      exact ok_value Lat.refl (.slice (some ⟨b, off + 8, none⟩) 8 (c - 8)) (by simp [execOp, Act.eval, d0, h16, n8, go_sem]) rfl
    · obtain rfl := Option.some.inj hi
      clear hi hlt
      intro a w1 hL hS hD
      have d1 : a.tmps.getD 34 undef = .slice (some ⟨b, off + 8, none⟩) 8 (c - 8) := hD ⟨1, .data⟩ (by simp) rfl _ rfl
      refine step_yes rfl ?_
      refine ok_call (f := 96) (args := #[.slice (some ⟨b, off + 8, none⟩) 8 (c - 8)]) (by simp [execOp, resolve, Act.eval, d1, go_sem]) ?_
      refine (k1 w1 hL).mono ?_
      rintro e w2 ⟨rfl, hb⟩
      exact ⟨_, rfl, hb, rfl⟩
    · obtain rfl := Option.some.inj hi
      clear hi hlt
      intro a w1 hL hS hD
      have e5 : a.tmps.getD 5 undef = .slice (some ⟨b, off, none⟩) n c := (hS.slot 5 (by kernel_rfl)).trans s5
      refine step_yes rfl ?_
      exact ok_value Lat.refl (.slice (some ⟨b, off, none⟩) n c) (by simp [execOp, Act.eval, e5, go_sem]) rfl
    · obtain rfl := Option.some.inj hi
      clear hi hlt
      intro a w1 hL hS hD
      have d3 : a.tmps.getD 36 undef = .slice (some ⟨b, off, none⟩) n c := hD ⟨3, .data⟩ (by simp) rfl _ rfl
      refine step_yes rfl ?_
      exact ok_value Lat.refl (.slice (some ⟨b, off + 16, none⟩) 4 (c - 16)) (by simp [execOp, Act.eval, d3, h20, n16, go_sem]) rfl
    · obtain rfl := Option.some.inj hi
      clear hi hlt
      intro a w1 hL hS hD
      have d4 : a.tmps.getD 37 undef = .slice (some ⟨b, off + 16, none⟩) 4 (c - 16) := hD ⟨4, .data⟩ (by simp) rfl _ rfl
      refine step_yes rfl ?_
      refine ok_call (f := 96) (args := #[.slice (some ⟨b, off + 16, none⟩) 4 (c - 16)]) (by simp [execOp, resolve, Act.eval, d4, go_sem]) ?_
      refine (k2 w1 hL).mono ?_
      rintro e w2 ⟨rfl, hb⟩
      exact ⟨_, rfl, hb, rfl⟩
    · obtain rfl := Option.some.inj hi
      clear hi hlt
      intro a w1 hL hS hD
      have d5 : a.tmps.getD 38 undef = .int .u64 (p : Int) := hD ⟨5, .data⟩ (by simp) rfl _ rfl
      refine step_yes rfl ?_
      exact ok_value Lat.refl (.int .i64 (p : Int)) (by simp [execOp, Act.eval, d5, hp, go_sem]) rfl
    · obtain rfl := Option.some.inj hi
      clear hi hlt
      intro a w1 hL hS hD
      have e5 : a.tmps.getD 5 undef = .slice (some ⟨b, off, none⟩) n c := (hS.slot 5 (by kernel_rfl)).trans s5
      refine step_yes rfl ?_
      exact ok_value Lat.refl (.slice (some ⟨b, off, none⟩) n c) (by simp [execOp, Act.eval, e5, go_sem]) rfl
    · obtain rfl := Option.some.inj hi
      clear hi hlt
      intro a w1 hL hS hD
      have d7 : a.tmps.getD 40 undef = .slice (some ⟨b, off, none⟩) n c := hD ⟨7, .data⟩ (by simp) rfl _ rfl
      refine step_yes rfl ?_
      exact ok_value Lat.refl (.slice (some ⟨b, off + 20, none⟩) 4 (c - 20)) (by simp [execOp, Act.eval, d7, h24, n20, go_sem]) rfl
    · obtain rfl := Option.some.inj hi
      clear hi hlt
      intro a w1 hL hS hD
      have d8 : a.tmps.getD 41 undef = .slice (some ⟨b, off + 20, none⟩) 4 (c - 20) := hD ⟨8, .data⟩ (by simp) rfl _ rfl
      refine step_yes rfl ?_
      refine ok_call (f := 96) (args := #[.slice (some ⟨b, off + 20, none⟩) 4 (c - 20)]) (by simp [execOp, resolve, Act.eval, d8, go_sem]) ?_
      refine (k3 w1 hL).mono ?_
      rintro e w2 ⟨rfl, hb⟩
      exact ⟨_, rfl, hb, rfl⟩
    · obtain rfl := Option.some.inj hi
      clear hi hlt
      intro a w1 hL hS hD
      have d9 : a.tmps.getD 42 undef = .int .u64 (s : Int) := hD ⟨9, .data⟩ (by simp) rfl _ rfl
      refine step_yes rfl ?_
      exact ok_value Lat.refl (.int .i64 (s : Int)) (by simp [execOp, Act.eval, d9, hs, go_sem]) rfl
    · obtain rfl := Option.some.inj hi
      clear hi hlt
      intro a w1 hL hS hD
      have d2 : a.tmps.getD 35 undef = .int .u64 (g : Int) := hD ⟨2, .data⟩ (by simp) rfl _ rfl
      have d6 : a.tmps.getD 39 undef = .int .i64 (p : Int) := hD ⟨6, .data⟩ (by simp) rfl _ rfl
      have d10 : a.tmps.getD 43 undef = .int .i64 (s : Int) := hD ⟨10, .data⟩ (by simp) rfl _ rfl
      refine step_yes rfl ?_
      exact ok_build Lat.refl 85 #[(0, .tmp 35), (1, .tmp 39), (2, .tmp 43)] rfl [(0, .int .u64 (g : Int)), (1, .int .i64 (p : Int)), (2, .int .i64 (s : Int))] #[.int .u64 (g : Int), .int .i64 (p : Int), .int .i64 (s : Int), .slice none 0 0] (by simp [Act.eval]; simp only [Array.getD_eq_getD_getElem?] at d2 d6 d10; exact ⟨d2, d6, d10⟩) (built98 _ _ _) rfl
    · obtain rfl := Option.some.inj hi
      clear hi hlt
      intro a w1 hL hS hD
      refine step_yes rfl ?_
      have hwz := hL.size
      refine wp_alloc_any 85 rfl [Value.int .u64 0, .int .i64 0, .int .i64 0, .slice none 0 0] zero98 ?_
      intro w2 hB2 hb2
      exact ⟨_, rfl, hb2, w1.heap.size, rfl, hwz, hB2⟩

set_option maxRecDepth 100000 in
set_option maxHeartbeats 2000000 in
theorem rhead_r5_eq (b off n c hb : Nat) (xs : List Int) (w : World) (a0 : Act) (Q : Exit → Act → World → Prop) (hsz : a0.tmps.size = 63)
    (s5 : a0.tmps.getD 5 undef = .slice (some ⟨b, off, none⟩) 24 24)
    (s7 : a0.tmps.getD 7 undef = .pointer (some ⟨hb, 0, none⟩))
    (hc : ∀ w1, Lat w w1 → w1.cell? ⟨hb, 3, none⟩ = some (.slice none 0 0))
    (hx : ∀ w1, Lat w w1 → Sl w1 (some ⟨b, off, none⟩) 0 xs)
    (u : Value) (hcell : ∀ w1, Lat w w1 → w1.cell? ⟨hb, 3, none⟩ = some u) (hfrz : ∀ w1, Lat w w1 → w1.frozen? ⟨hb, 3, none⟩ = false)
    (hQ : ∀ (v45 v46 v47 v48 v49 v50 : Value) (w1 : World) (ag : Option Addr) (cg : Nat), Lat w w1 → RowE w.heap.size 0 xs (.slice ag 0 cg) w1 → Q .normal ((((((a0.put (some 45) v45).put (some 46) v46).put (some 47) v47).put (some 48) v48).put (some 49) v49).put (some 50) v50) (w1.setCell ⟨hb, 3, none⟩ (.slice ag 0 cg))) :
    Code.wp Tryz.prog ((Tryz.f85.body.bind (findRegion 5)).getD .skip) Q a0 w := by
  conv => arg 2; whnf
  refine wp_region_last 6 Lat (TE [Ent.val (.pointer (some ⟨hb, 3, none⟩)), Ent.val (.slice none 0 0), Ent.val (.slice (some ⟨b, off, none⟩) 24 24), Ent.val (.slice (some ⟨b, off, none⟩) 0 0), rowE w.heap.size 0 xs, Ent.val (.pointer (some ⟨hb, 3, none⟩))]) (by kernel_rfl) (by kernel_rfl) (by kernel_rfl) (by rw [hsz]; kernel_rfl) (by kernel_rfl) (by kernel_rfl) Lat.refl Lat.trans (TE_stable _) (Lat.draw w) ?hop ?hlast
  case hlast =>
    intro o a w1 ho hL hS hT
    obtain rfl := Option.some.inj ho
    have dA : a.tmps.getD 50 undef = .pointer (some ⟨hb, 3, none⟩) := hT 5 _ (by omega) rfl
    have dV0 := hT 4 _ (by omega) rfl
    obtain ⟨ag, cg, dVq, hr⟩ := dV0
    have dV : a.tmps.getD 49 undef = .slice ag 0 cg := dVq
    have he := same_puts hS
    have hQ2 := hQ (a.tmps.getD 45 undef) (a.tmps.getD 46 undef) (a.tmps.getD 47 undef) (a.tmps.getD 48 undef) (a.tmps.getD 49 undef) (a.tmps.getD 50 undef) w1 ag cg hL ⟨ag, cg, rfl, dVq ▸ hr⟩
    have hc1 := hcell w1 hL
    have hf1 := hfrz w1 hL
    unfold Oper.wp
    simp [execOp, Act.eval, dA, dV, hc1, hf1, Result.andThen, go_sem]
    show Q .normal a _
    rw [he]
    exact hQ2
  case hop =>
    intro i o hlt hi
    rcases (show i = 0 ∨ i = 1 ∨ i = 2 ∨ i = 3 ∨ i = 4 ∨ i = 5 by omega) with rfl | rfl | rfl | rfl | rfl | rfl
    · obtain rfl := Option.some.inj hi
      clear hi hlt
      intro a w1 hL hS hD
      have e7 : a.tmps.getD 7 undef = .pointer (some ⟨hb, 0, none⟩) := (hS.slot 7 (by kernel_rfl)).trans s7
      refine step_yes rfl ?_
      exact ok_value Lat.refl (.pointer (some ⟨hb, 3, none⟩)) (by simp [execOp, Act.eval, e7, go_sem]) rfl
    · obtain rfl := Option.some.inj hi
      clear hi hlt
      intro a w1 hL hS hD
      have d0 : a.tmps.getD 45 undef = .pointer (some ⟨hb, 3, none⟩) := hD ⟨0, .data⟩ (by simp) rfl _ rfl
      refine step_yes rfl ?_
      exact ok_value Lat.refl (.slice none 0 0) (by simp [execOp, Act.eval, d0, hc w1 hL, go_sem]) rfl
    · obtain rfl := Option.some.inj hi
      clear hi hlt
      intro a w1 hL hS hD
      have e5 : a.tmps.getD 5 undef = .slice (some ⟨b, off, none⟩) 24 24 := (hS.slot 5 (by kernel_rfl)).trans s5
      refine step_yes rfl ?_
      exact ok_value Lat.refl (.slice (some ⟨b, off, none⟩) 24 24) (by simp [execOp, Act.eval, e5, go_sem]) rfl
    · obtain rfl := Option.some.inj hi
      clear hi hlt
      intro a w1 hL hS hD
      have d2 : a.tmps.getD 47 undef = .slice (some ⟨b, off, none⟩) 24 24 := hD ⟨2, .data⟩ (by simp) rfl _ rfl
      refine step_yes rfl ?_
      exact ok_value Lat.refl (.slice (some ⟨b, off, none⟩) 0 0) (by simp [execOp, Act.eval, d2, go_sem]) rfl
    · obtain rfl := Option.some.inj hi
      clear hi hlt
      intro a w1 hL hS hD
      have d1 : a.tmps.getD 46 undef = .slice none 0 0 := hD ⟨1, .data⟩ (by simp) rfl _ rfl
      have d3 : a.tmps.getD 48 undef = .slice (some ⟨b, off, none⟩) 0 0 := hD ⟨3, .data⟩ (by simp) rfl _ rfl
      refine step_yes rfl ?_
      obtain ⟨i0, hi0, hz0, hz1, hz2⟩ := info_parts info5
      refine wp_appends w1 (.tmp 46) (.tmp 48) 28 rfl 5 i0 (.int .u8 0) Tryz.underlying28 hi0 hz0 hz1 hz2 rfl (.slice none 0 0) 0 [] d1 (World.ownsRow_nil _ _ _ _) (some ⟨b, off, none⟩) 0 0 xs d3 (hx w1 hL) (fun h => by cases h) (by omega) ?_
      intro v' w' ho hc' hm
      rw [Nat.zero_add, List.nil_append] at ho
      obtain ⟨a1, c1, rfl⟩ := owns_form ho
      exact ⟨_, rfl, hc'.bel_none (fun g hg => by cases hg), a1, c1, rfl, owns_baseG ho (fun g hg => Nat.le_trans hL.size (moved_ge hm hg))⟩
    · obtain rfl := Option.some.inj hi
      clear hi hlt
      intro a w1 hL hS hD
      have e7 : a.tmps.getD 7 undef = .pointer (some ⟨hb, 0, none⟩) := (hS.slot 7 (by kernel_rfl)).trans s7
      refine step_yes rfl ?_
      exact ok_value Lat.refl (.pointer (some ⟨hb, 3, none⟩)) (by simp [execOp, Act.eval, e7, go_sem]) rfl

set_option maxRecDepth 100000 in
set_option maxHeartbeats 2000000 in
theorem rhead_r5 (b off n c hb : Nat) (xs : List Int) (w : World) (a0 : Act) (Q : Exit → Act → World → Prop) (hsz : a0.tmps.size = 63)
    (s5 : a0.tmps.getD 5 undef = .slice (some ⟨b, off, none⟩) n c)
    (s7 : a0.tmps.getD 7 undef = .pointer (some ⟨hb, 0, none⟩))
    (hc : ∀ w1, Lat w w1 → w1.cell? ⟨hb, 3, none⟩ = some (.slice none 0 0))
    (hx : ∀ w1, Lat w w1 → Sl w1 (some ⟨b, off + 24, none⟩) (n - 24) xs)
    (hn24 : ¬ (n : Int) < 24)
    (hnc : n ≤ c)
    (hne : ¬ c = 24)
    (hbn : n ≤ 70368744177664)
    (u : Value) (hcell : ∀ w1, Lat w w1 → w1.cell? ⟨hb, 3, none⟩ = some u) (hfrz : ∀ w1, Lat w w1 → w1.frozen? ⟨hb, 3, none⟩ = false)
    (hQ : ∀ (v45 v46 v47 v48 v49 v50 : Value) (w1 : World) (ag : Option Addr) (cg : Nat), Lat w w1 → RowE w.heap.size (n - 24) xs (.slice ag (n - 24) cg) w1 → Q .normal ((((((a0.put (some 45) v45).put (some 46) v46).put (some 47) v47).put (some 48) v48).put (some 49) v49).put (some 50) v50) (w1.setCell ⟨hb, 3, none⟩ (.slice ag (n - 24) cg))) :
    Code.wp Tryz.prog ((Tryz.f85.body.bind (findRegion 5)).getD .skip) Q a0 w := by
  conv => arg 2; whnf
  refine wp_region_last 6 Lat (TE [Ent.val (.pointer (some ⟨hb, 3, none⟩)), Ent.val (.slice none 0 0), Ent.val (.slice (some ⟨b, off, none⟩) n c), Ent.val (.slice (some ⟨b, off + 24, none⟩) (n - 24) (c - 24)), rowE w.heap.size (n - 24) xs, Ent.val (.pointer (some ⟨hb, 3, none⟩))]) (by kernel_rfl) (by kernel_rfl) (by kernel_rfl) (by rw [hsz]; kernel_rfl) (by kernel_rfl) (by kernel_rfl) Lat.refl Lat.trans (TE_stable _) (Lat.draw w) ?hop ?hlast
  case hlast =>
    intro o a w1 ho hL hS hT
    obtain rfl := Option.some.inj ho
    have dA : a.tmps.getD 50 undef = .pointer (some ⟨hb, 3, none⟩) := hT 5 _ (by omega) rfl
    have dV0 := hT 4 _ (by omega) rfl
    obtain ⟨ag, cg, dVq, hr⟩ := dV0
    have dV : a.tmps.getD 49 undef = .slice ag (n - 24) cg := dVq
    have he := same_puts hS
    have hQ2 := hQ (a.tmps.getD 45 undef) (a.tmps.getD 46 undef) (a.tmps.getD 47 undef) (a.tmps.getD 48 undef) (a.tmps.getD 49 undef) (a.tmps.getD 50 undef) w1 ag cg hL ⟨ag, cg, rfl, dVq ▸ hr⟩
    have hc1 := hcell w1 hL
    have hf1 := hfrz w1 hL
    unfold Oper.wp
    simp [execOp, Act.eval, dA, dV, hc1, hf1, Result.andThen, go_sem]
    show Q .normal a _
    rw [he]
    exact hQ2
  case hop =>
    intro i o hlt hi
    rcases (show i = 0 ∨ i = 1 ∨ i = 2 ∨ i = 3 ∨ i = 4 ∨ i = 5 by omega) with rfl | rfl | rfl | rfl | rfl | rfl
    · obtain rfl := Option.some.inj hi
      clear hi hlt
      intro a w1 hL hS hD
      have e7 : a.tmps.getD 7 undef = .pointer (some ⟨hb, 0, none⟩) := (hS.slot 7 (by kernel_rfl)).trans s7
      refine step_yes rfl ?_
      exact ok_value Lat.refl (.pointer (some ⟨hb, 3, none⟩)) (by simp [execOp, Act.eval, e7, go_sem]) rfl
    · obtain rfl := Option.some.inj hi
      clear hi hlt
      intro a w1 hL hS hD
      have d0 : a.tmps.getD 45 undef = .pointer (some ⟨hb, 3, none⟩) := hD ⟨0, .data⟩ (by simp) rfl _ rfl
      refine step_yes rfl ?_
      exact ok_value Lat.refl (.slice none 0 0) (by simp [execOp, Act.eval, d0, hc w1 hL, go_sem]) rfl
    · obtain rfl := Option.some.inj hi
      clear hi hlt
      intro a w1 hL hS hD
      have e5 : a.tmps.getD 5 undef = .slice (some ⟨b, off, none⟩) n c := (hS.slot 5 (by kernel_rfl)).trans s5
      refine step_yes rfl ?_
      exact ok_value Lat.refl (.slice (some ⟨b, off, none⟩) n c) (by simp [execOp, Act.eval, e5, go_sem]) rfl
    · obtain rfl := Option.some.inj hi
      clear hi hlt
      intro a w1 hL hS hD
      have d2 : a.tmps.getD 47 undef = .slice (some ⟨b, off, none⟩) n c := hD ⟨2, .data⟩ (by simp) rfl _ rfl
      refine step_yes rfl ?_
      exact ok_value Lat.refl (.slice (some ⟨b, off + 24, none⟩) (n - 24) (c - 24)) (by simp [execOp, Act.eval, d2, hn24, hnc, hne, go_sem]) rfl
    · obtain rfl := Option.some.inj hi
      clear hi hlt
      intro a w1 hL hS hD
      have d1 : a.tmps.getD 46 undef = .slice none 0 0 := hD ⟨1, .data⟩ (by simp) rfl _ rfl
      have d3 : a.tmps.getD 48 undef = .slice (some ⟨b, off + 24, none⟩) (n - 24) (c - 24) := hD ⟨3, .data⟩ (by simp) rfl _ rfl
      refine step_yes rfl ?_
      obtain ⟨i0, hi0, hz0, hz1, hz2⟩ := info_parts info5
      refine wp_appends w1 (.tmp 46) (.tmp 48) 28 rfl 5 i0 (.int .u8 0) Tryz.underlying28 hi0 hz0 hz1 hz2 rfl (.slice none 0 0) 0 [] d1 (World.ownsRow_nil _ _ _ _) (some ⟨b, off + 24, none⟩) (n - 24) (c - 24) xs d3 (hx w1 hL) (fun h => by cases h) (by omega) ?_
      intro v' w' ho hc' hm
      rw [Nat.zero_add, List.nil_append] at ho
      obtain ⟨a1, c1, rfl⟩ := owns_form ho
      exact ⟨_, rfl, hc'.bel_none (fun g hg => by cases hg), a1, c1, rfl, owns_baseG ho (fun g hg => Nat.le_trans hL.size (moved_ge hm hg))⟩
    · obtain rfl := Option.some.inj hi
      clear hi hlt
      intro a w1 hL hS hD
      have e7 : a.tmps.getD 7 undef = .pointer (some ⟨hb, 0, none⟩) := (hS.slot 7 (by kernel_rfl)).trans s7
      refine step_yes rfl ?_
      exact ok_value Lat.refl (.pointer (some ⟨hb, 3, none⟩)) (by simp [execOp, Act.eval, e7, go_sem]) rfl

theorem built107 (p fa v g cp sl sn sc : Nat) (sa : Option Addr) : Tryz.prog.built 91 [(0, .pointer (some ⟨p, 0, none⟩)), (1, .int .i64 (fa : Int)), (2, .int .i64 (v : Int)), (3, .agg #[.int .u64 (g : Int), .int .i64 (cp : Int), .int .i64 (sl : Int), .slice sa sn sc])] = some #[.pointer (some ⟨p, 0, none⟩), .int .i64 (fa : Int), .int .i64 (v : Int), .int .u64 (g : Int), .int .i64 (cp : Int), .int .i64 (sl : Int), .slice sa sn sc] := by kernel_rfl

set_option maxRecDepth 100000 in
set_option maxHeartbeats 2000000 in
theorem ropen_r35 (p fb fa v g cp sl sn sc rn rc : Nat) (sa ra : Option Addr) (w : World) (a0 : Act) (Q : Exit → Act → World → Prop) (hsz : a0.tmps.size = 150)
    (s0 : a0.tmps.getD 0 undef = .pointer (some ⟨p, 0, none⟩))
    (s12 : a0.tmps.getD 12 undef = .int .i64 (v : Int))
    (s13 : a0.tmps.getD 13 undef = .pointer (some ⟨fb, 0, none⟩))
    (s17 : a0.tmps.getD 17 undef = .slice ra rn rc)
    (hf : ∀ w1, Lat w w1 → w1.cell? ⟨p, 2, none⟩ = some (.int .i64 (fa : Int)))
    (hH : ∀ w1, Lat w w1 → Blk w1 fb 85 [.int .u64 (g : Int), .int .i64 (cp : Int), .int .i64 (sl : Int), .slice sa sn sc])
    (hs : ∀ w1, Lat w w1 → w1.cell? ⟨fb, 3, none⟩ = some (.slice sa sn sc))
    (hQ : ∀ (v138 v139 v140 v141 v142 v143 v144 v145 v146 v147 v148 v149 v2 v3 v4 v5 : Value) (w1 : World), Lat w w1 → NewT 91 w.heap.size [.pointer (some ⟨p, 0, none⟩), .int .i64 (fa : Int), .int .i64 (v : Int), .int .u64 (g : Int), .int .i64 (cp : Int), .int .i64 (sl : Int), .slice sa sn sc] v2 w1 ∧ v3 = .slice sa sn sc ∧ v4 = .slice ra rn rc ∧ v5 = .int .i64 0 → Q .normal ((((((((((((((((a0.put (some 138) v138).put (some 139) v139).put (some 140) v140).put (some 141) v141).put (some 142) v142).put (some 143) v143).put (some 144) v144).put (some 145) v145).put (some 146) v146).put (some 147) v147).put (some 148) v148).put (some 149) v149).put (some 2) v2).put (some 3) v3).put (some 4) v4).put (some 5) v5) w1) :
    Code.wp Tryz.prog ((Tryz.f55.body.bind (findRegion 35)).getD .skip) Q a0 w := by
  conv => arg 2; whnf
  refine wp_region_inv Lat (TE [Ent.val (.pointer (some ⟨p, 0, none⟩)), Ent.val (.pointer (some ⟨p, 0, none⟩)), Ent.val (.pointer (some ⟨p, 0, none⟩)), Ent.val (.pointer (some ⟨p, 2, none⟩)), Ent.val (.int .i64 (fa : Int)), Ent.val (.int .i64 (v : Int)), Ent.val (.agg #[.int .u64 (g : Int), .int .i64 (cp : Int), .int .i64 (sl : Int), .slice sa sn sc]), Ent.val (.agg #[.pointer (some ⟨p, 0, none⟩), .int .i64 (fa : Int), .int .i64 (v : Int), .int .u64 (g : Int), .int .i64 (cp : Int), .int .i64 (sl : Int), .slice sa sn sc]), newT 91 w.heap.size [.pointer (some ⟨p, 0, none⟩), .int .i64 (fa : Int), .int .i64 (v : Int), .int .u64 (g : Int), .int .i64 (cp : Int), .int .i64 (sl : Int), .slice sa sn sc], Ent.val (.pointer (some ⟨fb, 3, none⟩)), Ent.val (.slice sa sn sc), Ent.val (.slice ra rn rc), newT 91 w.heap.size [.pointer (some ⟨p, 0, none⟩), .int .i64 (fa : Int), .int .i64 (v : Int), .int .u64 (g : Int), .int .i64 (cp : Int), .int .i64 (sl : Int), .slice sa sn sc], Ent.val (.slice sa sn sc), Ent.val (.slice ra rn rc), Ent.val (.int .i64 0)]) (by kernel_rfl) (by kernel_rfl) (by kernel_rfl) (by rw [hsz]; kernel_rfl) (by kernel_rfl) Lat.refl Lat.trans (TE_stable _) (Lat.draw w) ?hop ?hdone
  case hdone =>
    intro a w1 hL hS hT
    have he := same_puts hS
    rw [he]
    exact hQ (a.tmps.getD 138 undef) (a.tmps.getD 139 undef) (a.tmps.getD 140 undef) (a.tmps.getD 141 undef) (a.tmps.getD 142 undef) (a.tmps.getD 143 undef) (a.tmps.getD 144 undef) (a.tmps.getD 145 undef) (a.tmps.getD 146 undef) (a.tmps.getD 147 undef) (a.tmps.getD 148 undef) (a.tmps.getD 149 undef) (a.tmps.getD 2 undef) (a.tmps.getD 3 undef) (a.tmps.getD 4 undef) (a.tmps.getD 5 undef) w1 hL (⟨hT 12 _ rfl, hT 13 _ rfl, hT 14 _ rfl, hT 15 _ rfl⟩)
  case hop =>
    intro i o hi
    have hlt : i < 16 := (Array.getElem?_eq_some_iff.1 hi).1
    rcases (show i = 0 ∨ i = 1 ∨ i = 2 ∨ i = 3 ∨ i = 4 ∨ i = 5 ∨ i = 6 ∨ i = 7 ∨ i = 8 ∨ i = 9 ∨ i = 10 ∨ i = 11 ∨ i = 12 ∨ i = 13 ∨ i = 14 ∨ i = 15 by omega) with rfl | rfl | rfl | rfl | rfl | rfl | rfl | rfl | rfl | rfl | rfl | rfl | rfl | rfl | rfl | rfl
    · obtain rfl := Option.some.inj hi
      clear hi hlt
      intro a w1 hL hS hD
      have e0 : a.tmps.getD 0 undef = .pointer (some ⟨p, 0, none⟩) := (hS.slot 0 (by kernel_rfl)).trans s0
      refine step_yes rfl ?_
      exact ok_value Lat.refl (.pointer (some ⟨p, 0, none⟩)) (by simp [execOp, Act.eval, e0, go_sem]) rfl
    · obtain rfl := Option.some.inj hi
      clear hi hlt
      intro a w1 hL hS hD
      have e0 : a.tmps.getD 0 undef = .pointer (some ⟨p, 0, none⟩) := (hS.slot 0 (by kernel_rfl)).trans s0
      refine step_yes rfl ?_
      exact ok_value Lat.refl (.pointer (some ⟨p, 0, none⟩)) (by simp [execOp, Act.eval, e0, go_sem]) rfl
    · obtain rfl := Option.some.inj hi
      clear hi hlt
      intro a w1 hL hS hD
      have d1 : a.tmps.getD 139 undef = .pointer (some ⟨p, 0, none⟩) := hD ⟨1, .data⟩ (by simp) rfl _ rfl
      refine step_yes rfl ?_
      exact ok_value Lat.refl (.pointer (some ⟨p, 0, none⟩)) (by simp [execOp, Act.eval, d1, go_sem]) rfl
    · obtain rfl := Option.some.inj hi
      clear hi hlt
      intro a w1 hL hS hD
      have d2 : a.tmps.getD 140 undef = .pointer (some ⟨p, 0, none⟩) := hD ⟨2, .data⟩ (by simp) rfl _ rfl
      refine step_yes rfl ?_
      exact ok_value Lat.refl (.pointer (some ⟨p, 2, none⟩)) (by simp [execOp, Act.eval, d2, go_sem]) rfl
    · obtain rfl := Option.some.inj hi
      clear hi hlt
      intro a w1 hL hS hD
      have d3 : a.tmps.getD 141 undef = .pointer (some ⟨p, 2, none⟩) := hD ⟨3, .data⟩ (by simp) rfl _ rfl
      refine step_yes rfl ?_
      exact ok_value Lat.refl (.int .i64 (fa : Int)) (by simp [execOp, Act.eval, d3, hf w1 hL, go_sem]) rfl
    · obtain rfl := Option.some.inj hi
      clear hi hlt
      intro a w1 hL hS hD
      have e12 : a.tmps.getD 12 undef = .int .i64 (v : Int) := (hS.slot 12 (by kernel_rfl)).trans s12
      refine step_yes rfl ?_
      exact ok_value Lat.refl (.int .i64 (v : Int)) (by simp [execOp, Act.eval, e12, go_sem]) rfl
    · obtain rfl := Option.some.inj hi
      clear hi hlt
      intro a w1 hL hS hD
      have e13 : a.tmps.getD 13 undef = .pointer (some ⟨fb, 0, none⟩) := (hS.slot 13 (by kernel_rfl)).trans s13
      refine step_yes rfl ?_
      refine wp_load_mid 85 (.tmp 13) rfl fb 0 e13 [.int .u64 (g : Int), .int .i64 (cp : Int), .int .i64 (sl : Int), .slice sa sn sc] _ (hH w1 hL).all Tryz.underlying85 rfl size98 ?_
      exact ⟨_, rfl, Lat.refl _, rfl⟩
    · obtain rfl := Option.some.inj hi
      clear hi hlt
      intro a w1 hL hS hD
      have d0 : a.tmps.getD 138 undef = .pointer (some ⟨p, 0, none⟩) := hD ⟨0, .data⟩ (by simp) rfl _ rfl
      have d4 : a.tmps.getD 142 undef = .int .i64 (fa : Int) := hD ⟨4, .data⟩ (by simp) rfl _ rfl
      have d5 : a.tmps.getD 143 undef = .int .i64 (v : Int) := hD ⟨5, .data⟩ (by simp) rfl _ rfl
      have d6 : a.tmps.getD 144 undef = .agg #[.int .u64 (g : Int), .int .i64 (cp : Int), .int .i64 (sl : Int), .slice sa sn sc] := hD ⟨6, .data⟩ (by simp) rfl _ rfl
      refine step_yes rfl ?_
      exact ok_build Lat.refl 91 #[(0, .tmp 138), (1, .tmp 142), (2, .tmp 143), (3, .tmp 144)] rfl [(0, .pointer (some ⟨p, 0, none⟩)), (1, .int .i64 (fa : Int)), (2, .int .i64 (v : Int)), (3, .agg #[.int .u64 (g : Int), .int .i64 (cp : Int), .int .i64 (sl : Int), .slice sa sn sc])] #[.pointer (some ⟨p, 0, none⟩), .int .i64 (fa : Int), .int .i64 (v : Int), .int .u64 (g : Int), .int .i64 (cp : Int), .int .i64 (sl : Int), .slice sa sn sc] (by simp [Act.eval]; simp only [Array.getD_eq_getD_getElem?] at d0 d4 d5 d6; exact ⟨d0, d4, d5, d6⟩) (built107 _ _ _ _ _ _ _ _ _) rfl
    · obtain rfl := Option.some.inj hi
      clear hi hlt
      intro a w1 hL hS hD
      have d7 : a.tmps.getD 145 undef = .agg #[.pointer (some ⟨p, 0, none⟩), .int .i64 (fa : Int), .int .i64 (v : Int), .int .u64 (g : Int), .int .i64 (cp : Int), .int .i64 (sl : Int), .slice sa sn sc] := hD ⟨7, .data⟩ (by simp) rfl _ rfl
      refine step_yes rfl ?_
      have hwz := hL.size
      refine wp_box_any 91 (.tmp 145) rfl [.pointer (some ⟨p, 0, none⟩), .int .i64 (fa : Int), .int .i64 (v : Int), .int .u64 (g : Int), .int .i64 (cp : Int), .int .i64 (sl : Int), .slice sa sn sc] d7 ?_
      intro w2 hB2 hb2
      exact ⟨_, rfl, hb2, w1.heap.size, rfl, hwz, hB2⟩
    · obtain rfl := Option.some.inj hi
      clear hi hlt
      intro a w1 hL hS hD
      have e13 : a.tmps.getD 13 undef = .pointer (some ⟨fb, 0, none⟩) := (hS.slot 13 (by kernel_rfl)).trans s13
      refine step_yes rfl ?_
      exact ok_value Lat.refl (.pointer (some ⟨fb, 3, none⟩)) (by simp [execOp, Act.eval, e13, go_sem]) rfl
    · obtain rfl := Option.some.inj hi
      clear hi hlt
      intro a w1 hL hS hD
      have d9 : a.tmps.getD 147 undef = .pointer (some ⟨fb, 3, none⟩) := hD ⟨9, .data⟩ (by simp) rfl _ rfl
      refine step_yes rfl ?_
      exact ok_value Lat.refl (.slice sa sn sc) (by simp [execOp, Act.eval, d9, hs w1 hL, go_sem]) rfl
    · obtain rfl := Option.some.inj hi
      clear hi hlt
      intro a w1 hL hS hD
      have e17 : a.tmps.getD 17 undef = .slice ra rn rc := (hS.slot 17 (by kernel_rfl)).trans s17
      refine step_yes rfl ?_
      exact ok_value Lat.refl (.slice ra rn rc) (by simp [execOp, Act.eval, e17, go_sem]) rfl
    · obtain rfl := Option.some.inj hi
      clear hi hlt
      intro a w1 hL hS hD
      have d8 := hD ⟨8, .data⟩ (by simp) rfl _ rfl
      refine step_yes rfl ?_
      exact ok_value Lat.refl (a.tmps.getD 146 undef) (by simp [execOp, Act.eval, go_sem]) d8
    · obtain rfl := Option.some.inj hi
      clear hi hlt
      intro a w1 hL hS hD
      have d10 : a.tmps.getD 148 undef = .slice sa sn sc := hD ⟨10, .data⟩ (by simp) rfl _ rfl
      refine step_yes rfl ?_
      exact ok_value Lat.refl (.slice sa sn sc) (by simp [execOp, Act.eval, d10, go_sem]) rfl
    · obtain rfl := Option.some.inj hi
      clear hi hlt
      intro a w1 hL hS hD
      have d11 : a.tmps.getD 149 undef = .slice ra rn rc := hD ⟨11, .data⟩ (by simp) rfl _ rfl
      refine step_yes rfl ?_
      exact ok_value Lat.refl (.slice ra rn rc) (by simp [execOp, Act.eval, d11, go_sem]) rfl
    · obtain rfl := Option.some.inj hi
      clear hi hlt
      intro a w1 hL hS hD
      refine step_yes rfl ?_
      exact ok_value Lat.refl (.int .i64 0) (by simp [execOp, Act.eval, go_sem]) rfl


end Go.Proofs.YtnfjhdedcnbdbaaGreat
