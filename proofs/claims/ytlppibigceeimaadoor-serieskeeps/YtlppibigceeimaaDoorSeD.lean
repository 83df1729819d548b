import Derived.Test.YtlppibigceeimaaDoorSeB
import Derived.Test.YtlppibigceeimaaDoorAnyQ
/-
  Package series: regions 1 and 4 of the packer's take.
-/
namespace Go.Proofs.YtlppibigceeimaaDoor
open Go.RowKit
set_option linter.unusedVariables false
set_option linter.unusedSimpArgs false

theorem wp_callr {P : Program} {o : Oper} {a : Act} {w : World} {K : Act → World → Prop} {Q : Exit → Act → World → Prop} {f : FuncId} {args : Array Value} (h : (execOp a.eval o).run P w = .ok (.enter f args) w) (hc : Calls P f args w fun e w' => ∃ v, e = .returned v ∧ K (a.put o.dst v) w') : o.wp P a w K Q := by
  unfold Oper.wp
  rw [h]
  refine Calls.mono hc ?_
  rintro e w' ⟨v, rfl, hk⟩
  exact hk
theorem wp_valr {P : Program} {Q : Exit → Act → World → Prop} {K : Act → World → Prop} {o : Oper} {a : Act} {w w' : World} (v : Value) (h : (execOp a.eval o).run P w = .ok (.value v) w') (hk : K (a.put o.dst v) w') : o.wp P a w K Q := by
  unfold Oper.wp
  rw [h]
  exact hk
set_option maxRecDepth 100000 in
set_option maxHeartbeats 2000000 in
theorem pk_r1 (b c g v : Nat) (t : Int) (ff : Bool) (I : Nat → World → Prop) (w : World) (a0 : Act) (Q : Exit → Act → World → Prop) (hsz : a0.tmps.size = 42)
    (s0 : a0.tmps.getD 0 undef = .pointer (some ⟨b, 0, none⟩))
    (s3 : a0.tmps.getD 3 undef = .pointer (some ⟨g, 0, none⟩))
    (cc : ∀ w1, (∃ k, k ≤ 1 ∧ I k w1) → w1.cell? ⟨b, 1, none⟩ = some (.pointer (some ⟨c, 0, none⟩)))
    (c0 : ∀ w1, (∃ k, k ≤ 1 ∧ I k w1) → w1.cell? ⟨g, 0, none⟩ = some (.int .i64 t))
    (c1 : ∀ w1, (∃ k, k ≤ 1 ∧ I k w1) → w1.cell? ⟨g, 1, none⟩ = some (.int .u64 (v : Int)))
    (h0 : I 0 { w with drawn := w.drawn + 1 })
    (hC0 : ∀ w1, I 0 w1 → Calls Tryd.prog 44 #[.pointer (some ⟨c, 0, none⟩), .int .i64 t, .int .u64 (v : Int)] w1 fun e w2 => e = .returned (.bool ff) ∧ I 1 w2)
    (hQ : ∀ (v5 v6 v7 v8 v9 v10 v11 v12 v13 : Value) (w2 : World), I 1 w2 → Q .normal ((((((((((a0.put (some 5) v5).put (some 6) v6).put (some 7) v7).put (some 8) v8).put (some 9) v9).put (some 10) v10).put (some 11) v11).put (some 12) v12).put (some 13) v13).put (some 14) (.bool (!ff))) w2) :
    Code.wp Tryd.prog ((Tryd.f33.body.bind (findRegion 1)).getD .skip) Q a0 w := by
  conv => arg 2; whnf
  refine wp_region_calls (fun i => ([.pointer (some ⟨b, 0, none⟩), .pointer (some ⟨b, 0, none⟩), .pointer (some ⟨b, 1, none⟩), .pointer (some ⟨c, 0, none⟩), .pointer (some ⟨g, 0, none⟩), .int .i64 t, .pointer (some ⟨g, 1, none⟩), .int .u64 (v : Int), .bool ff, .bool (!ff)] : List Value).getD i undef) I (fun j => ([8] : List Nat).getD j 0) 1 (by kernel_rfl) (by kernel_rfl) (by kernel_rfl) (by rw [hsz]; kernel_rfl) ?hinj ?hqs ?hwait h0 ?hop ?hcA ?hdone
  case hinj =>
    intro j k hj hk h
    rcases (show j = 0 by omega) with rfl <;> rcases (show k = 0 by omega) with rfl <;> first | rfl | exact absurd h (by decide)
  case hqs =>
    intro j hj
    rcases (show j = 0 by omega) with rfl <;> exact of_decide_eq_true (by kernel_rfl)
  case hwait =>
    intro j hj
    omega
  case hdone =>
    intro a w1 hI hS hT
    have kl : a.tmps.getD 14 undef = .bool (!ff) := hT 9 _ rfl
    have he := same_puts hS
    have hQ2 := hQ (a.tmps.getD 5 undef) (a.tmps.getD 6 undef) (a.tmps.getD 7 undef) (a.tmps.getD 8 undef) (a.tmps.getD 9 undef) (a.tmps.getD 10 undef) (a.tmps.getD 11 undef) (a.tmps.getD 12 undef) (a.tmps.getD 13 undef) w1 hI
    rw [← kl] at hQ2
    rw [he]
    exact hQ2
  case hcA =>
    intro k hk o ho
    rcases (show k = 0 by omega) with rfl
    · obtain rfl := Option.some.inj ho
      intro a w1 hI hS hD
      have d3 : a.tmps.getD 8 undef = .pointer (some ⟨c, 0, none⟩) := hD ⟨3, .data⟩ (by simp) rfl _ rfl
      have d5 : a.tmps.getD 10 undef = .int .i64 t := hD ⟨5, .data⟩ (by simp) rfl _ rfl
      have d7 : a.tmps.getD 12 undef = .int .u64 (v : Int) := hD ⟨7, .data⟩ (by simp) rfl _ rfl
      refine ⟨rfl, ?_⟩
      refine wp_callr (f := 44) (args := #[.pointer (some ⟨c, 0, none⟩), .int .i64 t, .int .u64 (v : Int)]) (by simp [execOp, resolve, Act.eval, d3, d5, d7, go_sem]) ?_
      refine (hC0 w1 hI).mono ?_
      rintro e w2 ⟨rfl, h2⟩
      exact ⟨_, rfl, _, rfl, h2, rfl⟩
  case hop =>
    intro i o hi hn
    have hlt : i < 10 := (Array.getElem?_eq_some_iff.1 hi).1
    rcases (show i = 0 ∨ i = 1 ∨ i = 2 ∨ i = 3 ∨ i = 4 ∨ i = 5 ∨ i = 6 ∨ i = 7 ∨ i = 8 ∨ i = 9 by omega) with rfl | rfl | rfl | rfl | rfl | rfl | rfl | rfl | rfl | rfl
    · obtain rfl := Option.some.inj hi
      clear hi hlt hn
      intro a w1 hI hS hD
      have e0 : a.tmps.getD 0 undef = .pointer (some ⟨b, 0, none⟩) := (hS.slot 0 (by kernel_rfl)).trans s0
      exact ⟨rfl, .pointer (some ⟨b, 0, none⟩), by simp [execOp, Act.eval, e0, go_sem], rfl⟩
    · obtain rfl := Option.some.inj hi
      clear hi hlt hn
      intro a w1 hI hS hD
      have d0 : a.tmps.getD 5 undef = .pointer (some ⟨b, 0, none⟩) := hD ⟨0, .data⟩ (by simp) rfl _ rfl
      exact ⟨rfl, .pointer (some ⟨b, 0, none⟩), by simp [execOp, Act.eval, d0, go_sem], rfl⟩
    · obtain rfl := Option.some.inj hi
      clear hi hlt hn
      intro a w1 hI hS hD
      have d1 : a.tmps.getD 6 undef = .pointer (some ⟨b, 0, none⟩) := hD ⟨1, .data⟩ (by simp) rfl _ rfl
      exact ⟨rfl, .pointer (some ⟨b, 1, none⟩), by simp [execOp, Act.eval, d1, go_sem], rfl⟩
    · obtain rfl := Option.some.inj hi
      clear hi hlt hn
      intro a w1 hI hS hD
      have d2 : a.tmps.getD 7 undef = .pointer (some ⟨b, 1, none⟩) := hD ⟨2, .data⟩ (by simp) rfl _ rfl
      exact ⟨rfl, .pointer (some ⟨c, 0, none⟩), by simp [execOp, Act.eval, d2, cc w1 hI, go_sem], rfl⟩
    · obtain rfl := Option.some.inj hi
      clear hi hlt hn
      intro a w1 hI hS hD
      have e3 : a.tmps.getD 3 undef = .pointer (some ⟨g, 0, none⟩) := (hS.slot 3 (by kernel_rfl)).trans s3
      exact ⟨rfl, .pointer (some ⟨g, 0, none⟩), by simp [execOp, Act.eval, e3, go_sem], rfl⟩
    · obtain rfl := Option.some.inj hi
      clear hi hlt hn
      intro a w1 hI hS hD
      have d4 : a.tmps.getD 9 undef = .pointer (some ⟨g, 0, none⟩) := hD ⟨4, .data⟩ (by simp) rfl _ rfl
      exact ⟨rfl, .int .i64 t, by simp [execOp, Act.eval, d4, c0 w1 hI, go_sem], rfl⟩
    · obtain rfl := Option.some.inj hi
      clear hi hlt hn
      intro a w1 hI hS hD
      have e3 : a.tmps.getD 3 undef = .pointer (some ⟨g, 0, none⟩) := (hS.slot 3 (by kernel_rfl)).trans s3
      exact ⟨rfl, .pointer (some ⟨g, 1, none⟩), by simp [execOp, Act.eval, e3, go_sem], rfl⟩
    · obtain rfl := Option.some.inj hi
      clear hi hlt hn
      intro a w1 hI hS hD
      have d6 : a.tmps.getD 11 undef = .pointer (some ⟨g, 1, none⟩) := hD ⟨6, .data⟩ (by simp) rfl _ rfl
      exact ⟨rfl, .int .u64 (v : Int), by simp [execOp, Act.eval, d6, c1 w1 hI, go_sem], rfl⟩
    · exact absurd rfl (hn 0 (by omega))
    · obtain rfl := Option.some.inj hi
      clear hi hlt hn
      intro a w1 hI hS hD
      have d8 : a.tmps.getD 13 undef = .bool ff := hD ⟨8, .data⟩ (by simp) rfl _ rfl
      exact ⟨rfl, .bool (!ff), by simp [execOp, Act.eval, d8, go_sem], rfl⟩

set_option maxRecDepth 100000 in
set_option maxHeartbeats 2000000 in
theorem pk_r4 (b c g v : Nat) (t : Int) (ff : Bool) (I : Nat → World → Prop) (w : World) (a0 : Act) (Q : Exit → Act → World → Prop) (hsz : a0.tmps.size = 42)
    (s0 : a0.tmps.getD 0 undef = .pointer (some ⟨b, 0, none⟩))
    (s3 : a0.tmps.getD 3 undef = .pointer (some ⟨g, 0, none⟩))
    (cc : ∀ w1, (∃ k, k ≤ 1 ∧ I k w1) → w1.cell? ⟨b, 1, none⟩ = some (.pointer (some ⟨c, 0, none⟩)))
    (c0 : ∀ w1, (∃ k, k ≤ 1 ∧ I k w1) → w1.cell? ⟨g, 0, none⟩ = some (.int .i64 t))
    (c1 : ∀ w1, (∃ k, k ≤ 1 ∧ I k w1) → w1.cell? ⟨g, 1, none⟩ = some (.int .u64 (v : Int)))
    (h0 : I 0 { w with drawn := w.drawn + 1 })
    (hC0 : ∀ w1, I 0 w1 → Calls Tryd.prog 44 #[.pointer (some ⟨c, 0, none⟩), .int .i64 t, .int .u64 (v : Int)] w1 fun e w2 => e = .returned (.bool ff) ∧ I 1 w2)
    (hQ : ∀ (v33 v34 v35 v36 v37 v38 v39 v40 : Value) (w2 : World), I 1 w2 → Q .normal (((((((((a0.put (some 33) v33).put (some 34) v34).put (some 35) v35).put (some 36) v36).put (some 37) v37).put (some 38) v38).put (some 39) v39).put (some 40) v40).put (some 41) (.bool ff)) w2) :
    Code.wp Tryd.prog ((Tryd.f33.body.bind (findRegion 4)).getD .skip) Q a0 w := by
  conv => arg 2; whnf
  refine wp_region_calls (fun i => ([.pointer (some ⟨b, 0, none⟩), .pointer (some ⟨b, 0, none⟩), .pointer (some ⟨b, 1, none⟩), .pointer (some ⟨c, 0, none⟩), .pointer (some ⟨g, 0, none⟩), .int .i64 t, .pointer (some ⟨g, 1, none⟩), .int .u64 (v : Int), .bool ff] : List Value).getD i undef) I (fun j => ([8] : List Nat).getD j 0) 1 (by kernel_rfl) (by kernel_rfl) (by kernel_rfl) (by rw [hsz]; kernel_rfl) ?hinj ?hqs ?hwait h0 ?hop ?hcA ?hdone
  case hinj =>
    intro j k hj hk h
    rcases (show j = 0 by omega) with rfl <;> rcases (show k = 0 by omega) with rfl <;> first | rfl | exact absurd h (by decide)
  case hqs =>
    intro j hj
    rcases (show j = 0 by omega) with rfl <;> exact of_decide_eq_true (by kernel_rfl)
  case hwait =>
    intro j hj
    omega
  case hdone =>
    intro a w1 hI hS hT
    have kl : a.tmps.getD 41 undef = .bool ff := hT 8 _ rfl
    have he := same_puts hS
    have hQ2 := hQ (a.tmps.getD 33 undef) (a.tmps.getD 34 undef) (a.tmps.getD 35 undef) (a.tmps.getD 36 undef) (a.tmps.getD 37 undef) (a.tmps.getD 38 undef) (a.tmps.getD 39 undef) (a.tmps.getD 40 undef) w1 hI
    rw [← kl] at hQ2
    rw [he]
    exact hQ2
  case hcA =>
    intro k hk o ho
    rcases (show k = 0 by omega) with rfl
    · obtain rfl := Option.some.inj ho
      intro a w1 hI hS hD
      have d3 : a.tmps.getD 36 undef = .pointer (some ⟨c, 0, none⟩) := hD ⟨3, .data⟩ (by simp) rfl _ rfl
      have d5 : a.tmps.getD 38 undef = .int .i64 t := hD ⟨5, .data⟩ (by simp) rfl _ rfl
      have d7 : a.tmps.getD 40 undef = .int .u64 (v : Int) := hD ⟨7, .data⟩ (by simp) rfl _ rfl
      refine ⟨rfl, ?_⟩
      refine wp_callr (f := 44) (args := #[.pointer (some ⟨c, 0, none⟩), .int .i64 t, .int .u64 (v : Int)]) (by simp [execOp, resolve, Act.eval, d3, d5, d7, go_sem]) ?_
      refine (hC0 w1 hI).mono ?_
      rintro e w2 ⟨rfl, h2⟩
      exact ⟨_, rfl, _, rfl, h2, rfl⟩
  case hop =>
    intro i o hi hn
    have hlt : i < 9 := (Array.getElem?_eq_some_iff.1 hi).1
    rcases (show i = 0 ∨ i = 1 ∨ i = 2 ∨ i = 3 ∨ i = 4 ∨ i = 5 ∨ i = 6 ∨ i = 7 ∨ i = 8 by omega) with rfl | rfl | rfl | rfl | rfl | rfl | rfl | rfl | rfl
    · obtain rfl := Option.some.inj hi
      clear hi hlt hn
      intro a w1 hI hS hD
      have e0 : a.tmps.getD 0 undef = .pointer (some ⟨b, 0, none⟩) := (hS.slot 0 (by kernel_rfl)).trans s0
      exact ⟨rfl, .pointer (some ⟨b, 0, none⟩), by simp [execOp, Act.eval, e0, go_sem], rfl⟩
    · obtain rfl := Option.some.inj hi
      clear hi hlt hn
      intro a w1 hI hS hD
      have d0 : a.tmps.getD 33 undef = .pointer (some ⟨b, 0, none⟩) := hD ⟨0, .data⟩ (by simp) rfl _ rfl
      exact ⟨rfl, .pointer (some ⟨b, 0, none⟩), by simp [execOp, Act.eval, d0, go_sem], rfl⟩
    · obtain rfl := Option.some.inj hi
      clear hi hlt hn
      intro a w1 hI hS hD
      have d1 : a.tmps.getD 34 undef = .pointer (some ⟨b, 0, none⟩) := hD ⟨1, .data⟩ (by simp) rfl _ rfl
      exact ⟨rfl, .pointer (some ⟨b, 1, none⟩), by simp [execOp, Act.eval, d1, go_sem], rfl⟩
    · obtain rfl := Option.some.inj hi
      clear hi hlt hn
      intro a w1 hI hS hD
      have d2 : a.tmps.getD 35 undef = .pointer (some ⟨b, 1, none⟩) := hD ⟨2, .data⟩ (by simp) rfl _ rfl
      exact ⟨rfl, .pointer (some ⟨c, 0, none⟩), by simp [execOp, Act.eval, d2, cc w1 hI, go_sem], rfl⟩
    · obtain rfl := Option.some.inj hi
      clear hi hlt hn
      intro a w1 hI hS hD
      have e3 : a.tmps.getD 3 undef = .pointer (some ⟨g, 0, none⟩) := (hS.slot 3 (by kernel_rfl)).trans s3
      exact ⟨rfl, .pointer (some ⟨g, 0, none⟩), by simp [execOp, Act.eval, e3, go_sem], rfl⟩
    · obtain rfl := Option.some.inj hi
      clear hi hlt hn
      intro a w1 hI hS hD
      have d4 : a.tmps.getD 37 undef = .pointer (some ⟨g, 0, none⟩) := hD ⟨4, .data⟩ (by simp) rfl _ rfl
      exact ⟨rfl, .int .i64 t, by simp [execOp, Act.eval, d4, c0 w1 hI, go_sem], rfl⟩
    · obtain rfl := Option.some.inj hi
      clear hi hlt hn
      intro a w1 hI hS hD
      have e3 : a.tmps.getD 3 undef = .pointer (some ⟨g, 0, none⟩) := (hS.slot 3 (by kernel_rfl)).trans s3
      exact ⟨rfl, .pointer (some ⟨g, 1, none⟩), by simp [execOp, Act.eval, e3, go_sem], rfl⟩
    · obtain rfl := Option.some.inj hi
      clear hi hlt hn
      intro a w1 hI hS hD
      have d6 : a.tmps.getD 39 undef = .pointer (some ⟨g, 1, none⟩) := hD ⟨6, .data⟩ (by simp) rfl _ rfl
      exact ⟨rfl, .int .u64 (v : Int), by simp [execOp, Act.eval, d6, c1 w1 hI, go_sem], rfl⟩
    · exact absurd rfl (hn 0 (by omega))


end Go.Proofs.YtlppibigceeimaaDoor

/-
  Package series: the packer's take, where the open chunk takes it.
-/
namespace Go.Proofs.YtlppibigceeimaaDoor
open Go.RowKit
set_option linter.unusedVariables false
set_option linter.unusedSimpArgs false

def ph2 (A B : World → Prop) : Nat → World → Prop
  | 0 => A
  | _ => B
def smC (s : Sm) : List Value := [.int .i64 s.t, .int .u64 (s.v : Int)]
/-- Ahead of Append and behind it. -/
def KA (w : World) (g : Nat) (s : Sm) (w1 : World) : Prop := Below w.heap.size w w1 ∧ Blk w1 g 35 (smC s)
def KB (w : World) (b c p : Nat) (rb : Option Nat) (full : Value) (l : List Sm) (g : Nat) (s : Sm) (w1 : World) : Prop :=
  Blk w1 b 98 (pkC full c) ∧ Blk w1 g 35 (smC s) ∧ ∃ rb', CS w1 c p rb' 128 l ∧ Chg (FC c p rb) w w1 ∧ Moved w rb rb'
theorem CS.lt {w : World} {c p : Nat} {rb : Option Nat} {most : Int} {l : List Sm} (h : CS w c p rb most l) : ∀ i, FC c p rb i → i < w.heap.size := by
  rintro i (hi | rfl)
  · exact h.ws.lt i hi
  · exact h.blk.lt
/-- Append in a packer, whichever way it goes. -/
theorem KA.app {w : World} {b c p g : Nat} {rb : Option Nat} {full : Value} {l : List Sm} {s : Sm} (hB : Blk w b 98 (pkC full c)) (hC : CS w c p rb 128 l) (hG : Gv w) (hs : OkS s) (hl : l.length ≤ 1000000) (hF : ¬ FC c p rb b) (hg : w.heap.size ≤ g) {w1 : World} (h : KA w g s w1) :
    Calls Tryd.prog 44 #[.pointer (some ⟨c, 0, none⟩), .int .i64 s.t, .int .u64 (s.v : Int)] w1 fun e w2 => e = .returned (.bool (decide (((encC (l ++ [s])).length : Int) ≤ 128))) ∧ KB w b c p rb full (if ((encC (l ++ [s])).length : Int) ≤ 128 then l ++ [s] else l) g s w2 := by
  refine (cappendP w1 c p rb 128 l s (hC.later h.1) (hG.later h.1) hs hl).mono ?_
  rintro e w2 ⟨rfl, rb', k1, k2, k3⟩
  refine ⟨rfl, k2.blk (hB.later h.1) hF, k2.blk h.2 (fun e => absurd (hC.lt g e) (by omega)), rb', k1, (Chg.of_below (F := FC c p rb) h.1).trans k2 (fun _ _ e => e), ?_⟩
  rcases k3 with rfl | ⟨g', rfl, hg'⟩
  · exact .inl rfl
  · exact .inr ⟨g', rfl, Nat.le_trans h.1.size hg'⟩

set_option maxRecDepth 100000 in
set_option maxHeartbeats 8000000 in
theorem packYes (w : World) (b c p : Nat) (rb : Option Nat) (full : Value) (l : List Sm) (s : Sm) (hB : Blk w b 98 (pkC full c)) (hC : CS w c p rb 128 l) (hG : Gv w) (hs : OkS s) (hl : l.length ≤ 1000000) (hF : ¬ FC c p rb b) (hfit : ((encC (l ++ [s])).length : Int) ≤ 128) :
    Calls Tryd.prog 33 #[.pointer (some ⟨b, 0, none⟩), .agg #[.int .i64 s.t, .int .u64 (s.v : Int)]] w fun e w' => e = .returned (.bool true) ∧ ∃ rb', Blk w' b 98 (pkC full c) ∧ CS w' c p rb' 128 (l ++ [s]) ∧ Chg (FC c p rb) w w' ∧ Moved w rb rb' := by
  have HA := hidden (fun (w1 : World) (h : KA w w.heap.size s w1) => by have h9 := KA.app hB hC hG hs hl hF (Nat.le_refl _) h; rw [if_pos hfit, decide_eq_true hfit] at h9; exact h9)
  have HB := hidden hB
  have hlt := hB.lt
  clear hB hC hG hs hl hF hfit
  go_enter Tryd.func33, Tryd.ntmps33
  go_wp2_with (first
    | (refine wpList_box_blk rfl 35 (.tmp 1) rfl (smC s) rfl ?_; intro w2 B2 bl2 hz2; have HB2 := hidden B2; have BL2 := hidden bl2; clear B2 bl2)
    | (refine pk_r1 b c w.heap.size s.v s.t true (ph2 (KA w w.heap.size s) (KB w b c p rb full (l ++ [s]) w.heap.size s)) _ _ _ rfl rfl rfl (fun w1 ⟨j, hj, hI⟩ => by rcases (show j = 0 ∨ j = 1 by omega) with rfl | rfl; exact (HB.out.later hI.1).cell 1; exact hI.1.cell 1) (fun w1 ⟨j, hj, hI⟩ => by rcases (show j = 0 ∨ j = 1 by omega) with rfl | rfl; exact hI.2.cell 0; exact hI.2.1.cell 0) (fun w1 ⟨j, hj, hI⟩ => by rcases (show j = 0 ∨ j = 1 by omega) with rfl | rfl; exact hI.2.cell 1; exact hI.2.1.cell 1) ⟨BL2.out.drew, HB2.out.drew⟩ (fun w1 hI => HA.out w1 hI) ?_; intro v5 v6 v7 v8 v9 v10 v11 v12 v13 w3 hI; have H3 := hidden hI; clear hI; simp only [Act.put, List.setIfInBounds_toArray, List.set_cons_succ, List.set_cons_zero, Bool.not_true]))
  go_ret
  obtain ⟨k1, k2, rb', k3, k4, k5⟩ := H3.out
  exact ⟨rfl, rb', k1, k3, k4, k5⟩

end Go.Proofs.YtlppibigceeimaaDoor
