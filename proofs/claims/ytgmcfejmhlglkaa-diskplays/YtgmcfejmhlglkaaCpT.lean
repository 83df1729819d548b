import Derived.Test.YtgmcfejmhlglkaaCpB
import Derived.Test.YtgmcfejmhlglkaaAnyW
import Derived.Test.YtgmcfejmhlglkaaLnA
namespace Go.Proofs.Ytgmcfejmhlglkaa
open Go.RowKit
set_option linter.unusedVariables false
set_option linter.unusedSimpArgs false

theorem wp_val {P : Program} {Q : Exit → Act → World → Prop} {K : Act → World → Prop} {o : Oper} {a : Act} {w w' : World} (v : Value) (h : (execOp a.eval o).run P w = .ok (.value v) w') (hk : K (a.put o.dst v) w') : o.wp P a w K Q := by
  unfold Oper.wp
  rw [h]
  exact hk
theorem put_comm (a : Act) (d e : Tmp) (v u : Value) (h : d ≠ e) : (a.put (some d) v).put (some e) u = (a.put (some e) u).put (some d) v := by
  cases a
  simp only [Act.put, Act.mk.injEq, and_true]
  exact (Array.setIfInBounds_comm _ _ h)
theorem put_size (a : Act) (d : Tmp) (v : Value) : (a.put (some d) v).tmps.size = a.tmps.size := by
  cases a
  simp [Act.put]
theorem built75c (on st : Bool) (fa op : Int) (ka : Option Addr) (kn kc : Nat) : Try.prog.built 75 [(1, .bool on), (2, .int .i64 fa), (3, .bool st), (4, .int .i64 op), (5, .slice ka kn kc)] = some #[.slice none 0 0, .bool on, .int .i64 fa, .bool st, .int .i64 op, .slice ka kn kc] := by kernel_rfl
theorem built86 (a : Option Addr) (m c : Nat) (x : Int) : Try.prog.built 86 [(0, .slice a m c), (1, .int .i64 x)] = some #[.slice a m c, .int .i64 x] := by kernel_rfl

set_option maxRecDepth 100000 in
set_option maxHeartbeats 2000000 in
theorem copyr_r2 (p : Nat) (on st : Bool) (fa op : Int) (ka : Option Addr) (kn kc : Nat) (kl : List Int) (w : World) (a0 : Act) (Q : Exit → Act → World → Prop) (hsz : a0.tmps.size = 69)
    (s0 : a0.tmps.getD 0 undef = .pointer (some ⟨p, 0, none⟩))
    (s3 : a0.tmps.getD 3 undef = .slice none 0 0)
    (hc1 : ∀ w1, Lat w w1 → w1.cell? ⟨p, 1, none⟩ = some (.bool on)) (hc2 : ∀ w1, Lat w w1 → w1.cell? ⟨p, 2, none⟩ = some (.int .i64 fa)) (hc3 : ∀ w1, Lat w w1 → w1.cell? ⟨p, 3, none⟩ = some (.bool st)) (hc4 : ∀ w1, Lat w w1 → w1.cell? ⟨p, 4, none⟩ = some (.int .i64 op)) (hc5 : ∀ w1, Lat w w1 → w1.cell? ⟨p, 5, none⟩ = some (.slice ka kn kc))
    (hsn : ∀ w1, Lat w w1 → Sn w1 ka kn kl) (hno : ka = none → kn = 0 ∧ kc = 0) (hkn : kn ≤ 1099511627776)
    (hQ : ∀ (v7 v8 v9 v10 v11 v12 v13 v14 v15 v16 v17 v18 v19 v20 v21 v22 v23 v24 v25 v26 v27 v28 v29 v30 v4 : Value) (w1 : World), Lat w w1 → (∃ a c q, v4 = .pointer (some ⟨q, 0, none⟩) ∧ w.heap.size ≤ q ∧ Blk w1 q 75 [.slice none 0 0, .bool on, .int .i64 fa, .bool st, .int .i64 op, .slice a kn c] ∧ w1.ownsRow 0 3 1 (.slice a kn c) kn (cellsI kl) ∧ (∀ g, (Value.slice a kn c).ownBlock = some g → w.heap.size ≤ g)) → Q .normal (((((((((((((((((((((((((a0.put (some 7) v7).put (some 8) v8).put (some 9) v9).put (some 10) v10).put (some 11) v11).put (some 12) v12).put (some 13) v13).put (some 14) v14).put (some 15) v15).put (some 16) v16).put (some 17) v17).put (some 18) v18).put (some 19) v19).put (some 20) v20).put (some 21) v21).put (some 22) v22).put (some 23) v23).put (some 24) v24).put (some 25) v25).put (some 26) v26).put (some 27) v27).put (some 28) v28).put (some 29) v29).put (some 30) v30).put (some 4) v4) w1) :
    Code.wp Try.prog ((Try.f37.body.bind (findRegion 2)).getD .skip) Q a0 w := by
  conv => arg 2; whnf
  refine wp_region_inv Lat (TE [Ent.val (.pointer (some ⟨p, 0, none⟩)), Ent.val (.pointer (some ⟨p, 0, none⟩)), Ent.val (.pointer (some ⟨p, 1, none⟩)), Ent.val (.bool on), Ent.val (.pointer (some ⟨p, 0, none⟩)), Ent.val (.pointer (some ⟨p, 0, none⟩)), Ent.val (.pointer (some ⟨p, 2, none⟩)), Ent.val (.int .i64 fa), Ent.val (.pointer (some ⟨p, 0, none⟩)), Ent.val (.pointer (some ⟨p, 0, none⟩)), Ent.val (.pointer (some ⟨p, 3, none⟩)), Ent.val (.bool st), Ent.val (.pointer (some ⟨p, 0, none⟩)), Ent.val (.pointer (some ⟨p, 0, none⟩)), Ent.val (.pointer (some ⟨p, 4, none⟩)), Ent.val (.int .i64 op), Ent.val (.slice none 0 0), Ent.val (.pointer (some ⟨p, 0, none⟩)), Ent.val (.pointer (some ⟨p, 0, none⟩)), Ent.val (.pointer (some ⟨p, 5, none⟩)), Ent.val (.slice ka kn kc), (⟨fun v w1 => ∃ a c, v = .slice a kn c ∧ w1.ownsRow 0 3 1 (.slice a kn c) kn (cellsI kl) ∧ (∀ g, (Value.slice a kn c).ownBlock = some g → w.heap.size ≤ g), fun v x y h hl => by obtain ⟨a, c, h1, h2, h3⟩ := h; exact ⟨a, c, h1, (Chg.of_below (F := fun _ => False) hl).owns h2 (fun _ _ h => h), h3⟩⟩ : Ent Lat), (⟨fun v w1 => ∃ a c, v = .agg #[.slice none 0 0, .bool on, .int .i64 fa, .bool st, .int .i64 op, .slice a kn c] ∧ w1.ownsRow 0 3 1 (.slice a kn c) kn (cellsI kl) ∧ (∀ g, (Value.slice a kn c).ownBlock = some g → w.heap.size ≤ g), fun v x y h hl => by obtain ⟨a, c, h1, h2, h3⟩ := h; exact ⟨a, c, h1, (Chg.of_below (F := fun _ => False) hl).owns h2 (fun _ _ h => h), h3⟩⟩ : Ent Lat), (⟨fun v w1 => ∃ a c q, v = .pointer (some ⟨q, 0, none⟩) ∧ w.heap.size ≤ q ∧ Blk w1 q 75 [.slice none 0 0, .bool on, .int .i64 fa, .bool st, .int .i64 op, .slice a kn c] ∧ w1.ownsRow 0 3 1 (.slice a kn c) kn (cellsI kl) ∧ (∀ g, (Value.slice a kn c).ownBlock = some g → w.heap.size ≤ g), fun v x y h hl => by obtain ⟨a, c, q, h1, h0, hB, h2, h3⟩ := h; exact ⟨a, c, q, h1, h0, hB.later hl, (Chg.of_below (F := fun _ => False) hl).owns h2 (fun _ _ h => h), h3⟩⟩ : Ent Lat), (⟨fun v w1 => ∃ a c q, v = .pointer (some ⟨q, 0, none⟩) ∧ w.heap.size ≤ q ∧ Blk w1 q 75 [.slice none 0 0, .bool on, .int .i64 fa, .bool st, .int .i64 op, .slice a kn c] ∧ w1.ownsRow 0 3 1 (.slice a kn c) kn (cellsI kl) ∧ (∀ g, (Value.slice a kn c).ownBlock = some g → w.heap.size ≤ g), fun v x y h hl => by obtain ⟨a, c, q, h1, h0, hB, h2, h3⟩ := h; exact ⟨a, c, q, h1, h0, hB.later hl, (Chg.of_below (F := fun _ => False) hl).owns h2 (fun _ _ h => h), h3⟩⟩ : Ent Lat)]) (by kernel_rfl) (by kernel_rfl) (by kernel_rfl) (by rw [hsz]; kernel_rfl) (by kernel_rfl) Lat.refl Lat.trans (TE_stable _) (Lat.draw w) ?hop ?hdone
  case hdone =>
    intro a w1 hL hS hT
    have he := same_puts hS
    rw [he]
    exact hQ (a.tmps.getD 7 undef) (a.tmps.getD 8 undef) (a.tmps.getD 9 undef) (a.tmps.getD 10 undef) (a.tmps.getD 11 undef) (a.tmps.getD 12 undef) (a.tmps.getD 13 undef) (a.tmps.getD 14 undef) (a.tmps.getD 15 undef) (a.tmps.getD 16 undef) (a.tmps.getD 17 undef) (a.tmps.getD 18 undef) (a.tmps.getD 19 undef) (a.tmps.getD 20 undef) (a.tmps.getD 21 undef) (a.tmps.getD 22 undef) (a.tmps.getD 23 undef) (a.tmps.getD 24 undef) (a.tmps.getD 25 undef) (a.tmps.getD 26 undef) (a.tmps.getD 27 undef) (a.tmps.getD 28 undef) (a.tmps.getD 29 undef) (a.tmps.getD 30 undef) (a.tmps.getD 4 undef) w1 hL (hT 24 _ rfl)
  case hop =>
    intro i o hi
    have hlt : i < 25 := (Array.getElem?_eq_some_iff.1 hi).1
    rcases (show i = 0 ∨ i = 1 ∨ i = 2 ∨ i = 3 ∨ i = 4 ∨ i = 5 ∨ i = 6 ∨ i = 7 ∨ i = 8 ∨ i = 9 ∨ i = 10 ∨ i = 11 ∨ i = 12 ∨ i = 13 ∨ i = 14 ∨ i = 15 ∨ i = 16 ∨ i = 17 ∨ i = 18 ∨ i = 19 ∨ i = 20 ∨ i = 21 ∨ i = 22 ∨ i = 23 ∨ i = 24 by omega) with rfl | rfl | rfl | rfl | rfl | rfl | rfl | rfl | rfl | rfl | rfl | rfl | rfl | rfl | rfl | rfl | rfl | rfl | rfl | rfl | rfl | rfl | rfl | rfl | rfl
    · obtain rfl := Option.some.inj hi
      clear hi hlt
      intro a w1 hL hS hD
      have e0 : a.tmps.getD 0 undef = .pointer (some ⟨p, 0, none⟩) := (hS.slot 0 (by kernel_rfl)).trans s0
      refine step_yes rfl ?_
      exact ok_value Lat.refl (.pointer (some ⟨p, 0, none⟩)) (by simp [execOp, Act.eval, e0, go_sem]) rfl
    · obtain rfl := Option.some.inj hi
      clear hi hlt
      intro a w1 hL hS hD
      have d0 : a.tmps.getD 7 undef = .pointer (some ⟨p, 0, none⟩) := hD ⟨0, .data⟩ (by simp) rfl _ rfl
      refine step_yes rfl ?_
      exact ok_value Lat.refl (.pointer (some ⟨p, 0, none⟩)) (by simp [execOp, Act.eval, d0, go_sem]) rfl
    · obtain rfl := Option.some.inj hi
      clear hi hlt
      intro a w1 hL hS hD
      have d1 : a.tmps.getD 8 undef = .pointer (some ⟨p, 0, none⟩) := hD ⟨1, .data⟩ (by simp) rfl _ rfl
      refine step_yes rfl ?_
      exact ok_value Lat.refl (.pointer (some ⟨p, 1, none⟩)) (by simp [execOp, Act.eval, d1, go_sem]) rfl
    · obtain rfl := Option.some.inj hi
      clear hi hlt
      intro a w1 hL hS hD
      have d2 : a.tmps.getD 9 undef = .pointer (some ⟨p, 1, none⟩) := hD ⟨2, .data⟩ (by simp) rfl _ rfl
      refine step_yes rfl ?_
      exact ok_value Lat.refl (.bool on) (by simp [execOp, Act.eval, d2, hc1 w1 hL, go_sem]) rfl
    · obtain rfl := Option.some.inj hi
      clear hi hlt
      intro a w1 hL hS hD
      have e0 : a.tmps.getD 0 undef = .pointer (some ⟨p, 0, none⟩) := (hS.slot 0 (by kernel_rfl)).trans s0
      refine step_yes rfl ?_
      exact ok_value Lat.refl (.pointer (some ⟨p, 0, none⟩)) (by simp [execOp, Act.eval, e0, go_sem]) rfl
    · obtain rfl := Option.some.inj hi
      clear hi hlt
      intro a w1 hL hS hD
      have d4 : a.tmps.getD 11 undef = .pointer (some ⟨p, 0, none⟩) := hD ⟨4, .data⟩ (by simp) rfl _ rfl
      refine step_yes rfl ?_
      exact ok_value Lat.refl (.pointer (some ⟨p, 0, none⟩)) (by simp [execOp, Act.eval, d4, go_sem]) rfl
    · obtain rfl := Option.some.inj hi
      clear hi hlt
      intro a w1 hL hS hD
      have d5 : a.tmps.getD 12 undef = .pointer (some ⟨p, 0, none⟩) := hD ⟨5, .data⟩ (by simp) rfl _ rfl
      refine step_yes rfl ?_
      exact ok_value Lat.refl (.pointer (some ⟨p, 2, none⟩)) (by simp [execOp, Act.eval, d5, go_sem]) rfl
    · obtain rfl := Option.some.inj hi
      clear hi hlt
      intro a w1 hL hS hD
      have d6 : a.tmps.getD 13 undef = .pointer (some ⟨p, 2, none⟩) := hD ⟨6, .data⟩ (by simp) rfl _ rfl
      refine step_yes rfl ?_
      exact ok_value Lat.refl (.int .i64 fa) (by simp [execOp, Act.eval, d6, hc2 w1 hL, go_sem]) rfl
    · obtain rfl := Option.some.inj hi
      clear hi hlt
      intro a w1 hL hS hD
      have e0 : a.tmps.getD 0 undef = .pointer (some ⟨p, 0, none⟩) := (hS.slot 0 (by kernel_rfl)).trans s0
      refine step_yes rfl ?_
      exact ok_value Lat.refl (.pointer (some ⟨p, 0, none⟩)) (by simp [execOp, Act.eval, e0, go_sem]) rfl
    · obtain rfl := Option.some.inj hi
      clear hi hlt
      intro a w1 hL hS hD
      have d8 : a.tmps.getD 15 undef = .pointer (some ⟨p, 0, none⟩) := hD ⟨8, .data⟩ (by simp) rfl _ rfl
      refine step_yes rfl ?_
      exact ok_value Lat.refl (.pointer (some ⟨p, 0, none⟩)) (by simp [execOp, Act.eval, d8, go_sem]) rfl
    · obtain rfl := Option.some.inj hi
      clear hi hlt
      intro a w1 hL hS hD
      have d9 : a.tmps.getD 16 undef = .pointer (some ⟨p, 0, none⟩) := hD ⟨9, .data⟩ (by simp) rfl _ rfl
      refine step_yes rfl ?_
      exact ok_value Lat.refl (.pointer (some ⟨p, 3, none⟩)) (by simp [execOp, Act.eval, d9, go_sem]) rfl
    · obtain rfl := Option.some.inj hi
      clear hi hlt
      intro a w1 hL hS hD
      have d10 : a.tmps.getD 17 undef = .pointer (some ⟨p, 3, none⟩) := hD ⟨10, .data⟩ (by simp) rfl _ rfl
      refine step_yes rfl ?_
      exact ok_value Lat.refl (.bool st) (by simp [execOp, Act.eval, d10, hc3 w1 hL, go_sem]) rfl
    · obtain rfl := Option.some.inj hi
      clear hi hlt
      intro a w1 hL hS hD
      have e0 : a.tmps.getD 0 undef = .pointer (some ⟨p, 0, none⟩) := (hS.slot 0 (by kernel_rfl)).trans s0
      refine step_yes rfl ?_
      exact ok_value Lat.refl (.pointer (some ⟨p, 0, none⟩)) (by simp [execOp, Act.eval, e0, go_sem]) rfl
    · obtain rfl := Option.some.inj hi
      clear hi hlt
      intro a w1 hL hS hD
      have d12 : a.tmps.getD 19 undef = .pointer (some ⟨p, 0, none⟩) := hD ⟨12, .data⟩ (by simp) rfl _ rfl
      refine step_yes rfl ?_
      exact ok_value Lat.refl (.pointer (some ⟨p, 0, none⟩)) (by simp [execOp, Act.eval, d12, go_sem]) rfl
    · obtain rfl := Option.some.inj hi
      clear hi hlt
      intro a w1 hL hS hD
      have d13 : a.tmps.getD 20 undef = .pointer (some ⟨p, 0, none⟩) := hD ⟨13, .data⟩ (by simp) rfl _ rfl
      refine step_yes rfl ?_
      exact ok_value Lat.refl (.pointer (some ⟨p, 4, none⟩)) (by simp [execOp, Act.eval, d13, go_sem]) rfl
    · obtain rfl := Option.some.inj hi
      clear hi hlt
      intro a w1 hL hS hD
      have d14 : a.tmps.getD 21 undef = .pointer (some ⟨p, 4, none⟩) := hD ⟨14, .data⟩ (by simp) rfl _ rfl
      refine step_yes rfl ?_
      exact ok_value Lat.refl (.int .i64 op) (by simp [execOp, Act.eval, d14, hc4 w1 hL, go_sem]) rfl
    · obtain rfl := Option.some.inj hi
      clear hi hlt
      intro a w1 hL hS hD
      have e3 : a.tmps.getD 3 undef = .slice none 0 0 := (hS.slot 3 (by kernel_rfl)).trans s3
      refine step_yes rfl ?_
      exact ok_value Lat.refl (.slice none 0 0) (by simp [execOp, Act.eval, e3, go_sem]) rfl
    · obtain rfl := Option.some.inj hi
      clear hi hlt
      intro a w1 hL hS hD
      have e0 : a.tmps.getD 0 undef = .pointer (some ⟨p, 0, none⟩) := (hS.slot 0 (by kernel_rfl)).trans s0
      refine step_yes rfl ?_
      exact ok_value Lat.refl (.pointer (some ⟨p, 0, none⟩)) (by simp [execOp, Act.eval, e0, go_sem]) rfl
    · obtain rfl := Option.some.inj hi
      clear hi hlt
      intro a w1 hL hS hD
      have d17 : a.tmps.getD 24 undef = .pointer (some ⟨p, 0, none⟩) := hD ⟨17, .data⟩ (by simp) rfl _ rfl
      refine step_yes rfl ?_
      exact ok_value Lat.refl (.pointer (some ⟨p, 0, none⟩)) (by simp [execOp, Act.eval, d17, go_sem]) rfl
    · obtain rfl := Option.some.inj hi
      clear hi hlt
      intro a w1 hL hS hD
      have d18 : a.tmps.getD 25 undef = .pointer (some ⟨p, 0, none⟩) := hD ⟨18, .data⟩ (by simp) rfl _ rfl
      refine step_yes rfl ?_
      exact ok_value Lat.refl (.pointer (some ⟨p, 5, none⟩)) (by simp [execOp, Act.eval, d18, go_sem]) rfl
    · obtain rfl := Option.some.inj hi
      clear hi hlt
      intro a w1 hL hS hD
      have d19 : a.tmps.getD 26 undef = .pointer (some ⟨p, 5, none⟩) := hD ⟨19, .data⟩ (by simp) rfl _ rfl
      refine step_yes rfl ?_
      exact ok_value Lat.refl (.slice ka kn kc) (by simp [execOp, Act.eval, d19, hc5 w1 hL, go_sem]) rfl
    · obtain rfl := Option.some.inj hi
      clear hi hlt
      intro a w1 hL hS hD
      have d16 : a.tmps.getD 23 undef = .slice none 0 0 := hD ⟨16, .data⟩ (by simp) rfl _ rfl
      have d20 : a.tmps.getD 27 undef = .slice ka kn kc := hD ⟨20, .data⟩ (by simp) rfl _ rfl
      refine step_yes rfl ?_
      obtain ⟨v', w', hr, h1, h2, h3⟩ := run_appendsI w1 28 (.slice none 0 0) 0 [] (World.ownsRow_nil _ _ _ _) ka kn kc kl (hsn w1 hL) hno (by omega)
      rw [Nat.zero_add, List.nil_append] at h1
      obtain ⟨a', c', rfl⟩ := owns_form h1
      unfold Oper.wp
      simp [execOp, resolve, invoke, builtin, Act.eval, d16, d20, hr, Result.andThen]
      exact ⟨_, rfl, h2.bel_none (fun g hg => by cases hg), ⟨a', c', rfl, h1, fun g hg => Nat.le_trans hL.size (moved_ge h3 hg)⟩⟩
    · obtain rfl := Option.some.inj hi
      clear hi hlt
      intro a w1 hL hS hD
      have d3 : a.tmps.getD 10 undef = .bool on := hD ⟨3, .data⟩ (by simp) rfl _ rfl
      have d7 : a.tmps.getD 14 undef = .int .i64 fa := hD ⟨7, .data⟩ (by simp) rfl _ rfl
      have d11 : a.tmps.getD 18 undef = .bool st := hD ⟨11, .data⟩ (by simp) rfl _ rfl
      have d15 : a.tmps.getD 22 undef = .int .i64 op := hD ⟨15, .data⟩ (by simp) rfl _ rfl
      have d21 := hD ⟨21, .data⟩ (by simp) rfl _ rfl
      refine step_yes rfl ?_
      obtain ⟨a', c', dq, h1, h2⟩ := d21
      have d21 : a.tmps.getD 28 undef = .slice a' kn c' := dq
      exact ok_build Lat.refl 75 #[(1, .tmp 10), (2, .tmp 14), (3, .tmp 18), (4, .tmp 22), (5, .tmp 28)] rfl [(1, .bool on), (2, .int .i64 fa), (3, .bool st), (4, .int .i64 op), (5, .slice a' kn c')] #[.slice none 0 0, .bool on, .int .i64 fa, .bool st, .int .i64 op, .slice a' kn c'] (by simp [Act.eval]; simp only [Array.getD_eq_getD_getElem?] at d3 d7 d11 d15 d21; exact ⟨d3, d7, d11, d15, d21⟩) (built75c _ _ _ _ _ _ _) ⟨a', c', rfl, h1, h2⟩
    · obtain rfl := Option.some.inj hi
      clear hi hlt
      intro a w1 hL hS hD
      have d22 := hD ⟨22, .data⟩ (by simp) rfl _ rfl
      refine step_yes rfl ?_
      obtain ⟨a', c', dq, h1, h2⟩ := d22
      have d22 : a.tmps.getD 29 undef = .agg #[.slice none 0 0, .bool on, .int .i64 fa, .bool st, .int .i64 op, .slice a' kn c'] := dq
      exact ok_box 75 (.tmp 29) rfl [.slice none 0 0, .bool on, .int .i64 fa, .bool st, .int .i64 op, .slice a' kn c'] d22 ((Below.refl _ _).alloc (Nat.le_refl _) _) ⟨a', c', w1.heap.size, rfl, hL.size, Blk.new w1 75 _, h1.alloc _, h2⟩
    · obtain rfl := Option.some.inj hi
      clear hi hlt
      intro a w1 hL hS hD
      have d23 := hD ⟨23, .data⟩ (by simp) rfl _ rfl
      refine step_yes rfl ?_
      obtain ⟨a', c', q, dq, h0, hB, h1, h2⟩ := d23
      have d23 : a.tmps.getD 30 undef = .pointer (some ⟨q, 0, none⟩) := dq
      exact ok_value Lat.refl (.pointer (some ⟨q, 0, none⟩)) (by simp [execOp, Act.eval, d23, go_sem]) ⟨a', c', q, rfl, h0, hB, h1, h2⟩

set_option maxRecDepth 100000 in
set_option maxHeartbeats 2000000 in
theorem copyr_r7 (p q fb n fc i m cc lvn lvc : Nat) (ad lva : Option Addr) (la : Int) (l : List Int) (R : Option Addr → Nat → Value → World → Prop) (w : World) (a0 : Act) (Q : Exit → Act → World → Prop) (hsz : a0.tmps.size = 69)
    (s4 : a0.tmps.getD 4 undef = .pointer (some ⟨q, 0, none⟩))
    (s6 : a0.tmps.getD 6 undef = .slice none 0 0)
    (s0 : a0.tmps.getD 0 undef = .pointer (some ⟨p, 0, none⟩))
    (s5 : a0.tmps.getD 5 undef = .int .i64 (i : Int))
    (hi : i < n) (hii : (i : Int) < (n : Int)) (hn8 : n ≤ 8)
    (hq0 : ∀ w1, Lat w w1 → w1.cell? ⟨q, 0, none⟩ = some (.slice lva lvn lvc)) (hp0 : ∀ w1, Lat w w1 → w1.cell? ⟨p, 0, none⟩ = some (.slice (some ⟨fb, 0, none⟩) n fc)) (hr : ∀ w1, Lat w w1 → w1.cell? ⟨fb, i * 2, none⟩ = some (.slice ad m cc)) (hl1 : ∀ w1, Lat w w1 → w1.cell? ⟨fb, i * 2 + 1, none⟩ = some (.int .i64 la))
    (happ : ∀ w1, Lat w w1 → ∃ v' w', (Builtin.append_ #[27, 27] 27 #[.slice none 0 0, .slice ad m cc]).run Try.prog w1 = .ok v' w' ∧ w'.ownsRow 0 5 1 v' m (cells8 l) ∧ Below w1.heap.size w1 w' ∧ ∀ g, v'.ownBlock = some g → w1.heap.size ≤ g)
    (hbld : ∀ (w1 : World) (a' : Option Addr) (c' : Nat), (Instr.buildSlice 73 1 #[(0, .agg #[.slice a' m c', .int .i64 la])]).run Try.prog w1 = .ok (.slice (some ⟨w1.heap.size, 0, none⟩) 1 1) (w1.alloc (.cells #[.slice a' m c', .int .i64 la] 86)))
    (happ2 : ∀ (w1 : World) (a' : Option Addr) (c' b : Nat), Lat w w1 → w.heap.size ≤ b → Blk w1 b 86 [.slice a' m c', .int .i64 la] → w1.ownsRow 0 5 1 (.slice a' m c') m (cells8 l) → (∀ g, (Value.slice a' m c').ownBlock = some g → w.heap.size ≤ g) → ∃ v2 w2, (Builtin.append_ #[73, 73] 73 #[.slice lva lvn lvc, .slice (some ⟨b, 0, none⟩) 1 1]).run Try.prog w1 = .ok v2 w2 ∧ w2.cell? ⟨q, 0, none⟩ = some (.slice lva lvn lvc) ∧ w2.frozen? ⟨q, 0, none⟩ = false ∧ (∃ z1 z2 z3, v2 = .slice z1 z2 z3) ∧ R a' c' v2 w2)
    (hQ : ∀ (v40 v41 v42 v43 v44 v45 v46 v47 v48 v49 v50 v51 v52 v53 v54 v55 v56 v57 v58 v59 v60 v61 v62 v63 v64 v65 v66 v67 : Value) (a' : Option Addr) (c' : Nat) (v2 : Value) (w2 : World), R a' c' v2 w2 → Q .normal (((((((((((((((((((((((((((((((a0.put (some 40) v40).put (some 41) v41).put (some 42) v42).put (some 43) v43).put (some 44) v44).put (some 45) v45).put (some 46) v46).put (some 47) v47).put (some 48) v48).put (some 49) v49).put (some 50) v50).put (some 51) v51).put (some 52) v52).put (some 53) v53).put (some 54) v54).put (some 55) v55).put (some 56) v56).put (some 57) v57).put (some 58) v58).put (some 59) v59).put (some 60) v60).put (some 61) v61).put (some 62) v62).put (some 63) v63).put (some 64) v64).put (some 65) v65).put (some 66) v66).put (some 67) v67).put (some 65) v2).put (some 66) (.pointer (some ⟨q, 0, none⟩))).put (some 67) (.pointer (some ⟨q, 0, none⟩))) (w2.setCell ⟨q, 0, none⟩ v2)) :
    Code.wp Try.prog ((Try.f37.body.bind (findRegion 7)).getD .skip) Q a0 w := by
  conv => arg 2; whnf
  refine wp_region_late 25 Lat (TE [Ent.val (.pointer (some ⟨q, 0, none⟩)), Ent.val (.pointer (some ⟨q, 0, none⟩)), Ent.val (.pointer (some ⟨q, 0, none⟩)), Ent.val (.pointer (some ⟨q, 0, none⟩)), Ent.val (.slice lva lvn lvc), Ent.val (.slice none 0 0), Ent.val (.pointer (some ⟨p, 0, none⟩)), Ent.val (.pointer (some ⟨p, 0, none⟩)), Ent.val (.pointer (some ⟨p, 0, none⟩)), Ent.val (.slice (some ⟨fb, 0, none⟩) n fc), Ent.val (.int .i64 (i : Int)), Ent.val (.pointer (some ⟨fb, i * 2, none⟩)), Ent.val (.pointer (some ⟨fb, i * 2, none⟩)), Ent.val (.slice ad m cc), (⟨fun v w1 => ∃ a c, v = .slice a m c ∧ w1.ownsRow 0 5 1 (.slice a m c) m (cells8 l) ∧ (∀ g, (Value.slice a m c).ownBlock = some g → w.heap.size ≤ g), fun v x y h hl => by obtain ⟨a, c, h1, h2, h3⟩ := h; exact ⟨a, c, h1, (Chg.of_below (F := fun _ => False) hl).owns h2 (fun _ _ h => h), h3⟩⟩ : Ent Lat), Ent.val (.pointer (some ⟨p, 0, none⟩)), Ent.val (.pointer (some ⟨p, 0, none⟩)), Ent.val (.pointer (some ⟨p, 0, none⟩)), Ent.val (.slice (some ⟨fb, 0, none⟩) n fc), Ent.val (.int .i64 (i : Int)), Ent.val (.pointer (some ⟨fb, i * 2, none⟩)), Ent.val (.pointer (some ⟨fb, i * 2 + 1, none⟩)), Ent.val (.int .i64 la), (⟨fun v w1 => ∃ a c, v = .agg #[.slice a m c, .int .i64 la] ∧ w1.ownsRow 0 5 1 (.slice a m c) m (cells8 l) ∧ (∀ g, (Value.slice a m c).ownBlock = some g → w.heap.size ≤ g), fun v x y h hl => by obtain ⟨a, c, h1, h2, h3⟩ := h; exact ⟨a, c, h1, (Chg.of_below (F := fun _ => False) hl).owns h2 (fun _ _ h => h), h3⟩⟩ : Ent Lat), (⟨fun v w1 => ∃ a c b, v = .slice (some ⟨b, 0, none⟩) 1 1 ∧ w.heap.size ≤ b ∧ Blk w1 b 86 [.slice a m c, .int .i64 la] ∧ w1.ownsRow 0 5 1 (.slice a m c) m (cells8 l) ∧ (∀ g, (Value.slice a m c).ownBlock = some g → w.heap.size ≤ g), fun v x y h hl => by obtain ⟨a, c, b, h1, h0, hB, h2, h3⟩ := h; exact ⟨a, c, b, h1, h0, hB.later hl, (Chg.of_below (F := fun _ => False) hl).owns h2 (fun _ _ h => h), h3⟩⟩ : Ent Lat)]) (by kernel_rfl) (by kernel_rfl) (by kernel_rfl) (by rw [hsz]; kernel_rfl) (by kernel_rfl) (by kernel_rfl) Lat.refl Lat.trans (TE_stable _) (Lat.draw w) ?hop ?hlast ?hlate
  case hlast =>
    intro a w1 hL hS hT
    have k4s : a.tmps.getD 4 undef = .pointer (some ⟨q, 0, none⟩) := (hS.slot 4 (by kernel_rfl)).trans s4
    have k4 : a.tmps.getD 44 undef = .slice lva lvn lvc := hT 4 _ (by omega) rfl
    have k24 := hT 24 _ (by omega) rfl
    obtain ⟨a', c', b, dq, h0, hB, hO, hg⟩ := k24
    have k64 : a.tmps.getD 64 undef = .slice (some ⟨b, 0, none⟩) 1 1 := dq
    obtain ⟨v2, w2, hr, hc2, hf2, ⟨z1, z2, z3, rfl⟩, hR⟩ := happ2 w1 a' c' b hL h0 hB hO hg
    have he := same_puts hS
    have hQ2 := hQ (a.tmps.getD 40 undef) (a.tmps.getD 41 undef) (a.tmps.getD 42 undef) (a.tmps.getD 43 undef) (a.tmps.getD 44 undef) (a.tmps.getD 45 undef) (a.tmps.getD 46 undef) (a.tmps.getD 47 undef) (a.tmps.getD 48 undef) (a.tmps.getD 49 undef) (a.tmps.getD 50 undef) (a.tmps.getD 51 undef) (a.tmps.getD 52 undef) (a.tmps.getD 53 undef) (a.tmps.getD 54 undef) (a.tmps.getD 55 undef) (a.tmps.getD 56 undef) (a.tmps.getD 57 undef) (a.tmps.getD 58 undef) (a.tmps.getD 59 undef) (a.tmps.getD 60 undef) (a.tmps.getD 61 undef) (a.tmps.getD 62 undef) (a.tmps.getD 63 undef) (a.tmps.getD 64 undef) (a.tmps.getD 65 undef) (a.tmps.getD 66 undef) (a.tmps.getD 67 undef) a' c' (.slice z1 z2 z3) w2 hR
    have k0 : a.tmps.getD 40 undef = .pointer (some ⟨q, 0, none⟩) := hT 0 _ (by omega) rfl
    refine wpAny_one 25 _ rfl rfl (by kernel_rfl) ?_
    refine wp_val (.slice z1 z2 z3) (w' := w2) (by simp only [Array.getD_eq_getD_getElem?] at k4 k64; simp [execOp, resolve, invoke, builtin, Act.eval, k4, k64, hr, Result.andThen]) ?_
    show wpAny Try.prog .any _ Q _ _ (a.put (some 65) (.slice z1 z2 z3)) w2
    obtain ⟨fr1, hfr1⟩ : ∃ x, a.put (some 65) (.slice z1 z2 z3) = x := ⟨_, rfl⟩
    rw [hfr1]
    have zfr1 : fr1.tmps.size = 69 := by rw [← hfr1, put_size]; exact (hS.size.trans hsz)
    have c1_4 : fr1.tmps.getD 4 undef = .pointer (some ⟨q, 0, none⟩) := by rw [← hfr1]; exact (put_slot _ 65 4 _ (by decide)).trans k4s
    have c1_44 : fr1.tmps.getD 44 undef = .slice lva lvn lvc := by rw [← hfr1]; exact (put_slot _ 65 44 _ (by decide)).trans k4
    have c1_64 : fr1.tmps.getD 64 undef = .slice (some ⟨b, 0, none⟩) 1 1 := by rw [← hfr1]; exact (put_slot _ 65 64 _ (by decide)).trans k64
    have c1_40 : fr1.tmps.getD 40 undef = .pointer (some ⟨q, 0, none⟩) := by rw [← hfr1]; exact (put_slot _ 65 40 _ (by decide)).trans k0
    have c1_65 : fr1.tmps.getD 65 undef = .slice z1 z2 z3 := by rw [← hfr1]; exact put_same _ 65 _ (by rw [(hS.size.trans hsz)]; decide)
    refine wpAny_one 26 _ rfl rfl (by kernel_rfl) ?_
    refine wp_val (.pointer (some ⟨q, 0, none⟩)) (w' := w2) (by simp only [Array.getD_eq_getD_getElem?] at c1_40; simp [execOp, Act.eval, c1_40, go_sem]) ?_
    show wpAny Try.prog .any _ Q _ _ (fr1.put (some 66) (.pointer (some ⟨q, 0, none⟩))) w2
    obtain ⟨fr2, hfr2⟩ : ∃ x, fr1.put (some 66) (.pointer (some ⟨q, 0, none⟩)) = x := ⟨_, rfl⟩
    rw [hfr2]
    have zfr2 : fr2.tmps.size = 69 := by rw [← hfr2, put_size]; exact zfr1
    have c2_4 : fr2.tmps.getD 4 undef = .pointer (some ⟨q, 0, none⟩) := by rw [← hfr2]; exact (put_slot _ 66 4 _ (by decide)).trans c1_4
    have c2_44 : fr2.tmps.getD 44 undef = .slice lva lvn lvc := by rw [← hfr2]; exact (put_slot _ 66 44 _ (by decide)).trans c1_44
    have c2_64 : fr2.tmps.getD 64 undef = .slice (some ⟨b, 0, none⟩) 1 1 := by rw [← hfr2]; exact (put_slot _ 66 64 _ (by decide)).trans c1_64
    have c2_40 : fr2.tmps.getD 40 undef = .pointer (some ⟨q, 0, none⟩) := by rw [← hfr2]; exact (put_slot _ 66 40 _ (by decide)).trans c1_40
    have c2_65 : fr2.tmps.getD 65 undef = .slice z1 z2 z3 := by rw [← hfr2]; exact (put_slot _ 66 65 _ (by decide)).trans c1_65
    have c2_66 : fr2.tmps.getD 66 undef = .pointer (some ⟨q, 0, none⟩) := by rw [← hfr2]; exact put_same _ 66 _ (by rw [zfr1]; decide)
    refine wpAny_one 27 _ rfl rfl (by kernel_rfl) ?_
    refine wp_val (.pointer (some ⟨q, 0, none⟩)) (w' := w2) (by simp only [Array.getD_eq_getD_getElem?] at c2_66; simp [execOp, Act.eval, c2_66, go_sem]) ?_
    show wpAny Try.prog .any _ Q _ _ (fr2.put (some 67) (.pointer (some ⟨q, 0, none⟩))) w2
    obtain ⟨fr3, hfr3⟩ : ∃ x, fr2.put (some 67) (.pointer (some ⟨q, 0, none⟩)) = x := ⟨_, rfl⟩
    rw [hfr3]
    have zfr3 : fr3.tmps.size = 69 := by rw [← hfr3, put_size]; exact zfr2
    have c3_4 : fr3.tmps.getD 4 undef = .pointer (some ⟨q, 0, none⟩) := by rw [← hfr3]; exact (put_slot _ 67 4 _ (by decide)).trans c2_4
    have c3_44 : fr3.tmps.getD 44 undef = .slice lva lvn lvc := by rw [← hfr3]; exact (put_slot _ 67 44 _ (by decide)).trans c2_44
    have c3_64 : fr3.tmps.getD 64 undef = .slice (some ⟨b, 0, none⟩) 1 1 := by rw [← hfr3]; exact (put_slot _ 67 64 _ (by decide)).trans c2_64
    have c3_40 : fr3.tmps.getD 40 undef = .pointer (some ⟨q, 0, none⟩) := by rw [← hfr3]; exact (put_slot _ 67 40 _ (by decide)).trans c2_40
    have c3_65 : fr3.tmps.getD 65 undef = .slice z1 z2 z3 := by rw [← hfr3]; exact (put_slot _ 67 65 _ (by decide)).trans c2_65
    have c3_66 : fr3.tmps.getD 66 undef = .pointer (some ⟨q, 0, none⟩) := by rw [← hfr3]; exact (put_slot _ 67 66 _ (by decide)).trans c2_66
    have c3_67 : fr3.tmps.getD 67 undef = .pointer (some ⟨q, 0, none⟩) := by rw [← hfr3]; exact put_same _ 67 _ (by rw [zfr2]; decide)
    refine wpAny_one 28 _ rfl rfl (by kernel_rfl) ?_
    simp only [Array.getD_eq_getD_getElem?] at c3_67 c3_65
    unfold Oper.wp
    simp [execOp, Act.eval, c3_67, c3_65, hc2, hf2, Result.andThen, go_sem]
    refine wpAny_nil (by kernel_rfl) ?_
    show Q .normal fr3 _
    rw [← hfr3, ← hfr2, ← hfr1]
    rw [he]
    exact hQ2
  case hlate =>
    intro a w1 hL hS hT
    have k4s : a.tmps.getD 4 undef = .pointer (some ⟨q, 0, none⟩) := (hS.slot 4 (by kernel_rfl)).trans s4
    have k4 : a.tmps.getD 44 undef = .slice lva lvn lvc := hT 4 _ (by omega) (by omega) rfl
    have k24 := hT 24 _ (by omega) (by omega) rfl
    obtain ⟨a', c', b, dq, h0, hB, hO, hg⟩ := k24
    have k64 : a.tmps.getD 64 undef = .slice (some ⟨b, 0, none⟩) 1 1 := dq
    obtain ⟨v2, w2, hr, hc2, hf2, ⟨z1, z2, z3, rfl⟩, hR⟩ := happ2 w1 a' c' b hL h0 hB hO hg
    have he := same_puts hS
    have hS1 := same_put (a := a) (i := 0) (v := .pointer (some ⟨q, 0, none⟩)) rfl hS
    have he1 := same_puts hS1
    have hQ2 := hQ ((a.put (some 40) (.pointer (some ⟨q, 0, none⟩))).tmps.getD 40 undef) ((a.put (some 40) (.pointer (some ⟨q, 0, none⟩))).tmps.getD 41 undef) ((a.put (some 40) (.pointer (some ⟨q, 0, none⟩))).tmps.getD 42 undef) ((a.put (some 40) (.pointer (some ⟨q, 0, none⟩))).tmps.getD 43 undef) ((a.put (some 40) (.pointer (some ⟨q, 0, none⟩))).tmps.getD 44 undef) ((a.put (some 40) (.pointer (some ⟨q, 0, none⟩))).tmps.getD 45 undef) ((a.put (some 40) (.pointer (some ⟨q, 0, none⟩))).tmps.getD 46 undef) ((a.put (some 40) (.pointer (some ⟨q, 0, none⟩))).tmps.getD 47 undef) ((a.put (some 40) (.pointer (some ⟨q, 0, none⟩))).tmps.getD 48 undef) ((a.put (some 40) (.pointer (some ⟨q, 0, none⟩))).tmps.getD 49 undef) ((a.put (some 40) (.pointer (some ⟨q, 0, none⟩))).tmps.getD 50 undef) ((a.put (some 40) (.pointer (some ⟨q, 0, none⟩))).tmps.getD 51 undef) ((a.put (some 40) (.pointer (some ⟨q, 0, none⟩))).tmps.getD 52 undef) ((a.put (some 40) (.pointer (some ⟨q, 0, none⟩))).tmps.getD 53 undef) ((a.put (some 40) (.pointer (some ⟨q, 0, none⟩))).tmps.getD 54 undef) ((a.put (some 40) (.pointer (some ⟨q, 0, none⟩))).tmps.getD 55 undef) ((a.put (some 40) (.pointer (some ⟨q, 0, none⟩))).tmps.getD 56 undef) ((a.put (some 40) (.pointer (some ⟨q, 0, none⟩))).tmps.getD 57 undef) ((a.put (some 40) (.pointer (some ⟨q, 0, none⟩))).tmps.getD 58 undef) ((a.put (some 40) (.pointer (some ⟨q, 0, none⟩))).tmps.getD 59 undef) ((a.put (some 40) (.pointer (some ⟨q, 0, none⟩))).tmps.getD 60 undef) ((a.put (some 40) (.pointer (some ⟨q, 0, none⟩))).tmps.getD 61 undef) ((a.put (some 40) (.pointer (some ⟨q, 0, none⟩))).tmps.getD 62 undef) ((a.put (some 40) (.pointer (some ⟨q, 0, none⟩))).tmps.getD 63 undef) ((a.put (some 40) (.pointer (some ⟨q, 0, none⟩))).tmps.getD 64 undef) ((a.put (some 40) (.pointer (some ⟨q, 0, none⟩))).tmps.getD 65 undef) ((a.put (some 40) (.pointer (some ⟨q, 0, none⟩))).tmps.getD 66 undef) ((a.put (some 40) (.pointer (some ⟨q, 0, none⟩))).tmps.getD 67 undef) a' c' (.slice z1 z2 z3) w2 hR
    refine wpAny_two 0 25 _ _ rfl rfl rfl rfl (by kernel_rfl) ?_ ?_
    · refine wp_val (.pointer (some ⟨q, 0, none⟩)) (w' := w1) (by simp only [Array.getD_eq_getD_getElem?] at k4s; simp [execOp, Act.eval, k4s, go_sem]) ?_
      show wpAny Try.prog .any _ Q _ _ (a.put (some 40) (.pointer (some ⟨q, 0, none⟩))) w1
      obtain ⟨fr1, hfr1⟩ : ∃ x, a.put (some 40) (.pointer (some ⟨q, 0, none⟩)) = x := ⟨_, rfl⟩
      rw [hfr1]
      have zfr1 : fr1.tmps.size = 69 := by rw [← hfr1, put_size]; exact (hS.size.trans hsz)
      have c1_4 : fr1.tmps.getD 4 undef = .pointer (some ⟨q, 0, none⟩) := by rw [← hfr1]; exact (put_slot _ 40 4 _ (by decide)).trans k4s
      have c1_44 : fr1.tmps.getD 44 undef = .slice lva lvn lvc := by rw [← hfr1]; exact (put_slot _ 40 44 _ (by decide)).trans k4
      have c1_64 : fr1.tmps.getD 64 undef = .slice (some ⟨b, 0, none⟩) 1 1 := by rw [← hfr1]; exact (put_slot _ 40 64 _ (by decide)).trans k64
      have c1_40 : fr1.tmps.getD 40 undef = .pointer (some ⟨q, 0, none⟩) := by rw [← hfr1]; exact put_same _ 40 _ (by rw [(hS.size.trans hsz)]; decide)
      refine wpAny_one 25 _ rfl rfl (by kernel_rfl) ?_
      refine wp_val (.slice z1 z2 z3) (w' := w2) (by simp only [Array.getD_eq_getD_getElem?] at c1_44 c1_64; simp [execOp, resolve, invoke, builtin, Act.eval, c1_44, c1_64, hr, Result.andThen]) ?_
      show wpAny Try.prog .any _ Q _ _ (fr1.put (some 65) (.slice z1 z2 z3)) w2
      obtain ⟨fr2, hfr2⟩ : ∃ x, fr1.put (some 65) (.slice z1 z2 z3) = x := ⟨_, rfl⟩
      rw [hfr2]
      have zfr2 : fr2.tmps.size = 69 := by rw [← hfr2, put_size]; exact zfr1
      have c2_4 : fr2.tmps.getD 4 undef = .pointer (some ⟨q, 0, none⟩) := by rw [← hfr2]; exact (put_slot _ 65 4 _ (by decide)).trans c1_4
      have c2_44 : fr2.tmps.getD 44 undef = .slice lva lvn lvc := by rw [← hfr2]; exact (put_slot _ 65 44 _ (by decide)).trans c1_44
      have c2_64 : fr2.tmps.getD 64 undef = .slice (some ⟨b, 0, none⟩) 1 1 := by rw [← hfr2]; exact (put_slot _ 65 64 _ (by decide)).trans c1_64
      have c2_40 : fr2.tmps.getD 40 undef = .pointer (some ⟨q, 0, none⟩) := by rw [← hfr2]; exact (put_slot _ 65 40 _ (by decide)).trans c1_40
      have c2_65 : fr2.tmps.getD 65 undef = .slice z1 z2 z3 := by rw [← hfr2]; exact put_same _ 65 _ (by rw [zfr1]; decide)
      refine wpAny_one 26 _ rfl rfl (by kernel_rfl) ?_
      refine wp_val (.pointer (some ⟨q, 0, none⟩)) (w' := w2) (by simp only [Array.getD_eq_getD_getElem?] at c2_40; simp [execOp, Act.eval, c2_40, go_sem]) ?_
      show wpAny Try.prog .any _ Q _ _ (fr2.put (some 66) (.pointer (some ⟨q, 0, none⟩))) w2
      obtain ⟨fr3, hfr3⟩ : ∃ x, fr2.put (some 66) (.pointer (some ⟨q, 0, none⟩)) = x := ⟨_, rfl⟩
      rw [hfr3]
      have zfr3 : fr3.tmps.size = 69 := by rw [← hfr3, put_size]; exact zfr2
      have c3_4 : fr3.tmps.getD 4 undef = .pointer (some ⟨q, 0, none⟩) := by rw [← hfr3]; exact (put_slot _ 66 4 _ (by decide)).trans c2_4
      have c3_44 : fr3.tmps.getD 44 undef = .slice lva lvn lvc := by rw [← hfr3]; exact (put_slot _ 66 44 _ (by decide)).trans c2_44
      have c3_64 : fr3.tmps.getD 64 undef = .slice (some ⟨b, 0, none⟩) 1 1 := by rw [← hfr3]; exact (put_slot _ 66 64 _ (by decide)).trans c2_64
      have c3_40 : fr3.tmps.getD 40 undef = .pointer (some ⟨q, 0, none⟩) := by rw [← hfr3]; exact (put_slot _ 66 40 _ (by decide)).trans c2_40
      have c3_65 : fr3.tmps.getD 65 undef = .slice z1 z2 z3 := by rw [← hfr3]; exact (put_slot _ 66 65 _ (by decide)).trans c2_65
      have c3_66 : fr3.tmps.getD 66 undef = .pointer (some ⟨q, 0, none⟩) := by rw [← hfr3]; exact put_same _ 66 _ (by rw [zfr2]; decide)
      refine wpAny_one 27 _ rfl rfl (by kernel_rfl) ?_
      refine wp_val (.pointer (some ⟨q, 0, none⟩)) (w' := w2) (by simp only [Array.getD_eq_getD_getElem?] at c3_66; simp [execOp, Act.eval, c3_66, go_sem]) ?_
      show wpAny Try.prog .any _ Q _ _ (fr3.put (some 67) (.pointer (some ⟨q, 0, none⟩))) w2
      obtain ⟨fr4, hfr4⟩ : ∃ x, fr3.put (some 67) (.pointer (some ⟨q, 0, none⟩)) = x := ⟨_, rfl⟩
      rw [hfr4]
      have zfr4 : fr4.tmps.size = 69 := by rw [← hfr4, put_size]; exact zfr3
      have c4_4 : fr4.tmps.getD 4 undef = .pointer (some ⟨q, 0, none⟩) := by rw [← hfr4]; exact (put_slot _ 67 4 _ (by decide)).trans c3_4
      have c4_44 : fr4.tmps.getD 44 undef = .slice lva lvn lvc := by rw [← hfr4]; exact (put_slot _ 67 44 _ (by decide)).trans c3_44
      have c4_64 : fr4.tmps.getD 64 undef = .slice (some ⟨b, 0, none⟩) 1 1 := by rw [← hfr4]; exact (put_slot _ 67 64 _ (by decide)).trans c3_64
      have c4_40 : fr4.tmps.getD 40 undef = .pointer (some ⟨q, 0, none⟩) := by rw [← hfr4]; exact (put_slot _ 67 40 _ (by decide)).trans c3_40
      have c4_65 : fr4.tmps.getD 65 undef = .slice z1 z2 z3 := by rw [← hfr4]; exact (put_slot _ 67 65 _ (by decide)).trans c3_65
      have c4_66 : fr4.tmps.getD 66 undef = .pointer (some ⟨q, 0, none⟩) := by rw [← hfr4]; exact (put_slot _ 67 66 _ (by decide)).trans c3_66
      have c4_67 : fr4.tmps.getD 67 undef = .pointer (some ⟨q, 0, none⟩) := by rw [← hfr4]; exact put_same _ 67 _ (by rw [zfr3]; decide)
      refine wpAny_one 28 _ rfl rfl (by kernel_rfl) ?_
      simp only [Array.getD_eq_getD_getElem?] at c4_67 c4_65
      unfold Oper.wp
      simp [execOp, Act.eval, c4_67, c4_65, hc2, hf2, Result.andThen, go_sem]
      refine wpAny_nil (by kernel_rfl) ?_
      show Q .normal fr4 _
      rw [← hfr4, ← hfr3, ← hfr2, ← hfr1]
      have he2 : a.put (some 40) (.pointer (some ⟨q, 0, none⟩)) = _ := he1
      rw [he2]
      exact hQ2
    · refine wp_val (.slice z1 z2 z3) (w' := w2) (by simp only [Array.getD_eq_getD_getElem?] at k4 k64; simp [execOp, resolve, invoke, builtin, Act.eval, k4, k64, hr, Result.andThen]) ?_
      show wpAny Try.prog .any _ Q _ _ (a.put (some 65) (.slice z1 z2 z3)) w2
      obtain ⟨fr1, hfr1⟩ : ∃ x, a.put (some 65) (.slice z1 z2 z3) = x := ⟨_, rfl⟩
      rw [hfr1]
      have zfr1 : fr1.tmps.size = 69 := by rw [← hfr1, put_size]; exact (hS.size.trans hsz)
      have c1_4 : fr1.tmps.getD 4 undef = .pointer (some ⟨q, 0, none⟩) := by rw [← hfr1]; exact (put_slot _ 65 4 _ (by decide)).trans k4s
      have c1_44 : fr1.tmps.getD 44 undef = .slice lva lvn lvc := by rw [← hfr1]; exact (put_slot _ 65 44 _ (by decide)).trans k4
      have c1_64 : fr1.tmps.getD 64 undef = .slice (some ⟨b, 0, none⟩) 1 1 := by rw [← hfr1]; exact (put_slot _ 65 64 _ (by decide)).trans k64
      have c1_65 : fr1.tmps.getD 65 undef = .slice z1 z2 z3 := by rw [← hfr1]; exact put_same _ 65 _ (by rw [(hS.size.trans hsz)]; decide)
      refine wpAny_one 0 _ rfl rfl (by kernel_rfl) ?_
      refine wp_val (.pointer (some ⟨q, 0, none⟩)) (w' := w2) (by simp only [Array.getD_eq_getD_getElem?] at c1_4; simp [execOp, Act.eval, c1_4, go_sem]) ?_
      show wpAny Try.prog .any _ Q _ _ (fr1.put (some 40) (.pointer (some ⟨q, 0, none⟩))) w2
      obtain ⟨fr2, hfr2⟩ : ∃ x, fr1.put (some 40) (.pointer (some ⟨q, 0, none⟩)) = x := ⟨_, rfl⟩
      rw [hfr2]
      have zfr2 : fr2.tmps.size = 69 := by rw [← hfr2, put_size]; exact zfr1
      have c2_4 : fr2.tmps.getD 4 undef = .pointer (some ⟨q, 0, none⟩) := by rw [← hfr2]; exact (put_slot _ 40 4 _ (by decide)).trans c1_4
      have c2_44 : fr2.tmps.getD 44 undef = .slice lva lvn lvc := by rw [← hfr2]; exact (put_slot _ 40 44 _ (by decide)).trans c1_44
      have c2_64 : fr2.tmps.getD 64 undef = .slice (some ⟨b, 0, none⟩) 1 1 := by rw [← hfr2]; exact (put_slot _ 40 64 _ (by decide)).trans c1_64
      have c2_65 : fr2.tmps.getD 65 undef = .slice z1 z2 z3 := by rw [← hfr2]; exact (put_slot _ 40 65 _ (by decide)).trans c1_65
      have c2_40 : fr2.tmps.getD 40 undef = .pointer (some ⟨q, 0, none⟩) := by rw [← hfr2]; exact put_same _ 40 _ (by rw [zfr1]; decide)
      refine wpAny_one 26 _ rfl rfl (by kernel_rfl) ?_
      refine wp_val (.pointer (some ⟨q, 0, none⟩)) (w' := w2) (by simp only [Array.getD_eq_getD_getElem?] at c2_40; simp [execOp, Act.eval, c2_40, go_sem]) ?_
      show wpAny Try.prog .any _ Q _ _ (fr2.put (some 66) (.pointer (some ⟨q, 0, none⟩))) w2
      obtain ⟨fr3, hfr3⟩ : ∃ x, fr2.put (some 66) (.pointer (some ⟨q, 0, none⟩)) = x := ⟨_, rfl⟩
      rw [hfr3]
      have zfr3 : fr3.tmps.size = 69 := by rw [← hfr3, put_size]; exact zfr2
      have c3_4 : fr3.tmps.getD 4 undef = .pointer (some ⟨q, 0, none⟩) := by rw [← hfr3]; exact (put_slot _ 66 4 _ (by decide)).trans c2_4
      have c3_44 : fr3.tmps.getD 44 undef = .slice lva lvn lvc := by rw [← hfr3]; exact (put_slot _ 66 44 _ (by decide)).trans c2_44
      have c3_64 : fr3.tmps.getD 64 undef = .slice (some ⟨b, 0, none⟩) 1 1 := by rw [← hfr3]; exact (put_slot _ 66 64 _ (by decide)).trans c2_64
      have c3_65 : fr3.tmps.getD 65 undef = .slice z1 z2 z3 := by rw [← hfr3]; exact (put_slot _ 66 65 _ (by decide)).trans c2_65
      have c3_40 : fr3.tmps.getD 40 undef = .pointer (some ⟨q, 0, none⟩) := by rw [← hfr3]; exact (put_slot _ 66 40 _ (by decide)).trans c2_40
      have c3_66 : fr3.tmps.getD 66 undef = .pointer (some ⟨q, 0, none⟩) := by rw [← hfr3]; exact put_same _ 66 _ (by rw [zfr2]; decide)
      refine wpAny_one 27 _ rfl rfl (by kernel_rfl) ?_
      refine wp_val (.pointer (some ⟨q, 0, none⟩)) (w' := w2) (by simp only [Array.getD_eq_getD_getElem?] at c3_66; simp [execOp, Act.eval, c3_66, go_sem]) ?_
      show wpAny Try.prog .any _ Q _ _ (fr3.put (some 67) (.pointer (some ⟨q, 0, none⟩))) w2
      obtain ⟨fr4, hfr4⟩ : ∃ x, fr3.put (some 67) (.pointer (some ⟨q, 0, none⟩)) = x := ⟨_, rfl⟩
      rw [hfr4]
      have zfr4 : fr4.tmps.size = 69 := by rw [← hfr4, put_size]; exact zfr3
      have c4_4 : fr4.tmps.getD 4 undef = .pointer (some ⟨q, 0, none⟩) := by rw [← hfr4]; exact (put_slot _ 67 4 _ (by decide)).trans c3_4
      have c4_44 : fr4.tmps.getD 44 undef = .slice lva lvn lvc := by rw [← hfr4]; exact (put_slot _ 67 44 _ (by decide)).trans c3_44
      have c4_64 : fr4.tmps.getD 64 undef = .slice (some ⟨b, 0, none⟩) 1 1 := by rw [← hfr4]; exact (put_slot _ 67 64 _ (by decide)).trans c3_64
      have c4_65 : fr4.tmps.getD 65 undef = .slice z1 z2 z3 := by rw [← hfr4]; exact (put_slot _ 67 65 _ (by decide)).trans c3_65
      have c4_40 : fr4.tmps.getD 40 undef = .pointer (some ⟨q, 0, none⟩) := by rw [← hfr4]; exact (put_slot _ 67 40 _ (by decide)).trans c3_40
      have c4_66 : fr4.tmps.getD 66 undef = .pointer (some ⟨q, 0, none⟩) := by rw [← hfr4]; exact (put_slot _ 67 66 _ (by decide)).trans c3_66
      have c4_67 : fr4.tmps.getD 67 undef = .pointer (some ⟨q, 0, none⟩) := by rw [← hfr4]; exact put_same _ 67 _ (by rw [zfr3]; decide)
      refine wpAny_one 28 _ rfl rfl (by kernel_rfl) ?_
      simp only [Array.getD_eq_getD_getElem?] at c4_67 c4_65
      unfold Oper.wp
      simp [execOp, Act.eval, c4_67, c4_65, hc2, hf2, Result.andThen, go_sem]
      refine wpAny_nil (by kernel_rfl) ?_
      show Q .normal fr4 _
      rw [← hfr4, ← hfr3, ← hfr2, ← hfr1]
      rw [put_comm a 65 40 _ _ (by decide)]
      have he2 : a.put (some 40) (.pointer (some ⟨q, 0, none⟩)) = _ := he1
      rw [he2]
      exact hQ2
  case hop =>
    intro i o hlt hi
    rcases (show i = 0 ∨ i = 1 ∨ i = 2 ∨ i = 3 ∨ i = 4 ∨ i = 5 ∨ i = 6 ∨ i = 7 ∨ i = 8 ∨ i = 9 ∨ i = 10 ∨ i = 11 ∨ i = 12 ∨ i = 13 ∨ i = 14 ∨ i = 15 ∨ i = 16 ∨ i = 17 ∨ i = 18 ∨ i = 19 ∨ i = 20 ∨ i = 21 ∨ i = 22 ∨ i = 23 ∨ i = 24 by omega) with rfl | rfl | rfl | rfl | rfl | rfl | rfl | rfl | rfl | rfl | rfl | rfl | rfl | rfl | rfl | rfl | rfl | rfl | rfl | rfl | rfl | rfl | rfl | rfl | rfl
    · obtain rfl := Option.some.inj hi
      clear hi hlt
      intro a w1 hL hS hD
      have e4 : a.tmps.getD 4 undef = .pointer (some ⟨q, 0, none⟩) := (hS.slot 4 (by kernel_rfl)).trans s4
      refine step_yes rfl ?_
      exact ok_value Lat.refl (.pointer (some ⟨q, 0, none⟩)) (by simp [execOp, Act.eval, e4, go_sem]) rfl
    · obtain rfl := Option.some.inj hi
      clear hi hlt
      intro a w1 hL hS hD
      have e4 : a.tmps.getD 4 undef = .pointer (some ⟨q, 0, none⟩) := (hS.slot 4 (by kernel_rfl)).trans s4
      refine step_yes rfl ?_
      exact ok_value Lat.refl (.pointer (some ⟨q, 0, none⟩)) (by simp [execOp, Act.eval, e4, go_sem]) rfl
    · obtain rfl := Option.some.inj hi
      clear hi hlt
      intro a w1 hL hS hD
      have d1 : a.tmps.getD 41 undef = .pointer (some ⟨q, 0, none⟩) := hD ⟨1, .data⟩ (by simp) rfl _ rfl
      refine step_yes rfl ?_
      exact ok_value Lat.refl (.pointer (some ⟨q, 0, none⟩)) (by simp [execOp, Act.eval, d1, go_sem]) rfl
    · obtain rfl := Option.some.inj hi
      clear hi hlt
      intro a w1 hL hS hD
      have d2 : a.tmps.getD 42 undef = .pointer (some ⟨q, 0, none⟩) := hD ⟨2, .data⟩ (by simp) rfl _ rfl
      refine step_yes rfl ?_
      exact ok_value Lat.refl (.pointer (some ⟨q, 0, none⟩)) (by simp [execOp, Act.eval, d2, go_sem]) rfl
    · obtain rfl := Option.some.inj hi
      clear hi hlt
      intro a w1 hL hS hD
      have d3 : a.tmps.getD 43 undef = .pointer (some ⟨q, 0, none⟩) := hD ⟨3, .data⟩ (by simp) rfl _ rfl
      refine step_yes rfl ?_
      exact ok_value Lat.refl (.slice lva lvn lvc) (by simp [execOp, Act.eval, d3, hq0 w1 hL, go_sem]) rfl
    · obtain rfl := Option.some.inj hi
      clear hi hlt
      intro a w1 hL hS hD
      have e6 : a.tmps.getD 6 undef = .slice none 0 0 := (hS.slot 6 (by kernel_rfl)).trans s6
      refine step_yes rfl ?_
      exact ok_value Lat.refl (.slice none 0 0) (by simp [execOp, Act.eval, e6, go_sem]) rfl
    · obtain rfl := Option.some.inj hi
      clear hi hlt
      intro a w1 hL hS hD
      have e0 : a.tmps.getD 0 undef = .pointer (some ⟨p, 0, none⟩) := (hS.slot 0 (by kernel_rfl)).trans s0
      refine step_yes rfl ?_
      exact ok_value Lat.refl (.pointer (some ⟨p, 0, none⟩)) (by simp [execOp, Act.eval, e0, go_sem]) rfl
    · obtain rfl := Option.some.inj hi
      clear hi hlt
      intro a w1 hL hS hD
      have d6 : a.tmps.getD 46 undef = .pointer (some ⟨p, 0, none⟩) := hD ⟨6, .data⟩ (by simp) rfl _ rfl
      refine step_yes rfl ?_
      exact ok_value Lat.refl (.pointer (some ⟨p, 0, none⟩)) (by simp [execOp, Act.eval, d6, go_sem]) rfl
    · obtain rfl := Option.some.inj hi
      clear hi hlt
      intro a w1 hL hS hD
      have d7 : a.tmps.getD 47 undef = .pointer (some ⟨p, 0, none⟩) := hD ⟨7, .data⟩ (by simp) rfl _ rfl
      refine step_yes rfl ?_
      exact ok_value Lat.refl (.pointer (some ⟨p, 0, none⟩)) (by simp [execOp, Act.eval, d7, go_sem]) rfl
    · obtain rfl := Option.some.inj hi
      clear hi hlt
      intro a w1 hL hS hD
      have d8 : a.tmps.getD 48 undef = .pointer (some ⟨p, 0, none⟩) := hD ⟨8, .data⟩ (by simp) rfl _ rfl
      refine step_yes rfl ?_
      exact ok_value Lat.refl (.slice (some ⟨fb, 0, none⟩) n fc) (by simp [execOp, Act.eval, d8, hp0 w1 hL, go_sem]) rfl
    · obtain rfl := Option.some.inj hi
      clear hi hlt
      intro a w1 hL hS hD
      have e5 : a.tmps.getD 5 undef = .int .i64 (i : Int) := (hS.slot 5 (by kernel_rfl)).trans s5
      refine step_yes rfl ?_
      exact ok_value Lat.refl (.int .i64 (i : Int)) (by simp [execOp, Act.eval, e5, go_sem]) rfl
    · obtain rfl := Option.some.inj hi
      clear hi hlt
      intro a w1 hL hS hD
      have d9 : a.tmps.getD 49 undef = .slice (some ⟨fb, 0, none⟩) n fc := hD ⟨9, .data⟩ (by simp) rfl _ rfl
      have d10 : a.tmps.getD 50 undef = .int .i64 (i : Int) := hD ⟨10, .data⟩ (by simp) rfl _ rfl
      refine step_yes rfl ?_
      exact ok_value Lat.refl (.pointer (some ⟨fb, i * 2, none⟩)) (by simp [execOp, Act.eval, d9, d10, hi, hii, go_sem]) rfl
    · obtain rfl := Option.some.inj hi
      clear hi hlt
      intro a w1 hL hS hD
      have d11 : a.tmps.getD 51 undef = .pointer (some ⟨fb, i * 2, none⟩) := hD ⟨11, .data⟩ (by simp) rfl _ rfl
      refine step_yes rfl ?_
      exact ok_value Lat.refl (.pointer (some ⟨fb, i * 2, none⟩)) (by simp [execOp, Act.eval, d11, go_sem]) rfl
    · obtain rfl := Option.some.inj hi
      clear hi hlt
      intro a w1 hL hS hD
      have d12 : a.tmps.getD 52 undef = .pointer (some ⟨fb, i * 2, none⟩) := hD ⟨12, .data⟩ (by simp) rfl _ rfl
      refine step_yes rfl ?_
      exact ok_value Lat.refl (.slice ad m cc) (by simp [execOp, Act.eval, d12, hr w1 hL, go_sem]) rfl
    · obtain rfl := Option.some.inj hi
      clear hi hlt
      intro a w1 hL hS hD
      have d5 : a.tmps.getD 45 undef = .slice none 0 0 := hD ⟨5, .data⟩ (by simp) rfl _ rfl
      have d13 : a.tmps.getD 53 undef = .slice ad m cc := hD ⟨13, .data⟩ (by simp) rfl _ rfl
      refine step_yes rfl ?_
      obtain ⟨v', w', hr, h1, h2, h3⟩ := happ w1 hL
      obtain ⟨a', c', rfl⟩ := owns_form h1
      unfold Oper.wp
      simp [execOp, resolve, invoke, builtin, Act.eval, d5, d13, hr, Result.andThen]
      exact ⟨_, rfl, h2, ⟨a', c', rfl, h1, fun g hg => Nat.le_trans hL.size (h3 g hg)⟩⟩
    · obtain rfl := Option.some.inj hi
      clear hi hlt
      intro a w1 hL hS hD
      have e0 : a.tmps.getD 0 undef = .pointer (some ⟨p, 0, none⟩) := (hS.slot 0 (by kernel_rfl)).trans s0
      refine step_yes rfl ?_
      exact ok_value Lat.refl (.pointer (some ⟨p, 0, none⟩)) (by simp [execOp, Act.eval, e0, go_sem]) rfl
    · obtain rfl := Option.some.inj hi
      clear hi hlt
      intro a w1 hL hS hD
      have d15 : a.tmps.getD 55 undef = .pointer (some ⟨p, 0, none⟩) := hD ⟨15, .data⟩ (by simp) rfl _ rfl
      refine step_yes rfl ?_
      exact ok_value Lat.refl (.pointer (some ⟨p, 0, none⟩)) (by simp [execOp, Act.eval, d15, go_sem]) rfl
    · obtain rfl := Option.some.inj hi
      clear hi hlt
      intro a w1 hL hS hD
      have d16 : a.tmps.getD 56 undef = .pointer (some ⟨p, 0, none⟩) := hD ⟨16, .data⟩ (by simp) rfl _ rfl
      refine step_yes rfl ?_
      exact ok_value Lat.refl (.pointer (some ⟨p, 0, none⟩)) (by simp [execOp, Act.eval, d16, go_sem]) rfl
    · obtain rfl := Option.some.inj hi
      clear hi hlt
      intro a w1 hL hS hD
      have d17 : a.tmps.getD 57 undef = .pointer (some ⟨p, 0, none⟩) := hD ⟨17, .data⟩ (by simp) rfl _ rfl
      refine step_yes rfl ?_
      exact ok_value Lat.refl (.slice (some ⟨fb, 0, none⟩) n fc) (by simp [execOp, Act.eval, d17, hp0 w1 hL, go_sem]) rfl
    · obtain rfl := Option.some.inj hi
      clear hi hlt
      intro a w1 hL hS hD
      have e5 : a.tmps.getD 5 undef = .int .i64 (i : Int) := (hS.slot 5 (by kernel_rfl)).trans s5
      refine step_yes rfl ?_
      exact ok_value Lat.refl (.int .i64 (i : Int)) (by simp [execOp, Act.eval, e5, go_sem]) rfl
    · obtain rfl := Option.some.inj hi
      clear hi hlt
      intro a w1 hL hS hD
      have d18 : a.tmps.getD 58 undef = .slice (some ⟨fb, 0, none⟩) n fc := hD ⟨18, .data⟩ (by simp) rfl _ rfl
      have d19 : a.tmps.getD 59 undef = .int .i64 (i : Int) := hD ⟨19, .data⟩ (by simp) rfl _ rfl
      refine step_yes rfl ?_
      exact ok_value Lat.refl (.pointer (some ⟨fb, i * 2, none⟩)) (by simp [execOp, Act.eval, d18, d19, hi, hii, go_sem]) rfl
    · obtain rfl := Option.some.inj hi
      clear hi hlt
      intro a w1 hL hS hD
      have d20 : a.tmps.getD 60 undef = .pointer (some ⟨fb, i * 2, none⟩) := hD ⟨20, .data⟩ (by simp) rfl _ rfl
      refine step_yes rfl ?_
      exact ok_value Lat.refl (.pointer (some ⟨fb, i * 2 + 1, none⟩)) (by simp [execOp, Act.eval, d20, go_sem]) rfl
    · obtain rfl := Option.some.inj hi
      clear hi hlt
      intro a w1 hL hS hD
      have d21 : a.tmps.getD 61 undef = .pointer (some ⟨fb, i * 2 + 1, none⟩) := hD ⟨21, .data⟩ (by simp) rfl _ rfl
      refine step_yes rfl ?_
      exact ok_value Lat.refl (.int .i64 la) (by simp [execOp, Act.eval, d21, hl1 w1 hL, go_sem]) rfl
    · obtain rfl := Option.some.inj hi
      clear hi hlt
      intro a w1 hL hS hD
      have d14 := hD ⟨14, .data⟩ (by simp) rfl _ rfl
      have d22 : a.tmps.getD 62 undef = .int .i64 la := hD ⟨22, .data⟩ (by simp) rfl _ rfl
      refine step_yes rfl ?_
      obtain ⟨a', c', dq, h1, h2⟩ := d14
      have d14 : a.tmps.getD 54 undef = .slice a' m c' := dq
      exact ok_build Lat.refl 86 #[(0, .tmp 54), (1, .tmp 62)] rfl [(0, .slice a' m c'), (1, .int .i64 la)] #[.slice a' m c', .int .i64 la] (by simp [Act.eval]; simp only [Array.getD_eq_getD_getElem?] at d14 d22; exact ⟨d14, d22⟩) (built86 _ _ _ _) ⟨a', c', rfl, h1, h2⟩
    · obtain rfl := Option.some.inj hi
      clear hi hlt
      intro a w1 hL hS hD
      have d23 := hD ⟨23, .data⟩ (by simp) rfl _ rfl
      refine step_yes rfl ?_
      obtain ⟨a', c', dq, h1, h2⟩ := d23
      have d23 : a.tmps.getD 63 undef = .agg #[.slice a' m c', .int .i64 la] := dq
      have hbs := hbld w1 a' c'
      refine wp_val (.slice (some ⟨w1.heap.size, 0, none⟩) 1 1) (w' := w1.alloc (.cells #[.slice a' m c', .int .i64 la] 86)) (by simp only [Array.getD_eq_getD_getElem?] at d23; simp [execOp, Act.eval, d23, hbs, Result.andThen]) ?_
      exact ⟨_, rfl, (Below.refl _ _).alloc (Nat.le_refl _) _, ⟨a', c', w1.heap.size, rfl, hL.size, Blk.new w1 86 _, h1.alloc _, h2⟩⟩


end Go.Proofs.Ytgmcfejmhlglkaa
