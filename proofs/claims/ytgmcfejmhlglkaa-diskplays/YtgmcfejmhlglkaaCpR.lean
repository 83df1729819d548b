import Derived.Test.YtgmcfejmhlglkaaCpA
import Derived.Test.YtgmcfejmhlglkaaAnyB
namespace Go.Proofs.Ytgmcfejmhlglkaa
open Go.RowKit
set_option linter.unusedVariables false
set_option linter.unusedSimpArgs false

theorem ok_build {P : Program} {Q : Exit → Act → World → Prop} {Later : World → World → Prop} {T : Nat → Value → World → Prop} {i : Nat} {o : Oper} {a : Act} {w : World} (hrf : ∀ a, Later a a) (t : TypeId) (parts : Array (Nat × Operand)) (ho : o.op = .build t parts) (vals : List (Nat × Value)) (cells : Array Value)
    (hv : (parts.map fun (i, x) => (i, a.eval x)).toList = vals) (hc : P.built t vals = some cells) (hT : T i (.agg cells) w) : o.wp P a w (fun a' w' => ∃ v, a' = a.put o.dst v ∧ Later w w' ∧ T i v w') Q := by
  have hr := run_build (P := P) w t (parts.map fun (i, x) => (i, a.eval x)) cells (by rw [hv]; exact hc)
  refine ok_value hrf (.agg cells) ?_ hT
  simp only [execOp, ho, Sem.run_bind, hr, Result.andThen_ok, Sem.run_pure]
theorem ok_box {P : Program} {Q : Exit → Act → World → Prop} {Later : World → World → Prop} {T : Nat → Value → World → Prop} {i : Nat} {o : Oper} {a : Act} {w : World} (ty : TypeId) (x : Operand) (ho : o.op = .box ty x) (l : List Value) (hx : a.eval x = .agg l.toArray) (hl : Later w (w.alloc (.cells l.toArray ty))) (hT : T i (.pointer (some ⟨w.heap.size, 0, none⟩)) (w.alloc (.cells l.toArray ty))) : o.wp P a w (fun a' w' => ∃ v, a' = a.put o.dst v ∧ Later w w' ∧ T i v w') Q := by
  unfold Oper.wp execOp
  simp only [ho, hx, Sem.run_bind, Instr.box, newVar, newRow, run_newObj_alloc, Sem.run_pure, Result.andThen_ok]
  exact ⟨_, rfl, hl, hT⟩
theorem built80f (g n : Nat) (on st : Bool) (fa op : Int) (ka : Option Addr) (kn kc : Nat) : Try.prog.built 80 [(0, .slice (some ⟨g, 0, none⟩) n n), (1, .bool on), (2, .int .i64 fa), (3, .agg #[.bool st, .int .i64 op, .slice ka kn kc])] = some #[.slice (some ⟨g, 0, none⟩) n n, .bool on, .int .i64 fa, .bool st, .int .i64 op, .slice ka kn kc] := by kernel_rfl

set_option maxRecDepth 100000 in
set_option maxHeartbeats 2000000 in
theorem copy_r1 (p fb n fc : Nat) (on st : Bool) (fa op : Int) (ka : Option Addr) (kn kc : Nat) (cs : List Value) (w : World) (a0 : Act) (Q : Exit → Act → World → Prop) (hsz : a0.tmps.size = 60)
    (s0 : a0.tmps.getD 0 undef = .pointer (some ⟨p, 0, none⟩))
    (hc0 : ∀ w1, Lat w w1 → w1.cell? ⟨p, 0, none⟩ = some (.slice (some ⟨fb, 0, none⟩) n fc)) (hc1 : ∀ w1, Lat w w1 → w1.cell? ⟨p, 1, none⟩ = some (.bool on)) (hc2 : ∀ w1, Lat w w1 → w1.cell? ⟨p, 2, none⟩ = some (.int .i64 fa)) (hc3 : ∀ w1, Lat w w1 → w1.rangeAt p 3 [.bool st, .int .i64 op, (.slice ka kn kc)])
    (h54 : ∀ w1, Lat w w1 → Calls Try.prog 54 #[.slice (some ⟨fb, 0, none⟩) n fc] w1 fun e w2 => e = .returned (.slice (some ⟨w1.heap.size, 0, none⟩) n n) ∧ Blk w2 w1.heap.size 82 cs ∧ Below w1.heap.size w1 w2)
    (hQ : ∀ (v5 v6 v7 v8 v9 v10 v11 v12 v13 v14 v15 v16 v17 v18 v19 v20 v21 v22 v23 v3 : Value) (w1 : World), Lat w w1 → (∃ g q, w.heap.size ≤ g ∧ w.heap.size ≤ q ∧ v3 = .pointer (some ⟨q, 0, none⟩) ∧ Blk w1 g 82 cs ∧ Blk w1 q 80 [.slice (some ⟨g, 0, none⟩) n n, .bool on, .int .i64 fa, .bool st, .int .i64 op, (.slice ka kn kc)]) → Q .normal ((((((((((((((((((((a0.put (some 5) v5).put (some 6) v6).put (some 7) v7).put (some 8) v8).put (some 9) v9).put (some 10) v10).put (some 11) v11).put (some 12) v12).put (some 13) v13).put (some 14) v14).put (some 15) v15).put (some 16) v16).put (some 17) v17).put (some 18) v18).put (some 19) v19).put (some 20) v20).put (some 21) v21).put (some 22) v22).put (some 23) v23).put (some 3) v3) w1) :
    Code.wp Try.prog ((Try.f36.body.bind (findRegion 1)).getD .skip) Q a0 w := by
  conv => arg 2; whnf
  refine wp_region_inv Lat (TE [Ent.val (.pointer (some ⟨p, 0, none⟩)), Ent.val (.pointer (some ⟨p, 0, none⟩)), Ent.val (.pointer (some ⟨p, 0, none⟩)), Ent.val (.slice (some ⟨fb, 0, none⟩) n fc), (⟨fun v w1 => ∃ g, w.heap.size ≤ g ∧ v = .slice (some ⟨g, 0, none⟩) n n ∧ Blk w1 g 82 cs, fun v a b h hl => by obtain ⟨g, h0, h1, h2⟩ := h; exact ⟨g, h0, h1, h2.later hl⟩⟩ : Ent Lat), Ent.val (.pointer (some ⟨p, 0, none⟩)), Ent.val (.pointer (some ⟨p, 0, none⟩)), Ent.val (.pointer (some ⟨p, 1, none⟩)), Ent.val (.bool on), Ent.val (.pointer (some ⟨p, 0, none⟩)), Ent.val (.pointer (some ⟨p, 0, none⟩)), Ent.val (.pointer (some ⟨p, 2, none⟩)), Ent.val (.int .i64 fa), Ent.val (.pointer (some ⟨p, 0, none⟩)), Ent.val (.pointer (some ⟨p, 0, none⟩)), Ent.val (.pointer (some ⟨p, 3, none⟩)), Ent.val (.agg #[.bool st, .int .i64 op, (.slice ka kn kc)]), (⟨fun v w1 => ∃ g, w.heap.size ≤ g ∧ v = .agg #[.slice (some ⟨g, 0, none⟩) n n, .bool on, .int .i64 fa, .bool st, .int .i64 op, (.slice ka kn kc)] ∧ Blk w1 g 82 cs, fun v a b h hl => by obtain ⟨g, h0, h1, h2⟩ := h; exact ⟨g, h0, h1, h2.later hl⟩⟩ : Ent Lat), (⟨fun v w1 => ∃ g q, w.heap.size ≤ g ∧ w.heap.size ≤ q ∧ v = .pointer (some ⟨q, 0, none⟩) ∧ Blk w1 g 82 cs ∧ Blk w1 q 80 [.slice (some ⟨g, 0, none⟩) n n, .bool on, .int .i64 fa, .bool st, .int .i64 op, (.slice ka kn kc)], fun v a b h hl => by obtain ⟨g, q, h0, h1, h2, h3, h4⟩ := h; exact ⟨g, q, h0, h1, h2, h3.later hl, h4.later hl⟩⟩ : Ent Lat), (⟨fun v w1 => ∃ g q, w.heap.size ≤ g ∧ w.heap.size ≤ q ∧ v = .pointer (some ⟨q, 0, none⟩) ∧ Blk w1 g 82 cs ∧ Blk w1 q 80 [.slice (some ⟨g, 0, none⟩) n n, .bool on, .int .i64 fa, .bool st, .int .i64 op, (.slice ka kn kc)], fun v a b h hl => by obtain ⟨g, q, h0, h1, h2, h3, h4⟩ := h; exact ⟨g, q, h0, h1, h2, h3.later hl, h4.later hl⟩⟩ : Ent Lat)]) (by kernel_rfl) (by kernel_rfl) (by kernel_rfl) (by rw [hsz]; kernel_rfl) (by kernel_rfl) Lat.refl Lat.trans (TE_stable _) (Lat.draw w) ?hop ?hdone
  case hdone =>
    intro a w1 hL hS hT
    have he := same_puts hS
    rw [he]
    exact hQ (a.tmps.getD 5 undef) (a.tmps.getD 6 undef) (a.tmps.getD 7 undef) (a.tmps.getD 8 undef) (a.tmps.getD 9 undef) (a.tmps.getD 10 undef) (a.tmps.getD 11 undef) (a.tmps.getD 12 undef) (a.tmps.getD 13 undef) (a.tmps.getD 14 undef) (a.tmps.getD 15 undef) (a.tmps.getD 16 undef) (a.tmps.getD 17 undef) (a.tmps.getD 18 undef) (a.tmps.getD 19 undef) (a.tmps.getD 20 undef) (a.tmps.getD 21 undef) (a.tmps.getD 22 undef) (a.tmps.getD 23 undef) (a.tmps.getD 3 undef) w1 hL (hT 19 _ rfl)
  case hop =>
    intro i o hi
    have hlt : i < 20 := (Array.getElem?_eq_some_iff.1 hi).1
    rcases (show i = 0 ∨ i = 1 ∨ i = 2 ∨ i = 3 ∨ i = 4 ∨ i = 5 ∨ i = 6 ∨ i = 7 ∨ i = 8 ∨ i = 9 ∨ i = 10 ∨ i = 11 ∨ i = 12 ∨ i = 13 ∨ i = 14 ∨ i = 15 ∨ i = 16 ∨ i = 17 ∨ i = 18 ∨ i = 19 by omega) with rfl | rfl | rfl | rfl | rfl | rfl | rfl | rfl | rfl | rfl | rfl | rfl | rfl | rfl | rfl | rfl | rfl | rfl | rfl | rfl
    · obtain rfl := Option.some.inj hi
      clear hi hlt
      intro a w1 hL hS hD
      have e0 : a.tmps.getD 0 undef = .pointer (some ⟨p, 0, none⟩) := (hS.slot 0 (by kernel_rfl)).trans s0
      refine step_yes rfl ?_
      exact ok_value Lat.refl (.pointer (some ⟨p, 0, none⟩)) (by simp [execOp, Act.eval, e0, go_sem]) rfl
    · obtain rfl := Option.some.inj hi
      clear hi hlt
      intro a w1 hL hS hD
      have d0 : a.tmps.getD 5 undef = .pointer (some ⟨p, 0, none⟩) := hD ⟨0, .data⟩ (by simp) rfl _ rfl
      refine step_yes rfl ?_
      exact ok_value Lat.refl (.pointer (some ⟨p, 0, none⟩)) (by simp [execOp, Act.eval, d0, go_sem]) rfl
    · obtain rfl := Option.some.inj hi
      clear hi hlt
      intro a w1 hL hS hD
      have d1 : a.tmps.getD 6 undef = .pointer (some ⟨p, 0, none⟩) := hD ⟨1, .data⟩ (by simp) rfl _ rfl
      refine step_yes rfl ?_
      exact ok_value Lat.refl (.pointer (some ⟨p, 0, none⟩)) (by simp [execOp, Act.eval, d1, go_sem]) rfl
    · obtain rfl := Option.some.inj hi
      clear hi hlt
      intro a w1 hL hS hD
      have d2 : a.tmps.getD 7 undef = .pointer (some ⟨p, 0, none⟩) := hD ⟨2, .data⟩ (by simp) rfl _ rfl
      refine step_yes rfl ?_
      exact ok_value Lat.refl (.slice (some ⟨fb, 0, none⟩) n fc) (by simp [execOp, Act.eval, d2, hc0 w1 hL, go_sem]) rfl
    · obtain rfl := Option.some.inj hi
      clear hi hlt
      intro a w1 hL hS hD
      have d3 : a.tmps.getD 8 undef = .slice (some ⟨fb, 0, none⟩) n fc := hD ⟨3, .data⟩ (by simp) rfl _ rfl
      refine step_yes rfl ?_
      refine ok_call (f := 54) (args := #[.slice (some ⟨fb, 0, none⟩) n fc]) (by simp [execOp, resolve, Act.eval, d3, go_sem]) ?_
      refine (h54 w1 hL).mono ?_
      rintro e w2 ⟨rfl, hB, hb⟩
      exact ⟨_, rfl, hb, ⟨w1.heap.size, hL.size, rfl, hB⟩⟩
    · obtain rfl := Option.some.inj hi
      clear hi hlt
      intro a w1 hL hS hD
      have e0 : a.tmps.getD 0 undef = .pointer (some ⟨p, 0, none⟩) := (hS.slot 0 (by kernel_rfl)).trans s0
      refine step_yes rfl ?_
      exact ok_value Lat.refl (.pointer (some ⟨p, 0, none⟩)) (by simp [execOp, Act.eval, e0, go_sem]) rfl
    · obtain rfl := Option.some.inj hi
      clear hi hlt
      intro a w1 hL hS hD
      have d5 : a.tmps.getD 10 undef = .pointer (some ⟨p, 0, none⟩) := hD ⟨5, .data⟩ (by simp) rfl _ rfl
      refine step_yes rfl ?_
      exact ok_value Lat.refl (.pointer (some ⟨p, 0, none⟩)) (by simp [execOp, Act.eval, d5, go_sem]) rfl
    · obtain rfl := Option.some.inj hi
      clear hi hlt
      intro a w1 hL hS hD
      have d6 : a.tmps.getD 11 undef = .pointer (some ⟨p, 0, none⟩) := hD ⟨6, .data⟩ (by simp) rfl _ rfl
      refine step_yes rfl ?_
      exact ok_value Lat.refl (.pointer (some ⟨p, 1, none⟩)) (by simp [execOp, Act.eval, d6, go_sem]) rfl
    · obtain rfl := Option.some.inj hi
      clear hi hlt
      intro a w1 hL hS hD
      have d7 : a.tmps.getD 12 undef = .pointer (some ⟨p, 1, none⟩) := hD ⟨7, .data⟩ (by simp) rfl _ rfl
      refine step_yes rfl ?_
      exact ok_value Lat.refl (.bool on) (by simp [execOp, Act.eval, d7, hc1 w1 hL, go_sem]) rfl
    · obtain rfl := Option.some.inj hi
      clear hi hlt
      intro a w1 hL hS hD
      have e0 : a.tmps.getD 0 undef = .pointer (some ⟨p, 0, none⟩) := (hS.slot 0 (by kernel_rfl)).trans s0
      refine step_yes rfl ?_
      exact ok_value Lat.refl (.pointer (some ⟨p, 0, none⟩)) (by simp [execOp, Act.eval, e0, go_sem]) rfl
    · obtain rfl := Option.some.inj hi
      clear hi hlt
      intro a w1 hL hS hD
      have d9 : a.tmps.getD 14 undef = .pointer (some ⟨p, 0, none⟩) := hD ⟨9, .data⟩ (by simp) rfl _ rfl
      refine step_yes rfl ?_
      exact ok_value Lat.refl (.pointer (some ⟨p, 0, none⟩)) (by simp [execOp, Act.eval, d9, go_sem]) rfl
    · obtain rfl := Option.some.inj hi
      clear hi hlt
      intro a w1 hL hS hD
      have d10 : a.tmps.getD 15 undef = .pointer (some ⟨p, 0, none⟩) := hD ⟨10, .data⟩ (by simp) rfl _ rfl
      refine step_yes rfl ?_
      exact ok_value Lat.refl (.pointer (some ⟨p, 2, none⟩)) (by simp [execOp, Act.eval, d10, go_sem]) rfl
    · obtain rfl := Option.some.inj hi
      clear hi hlt
      intro a w1 hL hS hD
      have d11 : a.tmps.getD 16 undef = .pointer (some ⟨p, 2, none⟩) := hD ⟨11, .data⟩ (by simp) rfl _ rfl
      refine step_yes rfl ?_
      exact ok_value Lat.refl (.int .i64 fa) (by simp [execOp, Act.eval, d11, hc2 w1 hL, go_sem]) rfl
    · obtain rfl := Option.some.inj hi
      clear hi hlt
      intro a w1 hL hS hD
      have e0 : a.tmps.getD 0 undef = .pointer (some ⟨p, 0, none⟩) := (hS.slot 0 (by kernel_rfl)).trans s0
      refine step_yes rfl ?_
      exact ok_value Lat.refl (.pointer (some ⟨p, 0, none⟩)) (by simp [execOp, Act.eval, e0, go_sem]) rfl
    · obtain rfl := Option.some.inj hi
      clear hi hlt
      intro a w1 hL hS hD
      have d13 : a.tmps.getD 18 undef = .pointer (some ⟨p, 0, none⟩) := hD ⟨13, .data⟩ (by simp) rfl _ rfl
      refine step_yes rfl ?_
      exact ok_value Lat.refl (.pointer (some ⟨p, 0, none⟩)) (by simp [execOp, Act.eval, d13, go_sem]) rfl
    · obtain rfl := Option.some.inj hi
      clear hi hlt
      intro a w1 hL hS hD
      have d14 : a.tmps.getD 19 undef = .pointer (some ⟨p, 0, none⟩) := hD ⟨14, .data⟩ (by simp) rfl _ rfl
      refine step_yes rfl ?_
      exact ok_value Lat.refl (.pointer (some ⟨p, 3, none⟩)) (by simp [execOp, Act.eval, d14, go_sem]) rfl
    · obtain rfl := Option.some.inj hi
      clear hi hlt
      intro a w1 hL hS hD
      have d15 : a.tmps.getD 20 undef = .pointer (some ⟨p, 3, none⟩) := hD ⟨15, .data⟩ (by simp) rfl _ rfl
      refine step_yes rfl ?_
      exact wp_load_mid 78 (.tmp 20) rfl p 3 (by simp [Act.eval, d15]) [.bool st, .int .i64 op, (.slice ka kn kc)] _ (hc3 w1 hL) Try.underlying78 rfl size78 ⟨_, rfl, Lat.refl _, rfl⟩
    · obtain rfl := Option.some.inj hi
      clear hi hlt
      intro a w1 hL hS hD
      have d4 := hD ⟨4, .data⟩ (by simp) rfl _ rfl
      have d8 : a.tmps.getD 13 undef = .bool on := hD ⟨8, .data⟩ (by simp) rfl _ rfl
      have d12 : a.tmps.getD 17 undef = .int .i64 fa := hD ⟨12, .data⟩ (by simp) rfl _ rfl
      have d16 : a.tmps.getD 21 undef = .agg #[.bool st, .int .i64 op, (.slice ka kn kc)] := hD ⟨16, .data⟩ (by simp) rfl _ rfl
      refine step_yes rfl ?_
      obtain ⟨g, h0, d4q, hB⟩ := d4
      have d4 : a.tmps.getD 9 undef = .slice (some ⟨g, 0, none⟩) n n := d4q
      exact ok_build Lat.refl 80 #[(0, .tmp 9), (1, .tmp 13), (2, .tmp 17), (3, .tmp 21)] rfl [(0, .slice (some ⟨g, 0, none⟩) n n), (1, .bool on), (2, .int .i64 fa), (3, .agg #[.bool st, .int .i64 op, (.slice ka kn kc)])] #[.slice (some ⟨g, 0, none⟩) n n, .bool on, .int .i64 fa, .bool st, .int .i64 op, (.slice ka kn kc)] (by simp [Act.eval]; simp only [Array.getD_eq_getD_getElem?] at d4 d8 d12 d16; exact ⟨d4, d8, d12, d16⟩) (built80f _ _ _ _ _ _ _ _ _) ⟨g, h0, rfl, hB⟩
    · obtain rfl := Option.some.inj hi
      clear hi hlt
      intro a w1 hL hS hD
      have d17 := hD ⟨17, .data⟩ (by simp) rfl _ rfl
      refine step_yes rfl ?_
      obtain ⟨g, h0, d17q, hB⟩ := d17
      have d17 : a.tmps.getD 22 undef = .agg #[.slice (some ⟨g, 0, none⟩) n n, .bool on, .int .i64 fa, .bool st, .int .i64 op, (.slice ka kn kc)] := d17q
      exact ok_box 80 (.tmp 22) rfl [.slice (some ⟨g, 0, none⟩) n n, .bool on, .int .i64 fa, .bool st, .int .i64 op, (.slice ka kn kc)] d17 ((Below.refl _ _).alloc (Nat.le_refl _) _) ⟨g, w1.heap.size, h0, hL.size, rfl, hB.alloc _, Blk.new w1 80 [.slice (some ⟨g, 0, none⟩) n n, .bool on, .int .i64 fa, .bool st, .int .i64 op, (.slice ka kn kc)]⟩
    · obtain rfl := Option.some.inj hi
      clear hi hlt
      intro a w1 hL hS hD
      have d18 := hD ⟨18, .data⟩ (by simp) rfl _ rfl
      refine step_yes rfl ?_
      obtain ⟨g, q, h0, h1, d18q, h3, h4⟩ := d18
      have d18 : a.tmps.getD 23 undef = .pointer (some ⟨q, 0, none⟩) := d18q
      exact ok_value Lat.refl (.pointer (some ⟨q, 0, none⟩)) (by simp [execOp, Act.eval, d18, go_sem]) ⟨g, q, h0, h1, rfl, h3, h4⟩

end Go.Proofs.Ytgmcfejmhlglkaa
