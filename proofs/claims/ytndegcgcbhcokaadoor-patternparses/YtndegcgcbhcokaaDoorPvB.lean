/-
  Print: repetitions; Print.
-/
import Derived.Test.YtndegcgcbhcokaaDoorPvA
namespace Go.Proofs.YtndegcgcbhcokaaDoor
open Go.RowKit
set_option linter.unusedVariables false
set_option linter.unusedSimpArgs false

theorem step_invoke {ops : Array Oper} {o : Oper} {a : Act} {w : World} {K : Act → World → Prop} {Q : Exit → Act → World → Prop} {E : Prop} (hgd : o.guard = none) (f : FuncId) (args : Array Value) (h : (execOp a.eval o).run Tryd.prog w = .ok (.enter f args) w) (base : Nat) (oo : Option Nat) (L : List UInt8) (hc : Calls Tryd.prog f args w (PrR base oo w L))
    (hK : ∀ a' m' c' w', L.length = m' → w'.ownsRow base 5 1 (.slice a' m' c') m' (bC L) → Cm w w' oo (Value.slice a' m' c').ownBlock → K (a.put o.dst (.slice a' m' c')) w') : if Region.wanted o (yielded ops a.tmps) = true then Oper.wp Tryd.prog o a w K Q else E := by
  have hw : Region.wanted o (yielded ops a.tmps) = true := by simp [Region.wanted, hgd]
  rw [if_pos hw]
  unfold Oper.wp
  rw [h]
  refine Calls.mono hc ?_
  rintro e w' ⟨a', m', c', rfl, h1, h2, h3⟩
  exact hK a' m' c' w' h1 h2 h3

theorem Cm.pushed0 {w w9 : World} {v : Value} {g : Nat} (hp : Pushed w w9 v g) (n c : Nat) : Cm w w9 v.ownBlock (Value.slice (some ⟨g, 0, none⟩) n c).ownBlock := by
  rcases hp with ⟨h1, h2⟩ | ⟨h1, h2⟩
  · exact ⟨Chg.of_grown (F := fun i => v.ownBlock = some i) h2 (fun i hi => by rw [h1]; exact hi), .inl h1.symm⟩
  · exact ⟨Chg.of_grown (F := fun i => v.ownBlock = some i) h2 (fun i hi => by cases hi), .inr ⟨g, rfl, h1⟩⟩

set_option maxRecDepth 100000 in
set_option maxHeartbeats 8000000 in
theorem pr_rep (a : Pt) (s : Nat) (ha : PrC a) : PrC (.rep a s) := by
  intro F w v base L ad n c hv hf hown hoff hn hbase
  simp only [PtV] at hv
  obtain ⟨u, rfl, hu⟩ := hv
  simp only [Pt.fine] at hf
  simp only [Pt.txt] at hn ⊢
  refine ⟨100, _, 92, rfl, by simp, mt76 _, ?_⟩
  obtain ⟨i0, hi0, hz0, hz1, hz2⟩ := info_parts info5
  have HI := hidden hi0
  have hsz : n + a.txt.length + 1 ≤ 7000000 := by simp at hn; omega
  obtain ⟨tu, uu, rfl⟩ := hu.form
  obtain ⟨W, hW⟩ : ∃ W, w.alloc (.cells #[.iface tu uu, .int .u8 (s : Int)] 100) = W := ⟨_, rfl⟩
  have hal : Below w.heap.size w W := by rw [← hW]; exact (Below.refl _ w).alloc (Nat.le_refl _) _
  have B1 : Blk W w.heap.size 100 [.iface tu uu, .int .u8 (s : Int)] := by rw [← hW]; exact Blk.new w 100 _
  have hob : (Value.slice ad n c).ownBlock ≠ some w.heap.size := fun e => by have := owns_lt hown _ e; omega
  have hs8 : ((UInt8.ofNat s).toNat : Int) = (s : Int) := by rcases hf.2 with rfl | rfl | rfl <;> rfl
  -- whatever blocks were made ahead of it
  have HK : Hid (∀ wx, Below W.heap.size W wx → ∃ f, (f = 94 ∨ f = 95 ∨ f = 96 ∨ f = 91 ∨ f = 92) ∧ (∀ w : World, (method 262 tu uu "turnkey/pattern.print").run Tryd.prog w = .ok (f, uu) w) ∧ Calls Tryd.prog f #[uu, .slice ad n c] wx (PrR base (Value.slice ad n c).ownBlock wx (L ++ a.txt))) := hidden (fun wx hb => by
    have hl2 : Below w.heap.size w wx := hal.trans (hb.mono hal.size)
    obtain ⟨t, u, f, e, h1, h2, h3⟩ := ha F wx (.iface tu uu) base L ad n c (PtV.keep (Chg.of_below (F := fun _ => False) hl2) (fun _ _ h => h) a _ hu) hf.1 (owl hown hl2) (hoff.on (Cm.below hl2)) (by omega) (by have := hl2.size; omega)
    injection e with e1 e2
    subst e1 e2
    exact ⟨f, h1, h2, h3⟩)
  have e0 : W.cell? ⟨w.heap.size, 0, none⟩ = some (.iface tu uu) := B1.cell 0
  have e1 : W.cell? ⟨w.heap.size, 1, none⟩ = some (.int .u8 (s : Int)) := B1.cell 1
  have hal2 : Below W.heap.size W (W.alloc (.cells #[.int .u8 (s : Int)] 5)) := (Below.refl _ W).alloc (Nat.le_refl _) _
  obtain ⟨f, hf5, hmt, k1⟩ := HK.out W.drew (below_drew W _)
  obtain ⟨f2, _, hmt2, k2⟩ := HK.out (W.alloc (.cells #[.int .u8 (s : Int)] 5)).drew (hal2.trans (below_drew _ _))
  obtain rfl : f2 = f := by have h1 := hmt w; rw [hmt2 w] at h1; injection h1 with h1 _; injection h1
  clear hmt2
  have hobW : (Value.slice ad n c).ownBlock ≠ some W.heap.size := fun e => by have := owns_lt hown _ e; have := hal.size; omega
  obtain ⟨sv, hsv⟩ : ∃ sv, (s : Int) = sv := ⟨_, rfl⟩
  have BS : Blk (W.alloc (.cells #[.int .u8 (s : Int)] 5)) W.heap.size 5 [.int .u8 (s : Int)] := Blk.new W 5 _
  have HEND : Hid (∀ (w5 w8 : World) (a5 : Option Addr) (n5 c5 g8 c8 : Nat), (L ++ a.txt).length = n5 → Cm W w5 (Value.slice ad n c).ownBlock (Value.slice a5 n5 c5).ownBlock → w8.ownsRow base 5 1 (.slice (some ⟨g8, 0, none⟩) (n5 + 1) c8) (n5 + 1) (bC (L ++ a.txt) ++ [.int .u8 (s : Int)]) → Cm w5 w8 (Value.slice a5 n5 c5).ownBlock (Value.slice (some ⟨g8, 0, none⟩) (n5 + 1) c8).ownBlock → PrR base (Value.slice ad n c).ownBlock w (L ++ (a.txt ++ [UInt8.ofNat s])) (.returned (.slice (some ⟨g8, 0, none⟩) (n5 + 1) c8)) w8) := hidden (fun w5 w8 a5 n5 c5 g8 c8 h1 h2 h3 h4 => by
    refine ⟨_, n5 + 1, c8, rfl, by rw [← List.append_assoc, List.length_append, h1]; rfl, ?_, (Cm.below hal).trans (h2.trans h4)⟩
    rw [← List.append_assoc, bC_append]
    rw [show bC [UInt8.ofNat s] = [.int .u8 (s : Int)] by show [Value.int .u8 (((UInt8.ofNat s).toNat : Nat) : Int)] = _; rw [hs8]]
    exact h3)
  have e4 : (W.alloc (.cells #[.int .u8 (s : Int)] 5)).cell? ⟨w.heap.size, 0, none⟩ = some (.iface tu uu) := (B1.alloc _).cell 0
  have HN5 : Hid (∀ n5, (L ++ a.txt).length = n5 → n5 + 1 ≤ 7000000) := hidden (fun n5 h => by rw [List.length_append] at h; have := hown.1; rw [bC_length] at this; omega)
  have HBW : Hid (base ≤ W.heap.size) := hidden (by have := hal.size; omega)
  clear hsv sv
  go_enter Tryd.func92, Tryd.ntmps92
  go_upto_region 1 with fail
  rcases hf5 with rfl | rfl | rfl | rfl | rfl
  · go_region_law (first
      | (refine step_invoke (by rfl) 94 #[uu, .slice ad n c] (by simp [execOp, resolve, Act.eval, hmt, go_sem]) base _ _ k1 ?_; intro a5 n5 c5 w5 h5 h6 h7; have e2 : w5.cell? ⟨w.heap.size, 1, none⟩ = some (.int .u8 (s : Int)) := (h7.blk B1.drew hob).1.cell 1; have hn5 := HN5.out n5 h5; have hb5 : base ≤ w5.heap.size := Nat.le_trans HBW.out h7.chg.size; have C5 : Cm W w5 (Value.slice ad n c).ownBlock (Value.slice a5 n5 c5).ownBlock := (Cm.below (below_drew W _)).trans h7)
      | (refine step_invoke (by rfl) 94 #[uu, .slice ad n c] (by simp [execOp, resolve, Act.eval, hmt, go_sem]) base _ _ k2 ?_; intro a5 n5 c5 w5 h5 h6 h7; have e3 : w5.cell? ⟨W.heap.size, 0, none⟩ = some (.int .u8 (s : Int)) := (h7.blk BS.drew hobW).1.cell 0; have hn5 := HN5.out n5 h5; have C5 : Cm W w5 (Value.slice ad n c).ownBlock (Value.slice a5 n5 c5).ownBlock := (Cm.below (hal2.trans (below_drew _ _))).trans h7; have hb5 : base ≤ w5.heap.size := Nat.le_trans HBW.out C5.chg.size)
      | (refine step_push _ (by rfl) (.tmp 8) (.tmp 11) 79 (by rfl) 5 i0 (.int .u8 0) 1 Tryd.underlying79 HI.out hz0 hz1 hz2 (by rfl) base (.slice a5 n5 c5) n5 (bC (L ++ a.txt)) (by rfl) (by exact h6.alloc _) ⟨w5.heap.size, 0, none⟩ (.int .u8 (s : Int)) (by rfl) (by exact (Blk.new w5 5 [.int .u8 (s : Int)]).cell 0) (by rfl) (by unfold maxLen; omega) (by omega) (by simp; omega) ?_; intro g8 c8 w8 h8 h9; have H8 := hidden (HEND.out w5 w8 a5 n5 c5 g8 c8 h5 C5 h8 (Cm.pushed h9 _ _)))
      | (refine step_push _ (by rfl) (.tmp 8) (.tmp 11) 79 (by rfl) 5 i0 (.int .u8 0) 1 Tryd.underlying79 HI.out hz0 hz1 hz2 (by rfl) base (.slice a5 n5 c5) n5 (bC (L ++ a.txt)) (by rfl) (by exact h6) ⟨W.heap.size, 0, none⟩ (.int .u8 (s : Int)) (by rfl) (by exact e3) (by rfl) (by unfold maxLen; omega) (by omega) (by omega) ?_; intro g8 c8 w8 h8 h9; have H8 := hidden (HEND.out w5 w8 a5 n5 c5 g8 c8 h5 C5 h8 (Cm.pushed0 h9 _ _))))
    all_goals
      go_wp2
      go_ret
      exact H8.out
  · go_region_law (first
      | (refine step_invoke (by rfl) 95 #[uu, .slice ad n c] (by simp [execOp, resolve, Act.eval, hmt, go_sem]) base _ _ k1 ?_; intro a5 n5 c5 w5 h5 h6 h7; have e2 : w5.cell? ⟨w.heap.size, 1, none⟩ = some (.int .u8 (s : Int)) := (h7.blk B1.drew hob).1.cell 1; have hn5 := HN5.out n5 h5; have hb5 : base ≤ w5.heap.size := Nat.le_trans HBW.out h7.chg.size; have C5 : Cm W w5 (Value.slice ad n c).ownBlock (Value.slice a5 n5 c5).ownBlock := (Cm.below (below_drew W _)).trans h7)
      | (refine step_invoke (by rfl) 95 #[uu, .slice ad n c] (by simp [execOp, resolve, Act.eval, hmt, go_sem]) base _ _ k2 ?_; intro a5 n5 c5 w5 h5 h6 h7; have e3 : w5.cell? ⟨W.heap.size, 0, none⟩ = some (.int .u8 (s : Int)) := (h7.blk BS.drew hobW).1.cell 0; have hn5 := HN5.out n5 h5; have C5 : Cm W w5 (Value.slice ad n c).ownBlock (Value.slice a5 n5 c5).ownBlock := (Cm.below (hal2.trans (below_drew _ _))).trans h7; have hb5 : base ≤ w5.heap.size := Nat.le_trans HBW.out C5.chg.size)
      | (refine step_push _ (by rfl) (.tmp 8) (.tmp 11) 79 (by rfl) 5 i0 (.int .u8 0) 1 Tryd.underlying79 HI.out hz0 hz1 hz2 (by rfl) base (.slice a5 n5 c5) n5 (bC (L ++ a.txt)) (by rfl) (by exact h6.alloc _) ⟨w5.heap.size, 0, none⟩ (.int .u8 (s : Int)) (by rfl) (by exact (Blk.new w5 5 [.int .u8 (s : Int)]).cell 0) (by rfl) (by unfold maxLen; omega) (by omega) (by simp; omega) ?_; intro g8 c8 w8 h8 h9; have H8 := hidden (HEND.out w5 w8 a5 n5 c5 g8 c8 h5 C5 h8 (Cm.pushed h9 _ _)))
      | (refine step_push _ (by rfl) (.tmp 8) (.tmp 11) 79 (by rfl) 5 i0 (.int .u8 0) 1 Tryd.underlying79 HI.out hz0 hz1 hz2 (by rfl) base (.slice a5 n5 c5) n5 (bC (L ++ a.txt)) (by rfl) (by exact h6) ⟨W.heap.size, 0, none⟩ (.int .u8 (s : Int)) (by rfl) (by exact e3) (by rfl) (by unfold maxLen; omega) (by omega) (by omega) ?_; intro g8 c8 w8 h8 h9; have H8 := hidden (HEND.out w5 w8 a5 n5 c5 g8 c8 h5 C5 h8 (Cm.pushed0 h9 _ _))))
    all_goals
      go_wp2
      go_ret
      exact H8.out
  · go_region_law (first
      | (refine step_invoke (by rfl) 96 #[uu, .slice ad n c] (by simp [execOp, resolve, Act.eval, hmt, go_sem]) base _ _ k1 ?_; intro a5 n5 c5 w5 h5 h6 h7; have e2 : w5.cell? ⟨w.heap.size, 1, none⟩ = some (.int .u8 (s : Int)) := (h7.blk B1.drew hob).1.cell 1; have hn5 := HN5.out n5 h5; have hb5 : base ≤ w5.heap.size := Nat.le_trans HBW.out h7.chg.size; have C5 : Cm W w5 (Value.slice ad n c).ownBlock (Value.slice a5 n5 c5).ownBlock := (Cm.below (below_drew W _)).trans h7)
      | (refine step_invoke (by rfl) 96 #[uu, .slice ad n c] (by simp [execOp, resolve, Act.eval, hmt, go_sem]) base _ _ k2 ?_; intro a5 n5 c5 w5 h5 h6 h7; have e3 : w5.cell? ⟨W.heap.size, 0, none⟩ = some (.int .u8 (s : Int)) := (h7.blk BS.drew hobW).1.cell 0; have hn5 := HN5.out n5 h5; have C5 : Cm W w5 (Value.slice ad n c).ownBlock (Value.slice a5 n5 c5).ownBlock := (Cm.below (hal2.trans (below_drew _ _))).trans h7; have hb5 : base ≤ w5.heap.size := Nat.le_trans HBW.out C5.chg.size)
      | (refine step_push _ (by rfl) (.tmp 8) (.tmp 11) 79 (by rfl) 5 i0 (.int .u8 0) 1 Tryd.underlying79 HI.out hz0 hz1 hz2 (by rfl) base (.slice a5 n5 c5) n5 (bC (L ++ a.txt)) (by rfl) (by exact h6.alloc _) ⟨w5.heap.size, 0, none⟩ (.int .u8 (s : Int)) (by rfl) (by exact (Blk.new w5 5 [.int .u8 (s : Int)]).cell 0) (by rfl) (by unfold maxLen; omega) (by omega) (by simp; omega) ?_; intro g8 c8 w8 h8 h9; have H8 := hidden (HEND.out w5 w8 a5 n5 c5 g8 c8 h5 C5 h8 (Cm.pushed h9 _ _)))
      | (refine step_push _ (by rfl) (.tmp 8) (.tmp 11) 79 (by rfl) 5 i0 (.int .u8 0) 1 Tryd.underlying79 HI.out hz0 hz1 hz2 (by rfl) base (.slice a5 n5 c5) n5 (bC (L ++ a.txt)) (by rfl) (by exact h6) ⟨W.heap.size, 0, none⟩ (.int .u8 (s : Int)) (by rfl) (by exact e3) (by rfl) (by unfold maxLen; omega) (by omega) (by omega) ?_; intro g8 c8 w8 h8 h9; have H8 := hidden (HEND.out w5 w8 a5 n5 c5 g8 c8 h5 C5 h8 (Cm.pushed0 h9 _ _))))
    all_goals
      go_wp2
      go_ret
      exact H8.out
  · go_region_law (first
      | (refine step_invoke (by rfl) 91 #[uu, .slice ad n c] (by simp [execOp, resolve, Act.eval, hmt, go_sem]) base _ _ k1 ?_; intro a5 n5 c5 w5 h5 h6 h7; have e2 : w5.cell? ⟨w.heap.size, 1, none⟩ = some (.int .u8 (s : Int)) := (h7.blk B1.drew hob).1.cell 1; have hn5 := HN5.out n5 h5; have hb5 : base ≤ w5.heap.size := Nat.le_trans HBW.out h7.chg.size; have C5 : Cm W w5 (Value.slice ad n c).ownBlock (Value.slice a5 n5 c5).ownBlock := (Cm.below (below_drew W _)).trans h7)
      | (refine step_invoke (by rfl) 91 #[uu, .slice ad n c] (by simp [execOp, resolve, Act.eval, hmt, go_sem]) base _ _ k2 ?_; intro a5 n5 c5 w5 h5 h6 h7; have e3 : w5.cell? ⟨W.heap.size, 0, none⟩ = some (.int .u8 (s : Int)) := (h7.blk BS.drew hobW).1.cell 0; have hn5 := HN5.out n5 h5; have C5 : Cm W w5 (Value.slice ad n c).ownBlock (Value.slice a5 n5 c5).ownBlock := (Cm.below (hal2.trans (below_drew _ _))).trans h7; have hb5 : base ≤ w5.heap.size := Nat.le_trans HBW.out C5.chg.size)
      | (refine step_push _ (by rfl) (.tmp 8) (.tmp 11) 79 (by rfl) 5 i0 (.int .u8 0) 1 Tryd.underlying79 HI.out hz0 hz1 hz2 (by rfl) base (.slice a5 n5 c5) n5 (bC (L ++ a.txt)) (by rfl) (by exact h6.alloc _) ⟨w5.heap.size, 0, none⟩ (.int .u8 (s : Int)) (by rfl) (by exact (Blk.new w5 5 [.int .u8 (s : Int)]).cell 0) (by rfl) (by unfold maxLen; omega) (by omega) (by simp; omega) ?_; intro g8 c8 w8 h8 h9; have H8 := hidden (HEND.out w5 w8 a5 n5 c5 g8 c8 h5 C5 h8 (Cm.pushed h9 _ _)))
      | (refine step_push _ (by rfl) (.tmp 8) (.tmp 11) 79 (by rfl) 5 i0 (.int .u8 0) 1 Tryd.underlying79 HI.out hz0 hz1 hz2 (by rfl) base (.slice a5 n5 c5) n5 (bC (L ++ a.txt)) (by rfl) (by exact h6) ⟨W.heap.size, 0, none⟩ (.int .u8 (s : Int)) (by rfl) (by exact e3) (by rfl) (by unfold maxLen; omega) (by omega) (by omega) ?_; intro g8 c8 w8 h8 h9; have H8 := hidden (HEND.out w5 w8 a5 n5 c5 g8 c8 h5 C5 h8 (Cm.pushed0 h9 _ _))))
    all_goals
      go_wp2
      go_ret
      exact H8.out
  · go_region_law (first
      | (refine step_invoke (by rfl) 92 #[uu, .slice ad n c] (by simp [execOp, resolve, Act.eval, hmt, go_sem]) base _ _ k1 ?_; intro a5 n5 c5 w5 h5 h6 h7; have e2 : w5.cell? ⟨w.heap.size, 1, none⟩ = some (.int .u8 (s : Int)) := (h7.blk B1.drew hob).1.cell 1; have hn5 := HN5.out n5 h5; have hb5 : base ≤ w5.heap.size := Nat.le_trans HBW.out h7.chg.size; have C5 : Cm W w5 (Value.slice ad n c).ownBlock (Value.slice a5 n5 c5).ownBlock := (Cm.below (below_drew W _)).trans h7)
      | (refine step_invoke (by rfl) 92 #[uu, .slice ad n c] (by simp [execOp, resolve, Act.eval, hmt, go_sem]) base _ _ k2 ?_; intro a5 n5 c5 w5 h5 h6 h7; have e3 : w5.cell? ⟨W.heap.size, 0, none⟩ = some (.int .u8 (s : Int)) := (h7.blk BS.drew hobW).1.cell 0; have hn5 := HN5.out n5 h5; have C5 : Cm W w5 (Value.slice ad n c).ownBlock (Value.slice a5 n5 c5).ownBlock := (Cm.below (hal2.trans (below_drew _ _))).trans h7; have hb5 : base ≤ w5.heap.size := Nat.le_trans HBW.out C5.chg.size)
      | (refine step_push _ (by rfl) (.tmp 8) (.tmp 11) 79 (by rfl) 5 i0 (.int .u8 0) 1 Tryd.underlying79 HI.out hz0 hz1 hz2 (by rfl) base (.slice a5 n5 c5) n5 (bC (L ++ a.txt)) (by rfl) (by exact h6.alloc _) ⟨w5.heap.size, 0, none⟩ (.int .u8 (s : Int)) (by rfl) (by exact (Blk.new w5 5 [.int .u8 (s : Int)]).cell 0) (by rfl) (by unfold maxLen; omega) (by omega) (by simp; omega) ?_; intro g8 c8 w8 h8 h9; have H8 := hidden (HEND.out w5 w8 a5 n5 c5 g8 c8 h5 C5 h8 (Cm.pushed h9 _ _)))
      | (refine step_push _ (by rfl) (.tmp 8) (.tmp 11) 79 (by rfl) 5 i0 (.int .u8 0) 1 Tryd.underlying79 HI.out hz0 hz1 hz2 (by rfl) base (.slice a5 n5 c5) n5 (bC (L ++ a.txt)) (by rfl) (by exact h6) ⟨W.heap.size, 0, none⟩ (.int .u8 (s : Int)) (by rfl) (by exact e3) (by rfl) (by unfold maxLen; omega) (by omega) (by omega) ?_; intro g8 c8 w8 h8 h9; have H8 := hidden (HEND.out w5 w8 a5 n5 c5 g8 c8 h5 C5 h8 (Cm.pushed0 h9 _ _))))
    all_goals
      go_wp2
      go_ret
      exact H8.out

mutual
/-- PRINT WRITES A PART. -/
theorem prP : ∀ p : Pt, PrC p
  | .chr c => pr_chr c
  | .any => pr_any
  | .cls neg l => pr_cls neg l
  | .grp l => pr_grp l (pr_rows l (fun r hr => pr_row r (prRows l r hr)))
  | .rep a s => pr_rep a s (prP a)
theorem prRow : ∀ (r : List Pt) (p : Pt), p ∈ r → PrC p
  | [], p, h => by cases h
  | q :: t, p, h => by
    rcases List.mem_cons.1 h with e | h
    · rw [e]; exact prP q
    · exact prRow t p h
theorem prRows : ∀ (l : List (List Pt)) (r : List Pt), r ∈ l → ∀ p ∈ r, PrC p
  | [], r, h => by cases h
  | q :: t, r, h => by
    rcases List.mem_cons.1 h with e | h
    · rw [e]; exact prRow q
    · exact prRows t r h
end

end Go.Proofs.YtndegcgcbhcokaaDoor
