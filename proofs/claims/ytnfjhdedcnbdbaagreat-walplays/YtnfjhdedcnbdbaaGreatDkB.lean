/-
  Copies; the power comes back; a new disk. The program's.
-/
import Derived.Test.YtnfjhdedcnbdbaaGreatDkA
import Derived.Laws.CopyOwn
namespace Go.Proofs.YtnfjhdedcnbdbaaGreat
open Go.RowKit
set_option linter.unusedVariables false
set_option linter.unusedSimpArgs false

theorem info3 : (Tryz.prog.info? 3).map (fun i => (i.zero, i.size, i.bytes)) = some (some (.int .i64 0), 1, 8) := by kernel_rfl
theorem info82 : (Tryz.prog.info? 79).map (fun i => (i.zero, i.size, i.bytes)) = some (some (.agg #[.slice none 0 0, .int .i64 0]), 2, 32) := by kernel_rfl
theorem info86 : (Tryz.prog.info? 97).map (fun i => (i.zero, i.size, i.bytes)) = some (some (.agg #[.slice none 0 0, .int .i64 0]), 2, 32) := by kernel_rfl
theorem size5 : (Tryz.prog.info? 5).map (·.size) = some 1 := by kernel_rfl
theorem size3 : (Tryz.prog.info? 3).map (·.size) = some 1 := by kernel_rfl

/-- 'make([]T, n)'. -/
theorem wpList_make_any {P : Program} (w : World) {ops : Array Oper} {rest : List Oper} {o : Oper} {a : Act} {Q : Exit → Act → World → Prop}
    (hg : o.guard = none) (l c : Operand) (t : TypeId) (hop : o.op = Op.makeSlice t l c) (e : TypeId) (z : Value) (s b : Nat) (h1 : P.underlying t = some (.slice e)) (h2 : (P.info? e).map (fun i => (i.zero, i.size, i.bytes)) = some (some z, s, b))
    (n : Nat) (hl : a.eval l = .int .i64 (n : Int)) (hc : a.eval c = .int .i64 (n : Int)) (hb : b * n ≤ 281474976710656) (hn : n ≤ 281474976710656)
    (hK : ∀ w', Blk w' w.heap.size e (madeCells z.cells (n * s)).toList → w'.heap.size = w.heap.size + 1 → Below w.heap.size w w' → wpList P ops Q rest (a.put o.dst (.slice (some ⟨w.heap.size, 0, none⟩) n n)) w') : wpList P ops Q (o :: rest) a w := by
  obtain ⟨i, hi, hz, hs, hby⟩ := info_parts h2
  refine wpList_plain hg fun K hK' => ?_
  have hr := run_make (P := P) w t e i z h1 hi hz .i64 .i64 (n : Int) (n : Int) (by omega) (by omega) (by rw [hby, ← Int.natCast_mul]; omega) (by omega)
  rw [hs] at hr
  simp only [Int.toNat_natCast] at hr
  unfold Oper.wp
  simp [execOp, hop, hl, hc, hr, Result.andThen]
  refine hK' _ _ (hK _ ?_ (by simp) ((Below.refl _ _).alloc (Nat.le_refl _) _))
  unfold Blk
  rw [heap_alloc_new w]

/-- 'copy' of all that is read into a new row. -/
theorem wpList_copy_all {P : Program} {ops : Array Oper} {rest : List Oper} {o : Oper} {a : Act} {w : World} {Q : Exit → Act → World → Prop} (hgd : o.guard = none) (d s : Operand) (t : TypeId)
    (ho : o.op = .call { callee := .builtin .copy, args := #[d, s], argTypes := #[t, t] }) (elem : TypeId) (hu : P.underlying t = some (.slice elem)) (hsz : (P.info? elem).map (·.size) = some 1)
    (g n c : Nat) (ad : Option Addr) (hd : a.eval d = .slice (some ⟨g, 0, none⟩) n n) (hs : a.eval s = .slice ad n c)
    (cur : List Value) (hB : Blk w g elem cur) (cs : List Value) (hn : cs.length = n) (hcl : cur.length = n)
    (hsrc : ∀ x, ad = some x → ∀ j v, cs[j]? = some v → w.cell? (x.add j) = some v) (h0 : ad = none → n = 0) (h1 : ∀ v ∈ cs, v.oneCell' = true)
    (h : ∀ w', Blk w' g elem cs → Chg (fun i => i = g) w w' → wpList P ops Q rest (a.put o.dst (goInt n)) w') :
    wpList P ops Q (o :: rest) a w := by
  cases ad with
  | none =>
    have e0 := h0 rfl
    rw [e0] at hd hs hn hcl h
    have hl : cs = [] := List.eq_nil_of_length_eq_zero hn
    have hl2 : cur = [] := List.eq_nil_of_length_eq_zero hcl
    rw [hl] at h
    rw [hl2] at hB
    refine wpList_plain hgd fun K hK' => ?_
    have hrun := run_copy_none (P := P) w t t o.type elem (some ⟨g, 0, none⟩) none 0 0 0 c hu hsz (by simp)
    unfold Oper.wp
    simp [execOp, ho, resolve, invoke, builtin, hd, hs, hrun, Result.andThen]
    exact hK' _ _ (h w hB (Chg.refl _ _))
  | some x =>
    refine wpList_plain hgd fun K hK' => ?_
    have hrun := run_copy_row (P := P) w t t o.type elem g 0 n n x n c cur.toArray elem cs hu hsz hB (by rw [hn]; simp) (hsrc x rfl) (by simp; omega) h1
    unfold Oper.wp
    simp [execOp, ho, resolve, invoke, builtin, hd, hs, hrun, Result.andThen]
    rw [hn]
    refine hK' _ _ (h _ ?_ ⟨rfl, rfl, rfl, by simp [World.setRow], fun k _ hk => setRow_other w g k _ hk⟩)
    have := setRow_heap w g _ cs.toArray elem _ hB
    unfold Blk
    rw [List.drop_eq_nil_of_le (by omega : cur.length ≤ n), List.append_nil]
    exact this

/-- A row known whole is owned. -/
theorem Blk.owns {w : World} {g n : Nat} {e : TypeId} {l : List Value} (h : Blk w g e l) (hl : l.length = n) (hn : n ≤ maxLen) (b : Nat) (hb : b ≤ g) : w.ownsRow b e 1 (.slice (some ⟨g, 0, none⟩) n n) n l :=
  ⟨by omega, .inr ⟨g, n, l.toArray, rfl, hb, h, Nat.le_refl _, hn, by simp [hl], by simp [← hl]⟩⟩

theorem made5 (n : Nat) : (madeCells (Value.int .u8 0).cells (n * 1)).toList = cells8 (List.replicate n 0) := by
  have := toList_madeCells_one (.int .u8 0) n
  rw [Nat.mul_one]
  refine this.trans ?_
  simp [cells8]
theorem made3 (n : Nat) : (madeCells (Value.int .i64 0).cells (n * 1)).toList = cellsI (List.replicate n 0) := by
  have := toList_madeCells_one (.int .i64 0) n
  rw [Nat.mul_one]
  refine this.trans ?_
  simp [cellsI]

set_option maxRecDepth 100000 in
theorem copied8 (ad : Option Addr) (n c : Nat) (l : List Int) (w : World) (h : Sl w ad n l) (hn : n ≤ 70368744177664) :
    Calls Tryz.prog 90 #[.slice ad n c] w fun e w' => e = .returned (.slice (some ⟨w.heap.size, 0, none⟩) n n) ∧ w'.ownsRow w.heap.size 5 1 (.slice (some ⟨w.heap.size, 0, none⟩) n n) n (cells8 l) ∧ Below w.heap.size w w' := by
  have HS := hidden h
  clear h
  go_enter Tryz.func90, Tryz.ntmps90
  go_wp2_with (first
    | (refine wpList_make_any _ rfl (.tmp 5) (.tmp 5) 28 rfl 5 (.int .u8 0) 1 1 Tryz.underlying28 info5 n rfl rfl (by omega) (by omega) ?_; intro w1 hB hz hb; rw [made5] at hB; have HB := hidden hB; have Hb := hidden hb; clear hB hb hz)
    | (refine wpList_copy_all rfl (.tmp 7) (.tmp 8) 28 rfl 5 Tryz.underlying28 size5 _ n c ad rfl rfl _ HB.out (cells8 l) (by rw [cells8_length, HS.out.len]) (by rw [cells8_length]; simp) ?_ ?_ (cells8_one l) ?_))
  · intro x hx
    exact Sl.cells (HS.out.later Hb.out |> fun h => hx ▸ h)
  · intro hx
    rcases Nat.eq_zero_or_pos n with h0 | h0
    · exact h0
    · obtain ⟨x, hx2, _⟩ := HS.out.cell 0 h0
      rw [hx] at hx2
      cases hx2
  · intro w2 B2 hc
    go_wp2_with fail
    go_ret
    have hb := Hb.out
    refine ⟨rfl, B2.owns (by rw [cells8_length, HS.out.len]) (by unfold maxLen; omega) _ (Nat.le_refl _), hb.trans ⟨hc.os, hc.tape, hc.output, hc.size, fun k hk => hc.block k (by have := hb.size; omega) (by omega)⟩⟩
set_option maxRecDepth 100000 in
theorem copied64 (ad : Option Addr) (n c : Nat) (l : List Int) (w : World) (h : Sn w ad n l) (hn : n ≤ 1099511627776) :
    Calls Tryz.prog 60 #[.slice ad n c] w fun e w' => e = .returned (.slice (some ⟨w.heap.size, 0, none⟩) n n) ∧ w'.ownsRow w.heap.size 3 1 (.slice (some ⟨w.heap.size, 0, none⟩) n n) n (cellsI l) ∧ Below w.heap.size w w' := by
  have HS := hidden h
  clear h
  go_enter Tryz.func60, Tryz.ntmps60
  go_wp2_with (first
    | (refine wpList_make_any _ rfl (.tmp 5) (.tmp 5) 56 rfl 3 (.int .i64 0) 1 8 Tryz.underlying56 info3 n rfl rfl (by omega) (by omega) ?_; intro w1 hB hz hb; rw [made3] at hB; have HB := hidden hB; have Hb := hidden hb; clear hB hb hz)
    | (refine wpList_copy_all rfl (.tmp 7) (.tmp 8) 56 rfl 3 Tryz.underlying56 size3 _ n c ad rfl rfl _ HB.out (cellsI l) (by rw [cellsI_length, HS.out.len]) (by rw [cellsI_length]; simp) ?_ ?_ (cellsI_one l) ?_))
  · intro x hx
    exact Sn.cells (((Chg.of_below (F := fun _ => False) Hb.out).sn HS.out (fun _ _ _ h => h)) |> fun h => hx ▸ h)
  · intro hx
    rcases Nat.eq_zero_or_pos n with h0 | h0
    · exact h0
    · obtain ⟨x, hx2, _⟩ := HS.out.cell 0 h0
      rw [hx] at hx2
      cases hx2
  · intro w2 B2 hc
    go_wp2_with fail
    go_ret
    have hb := Hb.out
    refine ⟨rfl, B2.owns (by rw [cellsI_length, HS.out.len]) (by unfold maxLen; omega) _ (Nat.le_refl _), hb.trans ⟨hc.os, hc.tape, hc.output, hc.size, fun k hk => hc.block k (by have := hb.size; omega) (by omega)⟩⟩

theorem built78 : Tryz.prog.built 62 [] = some #[.bool false, .int .i64 0, .slice none 0 0] := by kernel_rfl
theorem size78 : (Tryz.prog.info? 62).map (·.size) = some 3 := by kernel_rfl
theorem chg_sets (F : Nat → Prop) (b : Nat) (hF : F b) : ∀ (vs : List Value) (o : Nat) (w : World), Chg F w (w.setCells b o vs)
  | [], o, w => Chg.refl _ _
  | v :: r, o, w => by
    rw [World.setCells]
    exact ((Chg.set ⟨b, o, none⟩ v w).mono (G := F) (fun i _ hi => by subst hi; exact hF)).trans (chg_sets F b hF r (o + 1) _) (fun _ _ h => h)

set_option maxRecDepth 100000 in
theorem restartP (p : Nat) (F : Nat → Prop) (S : St) (w : World) (h : Dk 64 79 w p F S) : Calls Tryz.prog 30 #[.pointer (some ⟨p, 0, none⟩)] w fun e w' => e = .returned (.tuple #[]) ∧ Dks 64 79 w w' p F S.restart := by
  obtain ⟨fb, fc, rs, set, ops, kv, kl, h, hL, hf, rfl⟩ := h
  have HH := hidden h
  have B0 := h.blk
  have HL := hidden hL
  clear h hL hf
  have c1 := B0.cell 1
  simp only [List.getElem?_cons_succ, List.getElem?_cons_zero] at c1
  have f1 := B0.frozen 1
  have HB := hidden B0
  clear B0
  have hb := built78
  go_enter Tryz.func30, Tryz.ntmps30
  go_wp2_with (first
    | (refine wpList_build_to rfl 62 #[] rfl [] #[.bool false, .int .i64 0, .slice none 0 0] ?_ hb ?_; kernel_rfl)
    | (refine wpList_store_mid rfl 62 (.tmp 8) (.tmp 6) rfl p 3 #[.bool false, .int .i64 0, .slice none 0 0] rfl rfl ((HB.out.set 1 (.bool true)).there 3 3 (by simp)) size78 (by simp [Value.oneCell']) ?_))
  go_end0
  have hS := (HB.out.set 1 (.bool true)).sets [.bool false, .int .i64 0, .slice none 0 0] 3 _ _ (by simp)
  simp only [List.set_cons_succ, List.set_cons_zero, List.take_succ_cons, List.take_zero, List.length_cons, List.length_nil, List.drop_succ_cons, List.drop_nil, List.cons_append, List.nil_append, List.append_nil, Nat.zero_add, Nat.reduceAdd] at hS
  have hC : Chg (fun i => i = p) w ((w.setCell ⟨p, 1, none⟩ (.bool true)).setCells p 3 [.bool false, .int .i64 0, .slice none 0 0]) := (Chg.set ⟨p, 1, none⟩ (.bool true) w).trans (chg_sets (fun i => i = p) p rfl _ 3 _) (fun _ _ h => h)
  refine ⟨rfl, _, ⟨fb, fc, rs, false, 0, .slice none 0 0, [], HH.out.swap ty80 hC hS (World.ownsRow_nil _ _ _ _) (fun n hn => by simp at hn) (by omega) (by simp), HL.out, rfl, rfl⟩, hC.mono (fun i _ hi => .inl hi), FPd_nokeep (fun g hg => by cases hg)⟩

theorem built80 (g n : Nat) : Tryz.prog.built 64 [(0, .slice (some ⟨g, 0, none⟩) n n), (1, .bool true)] = some #[.slice (some ⟨g, 0, none⟩) n n, .bool true, .int .i64 0, .bool false, .int .i64 0, .slice none 0 0] := by kernel_rfl
theorem made82_0 : (madeCells (Value.agg #[.slice none 0 0, .int .i64 0]).cells (0 * 2)).toList = fcells (List.replicate 0 (.slice none 0 0, ⟨[], 0⟩)) := by kernel_rfl
theorem made82_1 : (madeCells (Value.agg #[.slice none 0 0, .int .i64 0]).cells (1 * 2)).toList = fcells (List.replicate 1 (.slice none 0 0, ⟨[], 0⟩)) := by kernel_rfl
theorem made82_2 : (madeCells (Value.agg #[.slice none 0 0, .int .i64 0]).cells (2 * 2)).toList = fcells (List.replicate 2 (.slice none 0 0, ⟨[], 0⟩)) := by kernel_rfl
theorem made82_3 : (madeCells (Value.agg #[.slice none 0 0, .int .i64 0]).cells (3 * 2)).toList = fcells (List.replicate 3 (.slice none 0 0, ⟨[], 0⟩)) := by kernel_rfl
theorem made82_4 : (madeCells (Value.agg #[.slice none 0 0, .int .i64 0]).cells (4 * 2)).toList = fcells (List.replicate 4 (.slice none 0 0, ⟨[], 0⟩)) := by kernel_rfl
theorem made82_5 : (madeCells (Value.agg #[.slice none 0 0, .int .i64 0]).cells (5 * 2)).toList = fcells (List.replicate 5 (.slice none 0 0, ⟨[], 0⟩)) := by kernel_rfl
theorem made82_6 : (madeCells (Value.agg #[.slice none 0 0, .int .i64 0]).cells (6 * 2)).toList = fcells (List.replicate 6 (.slice none 0 0, ⟨[], 0⟩)) := by kernel_rfl
theorem made82_7 : (madeCells (Value.agg #[.slice none 0 0, .int .i64 0]).cells (7 * 2)).toList = fcells (List.replicate 7 (.slice none 0 0, ⟨[], 0⟩)) := by kernel_rfl
theorem made82_8 : (madeCells (Value.agg #[.slice none 0 0, .int .i64 0]).cells (8 * 2)).toList = fcells (List.replicate 8 (.slice none 0 0, ⟨[], 0⟩)) := by kernel_rfl
theorem made82 (n : Nat) (hn : n ≤ 8) : (madeCells (Value.agg #[.slice none 0 0, .int .i64 0]).cells (n * 2)).toList = fcells (List.replicate n (.slice none 0 0, ⟨[], 0⟩)) := by
  have hn2 : n = 0 ∨ n = 1 ∨ n = 2 ∨ n = 3 ∨ n = 4 ∨ n = 5 ∨ n = 6 ∨ n = 7 ∨ n = 8 := by omega
  rcases hn2 with h | h | h | h | h | h | h | h | h
  · subst h; exact made82_0
  · subst h; exact made82_1
  · subst h; exact made82_2
  · subst h; exact made82_3
  · subst h; exact made82_4
  · subst h; exact made82_5
  · subst h; exact made82_6
  · subst h; exact made82_7
  · subst h; exact made82_8
/-- A new disk's memory. -/
theorem DR_fresh {dt ft : TypeId} {w1 w2 : World} {p fb n : Nat} (h1 : Blk w1 fb ft (fcells (List.replicate n (.slice none 0 0, ⟨[], 0⟩)))) (hn : 0 < n) (hn8 : n ≤ 8) (hb : Below w1.heap.size w1 w2)
    (h2 : Blk w2 p dt [.slice (some ⟨fb, 0, none⟩) n n, .bool true, .int .i64 0, .bool false, .int .i64 0, .slice none 0 0]) : Dk dt ft w2 p (fun i => i = p ∨ i = fb) (St.fresh n) := by
  refine ⟨fb, n, List.replicate n (.slice none 0 0, ⟨[], 0⟩), false, 0, .slice none 0 0, [], ⟨by rw [List.length_replicate]; exact h2, ?_, fun i r hr => ?_, fun i j r s g hr hs hg1 hg2 => ?_, World.ownsRow_nil _ _ _ _, fun n hn => by simp at hn, by omega, by simpa using hn8, by simpa using hn, by simp⟩, by simp [St.fresh], rfl, ?_⟩
  · have hB := h1.later hb
    refine ⟨by rw [fcells_length], .inr ⟨fb, n, (fcells (List.replicate n (.slice none 0 0, ⟨[], 0⟩))).toArray, by simp, Nat.zero_le _, hB, by simp, by unfold maxLen; omega, by simp [fcells_length], ?_⟩⟩
    simp only [List.length_replicate]
    rw [List.take_of_length_le (by rw [fcells_length]; simp)]
  · have : r = (.slice none 0 0, ⟨[], 0⟩) := List.eq_of_mem_replicate (List.mem_of_getElem? hr)
    subst this
    exact ⟨World.ownsRow_nil _ _ _ _, fun n hn => by simp at hn, Nat.le_refl _, by simp⟩
  · have : r = (.slice none 0 0, ⟨[], 0⟩) := List.eq_of_mem_replicate (List.mem_of_getElem? hr)
    subst this
    cases hg1
  · funext i
    apply propext
    constructor
    · rintro (h | h)
      · exact .inl h
      · exact .inr (.inl h)
    · rintro (h | h | ⟨k, r, hr, hg⟩ | h)
      · exact .inl h
      · exact .inr h
      · have : r = (.slice none 0 0, ⟨[], 0⟩) := List.eq_of_mem_replicate (List.mem_of_getElem? hr)
        subst this
        cases hg
      · cases h

set_option maxRecDepth 100000 in
theorem newP (n : Int) (w : World) (hn : 1 ≤ n) (hn8 : n ≤ 8) : Calls Tryz.prog 7 #[.int .i64 n] w fun e w' => ∃ p F, e = .returned (.tuple #[.pointer (some ⟨p, 0, none⟩), .int .i64 0]) ∧ Dk 64 79 w' p F (St.fresh n.toNat) ∧ (∀ i, F i → w.heap.size ≤ i) ∧ Below w.heap.size w w' := by
  obtain ⟨k, rfl⟩ : ∃ k : Nat, n = (k : Int) := ⟨n.toNat, by omega⟩
  rw [Int.toNat_natCast]
  have h1 : (1 : Int) ≤ (k : Int) := hn
  have h8 : (k : Int) ≤ 8 := hn8
  go_enter Tryz.func7, Tryz.ntmps7
  go_wp2_with (first
    | (refine wpList_make_any _ rfl (.tmp 10) (.tmp 10) 60 rfl 79 (.agg #[.slice none 0 0, .int .i64 0]) 2 32 Tryz.underlying60 info82 k rfl rfl (by omega) (by omega) ?_; intro w1 hB hz hb; rw [made82 k (by omega)] at hB; have HB := hidden hB; clear hB hz)
    | (refine wpList_build_to rfl 64 #[(0, .tmp 11), (1, .const (.bool true))] rfl [(0, .slice (some ⟨w.heap.size, 0, none⟩) k k), (1, .bool true)] #[.slice (some ⟨w.heap.size, 0, none⟩) k k, .bool true, .int .i64 0, .bool false, .int .i64 0, .slice none 0 0] ?_ (built80 _ _) ?_; kernel_rfl)
    | (refine wpList_box_blk rfl 64 (.tmp 12) rfl [.slice (some ⟨w.heap.size, 0, none⟩) k k, .bool true, .int .i64 0, .bool false, .int .i64 0, .slice none 0 0] rfl ?_; intro w2 B2 bl2 hz2))
  go_ret2
  have hs : w.heap.size ≤ w1.heap.size := hb.size
  refine ⟨w1.heap.size, fun i => i = w1.heap.size ∨ i = w.heap.size, rfl, DR_fresh HB.out (by omega) (by omega) bl2 B2, ?_, hb.trans (bl2.mono hs)⟩
  rintro i (rfl | rfl)
  · exact hs
  · exact Nat.le_refl _
set_option maxRecDepth 100000 in
theorem newP_none (n : Int) (w : World) (hn : n < 1 ∨ 8 < n) : Calls Tryz.prog 7 #[.int .i64 n] w fun e w' => e = .returned (.tuple #[.pointer none, .int .i64 1]) ∧ w' = w := by
  by_cases h1 : n < 1
  · clear hn
    go_enter Tryz.func7, Tryz.ntmps7
    go_wp2_with fail
    go_ret2
    exact ⟨rfl, rfl⟩
  · have h8 : 8 < n := by omega
    have h1' : 1 ≤ n := by omega
    clear hn h1
    go_enter Tryz.func7, Tryz.ntmps7
    go_wp2_with fail
    go_ret2
    exact ⟨rfl, rfl⟩

end Go.Proofs.YtnfjhdedcnbdbaaGreat
