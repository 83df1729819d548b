import Derived.Test.YtgmdpbahcbhfjaaGreatDoorIxB
import Derived.Laws.CopyRow
set_option linter.unusedSimpArgs false
set_option linter.unusedVariables false
set_option maxHeartbeats 40000000
set_option maxRecDepth 100000
/-
  Package index: setOf.
-/
namespace Go.Proofs.YtgmdpbahcbhfjaaGreatDoor
open Go.RowKit

def cLb (l : List L.Lb) : List Value := l.flatMap lbV
theorem cLb_len (l : List L.Lb) : (cLb l).length = l.length * 2 := flat_len l
theorem cLb_cons (x : L.Lb) (l : List L.Lb) : cLb (x :: l) = .string x.n :: .string x.v :: cLb l := rfl
theorem cLb_get : ∀ (l : List L.Lb) (i : Nat) (x : L.Lb), l[i]? = some x → (cLb l)[i * 2]? = some (.string x.n) ∧ (cLb l)[i * 2 + 1]? = some (.string x.v)
  | [], i, x, h => by simp at h
  | y :: t, 0, x, h => by simp at h; subst h; exact ⟨rfl, rfl⟩
  | y :: t, i + 1, x, h => by
    rw [cLb_cons, show (i + 1) * 2 = i * 2 + 1 + 1 by omega]
    simp only [List.getElem?_cons_succ]
    exact cLb_get t i x (by simpa using h)
theorem cLb_one (l : List L.Lb) : ∀ v ∈ cLb l, v.oneCell' = true := by
  intro v hv
  obtain ⟨x, _, hx⟩ := List.mem_flatMap.1 hv
  simp [lbV] at hx
  rcases hx with rfl | rfl <;> rfl
theorem ls_cells {w : World} {a : Addr} {l : List L.Lb} (h : L.Ls w (some a) l) : ∀ j v, (cLb l)[j]? = some v → w.cell? (a.add j) = some v := by
  intro j v hj
  have hjl := (List.getElem?_eq_some_iff.1 hj).1
  rw [cLb_len] at hjl
  obtain ⟨b, off, e, hlt, hc⟩ := h.at' (by intro e; subst e; simp at hjl)
  cases e
  obtain ⟨x, hx⟩ : ∃ x, l[j / 2]? = some x := ⟨l[j / 2]'(by omega), List.getElem?_eq_getElem _⟩
  obtain ⟨g0, g1⟩ := cLb_get l (j / 2) x hx
  obtain ⟨c0, c1⟩ := hc (j / 2) x hx
  rw [Addr.add_lit]
  rcases Nat.mod_two_eq_zero_or_one j with h2 | h2
  · rw [show j = j / 2 * 2 by omega] at hj ⊢
    rw [g0] at hj
    rw [← Option.some.inj hj]
    exact c0
  · have e1 : j = j / 2 * 2 + 1 := by omega
    rw [e1] at hj
    rw [g1] at hj
    rw [e1, ← Option.some.inj hj]
    exact c1
theorem run_copyN {P : Program} (w : World) (dT sT ty elem : TypeId) (s g n m : Nat) (a : Addr) (dCap sCap : Nat) (cur : Array Value) (t : TypeId) (cs : List Value)
    (hu : P.underlying dT = some (.slice elem)) (hs : (P.info? elem).map (·.size) = some s) (hnm : n ≤ m)
    (hg : w.heap[g]? = some (.cells cur t (0, 0))) (hn : cs.length = n * s)
    (hsrc : ∀ j v, cs[j]? = some v → w.cell? (a.add j) = some v) (hfit : cs.length ≤ cur.size) (h1 : ∀ v ∈ cs, v.oneCell' = true) :
    (Builtin.copy_ #[dT, sT] ty #[.slice (some ⟨g, 0, none⟩) m dCap, .slice (some a) n sCap]).run P w =
      .ok (goInt n) (w.setRow g (cs ++ cur.toList.drop cs.length).toArray) := by
  have hl := run_loadCells_list (P := P) w a cs hsrc
  have hst := run_storeCells_at P g 0 t cs 0 cur w hg (by simpa using hfit) h1
  simp only [Nat.zero_add, List.take_zero, List.nil_append] at hst
  have hmin : Nat.min n m = n := Nat.min_eq_left hnm
  cases hq : P.info? elem with
  | none => simp [hq] at hs
  | some i =>
    have hi : i.size = s := by simpa [hq] using hs
    rw [hn] at hl
    simp [Builtin.copy_, run_underlying hu, Builtin.lenOf, Builtin.firstCells, sizeOf, typeInfo, hq, hi, hmin, hl, hst]
theorem size75 : (Tryz.prog.info? 75).map (·.size) = some 2 := by kernel_rfl
theorem size110 : (Tryz.prog.info? 110).map (·.size) = some 16 := by kernel_rfl
def padZ : List Value := (pad 8 []).flatMap lbV
theorem padZ_len : padZ.length = 16 := by rw [padZ, flat_len, pad_len]
theorem info110 : (Tryz.prog.info? 110).map (fun i => i.zero.map (·.cells)) = some (some padZ.toArray) := by kernel_rfl
theorem pad_eq : ∀ {m : Nat} {l : List L.Lb}, l.length ≤ m → pad m l = l ++ pad (m - l.length) []
  | 0, l, h => by rw [List.eq_nil_of_length_eq_zero (by omega : l.length = 0)]; rfl
  | m + 1, [], _ => by simp
  | m + 1, x :: t, h => by
    simp only [pad, List.cons_append, List.length_cons]
    rw [pad_eq (by simpa using h), show m + 1 - (t.length + 1) = m - t.length by omega]
theorem pad_drop : ∀ (m n : Nat), n ≤ m → (pad m []).drop n = pad (m - n) []
  | m, 0, _ => rfl
  | 0, n + 1, h => by omega
  | m + 1, n + 1, h => by
    simp only [pad, List.drop_succ_cons]
    rw [pad_drop m n (by omega), show m + 1 - (n + 1) = m - n by omega]
theorem flat_drop : ∀ (l : List L.Lb) (n : Nat), (l.flatMap lbV).drop (n * 2) = (l.drop n).flatMap lbV
  | [], n => by simp
  | x :: t, 0 => rfl
  | x :: t, n + 1 => by
    rw [List.flatMap_cons, show (n + 1) * 2 = n * 2 + 2 by omega]
    simp only [lbV, List.cons_append, List.nil_append, List.drop_succ_cons]
    exact flat_drop t n
theorem pad_cells {l : List L.Lb} (h : l.length ≤ 8) : cLb l ++ padZ.drop (cLb l).length = (pad 8 l).flatMap lbV := by
  rw [cLb_len, padZ, flat_drop, pad_drop 8 _ h, pad_eq h, List.flatMap_append]
  rfl
/-- 'copy(s[:], l)', of a right set. -/
theorem wpList_copy_lb {ops : Array Oper} {rest : List Oper} {o : Oper} {a : Act} {w : World} {Q : Exit → Act → World → Prop} (hgd : o.guard = none) (d s : Operand)
    (ho : o.op = .call { callee := .builtin .copy, args := #[d, s], argTypes := #[36, 36] }) (g n c : Nat) (ad : Option Addr) (hd : a.eval d = .slice (some ⟨g, 0, none⟩) 8 8) (hs : a.eval s = .slice ad n c)
    (l : List L.Lb) (hl : l.length = n) (h8 : n ≤ 8) (hB : Blk w g 110 padZ) (hL : L.Ls w ad l) (hno : ad = none → l = [] ∧ c = 0)
    (h : ∀ w', Blk w' g 110 ((pad 8 l).flatMap lbV) → Chg (fun i => i = g) w w' → wpList Tryz.prog ops Q rest (a.put o.dst (goInt n)) w') :
    wpList Tryz.prog ops Q (o :: rest) a w := by
  cases ad with
  | none =>
    obtain ⟨h0, hc⟩ := hno rfl
    subst h0 hc
    simp only [List.length_nil] at hl
    subst hl
    refine wpList_plain hgd fun K hK' => ?_
    have hrun := run_copy_nil (P := Tryz.prog) w 36 36 o.type 75 ⟨g, 0, none⟩ 8 8 Tryz.underlying36 (by rw [size75]; rfl)
    unfold Oper.wp
    simp [execOp, ho, resolve, invoke, builtin, hd, hs, hrun, Result.andThen]
    exact hK' _ _ (h w hB (Chg.refl _ _))
  | some x =>
    refine wpList_plain hgd fun K hK' => ?_
    have hrun := run_copyN (P := Tryz.prog) w 36 36 o.type 75 2 g n 8 x 8 c padZ.toArray 110 (cLb l) Tryz.underlying36 size75 h8 hB (by rw [cLb_len, hl]) (ls_cells hL) (by rw [cLb_len, hl, List.size_toArray, padZ_len]; omega) (cLb_one l)
    unfold Oper.wp
    simp [execOp, ho, resolve, invoke, builtin, hd, hs, hrun, Result.andThen]
    refine hK' _ _ (h _ ?_ ⟨rfl, rfl, rfl, by simp [World.setRow], fun k _ hk => setRow_other w g k _ hk⟩)
    have h9 := setRow_heap w g _ ((pad 8 l).flatMap lbV).toArray 110 _ hB
    unfold Blk
    rw [pad_cells (by omega)]
    exact h9
set_option maxRecDepth 100000 in
set_option maxHeartbeats 4000000 in
theorem setOfP (ad : Option Addr) (c : Nat) (s : St) (w : World) (hL : L.Ls w ad s.l) (hno : ad = none → s.l = [] ∧ c = 0) :
    Calls Tryz.prog 51 #[.slice ad s.l.length c] w fun e w' => e = .returned s.val ∧ Below w.heap.size w w' := by
  obtain ⟨n, hn⟩ : ∃ n, s.l.length = n := ⟨_, rfl⟩
  have h8 : n ≤ 8 := by rw [← hn]; exact s.len
  rw [hn]
  have HN := hidden hn
  have HL := hidden hL
  have HNO := hidden hno
  clear hn hL hno
  go_enter Tryz.func51, Tryz.ntmps51
  go_wp2_with (first
    | (refine wpList_alloc_blk rfl 110 rfl 2 rfl padZ info110 ?_; intro w1 B1 bl1 hz1; have HB1 := hidden B1; have BL1 := hidden bl1; have HZ := hidden hz1; clear B1 bl1)
    | (refine wpList_alloc_blk rfl 110 rfl 3 rfl padZ info110 ?_; intro w2 B2 bl2 hz2; have HB2 : Hid (Blk w2 (w.heap.size + 1) 110 padZ) := hidden (HZ.out ▸ B2); have BL2 := hidden bl2; clear B2 bl2)
    | (refine wpList_copy_lb rfl (.tmp 4) (.tmp 5) rfl (w.heap.size + 1) n c ad rfl rfl s.l HN.out h8 HB2.out (HL.out.later (BL1.out.trans (BL2.out.mono BL1.out.size))) HNO.out ?_; intro w3 B3 c3; have HB3 := hidden B3; have HC3 := hidden c3; clear B3 c3)
    | (refine wpList_load_blk rfl 110 (.tmp 3) rfl (w.heap.size + 1) HB3.out rfl Tryz.underlying110 rfl (by rw [size110, flat_len, pad_len]) ?_)
    | (refine wpList_store_blk rfl 110 (.tmp 2) (.tmp 7) rfl rfl w.heap.size (HC3.out.blk (HB1.out.later BL2.out) (by omega)) rfl rfl (by rw [flat_len, pad_len, padZ_len]) (by rw [size110, flat_len, pad_len]) (cLb_one _) ?_))
  have hB5 : Blk (w3.setCells w.heap.size 0 ((pad 8 s.l).flatMap lbV)) w.heap.size 110 ((pad 8 s.l).flatMap lbV) := by
    have h9 := Blk.sets ((pad 8 s.l).flatMap lbV) 0 w3 padZ (HC3.out.blk (HB1.out.later BL2.out) (by omega)) (by rw [flat_len, pad_len, padZ_len]; omega)
    rw [List.take_zero, List.nil_append, Nat.zero_add, List.drop_of_length_le (by rw [flat_len, pad_len, padZ_len]; omega), List.append_nil] at h9
    exact h9
  refine bodyPost_ret (results_cell_row rfl _ _ w.heap.size 110 _ (0, 0) _ rfl hB5 Tryz.underlying110 rfl (by rw [size110, List.size_toArray, flat_len, pad_len])) rfl ?_
  refine ⟨rfl, ?_⟩
  have b2 := BL1.out.trans (BL2.out.mono BL1.out.size)
  exact (b2.trans (HC3.out.below b2.size (fun i hi => by rw [show i = w.heap.size + 1 from hi]; omega))).trans (below_sets (Nat.le_refl _) _ _ _)
end Go.Proofs.YtgmdpbahcbhfjaaGreatDoor
