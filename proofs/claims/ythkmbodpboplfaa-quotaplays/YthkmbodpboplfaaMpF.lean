/-
  Maps keyed by texts, as functions. Nothing of the program.
-/
import Derived.Test.YthkmbodpboplfaaWld
import Derived.Maps.OwnSet
namespace Go.Proofs.Ythkmbodpboplfaa
open Go.RowKit Go.MapKept
open Go.ChangeMaps (setBlock heap_setBlock_same heap_setBlock_other)
set_option linter.unusedVariables false

/-- Block b is a map keyed by texts that reads as f. -/
def Mp (w : World) (b : Nat) (f : ByteArray → Option Value) : Prop :=
  ∃ es clock, w.heap[b]? = some (.map es clock) ∧ (∀ x ∈ es.toList, ∃ s, x.key = .string s) ∧ es.toList.Pairwise (fun x y => x.key ≠ y.key) ∧
    (∀ x ∈ es.toList, ∀ s, x.key = .string s → f s = some x.val) ∧ ∀ s, (∀ x ∈ es.toList, x.key ≠ .string s) → f s = none
/-- A map with one text told anew. -/
def upd (f : ByteArray → Option Value) (s : ByteArray) (v : Option Value) : ByteArray → Option Value := fun t => if t = s then v else f t
theorem upd_same (f : ByteArray → Option Value) (s : ByteArray) (v : Option Value) : upd f s v s = v := by simp [upd]
theorem upd_off (f : ByteArray → Option Value) {s t : ByteArray} (v : Option Value) (h : t ≠ s) : upd f s v t = f t := by simp [upd, h]

theorem Mp.lt {w : World} {b : Nat} {f : ByteArray → Option Value} (h : Mp w b f) : b < w.heap.size := by
  obtain ⟨es, clock, hb, _⟩ := h
  exact (Array.getElem?_eq_some_iff.1 hb).1
theorem Mp.of_block {w w' : World} {b : Nat} {f : ByteArray → Option Value} (h : Mp w b f) (e : w'.heap[b]? = w.heap[b]?) : Mp w' b f := by
  obtain ⟨es, clock, hb, r⟩ := h
  exact ⟨es, clock, e.trans hb, r⟩
theorem Mp.chg {F : Nat → Prop} {w w' : World} {b : Nat} {f : ByteArray → Option Value} (h : Mp w b f) (hc : Chg F w w') (hF : ¬ F b) : Mp w' b f := h.of_block (hc.block b h.lt hF)
theorem Mp.later {w w' : World} {b : Nat} {f : ByteArray → Option Value} (h : Mp w b f) (hc : Below w.heap.size w w') : Mp w' b f := h.of_block (hc.block b h.lt)
theorem Mp.made (w : World) : Mp (w.alloc (.map #[] 0)) w.heap.size (fun _ => none) :=
  ⟨#[], 0, (MapKept.heap_alloc w _).1, by simp, by simp, by simp, by simp⟩
theorem Mp.tg {w : World} {b : Nat} {f : ByteArray → Option Value} (h : Mp w b f) (t : TypeId) : ¬ Tg w b t := by
  obtain ⟨es, clock, hb, r⟩ := h
  rintro ⟨cs, fr, k⟩
  rw [hb] at k
  cases k

variable {P : Program} {w : World} {b : Nat} {f : ByteArray → Option Value} {t e kt : TypeId}

theorem Mp.find (h : Mp w b f) (s : ByteArray) : ∃ es clock, w.heap[b]? = some (.map es clock) ∧ (∀ x ∈ es.toList, ∃ s, x.key = .string s) ∧ es.toList.Pairwise (fun x y => x.key ≠ y.key) ∧
    (∀ x ∈ es.toList, ∀ s, x.key = .string s → f s = some x.val) ∧ (∀ s, (∀ x ∈ es.toList, x.key ≠ .string s) → f s = none) ∧
    ((Instr.findNow .string (.string s) es.toList 0 = some none ∧ (∀ x ∈ es.toList, x.key ≠ .string s) ∧ f s = none) ∨ ∃ j e0, Instr.findNow .string (.string s) es.toList 0 = some (some (j, e0.val)) ∧ es.toList[j]? = some e0 ∧ e0.key = .string s ∧ f s = some e0.val) := by
  obtain ⟨es, clock, hb, hk, hp, hv, hn⟩ := h
  refine ⟨es, clock, hb, hk, hp, hv, hn, ?_⟩
  have hks : ∀ x ∈ es.toList, IsKey .string x.key := fun x hx => by
    obtain ⟨s, hs⟩ := hk x hx
    rw [hs]
    trivial
  rcases findNow_spec (d := .string) (k := .string s) trivial es.toList 0 hks with ⟨h1, h2⟩ | ⟨j, e0, h1, h2, h3⟩
  · exact .inl ⟨h1, h2, hn s h2⟩
  · exact .inr ⟨j, e0, by simpa using h1, h2, h3, hv e0 (List.mem_of_getElem? h2) s h3⟩

/-- 'm[k]'. -/
theorem Mp.look (h : Mp w b f) (ht : P.underlying t = some (.map kt e)) (hk : P.underlying kt = some .string) {z : Value} (hz : (zeroValue e).run P w = .ok z w) (s : ByteArray) :
    (Instr.lookup t (.map (some b)) (.string s) false).run P w = .ok ((f s).getD z) w := by
  obtain ⟨es, clock, hb, _, _, _, _, ⟨h1, _, hf⟩ | ⟨j, e0, h1, _, _, hf⟩⟩ := h.find s
  · simp [Instr.lookup, run_underlying ht, MapKept.run_getObj_map hb, run_checkKey (w := w) (k := .string s) hk trivial _ 9999, run_findKey (w := w) hk h1, hz, Result.andThen, hf]
  · simp [Instr.lookup, run_underlying ht, MapKept.run_getObj_map hb, run_checkKey (w := w) (k := .string s) hk trivial _ 9999, run_findKey (w := w) hk h1, Result.andThen, hf]

theorem chg_setBlock {o o' : Obj} (hb : w.heap[b]? = some o) : Chg (fun i => i = b) w (setBlock w b o') :=
  ⟨rfl, rfl, rfl, by simp [setBlock], fun k _ hk => by simp [setBlock, Ne.symm hk]⟩

/-- 'm[k] = v'. -/
theorem Mp.store (h : Mp w b f) (ht : P.underlying t = some (.map kt e)) (hk : P.underlying kt = some .string) (s : ByteArray) (v : Value) :
    ∃ w', (Instr.mapUpdate t (.map (some b)) (.string s) v).run P w = .ok () w' ∧ Mp w' b (upd f s (some v)) ∧ Chg (fun i => i = b) w w' ∧ w'.heap.size = w.heap.size := by
  obtain ⟨es, clock, hb, hks, hp, hv, hn, ⟨h1, h2, hf⟩ | ⟨j, e0, h1, h2, h3, hf⟩⟩ := h.find s
  · refine ⟨setBlock w b (.map (es.push ⟨.string s, v, clock⟩) (clock + 1)), ?_, ⟨_, _, heap_setBlock_same hb _, ?_, ?_, ?_, ?_⟩, chg_setBlock hb, by simp [setBlock]⟩
    · simp [Instr.mapUpdate, run_underlying ht, MapKept.run_getObj_map hb, run_checkKey (w := w) (k := .string s) hk trivial _ 9999, run_findKey (w := w) hk h1, MapKept.run_setObj_map _ hb, Result.andThen, setBlock]
    · intro x hx
      simp only [Array.toList_push, List.mem_append, List.mem_singleton] at hx
      rcases hx with hx | rfl
      · exact hks x hx
      · exact ⟨s, rfl⟩
    · rw [Array.toList_push, List.pairwise_append]
      refine ⟨hp, by simp, fun x hx y hy => ?_⟩
      rw [List.mem_singleton] at hy
      subst hy
      exact h2 x hx
    · intro x hx u hu
      simp only [Array.toList_push, List.mem_append, List.mem_singleton] at hx
      rcases hx with hx | rfl
      · rw [upd_off _ _ (fun e => h2 x hx (by rw [hu, e]))]
        exact hv x hx u hu
      · simp only [Value.string.injEq] at hu
        rw [← hu, upd_same]
    · intro u hu
      have hus : u ≠ s := fun e => hu ⟨.string s, v, clock⟩ (by simp) (by simp [e])
      rw [upd_off _ _ hus]
      exact hn u (fun x hx => hu x (by simp [hx]))
  · have hj : es[j]? = some e0 := by simpa using h2
    have hjl : j < es.toList.length := (List.getElem?_eq_some_iff.1 h2).1
    have hlist : (es.modify j (fun e' => { e' with key := .string s, val := v })).toList = es.toList.set j { e0 with key := .string s, val := v } := by rw [Array.toList_modify, ChangeMaps.modify_eq_set _ _ _ _ h2]
    have oth : ∀ i x, es.toList[i]? = some x → i ≠ j → x.key ≠ .string s := by
      intro i x hi hne e1
      have hil : i < es.toList.length := (List.getElem?_eq_some_iff.1 hi).1
      have hx : es.toList[i] = x := (List.getElem?_eq_some_iff.1 hi).2
      have h0 : es.toList[j] = e0 := (List.getElem?_eq_some_iff.1 h2).2
      rcases Nat.lt_or_gt_of_ne hne with hl | hl
      · exact List.pairwise_iff_getElem.1 hp i j hil hjl hl (by rw [hx, h0, e1, h3])
      · exact List.pairwise_iff_getElem.1 hp j i hjl hil hl (by rw [hx, h0, e1, h3])
    have who : ∀ x ∈ es.toList.set j { e0 with key := .string s, val := v }, x = { e0 with key := .string s, val := v } ∨ (x ∈ es.toList ∧ x.key ≠ .string s) := by
      intro x hx
      obtain ⟨i, hi, ex⟩ := List.getElem_of_mem hx
      rw [List.getElem_set] at ex
      split at ex
      · exact Or.inl ex.symm
      · rename_i hne
        have hi' : i < es.toList.length := by simpa using hi
        exact Or.inr ⟨ex ▸ List.getElem_mem hi', oth i x (by rw [List.getElem?_eq_getElem hi', ex]) (fun e1 => hne e1.symm)⟩
    refine ⟨setBlock w b (.map (es.modify j (fun e' => { e' with key := .string s, val := v })) clock), ?_, ⟨_, _, heap_setBlock_same hb _, ?_, ?_, ?_, ?_⟩, chg_setBlock hb, by simp [setBlock]⟩
    · simp [Instr.mapUpdate, run_underlying ht, MapKept.run_getObj_map hb, run_checkKey (w := w) (k := .string s) hk trivial _ 9999, run_findKey (w := w) hk h1, hj, h3, run_keyThatStays (P := P) (w := w) (d := .string) (k := .string s) trivial, MapKept.run_setObj_map _ hb, Result.andThen, setBlock]
    · intro x hx
      rw [hlist] at hx
      rcases who x hx with rfl | ⟨hx', _⟩
      · exact ⟨s, rfl⟩
      · exact hks x hx'
    · rw [hlist]
      have hkeys : (es.toList.set j { e0 with key := .string s, val := v }).map (·.key) = es.toList.map (·.key) := by
        rw [List.map_set]
        show (es.toList.map (·.key)).set j (.string s) = es.toList.map (·.key)
        rw [← h3]
        apply List.ext_getElem?
        intro i
        rw [List.getElem?_set]
        split
        · rename_i e1
          subst e1
          simp [h2]
          simpa using hjl
        · rfl
      have := (List.pairwise_map (f := MapEntry.key) (R := fun a b : Value => a ≠ b) (l := es.toList.set j { e0 with key := .string s, val := v }))
      refine this.1 ?_
      rw [hkeys, List.pairwise_map]
      exact hp
    · intro x hx u hu
      rw [hlist] at hx
      rcases who x hx with rfl | ⟨hx', hne⟩
      · simp only [Value.string.injEq] at hu
        rw [← hu, upd_same]
      · rw [upd_off _ _ (fun e => hne (by rw [hu, e]))]
        exact hv x hx' u hu
    · intro u hu
      have hmem : ({ e0 with key := .string s, val := v } : MapEntry) ∈ es.toList.set j { e0 with key := .string s, val := v } := List.mem_iff_getElem.2 ⟨j, by simpa using hjl, by simp⟩
      have hus : u ≠ s := fun e => hu _ (by rw [hlist]; exact hmem) (by simp [e])
      rw [upd_off _ _ hus]
      refine hn u (fun x hx => ?_)
      obtain ⟨i, hi, ex⟩ := List.getElem_of_mem hx
      by_cases hij : i = j
      · subst hij
        have h0 : es.toList[i] = e0 := (List.getElem?_eq_some_iff.1 h2).2
        rw [← ex, h0, h3]
        intro e1
        simp only [Value.string.injEq] at e1
        exact hus e1.symm
      · exact hu x (by
          rw [hlist]
          exact List.mem_iff_getElem.2 ⟨i, by simpa using hi, by rw [List.getElem_set_ne (fun e => hij e.symm), ex]⟩)

/-- 'delete(m, k)'. -/
theorem Mp.drop {ty : TypeId} (h : Mp w b f) (ht : P.underlying t = some (.map kt e)) (hk : P.underlying kt = some .string) (s : ByteArray) :
    ∃ w', (Builtin.delete_ #[t, kt] ty #[.map (some b), .string s]).run P w = .ok (.tuple #[]) w' ∧ Mp w' b (upd f s none) ∧ Chg (fun i => i = b) w w' ∧ w'.heap.size = w.heap.size := by
  obtain ⟨es, clock, hb, hks, hp, hv, hn, ⟨h1, h2, hf⟩ | ⟨j, e0, h1, h2, h3, hf⟩⟩ := h.find s
  · refine ⟨setBlock w b (.map es clock), ?_, ⟨_, _, heap_setBlock_same hb _, hks, hp, ?_, ?_⟩, chg_setBlock hb, by simp [setBlock]⟩
    · simp [Builtin.delete_, run_underlying ht, MapKept.run_getObj_map hb, run_checkKey (w := w) (k := .string s) hk trivial _ 9999, run_findKey (w := w) hk h1, MapKept.run_setObj_map _ hb, Result.andThen, setBlock]
    · intro x hx u hu
      rw [upd_off _ _ (fun e => h2 x hx (by rw [hu, e]))]
      exact hv x hx u hu
    · intro u hu
      by_cases hus : u = s
      · rw [hus, upd_same]
      · rw [upd_off _ _ hus]
        exact hn u hu
  · have hjl : j < es.toList.length := (List.getElem?_eq_some_iff.1 h2).1
    have hjs : j < es.size := by simpa using hjl
    have hsub : (es.eraseIdxIfInBounds j).toList = es.toList.eraseIdx j := by
      unfold Array.eraseIdxIfInBounds
      rw [dif_pos hjs]
      simp
    have h0 : es.toList[j] = e0 := (List.getElem?_eq_some_iff.1 h2).2
    have oth : ∀ i (hi : i < es.toList.length), i ≠ j → es.toList[i].key ≠ .string s := by
      intro i hil hne e1
      rcases Nat.lt_or_gt_of_ne hne with hl | hl
      · exact List.pairwise_iff_getElem.1 hp i j hil hjl hl (by rw [h0, e1, h3])
      · exact List.pairwise_iff_getElem.1 hp j i hjl hil hl (by rw [h0, e1, h3])
    refine ⟨setBlock w b (.map (es.eraseIdxIfInBounds j) clock), ?_, ⟨_, _, heap_setBlock_same hb _, ?_, ?_, ?_, ?_⟩, chg_setBlock hb, by simp [setBlock]⟩
    · simp [Builtin.delete_, run_underlying ht, MapKept.run_getObj_map hb, run_checkKey (w := w) (k := .string s) hk trivial _ 9999, run_findKey (w := w) hk h1, MapKept.run_setObj_map _ hb, Result.andThen, setBlock]
    · intro x hx
      rw [hsub] at hx
      exact hks x ((List.eraseIdx_sublist _ _).subset hx)
    · rw [hsub]
      exact hp.sublist (List.eraseIdx_sublist _ _)
    · intro x hx u hu
      rw [hsub] at hx
      obtain ⟨i, hne, hi⟩ := List.mem_eraseIdx_iff_getElem?.1 hx
      have hil : i < es.toList.length := (List.getElem?_eq_some_iff.1 hi).1
      have hx2 : es.toList[i] = x := (List.getElem?_eq_some_iff.1 hi).2
      have := oth i hil hne
      rw [hx2] at this
      rw [upd_off _ _ (fun e => this (by rw [hu, e]))]
      exact hv x ((List.eraseIdx_sublist _ _).subset hx) u hu
    · intro u hu
      by_cases hus : u = s
      · rw [hus, upd_same]
      · rw [upd_off _ _ hus]
        refine hn u (fun x hx => ?_)
        obtain ⟨i, hi, ex⟩ := List.getElem_of_mem hx
        by_cases hij : i = j
        · subst hij
          rw [← ex, h0, h3]
          intro e1
          simp only [Value.string.injEq] at e1
          exact hus e1.symm
        · exact hu x (by
            rw [hsub]
            exact List.mem_eraseIdx_iff_getElem?.2 ⟨i, hij, by rw [List.getElem?_eq_getElem hi, ex]⟩)

/-- At the operation. -/
theorem wp_store_mp {o : Oper} {a : Act} {K : Act → World → Prop} {Q : Exit → Act → World → Prop} (m x v : Operand) (t : TypeId) (hop : o.op = Op.mapUpdate t m x v) (ht : P.underlying t = some (.map kt e)) (hk : P.underlying kt = some .string)
    (hm : a.eval m = .map (some b)) (h : Mp w b f) (s : ByteArray) (val : Value) (hx : a.eval x = .string s) (hv : a.eval v = val)
    (hK : ∀ w', Mp w' b (upd f s (some val)) → Chg (fun i => i = b) w w' → w'.heap.size = w.heap.size → K (a.put o.dst undef) w') : o.wp P a w K Q := by
  obtain ⟨w', hrun, r1, r2, r3⟩ := h.store (P := P) (t := t) ht hk s val
  unfold Oper.wp
  simp [execOp, hop, hm, hx, hv, hrun, Result.andThen]
  exact hK w' r1 r2 r3
theorem wpList_store_mp {ops : Array Oper} {rest : List Oper} {o : Oper} {a : Act} {Q : Exit → Act → World → Prop} (hg : o.guard = none) (m x v : Operand) (t : TypeId) (hop : o.op = Op.mapUpdate t m x v) (ht : P.underlying t = some (.map kt e)) (hk : P.underlying kt = some .string)
    (hm : a.eval m = .map (some b)) (h : Mp w b f) (s : ByteArray) (val : Value) (hx : a.eval x = .string s) (hv : a.eval v = val)
    (hK : ∀ w', Mp w' b (upd f s (some val)) → Chg (fun i => i = b) w w' → w'.heap.size = w.heap.size → wpList P ops Q rest (a.put o.dst undef) w') : wpList P ops Q (o :: rest) a w :=
  wpList_plain hg fun _ hK' => wp_store_mp m x v t hop ht hk hm h s val hx hv fun w' r1 r2 r3 => hK' _ _ (hK w' r1 r2 r3)
theorem step_store_mp {ops : Array Oper} {o : Oper} {a : Act} {K : Act → World → Prop} {Q : Exit → Act → World → Prop} {E : Prop} (hg : o.guard = none) (m x v : Operand) (t : TypeId) (hop : o.op = Op.mapUpdate t m x v) (ht : P.underlying t = some (.map kt e)) (hk : P.underlying kt = some .string)
    (hm : a.eval m = .map (some b)) (h : Mp w b f) (s : ByteArray) (val : Value) (hx : a.eval x = .string s) (hv : a.eval v = val)
    (hK : ∀ w', Mp w' b (upd f s (some val)) → Chg (fun i => i = b) w w' → w'.heap.size = w.heap.size → K (a.put o.dst undef) w') :
    if Region.wanted o (yielded ops a.tmps) = true then Oper.wp P o a w K Q else E := by
  have hw : Region.wanted o (yielded ops a.tmps) = true := by simp [Region.wanted, hg]
  rw [if_pos hw]
  exact wp_store_mp m x v t hop ht hk hm h s val hx hv hK
theorem wpList_drop_mp {ops : Array Oper} {rest : List Oper} {o : Oper} {a : Act} {Q : Exit → Act → World → Prop} (hg : o.guard = none) (m x : Operand) (t : TypeId) (hop : o.op = .call { callee := .builtin .delete, args := #[m, x], argTypes := #[t, kt] }) (ht : P.underlying t = some (.map kt e)) (hk : P.underlying kt = some .string)
    (hm : a.eval m = .map (some b)) (h : Mp w b f) (s : ByteArray) (hx : a.eval x = .string s)
    (hK : ∀ w', Mp w' b (upd f s none) → Chg (fun i => i = b) w w' → w'.heap.size = w.heap.size → wpList P ops Q rest (a.put o.dst (.tuple #[])) w') : wpList P ops Q (o :: rest) a w := by
  refine wpList_plain hg fun K' hK' => ?_
  obtain ⟨w', hrun, r1, r2, r3⟩ := h.drop (P := P) (t := t) (ty := o.type) ht hk s
  unfold Oper.wp
  simp [execOp, hop, resolve, invoke, builtin, hm, hx, hrun, Result.andThen]
  exact hK' _ _ (hK w' r1 r2 r3)

end Go.Proofs.Ythkmbodpboplfaa
