import Derived.Test.YtgmdpbahcbhfjaaGreatDoorRow
import Derived.Deep.MidRow
set_option linter.unusedSimpArgs false
set_option linter.unusedVariables false
set_option maxHeartbeats 40000000
set_option maxRecDepth 100000
/-
  Blocks that are known whole: array variables. Nothing of the program.
-/
namespace Go.Proofs.YtgmdpbahcbhfjaaGreatDoor.J
open Go.RowKit

/-- A block of cells that may be written. -/
def Blk (w : World) (b : Nat) (ty : TypeId) (l : List Value) : Prop := w.heap[b]? = some (.cells l.toArray ty (0, 0))

theorem Blk.lt {w : World} {b : Nat} {ty : TypeId} {l : List Value} (h : Blk w b ty l) : b < w.heap.size := (Array.getElem?_eq_some_iff.1 h).1
theorem Blk.cell {w : World} {b : Nat} {ty : TypeId} {l : List Value} (h : Blk w b ty l) (i : Nat) : w.cell? ⟨b, i, none⟩ = l[i]? := by
  rw [cell_of_row w b i _ ty (0, 0) h]; simp
theorem Blk.frozen {w : World} {b : Nat} {ty : TypeId} {l : List Value} (h : Blk w b ty l) (i : Nat) : w.frozen? ⟨b, i, none⟩ = false := frozen_of_row w b i _ ty h
theorem Blk.set {w : World} {b : Nat} {ty : TypeId} {l : List Value} (h : Blk w b ty l) (i : Nat) (v : Value) : Blk (w.setCell ⟨b, i, none⟩ v) b ty (l.set i v) := by
  unfold Blk at *
  simp [World.setCell, Array.getElem?_modify, h]
theorem Blk.setOff {w : World} {b : Nat} {ty : TypeId} {l : List Value} (h : Blk w b ty l) (a : Addr) (v : Value) (hne : b ≠ a.block) : Blk (w.setCell a v) b ty l := by
  unfold Blk at *
  rw [heap_setCell_other w a b v hne]; exact h
theorem Blk.alloc {w : World} {b : Nat} {ty : TypeId} {l : List Value} (h : Blk w b ty l) (o : Obj) : Blk (w.alloc o) b ty l := by
  have hl := h.lt
  unfold Blk at *
  rw [Below.heap_alloc _ _ _ hl]; exact h
theorem Blk.new (w : World) (ty : TypeId) (l : List Value) : Blk (w.alloc (.cells l.toArray ty)) w.heap.size ty l := by
  unfold Blk
  rw [heap_alloc_new w]
theorem Blk.drew {w : World} {b : Nat} {ty : TypeId} {l : List Value} (h : Blk w b ty l) : Blk w.drew b ty l := h
theorem Blk.drewN {w : World} {b : Nat} {ty : TypeId} {l : List Value} (h : Blk w b ty l) (n : Nat) : Blk (w.drewN n) b ty l := by
  exact h
theorem Blk.below {w w' : World} {b B : Nat} {ty : TypeId} {l : List Value} (h : Blk w b ty l) (hb : Below B w w') (hlt : b < B) : Blk w' b ty l := by
  unfold Blk at *
  rw [hb.block b hlt]; exact h
theorem Blk.later {w w' : World} {b : Nat} {ty : TypeId} {l : List Value} (h : Blk w b ty l) (hb : Below w.heap.size w w') : Blk w' b ty l := h.below hb h.lt
theorem Blk.all {w : World} {b : Nat} {ty : TypeId} {l : List Value} (h : Blk w b ty l) : w.rangeAt b 0 l := by
  intro j v hv
  rw [h.cell]
  simpa using hv
theorem Blk.there {w : World} {b : Nat} {ty : TypeId} {l : List Value} (h : Blk w b ty l) (o n : Nat) (hn : o + n ≤ l.length) : w.there b o n := by
  intro j hj
  rw [h.cell, h.frozen]
  simp
  omega
/-- What many stores leave. -/
theorem Blk.sets {b : Nat} {ty : TypeId} : ∀ (vs : List Value) (o : Nat) (w : World) (l : List Value), Blk w b ty l → o + vs.length ≤ l.length → Blk (w.setCells b o vs) b ty (l.take o ++ vs ++ l.drop (o + vs.length))
  | [], o, w, l, h, hn => by simpa [World.setCells] using h
  | v :: r, o, w, l, h, hn => by
    simp only [List.length_cons] at hn
    rw [World.setCells]
    have := Blk.sets r (o + 1) _ _ (h.set o v) (by simp; omega)
    have e : (l.set o v).take (o + 1) ++ r ++ (l.set o v).drop (o + 1 + r.length) = l.take o ++ (v :: r) ++ l.drop (o + (v :: r).length) := by
      rw [List.drop_set_of_lt (by omega), List.take_set, List.take_add_one, List.getElem?_eq_getElem (by omega : o < l.length)]
      rw [List.set_append, if_neg (by simp; omega)]
      simp
      rw [show o - min o l.length = 0 by omega]
      simp [Nat.add_comm, Nat.add_left_comm]
    rw [e] at this
    exact this
theorem size_setCells (b : Nat) : ∀ (vs : List Value) (o : Nat) (w : World), (w.setCells b o vs).heap.size = w.heap.size
  | [], o, w => rfl
  | v :: r, o, w => by
    rw [World.setCells, size_setCells b r]
    simp [World.setCell]
theorem below_sets {B b : Nat} (hb : B ≤ b) : ∀ (vs : List Value) (o : Nat) (w : World), Below B w (w.setCells b o vs)
  | [], o, w => Below.refl _ _
  | v :: r, o, w => by
    rw [World.setCells]
    exact ((Below.refl B w).setCell hb v).trans (below_sets hb r (o + 1) _)
theorem below_drewN {B : Nat} {a w : World} (h : Below B a w) (n : Nat) : Below B a (w.drewN n) :=
  h.trans ⟨rfl, rfl, rfl, Nat.le_refl _, fun _ _ => rfl⟩

theorem setCells_new (w : World) (t : TypeId) : ∀ (vs : List Value) (o : Nat) (C : Array Value), o + vs.length ≤ C.size →
    (w.alloc (.cells C t)).setCells w.heap.size o vs = w.alloc (.cells (C.toList.take o ++ (vs ++ C.toList.drop (o + vs.length))).toArray t)
  | [], o, C, h => by simp [World.setCells]
  | v :: r, o, C, h => by
    simp only [List.length_cons] at h
    rw [World.setCells, World.setCell_alloc_new, setCells_new w t r (o + 1) (C.setIfInBounds o v) (by simp; omega)]
    congr 2
    apply Array.toList_inj.1
    have e1 : (C.setIfInBounds o v).toList = C.toList.set o v := Array.toList_setIfInBounds
    simp only [e1, List.length_cons]
    apply List.ext_getElem?
    intro j
    have hl : C.toList.length = C.size := Array.length_toList
    by_cases h1 : j < o
    · simp [List.getElem?_append, h1, show j < o + 1 by omega, show ¬ o = j by omega, show o ≤ C.size by omega, show o + 1 ≤ C.size by omega]
    · by_cases h2 : j = o
      · subst h2
        simp [List.getElem?_append, show min j C.size = j by omega, show min (j + 1) C.size = j + 1 by omega]
      · have e3 : j - o = (j - (o + 1)) + 1 := by omega
        simp [List.getElem?_append, List.getElem?_set, List.getElem?_drop, show ¬ j < o by omega, show ¬ j < o + 1 by omega, show min o C.size = o by omega, show min (o + 1) C.size = o + 1 by omega, e3, show o + 1 + r.length = o + (r.length + 1) by omega]
        split
        · rfl
        · rw [if_neg (by omega)]

theorem wpList_alloc_store {P : Program} {w : World} {ops : Array Oper} {rest : List Oper} {o1 o2 : Oper} {a : Act} {Q : Exit → Act → World → Prop} (g1 : o1.guard = none) (g2 : o2.guard = none) (ty : TypeId) (d : Tmp) (y : Operand)
    (h1 : o1.op = .alloc ty) (hd1 : o1.dst = some d) (h2 : o2.op = .store ty (.tmp d) y) (hd2 : o2.dst = none) (i : TypeInfo) (z : Value) (hi : P.info? ty = some i) (hz : i.zero = some z) (cells : Array Value)
    (hzs : z.cells.size = cells.size) (hsz : i.size = cells.size) (hone : cells.all (·.oneCell') = true) (hdl : d < a.tmps.size)
    (hy : (a.put (some d) (.pointer (some ⟨w.heap.size, 0, none⟩))).eval y = .agg cells)
    (h : wpList P ops Q rest (a.put (some d) (.pointer (some ⟨w.heap.size, 0, none⟩))) (w.alloc (.cells cells ty))) : wpList P ops Q (o1 :: o2 :: rest) a w := by
  have hr : (Instr.alloc ty true (.tuple #[])).run P w = .ok (.pointer (some ⟨w.heap.size, 0, none⟩)) (w.alloc (.cells z.cells ty)) := by
    simp [Instr.alloc, zeroValue, typeInfo, hi, hz, newVar, newRow]
  refine wpList_plain g1 fun K hK => ?_
  unfold Oper.wp
  simp only [execOp, h1, Sem.run_bind, hr, Result.andThen_ok, Sem.run_pure, Oper.upon, hd1]
  refine hK _ _ ?_
  refine wpList_store_mid g2 ty (.tmp d) y h2 w.heap.size 0 cells ?_ hy ?_ ?_ hone ?_
  · show ((a.put (some d) _).tmps.getD d undef) = _
    have : (a.put (some d) (.pointer (some ⟨w.heap.size, 0, none⟩))).tmps = a.tmps.setIfInBounds d (.pointer (some ⟨w.heap.size, 0, none⟩)) := rfl
    rw [this, Array.getD_eq_getD_getElem?, Array.getElem?_setIfInBounds]
    simp [hdl]
  · intro j hj
    rw [World.cell?_alloc_mark]
    exact ⟨by simp; omega, by simp⟩
  · simp [hi, hsz]
  · rw [hd2, setCells_new w ty cells.toList 0 z.cells (by simp; omega)]
    have e : (z.cells.toList.take 0 ++ (cells.toList ++ z.cells.toList.drop (0 + cells.toList.length))).toArray = cells := by
      simp [List.drop_eq_nil_of_le, hzs]
    rw [e]
    exact h


/-- A variable that is made and filled at once. -/
theorem wpList_new_var {P : Program} {w : World} {ops : Array Oper} {rest : List Oper} {o1 o2 : Oper} {a : Act} {Q : Exit → Act → World → Prop} (g1 : o1.guard = none) (g2 : o2.guard = none) (ty : TypeId) (d : Tmp) (y : Operand)
    (h1 : o1.op = .alloc ty) (hd1 : o1.dst = some d) (h2 : o2.op = .store ty (.tmp d) y) (hd2 : o2.dst = none) (n : Nat) (hi : (P.info? ty).map (fun i => (i.zero.map (·.cells.size), i.size)) = some (some n, n)) (l : List Value)
    (hl : l.length = n) (hone : ∀ v ∈ l, v.oneCell' = true) (hdl : d < a.tmps.size)
    (hy : (a.put (some d) (.pointer (some ⟨w.heap.size, 0, none⟩))).eval y = .agg l.toArray)
    (h : ∀ w2, Blk w2 w.heap.size ty l → Below w.heap.size w w2 → w2.heap.size = w.heap.size + 1 → wpList P ops Q rest (a.put (some d) (.pointer (some ⟨w.heap.size, 0, none⟩))) w2) : wpList P ops Q (o1 :: o2 :: rest) a w := by
  cases hq : P.info? ty with
  | none => simp [hq] at hi
  | some i =>
    rw [hq] at hi
    simp only [Option.map_some, Option.some.injEq, Prod.mk.injEq] at hi
    obtain ⟨hz, hs⟩ := hi
    cases hzz : i.zero with
    | none => rw [hzz] at hz; cases hz
    | some z =>
      rw [hzz] at hz
      simp only [Option.map_some, Option.some.injEq] at hz
      refine wpList_alloc_store g1 g2 ty d y h1 hd1 h2 hd2 i z hq hzz l.toArray (by simp [hz, hl]) (by simp [hs, hl]) (all_oneCell_toArray hone) hdl hy ?_
      exact h _ (Blk.new w ty l) ((Below.refl _ w).alloc (Nat.le_refl _) _) (by simp)
/-- A new variable: the world becomes a letter. -/
theorem wpList_alloc_blk {P : Program} {w : World} {ops : Array Oper} {rest : List Oper} {o : Oper} {a : Act} {Q : Exit → Act → World → Prop} (g : o.guard = none) (ty : TypeId) (ho : o.op = .alloc ty) (d : Tmp) (hd : o.dst = some d) (l : List Value) (hi : (P.info? ty).map (fun i => i.zero.map (·.cells)) = some (some l.toArray))
    (h : ∀ w2, Blk w2 w.heap.size ty l → Below w.heap.size w w2 → w2.heap.size = w.heap.size + 1 → wpList P ops Q rest (a.put (some d) (.pointer (some ⟨w.heap.size, 0, none⟩))) w2) : wpList P ops Q (o :: rest) a w := by
  cases hq : P.info? ty with
  | none => simp [hq] at hi
  | some i =>
    rw [hq] at hi
    simp only [Option.map_some, Option.some.injEq] at hi
    cases hzz : i.zero with
    | none => rw [hzz] at hi; cases hi
    | some z =>
      rw [hzz] at hi
      simp only [Option.map_some, Option.some.injEq] at hi
      have hr : (Instr.alloc ty true (.tuple #[])).run P w = .ok (.pointer (some ⟨w.heap.size, 0, none⟩)) (w.alloc (.cells z.cells ty)) := by
        simp [Instr.alloc, zeroValue, typeInfo, hq, hzz, newVar, newRow]
      rw [hi] at hr
      refine wpList_plain g fun K hK => ?_
      unfold Oper.wp
      simp only [execOp, ho, Sem.run_bind, hr, Result.andThen_ok, Sem.run_pure, Oper.upon, hd]
      exact hK _ _ (h _ (Blk.new w ty l) ((Below.refl _ w).alloc (Nat.le_refl _) _) (by simp))
/-- A variable that a value is laid into. -/
theorem wpList_box_blk {P : Program} {w : World} {ops : Array Oper} {rest : List Oper} {o : Oper} {a : Act} {Q : Exit → Act → World → Prop} (g : o.guard = none) (ty : TypeId) (x : Operand) (ho : o.op = .box ty x) (l : List Value) (hx : a.eval x = .agg l.toArray)
    (h : ∀ w2, Blk w2 w.heap.size ty l → Below w.heap.size w w2 → w2.heap.size = w.heap.size + 1 → wpList P ops Q rest (a.put o.dst (.pointer (some ⟨w.heap.size, 0, none⟩))) w2) : wpList P ops Q (o :: rest) a w := by
  refine wpList_plain g fun K hK => ?_
  unfold Oper.wp execOp
  simp only [ho, hx, Sem.run_bind, Instr.box, newVar, newRow, run_newObj_alloc, Sem.run_pure, Result.andThen_ok]
  exact hK _ _ (h _ (Blk.new w ty l) ((Below.refl _ w).alloc (Nat.le_refl _) _) (by simp))
/-- A whole variable read. -/
theorem wpList_load_blk {P : Program} {w : World} {ops : Array Oper} {rest : List Oper} {o : Oper} {a : Act} {Q : Exit → Act → World → Prop} (hg : o.guard = none) (ty : TypeId) (x : Operand) (ho : o.op = .load ty x) (b : Nat) {t : TypeId} {l : List Value} {d : TypeDesc} (hB : Blk w b t l)
    (hx : a.eval x = .pointer (some ⟨b, 0, none⟩)) (hu : P.underlying ty = some d) (hd : d.isRow = true) (hi : (P.info? ty).map (·.size) = some l.length) (h : wpList P ops Q rest (a.put o.dst (.agg l.toArray)) w) : wpList P ops Q (o :: rest) a w :=
  wpList_load_mid hg ty x ho b 0 hx l d hB.all hu hd hi h
/-- A whole variable written. -/
theorem wpList_store_blk {P : Program} {w : World} {ops : Array Oper} {rest : List Oper} {o : Oper} {a : Act} {Q : Exit → Act → World → Prop} (hg : o.guard = none) (ty : TypeId) (x y : Operand) (ho : o.op = .store ty x y) (hd : o.dst = none) (b : Nat) {t : TypeId} {l l0 : List Value} (hB : Blk w b t l0)
    (hx : a.eval x = .pointer (some ⟨b, 0, none⟩)) (hy : a.eval y = .agg l.toArray) (hl : l.length = l0.length) (hi : (P.info? ty).map (·.size) = some l.length) (hone : ∀ v ∈ l, v.oneCell' = true) (h : wpList P ops Q rest a (w.setCells b 0 l)) : wpList P ops Q (o :: rest) a w := by
  refine wpList_store_mid hg ty x y ho b 0 l.toArray hx hy (hB.there 0 _ (by simp [hl])) (by simpa using hi) (all_oneCell_toArray hone) ?_
  rw [hd]
  exact h
theorem blk_stored {w : World} {b : Nat} {t : TypeId} {l0 l : List Value} (h : Blk w b t l0) (hl : l.length = l0.length) : Blk (w.setCells b 0 l) b t l := by
  have := Blk.sets l 0 w l0 h (by omega)
  simpa [hl] using this

theorem one_new (w : World) (t1 : TypeId) (l1 : List Value) : ∃ w2, w.alloc (.cells l1.toArray t1) = w2 ∧ Blk w2 w.heap.size t1 l1 ∧ Below w.heap.size w w2 ∧ w2.heap.size = w.heap.size + 1 :=
  ⟨_, rfl, Blk.new w t1 l1, (Below.refl _ w).alloc (Nat.le_refl _) _, by simp⟩

end Go.Proofs.YtgmdpbahcbhfjaaGreatDoor.J
