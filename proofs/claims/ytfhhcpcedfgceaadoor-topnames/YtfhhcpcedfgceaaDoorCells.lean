/-
  A variable that is made and filled at once; a value that is built: by what it comes to, with no unrolling. Nothing of the program.
-/
import Derived.WalkKit
import Derived.WalkSpells
import Derived.WalkLawsBesides
import Derived.Deep.MidRow
namespace Go.Proofs.YtfhhcpcedfgceaaDoor
open Go.RowKit
set_option linter.unusedVariables false

theorem setCells_new (w : World) (t : TypeId) : ∀ (vs : List Value) (o : Nat) (C : Array Value), o + vs.length ≤ C.size →
    (w.alloc (.cells C t)).setCells w.heap.size o vs = w.alloc (.cells (C.toList.take o ++ (vs ++ C.toList.drop (o + vs.length))).toArray t)
  | [], o, C, h => by simp [World.setCells]
  | v :: r, o, C, h => by
    simp only [List.length_cons] at h
    rw [World.setCells, World.setCell_alloc_new, setCells_new w t r (o + 1) (C.setIfInBounds o v) (by simp; omega)]
    congr 2
    apply Array.toList_inj.1
    have e1 : (C.setIfInBounds o v).toList = C.toList.set o v := Array.toList_setIfInBounds
    simp only [e1, List.length_cons]
    apply List.ext_getElem?
    intro j
    have hl : C.toList.length = C.size := Array.length_toList
    by_cases h1 : j < o
    · simp [List.getElem?_append, h1, show j < o + 1 by omega, show ¬ o = j by omega, show o ≤ C.size by omega, show o + 1 ≤ C.size by omega]
    · by_cases h2 : j = o
      · subst h2
        simp [List.getElem?_append, show min j C.size = j by omega, show min (j + 1) C.size = j + 1 by omega]
      · have e3 : j - o = (j - (o + 1)) + 1 := by omega
        simp [List.getElem?_append, List.getElem?_set, List.getElem?_drop, show ¬ j < o by omega, show ¬ j < o + 1 by omega, show min o C.size = o by omega, show min (o + 1) C.size = o + 1 by omega, e3, show o + 1 + r.length = o + (r.length + 1) by omega]
        split
        · rfl
        · rw [if_neg (by omega)]

theorem wpList_alloc_store {P : Program} {w : World} {ops : Array Oper} {rest : List Oper} {o1 o2 : Oper} {a : Act} {Q : Exit → Act → World → Prop} (g1 : o1.guard = none) (g2 : o2.guard = none) (ty : TypeId) (d : Tmp) (y : Operand)
    (h1 : o1.op = .alloc ty) (hd1 : o1.dst = some d) (h2 : o2.op = .store ty (.tmp d) y) (hd2 : o2.dst = none) (i : TypeInfo) (z : Value) (hi : P.info? ty = some i) (hz : i.zero = some z) (cells : Array Value)
    (hzs : z.cells.size = cells.size) (hsz : i.size = cells.size) (hone : cells.all (·.oneCell') = true) (hdl : d < a.tmps.size)
    (hy : (a.put (some d) (.pointer (some ⟨w.heap.size, 0, none⟩))).eval y = .agg cells)
    (h : wpList P ops Q rest (a.put (some d) (.pointer (some ⟨w.heap.size, 0, none⟩))) (w.alloc (.cells cells ty))) : wpList P ops Q (o1 :: o2 :: rest) a w := by
  have hr : (Instr.alloc ty true (.tuple #[])).run P w = .ok (.pointer (some ⟨w.heap.size, 0, none⟩)) (w.alloc (.cells z.cells ty)) := by
    simp [Instr.alloc, zeroValue, typeInfo, hi, hz, newVar, newRow]
  refine wpList_plain g1 fun K hK => ?_
  unfold Oper.wp
  simp only [execOp, h1, Sem.run_bind, hr, Result.andThen_ok, Sem.run_pure, Oper.upon, hd1]
  refine hK _ _ ?_
  refine wpList_store_mid g2 ty (.tmp d) y h2 w.heap.size 0 cells ?_ hy ?_ ?_ hone ?_
  · show ((a.put (some d) _).tmps.getD d undef) = _
    have : (a.put (some d) (.pointer (some ⟨w.heap.size, 0, none⟩))).tmps = a.tmps.setIfInBounds d (.pointer (some ⟨w.heap.size, 0, none⟩)) := rfl
    rw [this, Array.getD_eq_getD_getElem?, Array.getElem?_setIfInBounds]
    simp [hdl]
  · intro j hj
    rw [World.cell?_alloc_mark]
    exact ⟨by simp; omega, by simp⟩
  · simp [hi, hsz]
  · rw [hd2, setCells_new w ty cells.toList 0 z.cells (by simp; omega)]
    have e : (z.cells.toList.take 0 ++ (cells.toList ++ z.cells.toList.drop (0 + cells.toList.length))).toArray = cells := by
      simp [List.drop_eq_nil_of_le, hzs]
    rw [e]
    exact h

theorem wpList_build {P : Program} {w : World} {ops : Array Oper} {rest : List Oper} {o : Oper} {a : Act} {Q : Exit → Act → World → Prop} (g : o.guard = none) (t : TypeId) (parts : Array (Nat × Operand)) (ho : o.op = .build t parts) (vals : List (Nat × Value)) (cells : Array Value)
    (hv : (parts.map fun (i, x) => (i, a.eval x)).toList = vals) (hc : P.built t vals = some cells) (h : wpList P ops Q rest (a.put o.dst (.agg cells)) w) : wpList P ops Q (o :: rest) a w := by
  refine wpList_plain g fun K hK => ?_
  have hr := run_build (P := P) w t (parts.map fun (i, x) => (i, a.eval x)) cells (by rw [hv]; exact hc)
  unfold Oper.wp
  simp only [execOp, ho, Sem.run_bind, hr, Result.andThen_ok, Sem.run_pure, Oper.upon]
  exact hK _ _ h

theorem wpList_ran {P : Program} {w : World} {ops : Array Oper} {rest : List Oper} {o : Oper} {a : Act} {Q : Exit → Act → World → Prop} (g : o.guard = none) (v : Value) (w' : World) (h : (execOp a.eval o).run P w = .ok (.value v) w') (hk : wpList P ops Q rest (a.put o.dst v) w') : wpList P ops Q (o :: rest) a w := by
  refine wpList_plain g fun K hK => ?_
  unfold Oper.wp
  rw [h]
  exact hK _ _ hk

theorem wpList_made {P : Program} {w : World} {ops : Array Oper} {rest : List Oper} {o : Oper} {a : Act} {Q : Exit → Act → World → Prop} (g : o.guard = none) (v : Value) (ob : Obj) (h : (execOp a.eval o).run P w = .ok (.value v) (w.alloc ob)) (hk : wpList P ops Q rest (a.put o.dst v) (w.alloc ob)) : wpList P ops Q (o :: rest) a w := wpList_ran g v _ h hk

theorem wpList_moved {P : Program} {w : World} {ops : Array Oper} {rest : List Oper} {o : Oper} {a : Act} {Q : Exit → Act → World → Prop} (g : o.guard = none) (x : Operand) (ho : o.op = .move x) (v : Value) (hv : a.eval x = v) (h : wpList P ops Q rest (a.put o.dst v) w) : wpList P ops Q (o :: rest) a w := by
  refine wpList_plain g fun K hK => ?_
  unfold Oper.wp
  simp only [execOp, ho, Sem.run_pure, Oper.upon, hv]
  exact hK _ _ h

end Go.Proofs.YtfhhcpcedfgceaaDoor
