import Derived.Test.YtfieglepljmmkaaChecked
import Derived.Test.YtfieglepljmmkaaRowB
import Derived.ChangeKeysEq
import Derived.Laws.StructEq
namespace Go.Proofs.Ytfieglepljmmkaa
open Go.RowKit
set_option linter.unusedVariables false

theorem part8 (l : List Int) (i : Nat) (h : i < l.length) (w : World) : (part 5 (cells8 l).toArray (i * 1)).run Try.prog w = .ok (.int .u8 (l.getD i 0)) w := by
  have hagg : (isAgg 5).run Try.prog w = .ok false w := by
    unfold isAgg
    rw [Sem.run_bind, run_underlying Try.underlying5 w]
    rfl
  have hat : (cells8 l).toArray[i * 1]? = some (.int .u8 (l.getD i 0)) := by
    rw [Nat.mul_one, List.getElem?_toArray]
    simp [cells8, List.getD, h]
  unfold part
  simp only [Sem.run_bind, hagg, Result.andThen_ok, Bool.false_eq_true, if_false, hat, Sem.run_pure]
theorem eqItems8 (d : Nat) (l m : List Int) (w : World) : ∀ (is : List Nat), (∀ i ∈ is, i < l.length ∧ i < m.length) → (Op.eqItems (d + 1) 5 1 (cells8 l).toArray (cells8 m).toArray is).run Try.prog w = .ok (is.all fun i => l.getD i 0 == m.getD i 0) w
  | [], _ => rfl
  | i :: r, h => by
    obtain ⟨h1, h2⟩ := h i (by simp)
    have ih := eqItems8 d l m w r (fun j hj => h j (by simp [hj]))
    simp only [Op.eqItems, Sem.run_bind, part8 l i h1 w, part8 m i h2 w, Result.andThen_ok, run_equalIn_int w d 5 .u8 .u8 _ _ Try.underlying5]
    cases hc : (l.getD i 0 == m.getD i 0) with
    | true => simp only [Bool.not_true, Bool.false_eq_true, if_false, ih, List.all_cons, hc, Bool.true_and]
    | false => simp only [Bool.not_false, if_true, Sem.run_pure, List.all_cons, hc, Bool.false_and]
theorem cells5 : Try.prog.cellsOf 5 = 1 := by kernel_rfl
theorem all_eq (l m : List Int) (n : Nat) (hl : l.length = n) (hm : m.length = n) : ((List.range n).all fun i => l.getD i 0 == m.getD i 0) = decide (l = m) := by
  by_cases h : l = m
  · subst h
    simp
  · rw [decide_eq_false h]
    rw [Bool.eq_false_iff]
    intro ha
    apply h
    rw [List.all_eq_true] at ha
    apply List.ext_getElem (by omega)
    intro i h1 h2
    have := ha i (List.mem_range.2 (by omega))
    simpa [List.getD, h1, h2] using this
/-- '==' of arrays of bytes. -/
theorem eql8 (t : TypeId) (n : Nat) (ht : Try.prog.underlying t = some (.array n 5)) (l m : List Int) (hl : l.length = n) (hm : m.length = n) (w : World) :
    (binOp .eql t (.agg (cells8 l).toArray) (.agg (cells8 m).toArray)).run Try.prog w = .ok (.bool (decide (l = m))) w := by
  have h5 : ∃ i, Try.prog.info? 5 = some i := by
    have : (Try.prog.info? 5).isSome = true := by kernel_rfl
    exact Option.isSome_iff_exists.1 this
  obtain ⟨i, hi⟩ := h5
  rw [run_eql_struct, show (10000 : Nat) = 9999 + 1 from rfl, run_equalIn_array w 9999 _ _ ht hi, cells5, show (9999 : Nat) = 9998 + 1 from rfl, eqItems8 9998 l m w _ (fun j hj => by have := List.mem_range.1 hj; omega), all_eq l m n hl hm]
  rfl
theorem neq8 (t : TypeId) (n : Nat) (ht : Try.prog.underlying t = some (.array n 5)) (l m : List Int) (hl : l.length = n) (hm : m.length = n) (w : World) :
    (binOp .neq t (.agg (cells8 l).toArray) (.agg (cells8 m).toArray)).run Try.prog w = .ok (.bool (!decide (l = m))) w := by
  have h5 : ∃ i, Try.prog.info? 5 = some i := by
    have : (Try.prog.info? 5).isSome = true := by kernel_rfl
    exact Option.isSome_iff_exists.1 this
  obtain ⟨i, hi⟩ := h5
  rw [run_neq_struct, show (10000 : Nat) = 9999 + 1 from rfl, run_equalIn_array w 9999 _ _ ht hi, cells5, show (9999 : Nat) = 9998 + 1 from rfl, eqItems8 9998 l m w _ (fun j hj => by have := List.mem_range.1 hj; omega), all_eq l m n hl hm]
  rfl

end Go.Proofs.Ytfieglepljmmkaa
