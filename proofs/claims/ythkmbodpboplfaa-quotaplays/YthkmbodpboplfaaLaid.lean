/-
  The rows' arguments: what came in.
-/
import Derived.Test.YthkmbodpboplfaaQuF
import Derived.WalkKit
import Derived.ProofKit
import Derived.OpenShut
import Derived.ShutString
import Derived.ChangeOld
import Derived.Below
import Derived.Deep.Slices
namespace Go.Proofs.Ythkmbodpboplfaa
open Go.ChangeShapes Go.WideShapes Go.ChangeAt Go.RowKit
set_option linter.unusedVariables false
set_option linter.unusedSimpArgs false

theorem cof2 : Try.prog.cellsOf 2 = 1 := by kernel_rfl
theorem cof3 : Try.prog.cellsOf 3 = 1 := by kernel_rfl
theorem cof50 : Try.prog.cellsOf 50 = 3 := by kernel_rfl
theorem bounds_i64 {n : Int} (h : (Lit.int .i64 n).wf = true) : I64 n := by
  simp [Lit.wf, IntKind.min, IntKind.max, IntKind.signed, IntKind.bits] at h
  unfold I64
  omega
set_option maxRecDepth 100000 in
/-- One take, from its three cells. -/
theorem open_take {H : Type} {enc : TypeId × Value → H} {w : World} {base : Nat} {spare : Nat → Bool} {held : Bool} {n : Nat} {a : Addr} {cs : List Value} {x : DataW H × List MemPlace} (h1 : w.cells? base a 3 = some cs) (h2 : DataW.trod enc Try.prog w base spare held n 50 cs = some x) :
    ∃ y : Int × Int × Int, w.cell? (a.add 0) = some (.int .i64 y.1) ∧ w.cell? (a.add 1) = some (.int .i64 y.2.1) ∧ w.cell? (a.add 2) = some (.int .i64 y.2.2) ∧ I64 y.1 ∧ I64 y.2.1 ∧ I64 y.2.2 := by
  obtain ⟨_, hlen, hcell⟩ := World.cells?_some h1
  obtain ⟨xs, k, hk, hxy, _, hxl, hf⟩ := DataW.trod_struct Try.underlying50 h2
  match xs, hxl, cs, hlen with
  | [y0, y1, y2], _, [v0, v1, v2], _ =>
    have g0 := hf 0 _ rfl
    have g1 := hf 1 _ rfl
    have g2 := hf 2 _ rfl
    simp [cof2, cof3] at g0 g1 g2
    obtain ⟨n0, e0, _, w0⟩ := DataW.trod_int Try.underlying2 g0
    obtain ⟨n1, e1, _, w1⟩ := DataW.trod_int Try.underlying3 g1
    obtain ⟨n2, e2, _, w2⟩ := DataW.trod_int Try.underlying3 g2
    simp at e0 e1 e2
    subst e0 e1 e2
    exact ⟨(n0, n1, n2), by simpa using hcell 0 (by omega), by simpa using hcell 1 (by omega), by simpa using hcell 2 (by omega), bounds_i64 w0, bounds_i64 w1, bounds_i64 w2⟩
/-- Takes that came in. -/
theorem open_takes {H : Type} {enc : TypeId × Value → H} {W : World} {a : Option Addr} {len cap : Nat} {d : DataW H} {ps : List MemPlace} (h : DataW.Trod enc Try.prog W 0 (fun _ => true) true 48 (.slice a len cap) d ps) :
    ∃ l : List (Int × Int × Int), l.length = len ∧ Tk W a l ∧ len ≤ 9223372036854775807 := by
  obtain ⟨fuel, hf⟩ := h
  rcases Go.Deep.open_slice Try.underlying48 hf with ⟨hcs, _⟩ | ⟨x, l, c, m, n, D, Pl, hcs, _, hl, hm, hmm, _, hx⟩
  · simp [Value.cells] at hcs
    obtain ⟨rfl, rfl, rfl⟩ := hcs
    exact ⟨[], rfl, ⟨by simp, fun h => absurd rfl h⟩, by omega⟩
  · simp [Value.cells] at hcs
    obtain ⟨rfl, rfl, rfl⟩ := hcs
    have hlm : len ≤ m := by
      rw [hmm]
      split <;> omega
    have each : ∀ i, i < m → ∃ y : Int × Int × Int, W.cell? ((x.add (i * 3)).add 0) = some (.int .i64 y.1) ∧ W.cell? ((x.add (i * 3)).add 1) = some (.int .i64 y.2.1) ∧ W.cell? ((x.add (i * 3)).add 2) = some (.int .i64 y.2.2) ∧ I64 y.1 ∧ I64 y.2.1 ∧ I64 y.2.2 := by
      intro i hi
      obtain ⟨cs', h1, h2⟩ := hx i hi
      rw [cof50] at h1
      exact open_take h1 h2
    obtain ⟨y, hy⟩ := Go.Deep.choose_lt each
    refine ⟨(List.range len).map y, by simp, ⟨?_, fun h0 => ?_⟩, by unfold maxLen at hm; omega⟩
    · intro z hz
      obtain ⟨i, hi, rfl⟩ := List.mem_map.1 hz
      exact (hy i (by have := List.mem_range.1 hi; omega)).2.2.2
    · have hp : 0 < len := by
        rcases Nat.eq_zero_or_pos len with e | e
        · subst e; simp at h0
        · exact e
      obtain ⟨b, off, sp⟩ := x
      have c := (hy 0 (by omega)).1
      have hs : sp = none := by simpa [Addr.add] using World.cell?_spot c
      subst hs
      refine ⟨b, off, rfl, ?_, fun i z hz => ?_⟩
      · have := World.block_lt_of_cell? W _ c
        simpa [Addr.add] using this
      · have hi : i < len := by
          have := (List.getElem?_eq_some_iff.1 hz).1
          simpa using this
        have e : y i = z := by simpa [hi] using hz
        obtain ⟨t0, t1, t2, _⟩ := hy i (by omega)
        simp only [Addr.add_lit] at t0 t1 t2
        rw [e] at t0 t1 t2
        exact ⟨t0, t1, t2⟩

end Go.Proofs.Ythkmbodpboplfaa
