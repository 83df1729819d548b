/-
  The rows' arguments: a script that came in.
-/
import Derived.Test.YthkmbodpboplfaaLaid
import Derived.Test.YthkmbodpboplfaaQuG
namespace Go.Proofs.Ythkmbodpboplfaa
open Go.ChangeShapes Go.WideShapes Go.ChangeAt Go.RowKit
set_option linter.unusedVariables false
set_option linter.unusedSimpArgs false

theorem cof9 : Try.prog.cellsOf 9 = 1 := by kernel_rfl
theorem cof32 : Try.prog.cellsOf 32 = 5 := by kernel_rfl
theorem cof34 : Try.prog.cellsOf 34 = 11 := by kernel_rfl
set_option maxRecDepth 100000 in
/-- One step, from its eleven cells. -/
theorem open_os {H : Type} {enc : TypeId × Value → H} {w : World} {base : Nat} {spare : Nat → Bool} {held : Bool} {n : Nat} {a : Addr} {cs : List Value} {x : DataW H × List MemPlace} (h1 : w.cells? base a 11 = some cs) (h2 : DataW.trod enc Try.prog w base spare held n 34 cs = some x) :
    ∃ o : Os, (∀ j v, (osL o)[j]? = some v → w.cell? (a.add j) = some v) ∧ OsOk o := by
  obtain ⟨_, hlen, hcell⟩ := World.cells?_some h1
  obtain ⟨xs, k, hk, hxy, _, hxl, hf⟩ := DataW.trod_struct Try.underlying34 h2
  match xs, hxl, cs, hlen with
  | [y0, y1, y2, y3, y4, y5, y6], _, [v0, v1, v2, v3, v4, v5, v6, v7, v8, v9, v10], _ =>
    have g0 := hf 0 _ rfl
    have g1 := hf 1 _ rfl
    have g2 := hf 2 _ rfl
    have g3 := hf 3 _ rfl
    have g4 := hf 4 _ rfl
    have g5 := hf 5 _ rfl
    have g6 := hf 6 _ rfl
    simp [cof2, cof3, cof9, cof32] at g0 g1 g2 g3 g4 g5 g6
    obtain ⟨n0, e0, _, w0⟩ := DataW.trod_int Try.underlying3 g0
    obtain ⟨n1, e1, _, w1⟩ := DataW.trod_int Try.underlying3 g1
    obtain ⟨n2, e2, _, w2⟩ := DataW.trod_string Try.underlying9 g2
    obtain ⟨n3, e3, _, w3⟩ := DataW.trod_int Try.underlying2 g3
    obtain ⟨n4, e4, _, w4⟩ := DataW.trod_int Try.underlying3 g4
    obtain ⟨n5, e5, _, w5⟩ := DataW.trod_int Try.underlying3 g5
    obtain ⟨xs2, k2, hk2, hxy2, _, hxl2, hf2⟩ := DataW.trod_struct Try.underlying32 g6
    match xs2, hxl2 with
    | [z0, z1, z2, z3, z4], _ =>
      have q0 := hf2 0 _ rfl
      have q1 := hf2 1 _ rfl
      have q2 := hf2 2 _ rfl
      have q3 := hf2 3 _ rfl
      have q4 := hf2 4 _ rfl
      simp [cof2, cof3] at q0 q1 q2 q3 q4
      obtain ⟨n6, e6, _, w6⟩ := DataW.trod_int Try.underlying3 q0
      obtain ⟨n7, e7, _, w7⟩ := DataW.trod_int Try.underlying3 q1
      obtain ⟨n8, e8, _, w8⟩ := DataW.trod_int Try.underlying3 q2
      obtain ⟨n9, e9, _, w9⟩ := DataW.trod_int Try.underlying3 q3
      obtain ⟨n10, e10, _, w10⟩ := DataW.trod_int Try.underlying2 q4
      simp at e0 e1 e2 e3 e4 e5 e6 e7 e8 e9 e10
      subst e0 e1 e2 e3 e4 e5 e6 e7 e8 e9 e10
      refine ⟨⟨n0, n1, n2, n3, n4, n5, ⟨n6, n7, n8, n9, n10⟩⟩, fun j v hj => ?_, ⟨bounds_i64 w0, bounds_i64 w1, bounds_i64 w3, bounds_i64 w4, bounds_i64 w5, ⟨bounds_i64 w6, bounds_i64 w7, bounds_i64 w8, bounds_i64 w9, bounds_i64 w10⟩⟩⟩
      have hjl : j < 11 := by
        have := (List.getElem?_eq_some_iff.1 hj).1
        simpa [osL] using this
      rw [← hj]
      exact hcell j hjl
/-- A script that came in. -/
theorem open_script {H : Type} {enc : TypeId × Value → H} {W : World} {a : Option Addr} {len cap : Nat} {d : DataW H} {ps : List MemPlace} (h : DataW.Trod enc Try.prog W 0 (fun _ => true) true 22 (.slice a len cap) d ps) :
    ∃ l : List Os, l.length = len ∧ Sc W a l ∧ len ≤ 9223372036854775807 := by
  obtain ⟨fuel, hf⟩ := h
  rcases Go.Deep.open_slice Try.underlying22 hf with ⟨hcs, _⟩ | ⟨x, l, c, m, n, D, Pl, hcs, _, hl, hm, hmm, _, hx⟩
  · simp [Value.cells] at hcs
    obtain ⟨rfl, rfl, rfl⟩ := hcs
    exact ⟨[], rfl, ⟨by simp, fun h => absurd rfl h⟩, by omega⟩
  · simp [Value.cells] at hcs
    obtain ⟨rfl, rfl, rfl⟩ := hcs
    have hlm : len ≤ m := by
      rw [hmm]
      split <;> omega
    have each : ∀ i, i < m → ∃ o : Os, (∀ j v, (osL o)[j]? = some v → W.cell? ((x.add (i * 11)).add j) = some v) ∧ OsOk o := by
      intro i hi
      obtain ⟨cs', h1, h2⟩ := hx i hi
      rw [cof34] at h1
      exact open_os h1 h2
    haveI : Inhabited Os := ⟨⟨0, 0, ⟨#[]⟩, 0, 0, 0, ⟨0, 0, 0, 0, 0⟩⟩⟩
    obtain ⟨y, hy⟩ := Go.Deep.choose_lt each
    refine ⟨(List.range len).map y, by simp, ⟨?_, fun h0 => ?_⟩, by unfold maxLen at hm; omega⟩
    · intro z hz
      obtain ⟨i, hi, rfl⟩ := List.mem_map.1 hz
      exact (hy i (by have := List.mem_range.1 hi; omega)).2
    · have hp : 0 < len := by
        rcases Nat.eq_zero_or_pos len with e | e
        · subst e; simp at h0
        · exact e
      obtain ⟨b, off, sp⟩ := x
      have c := (hy 0 (by omega)).1 0 _ rfl
      have hs : sp = none := by simpa [Addr.add] using World.cell?_spot c
      subst hs
      refine ⟨b, off, rfl, ?_, fun i z hz j v hj => ?_⟩
      · have := World.block_lt_of_cell? W _ c
        simpa [Addr.add] using this
      · have hi : i < len := by
          have := (List.getElem?_eq_some_iff.1 hz).1
          simpa using this
        have e : y i = z := by simpa [hi] using hz
        have t := (hy i (by omega)).1 j v (by rw [e]; exact hj)
        simp only [Addr.add_lit] at t
        exact t

end Go.Proofs.Ythkmbodpboplfaa
