/-
  The rows' arguments: a script that came in.
-/
import Derived.Test.YtcgjmioncbihhaaDoorLaid
import Derived.Test.YtcgjmioncbihhaaDoorDcJ
namespace Go.Proofs.YtcgjmioncbihhaaDoor
open Go.ChangeShapes Go.WideShapes Go.ChangeAt Go.RowKit
set_option linter.unusedVariables false
set_option linter.unusedSimpArgs false

theorem cof3 : Tryd.prog.cellsOf 3 = 1 := by kernel_rfl
theorem cof34 : Tryd.prog.cellsOf 34 = 3 := by kernel_rfl
set_option maxRecDepth 100000 in
/-- One step, from its three cells. -/
theorem open_op {H : Type} {enc : TypeId × Value → H} {w : World} {base : Nat} {spare : Nat → Bool} {held : Bool} {n : Nat} {a : Addr} {cs : List Value} {x : DataW H × List MemPlace} (h1 : w.cells? base a 3 = some cs) (h2 : DataW.trod enc Tryd.prog w base spare held n 34 cs = some x) :
    ∃ y : Int × Sm, w.cell? (a.add 0) = some (.int .i64 y.1) ∧ w.cell? (a.add 1) = some (.int .i64 y.2.t) ∧ w.cell? (a.add 2) = some (.int .u64 (y.2.v : Int)) ∧ I64 y.1 ∧ OkS y.2 := by
  obtain ⟨_, hlen, hcell⟩ := World.cells?_some h1
  obtain ⟨xs, k, hk, hxy, _, hxl, hf⟩ := DataW.trod_struct Tryd.underlying34 h2
  match xs, hxl, cs, hlen with
  | [y0, y1], _, [v0, v1, v2], _ =>
    have g0 := hf 0 _ rfl
    have g1 := hf 1 _ rfl
    simp [cof3, cof32] at g0 g1
    obtain ⟨n0, e0, _, w0⟩ := DataW.trod_int Tryd.underlying3 g0
    obtain ⟨xs2, k2, hk2, hxy2, _, hxl2, hf2⟩ := DataW.trod_struct Tryd.underlying32 g1
    match xs2, hxl2 with
    | [z0, z1], _ =>
      have q0 := hf2 0 _ rfl
      have q1 := hf2 1 _ rfl
      simp [cof2, cof30] at q0 q1
      obtain ⟨n1, e1, _, w1⟩ := DataW.trod_int Tryd.underlying2 q0
      obtain ⟨n2, e2, _, w2⟩ := DataW.trod_int Tryd.underlying30 q1
      simp at e0 e1 e2
      subst e0 e1 e2
      have b := bounds_u64 w2
      refine ⟨(n0, ⟨n1, n2.toNat⟩), by simpa using hcell 0 (by omega), by simpa using hcell 1 (by omega), ?_, bounds_i64 w0, ⟨bounds_i64 w1, (by omega : n2.toNat < 18446744073709551616)⟩⟩
      have := hcell 2 (by omega)
      show w.cell? (a.add 2) = some (Value.int .u64 ((n2.toNat : Nat) : Int))
      rw [show ((n2.toNat : Nat) : Int) = n2 by omega]
      simpa using this
/-- A script that came in. -/
theorem open_script {H : Type} {enc : TypeId × Value → H} {W : World} {a : Option Addr} {len cap : Nat} {d : DataW H} {ps : List MemPlace} (h : DataW.Trod enc Tryd.prog W 0 (fun _ => true) true 22 (.slice a len cap) d ps) :
    ∃ l : List (Int × Sm), l.length = len ∧ Sc W a l ∧ len ≤ 9223372036854775807 := by
  obtain ⟨fuel, hf⟩ := h
  rcases Go.Deep.open_slice Tryd.underlying22 hf with ⟨hcs, _⟩ | ⟨x, l, c, m, n, D, Pl, hcs, _, hl, hm, hmm, _, hx⟩
  · simp [Value.cells] at hcs
    obtain ⟨rfl, rfl, rfl⟩ := hcs
    exact ⟨[], rfl, ⟨by simp, fun h => absurd rfl h⟩, by omega⟩
  · simp [Value.cells] at hcs
    obtain ⟨rfl, rfl, rfl⟩ := hcs
    have hlm : len ≤ m := by
      rw [hmm]
      split <;> omega
    have each : ∀ i, i < m → ∃ y : Int × Sm, W.cell? ((x.add (i * 3)).add 0) = some (.int .i64 y.1) ∧ W.cell? ((x.add (i * 3)).add 1) = some (.int .i64 y.2.t) ∧ W.cell? ((x.add (i * 3)).add 2) = some (.int .u64 (y.2.v : Int)) ∧ I64 y.1 ∧ OkS y.2 := by
      intro i hi
      obtain ⟨cs', h1, h2⟩ := hx i hi
      rw [cof34] at h1
      exact open_op h1 h2
    haveI : Inhabited Sm := ⟨⟨0, 0⟩⟩
    obtain ⟨y, hy⟩ := Go.Deep.choose_lt each
    refine ⟨(List.range len).map y, by simp, ⟨?_, fun h0 => ?_⟩, by unfold maxLen at hm; omega⟩
    · intro z hz
      obtain ⟨i, hi, rfl⟩ := List.mem_map.1 hz
      exact (hy i (by have := List.mem_range.1 hi; omega)).2.2.2
    · have hp : 0 < len := by
        rcases Nat.eq_zero_or_pos len with e | e
        · subst e; simp at h0
        · exact e
      obtain ⟨b, off, sp⟩ := x
      have c := (hy 0 (by omega)).1
      have hs : sp = none := by simpa [Addr.add] using World.cell?_spot c
      subst hs
      refine ⟨b, off, rfl, ?_, fun i z hz => ?_⟩
      · have := World.block_lt_of_cell? W _ c
        simpa [Addr.add] using this
      · have hi : i < len := by
          have := (List.getElem?_eq_some_iff.1 hz).1
          simpa using this
        have e : y i = z := by simpa [hi] using hz
        obtain ⟨t0, t1, t2, _⟩ := hy i (by omega)
        simp only [Addr.add_lit] at t0 t1 t2
        rw [e] at t0 t1 t2
        exact ⟨t0, t1, t2⟩

end Go.Proofs.YtcgjmioncbihhaaDoor
