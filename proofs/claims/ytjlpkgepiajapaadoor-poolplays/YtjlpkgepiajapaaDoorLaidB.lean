/-
  The rows' arguments: a script that came in.
-/
import Derived.Test.YtjlpkgepiajapaaDoorLaid
import Derived.Test.YtjlpkgepiajapaaDoorSaJ
namespace Go.Proofs.YtjlpkgepiajapaaDoor
open Go.ChangeShapes Go.WideShapes Go.ChangeAt Go.RowKit
set_option linter.unusedVariables false
set_option linter.unusedSimpArgs false

theorem cof3 : Tryd.prog.cellsOf 3 = 1 := by kernel_rfl
theorem cof9 : Tryd.prog.cellsOf 9 = 1 := by kernel_rfl
theorem cof40 : Tryd.prog.cellsOf 40 = 1 := by kernel_rfl
theorem cof42 : Tryd.prog.cellsOf 42 = 5 := by kernel_rfl
/-- Bytes within a step. -/
theorem open_b {H : Type} {enc : TypeId × Value → H} {w : World} {n : Nat} {v : Value} {x : DataW H × List MemPlace} (h : DataW.trod enc Tryd.prog w 0 (fun _ => true) true n 40 [v] = some x) :
    ∃ (a : Option Addr) (len cap : Nat) (l : List Int), v = .slice a len cap ∧ Sl w a len l ∧ (a = none → len = 0 ∧ cap = 0) ∧ len ≤ cap ∧ cap ≤ 9223372036854775807 := by
  rcases open_ints Tryd.underlying40 Tryd.underlying5 (by kernel_rfl) h with ⟨hcs, _⟩ | ⟨x, l, c, zs, hcs, _, hl, hm, hz, _, hcell, hwz⟩
  · simp at hcs
    exact ⟨none, 0, 0, [], hcs, Sl.nil _ _, fun _ => ⟨rfl, rfl⟩, Nat.le_refl _, by omega⟩
  · simp at hcs
    have hz' : zs.length = c := by simpa using hz
    unfold maxLen at hm
    refine ⟨some x, l, c, zs.take l, hcs, ⟨by simp; omega, fun n hn => ?_, fun j hj => ⟨x, rfl, ?_⟩⟩, fun h => (by cases h), hl, by omega⟩
    · have := hwz n (List.mem_of_mem_take hn)
      simp [Lit.wf, IntKind.min, IntKind.max, IntKind.signed, IntKind.bits] at this
      omega
    · rw [hcell j (by omega)]
      congr 2
      simp [List.getD, hj]
set_option maxRecDepth 100000 in
/-- One step, from its five cells. -/
theorem open_stq {H : Type} {enc : TypeId × Value → H} {w : World} {n : Nat} {a : Addr} {cs : List Value} {x : DataW H × List MemPlace} (h1 : w.cells? 0 a 5 = some cs) (h2 : DataW.trod enc Tryd.prog w 0 (fun _ => true) true n 42 cs = some x) :
    ∃ o : Stq, (∀ j v, o.cells[j]? = some v → w.cell? (a.add j) = some v) ∧ StqOk w o := by
  obtain ⟨_, hlen, hcell⟩ := World.cells?_some h1
  obtain ⟨xs, k, hk, hxy, _, hxl, hf⟩ := DataW.trod_struct Tryd.underlying42 h2
  match xs, hxl, cs, hlen with
  | [y0, y1, y2, y3, y4], _, [v0, v1, v2, v3, v4], _ =>
    have g0 := hf 0 _ rfl
    have g1 := hf 1 _ rfl
    have g2 := hf 2 _ rfl
    have g3 := hf 3 _ rfl
    have g4 := hf 4 _ rfl
    simp [cof3, cof9, cof40] at g0 g1 g2 g3 g4
    obtain ⟨n0, e0, _, b0⟩ := DataW.trod_int Tryd.underlying3 g0
    obtain ⟨n1, e1, _, b1⟩ := DataW.trod_int Tryd.underlying3 g1
    obtain ⟨n2, e2, _, b2⟩ := DataW.trod_int Tryd.underlying3 g2
    obtain ⟨n3, e3, _, b3⟩ := DataW.trod_string Tryd.underlying9 g3
    obtain ⟨ba, bn, bc, bs, e4, s4, q4, l4, m4⟩ := open_b g4
    simp at e0 e1 e2 e3
    subst e0 e1 e2 e3 e4
    refine ⟨⟨n0, n1, n2, n3, ba, bn, bc, bs⟩, fun j v hj => ?_, ⟨bounds_i64 b1, bounds_i64 b2, s4, q4, l4, m4⟩⟩
    have hjl : j < 5 := by
      have := (List.getElem?_eq_some_iff.1 hj).1
      simpa [Stq.cells, oC] using this
    rw [← hj]
    exact hcell j hjl
/-- A script that came in. -/
theorem open_script {H : Type} {enc : TypeId × Value → H} {W : World} {a : Option Addr} {len cap : Nat} {d : DataW H} {ps : List MemPlace} (h : DataW.Trod enc Tryd.prog W 0 (fun _ => true) true 23 (.slice a len cap) d ps) :
    ∃ l : List Stq, l.length = len ∧ Scq W a l ∧ len ≤ 9223372036854775807 := by
  obtain ⟨fuel, hf⟩ := h
  rcases Go.Deep.open_slice Tryd.underlying23 hf with ⟨hcs, _⟩ | ⟨x, l, c, m, n, D, Pl, hcs, _, hl, hm, hmm, _, hx⟩
  · simp [Value.cells] at hcs
    obtain ⟨rfl, rfl, rfl⟩ := hcs
    exact ⟨[], rfl, ⟨by simp, fun h => absurd rfl h⟩, by omega⟩
  · simp [Value.cells] at hcs
    obtain ⟨rfl, rfl, rfl⟩ := hcs
    have hlm : len ≤ m := by
      rw [hmm]
      split <;> omega
    have each : ∀ i, i < m → ∃ o : Stq, (∀ j v, o.cells[j]? = some v → W.cell? ((x.add (i * 5)).add j) = some v) ∧ StqOk W o := by
      intro i hi
      obtain ⟨cs', h1, h2⟩ := hx i hi
      rw [cof42] at h1
      exact open_stq h1 h2
    haveI : Inhabited Stq := ⟨⟨0, 0, 0, ⟨#[]⟩, none, 0, 0, []⟩⟩
    obtain ⟨y, hy⟩ := Go.Deep.choose_lt each
    refine ⟨(List.range len).map y, by simp, ⟨?_, fun h0 => ?_⟩, by unfold maxLen at hm; omega⟩
    · intro z hz
      obtain ⟨i, hi, rfl⟩ := List.mem_map.1 hz
      exact (hy i (by have := List.mem_range.1 hi; omega)).2
    · have hp : 0 < len := by
        rcases Nat.eq_zero_or_pos len with e | e
        · subst e; simp at h0
        · exact e
      obtain ⟨b, off, sp⟩ := x
      have c := (hy 0 (by omega)).1 0 _ rfl
      have hs : sp = none := by simpa [Addr.add] using World.cell?_spot c
      subst hs
      refine ⟨b, off, rfl, ?_, fun i z hz j v hj => ?_⟩
      · have := World.block_lt_of_cell? W _ c
        simpa [Addr.add] using this
      · have hi : i < len := by
          have := (List.getElem?_eq_some_iff.1 hz).1
          simpa using this
        have e : y i = z := by simpa [hi] using hz
        have t := (hy i (by omega)).1 j v (by rw [e]; exact hj)
        simp only [Addr.add_lit] at t
        exact t

end Go.Proofs.YtjlpkgepiajapaaDoor
