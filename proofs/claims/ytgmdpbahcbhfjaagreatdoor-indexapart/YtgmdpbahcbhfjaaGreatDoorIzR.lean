import Derived.Test.YtgmdpbahcbhfjaaGreatDoorIvF
import Derived.SizedLaws
import Derived.OpenShut
import Derived.ShutString
import Derived.ChangeOld
import Derived.Deep.Slices
import Derived.PinnedBridge
import Derived.Lib.LaidU8T
set_option linter.unusedSimpArgs false
set_option linter.unusedVariables false
set_option maxHeartbeats 40000000
set_option maxRecDepth 100000
/-
  Rows: lists of matchers and of labels as they come in; Go's tables.
-/
namespace Go.Proofs.YtgmdpbahcbhfjaaGreatDoor
open Go.ChangeShapes Go.WideShapes Go.ChangeAt Go.RowKit
open Go.ChangeMaps (open_string shut_string)

theorem rw_own : ownKnob Tryz.prog.godebug = none := by kernel_rfl
theorem rw_laidOut : laidOutB Tryz.prog = true := by kernel_rfl
theorem rw_c9 : Tryz.prog.cellsOf 9 = 1 := by kernel_rfl
theorem rw_c3 : Tryz.prog.cellsOf 3 = 1 := by kernel_rfl
theorem rw_c31 : Tryz.prog.cellsOf 78 = 3 := by kernel_rfl
theorem rw_c50 : Tryz.prog.cellsOf 75 = 2 := by kernel_rfl
theorem rw_c36 : Tryz.prog.cellsOf 36 = 1 := by kernel_rfl

section
variable {H : Type} {enc : TypeId × Value → H} {w : World} {base : Nat} {n : Nat}
set_option maxRecDepth 100000 in
/-- One label, from its two cells. -/
theorem open_label {a : Addr} {cs : List Value} {x : DataW H × List MemPlace} (h1 : w.cells? base a 2 = some cs) (h2 : DataW.trod enc Tryz.prog w base (fun _ => true) true n 75 cs = some x) :
    ∃ s : L.Lb, w.cell? (a.add 0) = some (.string s.n) ∧ w.cell? (a.add 1) = some (.string s.v) ∧ s.n.size ≤ maxLen ∧ s.v.size ≤ maxLen := by
  obtain ⟨_, hlen, hcell⟩ := World.cells?_some h1
  obtain ⟨xs, k, hk, hxy, _, hxl, hf⟩ := DataW.trod_struct Tryz.underlying75 h2
  match xs, hxl, cs, hlen with
  | [y0, y1], _, [v0, v1], _ =>
    have g0 := hf 0 _ rfl
    have g1 := hf 1 _ rfl
    simp [rw_c9] at g0 g1
    obtain ⟨n0, e0, d0, b0⟩ := DataW.trod_string Tryz.underlying9 g0
    obtain ⟨n1, e1, d1, b1⟩ := DataW.trod_string Tryz.underlying9 g1
    simp at e0 e1
    subst e0 e1
    have k0 := hcell 0 (by simp)
    have k1 := hcell 1 (by simp)
    refine ⟨⟨n0, n1⟩, ?_, ?_, b0, b1⟩
    · simpa using k0
    · simpa using k1
set_option maxRecDepth 100000 in
/-- One matcher, from its three cells. -/
theorem open_match {a : Addr} {cs : List Value} {x : DataW H × List MemPlace} (h1 : w.cells? base a 3 = some cs) (h2 : DataW.trod enc Tryz.prog w base (fun _ => true) true n 78 cs = some x) :
    ∃ s : Mt, w.cell? (a.add 0) = some (.string s.n) ∧ w.cell? (a.add 1) = some (.int .i64 s.op) ∧ w.cell? (a.add 2) = some (.string s.t) ∧ OkM s := by
  obtain ⟨_, hlen, hcell⟩ := World.cells?_some h1
  obtain ⟨xs, k, hk, hxy, _, hxl, hf⟩ := DataW.trod_struct Tryz.underlying78 h2
  match xs, hxl, cs, hlen with
  | [y0, y1, y2], _, [v0, v1, v2], _ =>
    have g0 := hf 0 _ rfl
    have g1 := hf 1 _ rfl
    have g2 := hf 2 _ rfl
    simp [rw_c9, rw_c3] at g0 g1 g2
    obtain ⟨n0, e0, d0, b0⟩ := DataW.trod_string Tryz.underlying9 g0
    obtain ⟨n1, e1, d1, b1⟩ := DataW.trod_int Tryz.underlying3 g1
    obtain ⟨n2, e2, d2, b2⟩ := DataW.trod_string Tryz.underlying9 g2
    simp at e0 e1 e2
    subst e0 e1 e2
    have k0 := hcell 0 (by simp)
    have k1 := hcell 1 (by simp)
    have k2 := hcell 2 (by simp)
    have b3 : -9223372036854775808 ≤ n1 ∧ n1 ≤ 9223372036854775807 := by simpa [Lit.wf, IntKind.min, IntKind.max, IntKind.signed, IntKind.bits] using b1
    unfold maxLen at b0 b2
    refine ⟨⟨n0, n1, n2⟩, ?_, ?_, ?_, ⟨by show n0.size ≤ _; omega, by show n2.size ≤ _; omega, b3.1, b3.2⟩⟩
    · simpa using k0
    · simpa using k1
    · simpa using k2
end

section
variable {H : Type} {enc : TypeId × Value → H}
/-- A list of labels, from its one cell. -/
theorem open_labelsB {W : World} {fuel : Nat} {cs : List Value} {x : DataW H × List MemPlace} (hf : DataW.trod enc Tryz.prog W 0 (fun _ => true) true fuel 36 cs = some x) :
    ∃ (la : Option Addr) (lc : Nat) (l : List L.Lb), cs = [.slice la l.length lc] ∧ L.Ls W la l ∧ (la = none → l = [] ∧ lc = 0) ∧ l.length ≤ lc ∧ lc ≤ 9223372036854775807 := by
  rcases Go.Deep.open_slice Tryz.underlying36 hf with ⟨hcs, _⟩ | ⟨x, len, cap, m, n, D, Pl, hcs, _, hl, hm, hmm, hxd, hx⟩
  · exact ⟨none, 0, [], hcs, ⟨by simp, fun h => absurd rfl h⟩, fun _ => ⟨rfl, rfl⟩, by simp, by omega⟩
  · have hlm : len ≤ m := by
      rw [hmm]
      split <;> omega
    have each : ∀ i, i < len → ∃ s : L.Lb, W.cell? ((x.add (i * 2)).add 0) = some (.string s.n) ∧ W.cell? ((x.add (i * 2)).add 1) = some (.string s.v) ∧ s.n.size ≤ maxLen ∧ s.v.size ≤ maxLen := by
      intro i hi
      obtain ⟨cs', h1, h2⟩ := hx i (by omega)
      rw [rw_c50] at h1
      exact open_label h1 h2
    obtain ⟨y, hy⟩ := Go.Deep.choose_lt each
    unfold maxLen at hm hy
    refine ⟨some x, cap, (List.range len).map y, by simpa using hcs, ⟨fun z hz => ?_, fun h0 => ?_⟩, (fun e => by cases e), by simpa using hl, by omega⟩
    · obtain ⟨i, hi, rfl⟩ := List.mem_map.1 hz
      have := hy i (List.mem_range.1 hi)
      exact ⟨by omega, by omega⟩
    · have h0' : 0 < len := by
        rcases Nat.eq_zero_or_pos len with e | e
        · rw [e] at h0; simp at h0
        · exact e
      obtain ⟨b, off, sp⟩ := x
      have c := (hy 0 h0').1
      have hs : sp = none := by simpa [Addr.add] using World.cell?_spot c
      subst hs
      refine ⟨b, off, rfl, ?_, fun i z hz => ?_⟩
      · rcases Nat.lt_or_ge b W.heap.size with h' | h'
        · exact h'
        · simp [World.cell?, Addr.add, Array.getElem?_eq_none h'] at c
      · have hi : i < len := by have := (List.getElem?_eq_some_iff.1 hz).1; simpa using this
        have hz' : z = y i := by simp [List.getElem?_map, hi] at hz; exact hz.symm
        subst hz'
        have k := hy i hi
        simp only [Addr.add_lit, Nat.add_zero] at k
        exact ⟨k.1, k.2.1⟩
end
/-- Matchers that came in. -/
theorem open_matchers {H : Type} {enc : TypeId × Value → H} {W : World} {a : Option Addr} {len cap : Nat} {d : DataW H} {ps : List MemPlace} (h : DataW.Trod enc Tryz.prog W 0 (fun _ => true) true 37 (.slice a len cap) d ps) :
    ∃ l : List Mt, l.length = len ∧ Ms W a l ∧ len ≤ cap ∧ cap ≤ 9223372036854775807 ∧ (a = none → len = 0 ∧ cap = 0) := by
  obtain ⟨fuel, hf⟩ := h
  rcases Go.Deep.open_slice Tryz.underlying37 hf with ⟨hcs, _⟩ | ⟨x, l, c, m, n, D, Pl, hcs, _, hl, hm, hmm, hxd, hx⟩
  · simp [Value.cells] at hcs
    obtain ⟨rfl, rfl, rfl⟩ := hcs
    exact ⟨[], rfl, Ms.nil _ _, by omega, by omega, fun _ => ⟨rfl, rfl⟩⟩
  · simp [Value.cells] at hcs
    obtain ⟨rfl, rfl, rfl⟩ := hcs
    have hlm : len ≤ m := by
      rw [hmm]
      split <;> omega
    have each : ∀ i, i < len → ∃ s : Mt, W.cell? ((x.add (i * 3)).add 0) = some (.string s.n) ∧ W.cell? ((x.add (i * 3)).add 1) = some (.int .i64 s.op) ∧ W.cell? ((x.add (i * 3)).add 2) = some (.string s.t) ∧ OkM s := by
      intro i hi
      obtain ⟨cs', h1, h2⟩ := hx i (by omega)
      rw [rw_c31] at h1
      exact open_match h1 h2
    obtain ⟨y, hy⟩ := Go.Deep.choose_lt each
    unfold maxLen at hm
    refine ⟨(List.range len).map y, by simp, ⟨fun z hz => ?_, fun h0 => ?_⟩, hl, by omega, (fun e => by cases e)⟩
    · obtain ⟨i, hi, rfl⟩ := List.mem_map.1 hz
      exact (hy i (List.mem_range.1 hi)).2.2.2
    · have h0' : 0 < len := by
        rcases Nat.eq_zero_or_pos len with e | e
        · rw [e] at h0; simp at h0
        · exact e
      obtain ⟨b, off, sp⟩ := x
      have c := (hy 0 h0').1
      have hs : sp = none := by simpa [Addr.add] using World.cell?_spot c
      subst hs
      refine ⟨b, off, rfl, ?_, fun i z hz => ?_⟩
      · rcases Nat.lt_or_ge b W.heap.size with h' | h'
        · exact h'
        · simp [World.cell?, Addr.add, Array.getElem?_eq_none h'] at c
      · have hi : i < len := by have := (List.getElem?_eq_some_iff.1 hz).1; simpa using this
        have hz' : z = y i := by simp [List.getElem?_map, hi] at hz; exact hz.symm
        subst hz'
        have k := hy i hi
        simp only [Addr.add_lit, Nat.add_zero] at k
        exact ⟨k.1, k.2.1, k.2.2.1⟩

end Go.Proofs.YtgmdpbahcbhfjaaGreatDoor
/-
  Rows: deeds as they come in.
-/
namespace Go.Proofs.YtgmdpbahcbhfjaaGreatDoor
open Go.ChangeShapes Go.WideShapes Go.ChangeAt Go.RowKit

instance : Inhabited X.Dd := ⟨⟨0, false, []⟩⟩
theorem rw_c52 : Tryz.prog.cellsOf 52 = 3 := by kernel_rfl
theorem rw_c4 : Tryz.prog.cellsOf 4 = 1 := by kernel_rfl
section
variable {H : Type} {enc : TypeId × Value → H} {w : World} {base : Nat} {n : Nat}
set_option maxRecDepth 100000 in
/-- One deed, from its three cells. -/
theorem open_deed {w : World} {a : Addr} {cs : List Value} {x : DataW H × List MemPlace} (h1 : w.cells? 0 a 3 = some cs) (h2 : DataW.trod enc Tryz.prog w 0 (fun _ => true) true n 52 cs = some x) :
    ∃ d : X.Dd, w.cell? (a.add 0) = some (.int .i64 d.k) ∧ w.cell? (a.add 1) = some (.bool d.dr) ∧ (-9223372036854775808 ≤ d.k ∧ d.k ≤ 9223372036854775807) ∧ ∃ la lc, w.cell? (a.add 2) = some (.slice la d.l.length lc) ∧ L.Ls w la d.l ∧ (la = none → d.l = [] ∧ lc = 0) ∧ d.l.length ≤ lc ∧ lc ≤ 9223372036854775807 := by
  obtain ⟨_, hlen, hcell⟩ := World.cells?_some h1
  obtain ⟨xs, k, hk, hxy, _, hxl, hf⟩ := DataW.trod_struct Tryz.underlying52 h2
  match xs, hxl, cs, hlen with
  | [y0, y1, y2], _, [v0, v1, v2], _ =>
    have g0 := hf 0 _ rfl
    have g1 := hf 1 _ rfl
    have g2 := hf 2 _ rfl
    simp [rw_c3, rw_c4, rw_c36] at g0 g1 g2
    obtain ⟨n0, e0, d0, b0⟩ := DataW.trod_int Tryz.underlying3 g0
    obtain ⟨n1, e1, d1⟩ := DataW.trod_bool Tryz.underlying4 g1
    obtain ⟨la, lc, l, e2, q⟩ := open_labelsB g2
    simp at e0 e1 e2
    subst e0 e1 e2
    have k0 := hcell 0 (by simp)
    have k1 := hcell 1 (by simp)
    have k2 := hcell 2 (by simp)
    have b3 : -9223372036854775808 ≤ n0 ∧ n0 ≤ 9223372036854775807 := by simpa [Lit.wf, IntKind.min, IntKind.max, IntKind.signed, IntKind.bits] using b0
    exact ⟨⟨n0, n1, l⟩, by simpa using k0, by simpa using k1, b3, la, lc, by simpa using k2, q⟩
end
/-- Deeds that came in. -/
theorem open_deeds {H : Type} {enc : TypeId × Value → H} {W : World} {a : Option Addr} {len cap : Nat} {d : DataW H} {ps : List MemPlace} (h : DataW.Trod enc Tryz.prog W 0 (fun _ => true) true 46 (.slice a len cap) d ps) :
    ∃ l : List X.Dd, l.length = len ∧ X.Dds W a l ∧ len ≤ 9223372036854775807 := by
  obtain ⟨fuel, hf⟩ := h
  rcases Go.Deep.open_slice Tryz.underlying46 hf with ⟨hcs, _⟩ | ⟨x, l, c, m, n, D, Pl, hcs, _, hl, hm, hmm, hxd, hx⟩
  · simp [Value.cells] at hcs
    obtain ⟨rfl, rfl, rfl⟩ := hcs
    exact ⟨[], rfl, fun i d h => by simp at h, by omega⟩
  · simp [Value.cells] at hcs
    obtain ⟨rfl, rfl, rfl⟩ := hcs
    have hlm : len ≤ m := by
      rw [hmm]
      split <;> omega
    have each : ∀ i, i < len → ∃ d : X.Dd, W.cell? ((x.add (i * 3)).add 0) = some (.int .i64 d.k) ∧ W.cell? ((x.add (i * 3)).add 1) = some (.bool d.dr) ∧ (-9223372036854775808 ≤ d.k ∧ d.k ≤ 9223372036854775807) ∧ ∃ la lc, W.cell? ((x.add (i * 3)).add 2) = some (.slice la d.l.length lc) ∧ L.Ls W la d.l ∧ (la = none → d.l = [] ∧ lc = 0) ∧ d.l.length ≤ lc ∧ lc ≤ 9223372036854775807 := by
      intro i hi
      obtain ⟨cs', h1, h2⟩ := hx i (by omega)
      rw [rw_c52] at h1
      exact open_deed h1 h2
    obtain ⟨y, hy⟩ := Go.Deep.choose_lt each
    unfold maxLen at hm
    refine ⟨(List.range len).map y, by simp, fun i z hz => ?_, by omega⟩
    have hi : i < len := by have := (List.getElem?_eq_some_iff.1 hz).1; simpa using this
    have hz' : z = y i := by simp [List.getElem?_map, hi] at hz; exact hz.symm
    subst hz'
    obtain ⟨k0, k1, ⟨b1, b2⟩, la, lc, k2, q⟩ := hy i hi
    obtain ⟨b, off, sp⟩ := x
    have c0 := (hy 0 (by omega)).1
    have hs : sp = none := by simpa [Addr.add] using World.cell?_spot c0
    subst hs
    simp only [Addr.add_lit, Nat.add_zero] at k0 k1 k2
    refine ⟨b1, b2, b, off, la, lc, rfl, ?_, k0, k1, k2, q⟩
    rcases Nat.lt_or_ge b W.heap.size with h' | h'
    · exact h'
    · simp [World.cell?, Array.getElem?_eq_none h'] at k0
end Go.Proofs.YtgmdpbahcbhfjaaGreatDoor
