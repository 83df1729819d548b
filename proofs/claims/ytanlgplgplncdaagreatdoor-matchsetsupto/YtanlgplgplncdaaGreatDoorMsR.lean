/-
  Rows: lists of lists of labels as they come in, up to the bound.
-/
import Derived.Test.YtanlgplgplncdaaGreatDoorMtR
import Derived.Test.YtanlgplgplncdaaGreatDoorMsD
namespace Go.Proofs.YtanlgplgplncdaaGreatDoor
open Go.ChangeShapes Go.WideShapes Go.ChangeAt Go.RowKit
set_option linter.unusedVariables false
set_option linter.unusedSimpArgs false

theorem bulk_part {H : Type} {d : DataW H} {l : List (DataW H)} (h : d ∈ l) : Rows.uptoBulk d ≤ Rows.uptoBulkAll l := by
  induction l with
  | nil => cases h
  | cons x r ih =>
    simp only [Rows.uptoBulkAll]
    cases List.mem_cons.1 h with
    | inl e => subst e; omega
    | inr e => have := ih e; omega
theorem bulk_elem {H : Type} {d : DataW H} {el sp : List (DataW H)} (h : d ∈ el) : Rows.uptoBulk d ≤ Rows.uptoBulk (.slice el sp) := by
  have := bulk_part h
  simp only [Rows.uptoBulk]
  omega
theorem rw_c40 : Tryz.prog.cellsOf 40 = 1 := by kernel_rfl

section
variable {H : Type} {enc : TypeId × Value → H} {w : World} {base : Nat} {n : Nat}
set_option maxRecDepth 100000 in
/-- One label, from its two cells, and its bulk. -/
theorem open_labelB {a : Addr} {cs : List Value} {x : DataW H × List MemPlace} (h1 : w.cells? base a 2 = some cs) (h2 : DataW.trod enc Tryz.prog w base (fun _ => true) true n 56 cs = some x) :
    ∃ s : L.Lb, w.cell? (a.add 0) = some (.string s.n) ∧ w.cell? (a.add 1) = some (.string s.v) ∧ s.n.size ≤ maxLen ∧ s.v.size ≤ maxLen ∧ s.v.size ≤ Rows.uptoBulk x.1 := by
  obtain ⟨_, hlen, hcell⟩ := World.cells?_some h1
  obtain ⟨xs, k, hk, hxy, _, hxl, hf⟩ := DataW.trod_struct Tryz.underlying56 h2
  match xs, hxl, cs, hlen with
  | [y0, y1], _, [v0, v1], _ =>
    have g0 := hf 0 _ rfl
    have g1 := hf 1 _ rfl
    simp [rw_c9] at g0 g1
    obtain ⟨n0, e0, d0, b0⟩ := DataW.trod_string Tryz.underlying9 g0
    obtain ⟨n1, e1, d1, b1⟩ := DataW.trod_string Tryz.underlying9 g1
    simp at e0 e1
    subst e0 e1
    have k0 := hcell 0 (by simp)
    have k1 := hcell 1 (by simp)
    refine ⟨⟨n0, n1⟩, ?_, ?_, b0, b1, ?_⟩
    · simpa using k0
    · simpa using k1
    · subst d0 d1
      rw [hxy]
      have hs : n1.size = n1.data.toList.length := by rw [size_bts]; rfl
      show n1.size ≤ _
      rw [hs]
      simp only [List.map_cons, List.map_nil, Rows.uptoBulk, Rows.uptoBulkAll]
      omega
/-- A list of labels, from its one cell. -/
theorem open_labelsB {W : World} {fuel : Nat} {cs : List Value} {d : DataW H} {ps : List MemPlace} (hf : DataW.trod enc Tryz.prog W 0 (fun _ => true) true fuel 40 cs = some (d, ps)) (hb : Rows.uptoBulk d ≤ 1048576) :
    ∃ (la : Option Addr) (lc : Nat) (l : List L.Lb), cs = [.slice la l.length lc] ∧ L.Ls W la l ∧ l.length ≤ 9223372036854775807 ∧ ∀ x ∈ l, x.v.size ≤ 1048576 := by
  rcases Go.Deep.open_slice Tryz.underlying40 hf with ⟨hcs, _⟩ | ⟨x, len, cap, m, n, D, Pl, hcs, _, hl, hm, hmm, hxd, hx⟩
  · exact ⟨none, 0, [], hcs, ⟨by simp, fun h => absurd rfl h⟩, by simp, by simp⟩
  · have hlm : len ≤ m := by
      rw [hmm]
      split <;> omega
    simp only [Prod.mk.injEq] at hxd
    obtain ⟨hd, _⟩ := hxd
    subst hd
    have each : ∀ i, i < len → ∃ s : L.Lb, W.cell? ((x.add (i * 2)).add 0) = some (.string s.n) ∧ W.cell? ((x.add (i * 2)).add 1) = some (.string s.v) ∧ s.n.size ≤ maxLen ∧ s.v.size ≤ maxLen ∧ s.v.size ≤ 1048576 := by
      intro i hi
      obtain ⟨cs', h1, h2⟩ := hx i (by omega)
      rw [rw_c50] at h1
      obtain ⟨s, t0, t1, t2, t3, t4⟩ := open_labelB h1 h2
      refine ⟨s, t0, t1, t2, t3, Nat.le_trans t4 (Nat.le_trans ?_ hb)⟩
      exact bulk_elem (List.mem_map.2 ⟨i, List.mem_range.2 hi, rfl⟩)
    obtain ⟨y, hy⟩ := Go.Deep.choose_lt each
    unfold maxLen at hm hy
    refine ⟨some x, cap, (List.range len).map y, by simpa using hcs, ⟨fun z hz => ?_, fun h0 => ?_⟩, by simp; omega, fun z hz => ?_⟩
    · obtain ⟨i, hi, rfl⟩ := List.mem_map.1 hz
      have := hy i (List.mem_range.1 hi)
      exact ⟨by omega, by omega⟩
    · have h0' : 0 < len := by
        rcases Nat.eq_zero_or_pos len with e | e
        · rw [e] at h0; simp at h0
        · exact e
      obtain ⟨b, off, sp⟩ := x
      have c := (hy 0 h0').1
      have hs : sp = none := by simpa [Addr.add] using World.cell?_spot c
      subst hs
      refine ⟨b, off, rfl, ?_, fun i z hz => ?_⟩
      · rcases Nat.lt_or_ge b W.heap.size with h' | h'
        · exact h'
        · simp [World.cell?, Addr.add, Array.getElem?_eq_none h'] at c
      · have hi : i < len := by have := (List.getElem?_eq_some_iff.1 hz).1; simpa using this
        have hz' : z = y i := by simp [List.getElem?_map, hi] at hz; exact hz.symm
        subst hz'
        have k := hy i hi
        simp only [Addr.add_lit, Nat.add_zero] at k
        exact ⟨k.1, k.2.1⟩
    · obtain ⟨i, hi, rfl⟩ := List.mem_map.1 hz
      exact (hy i (List.mem_range.1 hi)).2.2.2.2
end

/-- Lists of labels that came in. -/
theorem open_lists {H : Type} {enc : TypeId × Value → H} {W : World} {a : Option Addr} {len cap : Nat} {d : DataW H} {ps : List MemPlace} (h : DataW.Trod enc Tryz.prog W 0 (fun _ => true) true 23 (.slice a len cap) d ps) (hb : Rows.uptoBulk d ≤ 1048576) :
    ∃ ls : List (List L.Lb), ls.length = len ∧ LL W a ls ∧ len ≤ 9223372036854775807 := by
  obtain ⟨fuel, hf⟩ := h
  rcases Go.Deep.open_slice1 Tryz.underlying23 rw_c40 hf with ⟨hcs, _⟩ | ⟨x, l, c, m, n, V, D, Pl, hcs, _, hl, hm, hmm, hxd, hx⟩
  · simp [Value.cells] at hcs
    obtain ⟨rfl, rfl, rfl⟩ := hcs
    exact ⟨[], rfl, fun k lb hk => by simp at hk, by omega⟩
  · simp [Value.cells] at hcs
    obtain ⟨rfl, rfl, rfl⟩ := hcs
    have hlm : len ≤ m := by
      rw [hmm]
      split <;> omega
    simp only [Prod.mk.injEq] at hxd
    obtain ⟨hd, _⟩ := hxd
    subst hd
    have each : ∀ i, i < len → ∃ lb : List L.Lb, ∃ la lc, W.cell? (x.add i) = some (.slice la lb.length lc) ∧ L.Ls W la lb ∧ lb.length ≤ 9223372036854775807 ∧ ∀ y ∈ lb, y.v.size ≤ 1048576 := by
      intro i hi
      obtain ⟨h1, h2⟩ := hx i (by omega)
      obtain ⟨la, lc, lb, e, q1, q2, q3⟩ := open_labelsB h2 (Nat.le_trans (bulk_elem (List.mem_map.2 ⟨i, List.mem_range.2 hi, rfl⟩)) hb)
      simp only [List.cons.injEq, and_true] at e
      rw [e] at h1
      exact ⟨lb, la, lc, h1, q1, q2, q3⟩
    obtain ⟨y, hy⟩ := Go.Deep.choose_lt each
    unfold maxLen at hm
    refine ⟨(List.range len).map y, by simp, fun k lb hk => ?_, by omega⟩
    have hi : k < len := by have := (List.getElem?_eq_some_iff.1 hk).1; simpa using this
    have hz' : lb = y k := by simp [List.getElem?_map, hi] at hk; exact hk.symm
    subst hz'
    obtain ⟨la, lc, q0, q1, q2, q3⟩ := hy k hi
    obtain ⟨b, off, sp⟩ := x
    obtain ⟨la0, lc0, r0, -⟩ := hy 0 (by omega)
    have hs : sp = none := by simpa [Addr.add] using World.cell?_spot r0
    subst hs
    rw [Addr.add_lit] at q0
    refine ⟨b, off, la, lc, rfl, ?_, q0, q1, q2, q3⟩
    rcases Nat.lt_or_ge b W.heap.size with h' | h'
    · exact h'
    · simp [World.cell?, Array.getElem?_eq_none h'] at q0

end Go.Proofs.YtanlgplgplncdaaGreatDoor
