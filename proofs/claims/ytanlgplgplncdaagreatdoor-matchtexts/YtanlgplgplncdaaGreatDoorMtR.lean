/-
  Rows: lists of matchers and of labels as they come in; Go's tables.
-/
import Derived.Test.YtanlgplgplncdaaGreatDoorRows
import Derived.Test.YtanlgplgplncdaaGreatDoorTxF
import Derived.SizedLaws
import Derived.ProofKit
import Derived.OpenShut
import Derived.ShutString
import Derived.ChangeOld
import Derived.Deep.Slices
import Derived.PinnedBridge
import Derived.Lib.LaidU8T
namespace Go.Proofs.YtanlgplgplncdaaGreatDoor
open Go.ChangeShapes Go.WideShapes Go.ChangeAt Go.RowKit
open Go.ChangeMaps (open_string shut_string)
set_option linter.unusedVariables false
set_option linter.unusedSimpArgs false

theorem rw_own : ownKnob Tryz.prog.godebug = none := by kernel_rfl
theorem rw_laidOut : laidOutB Tryz.prog = true := by kernel_rfl
theorem rw_c9 : Tryz.prog.cellsOf 9 = 1 := by kernel_rfl
theorem rw_c3 : Tryz.prog.cellsOf 3 = 1 := by kernel_rfl
theorem rw_c31 : Tryz.prog.cellsOf 58 = 3 := by kernel_rfl
theorem rw_c50 : Tryz.prog.cellsOf 56 = 2 := by kernel_rfl

theorem rw_weights_mem_all {H : Type} {P : Program} {e : TypeId} : ∀ {ds : List (DataW H)} {d : DataW H}, d ∈ ds → ∀ n ∈ d.weights P e, n ∈ DataW.weightsAll P e ds
  | y :: t, d, hd, n, hn => by
    simp only [DataW.weightsAll, List.mem_append]
    rcases List.mem_cons.1 hd with rfl | hd
    · exact .inl hn
    · exact .inr (rw_weights_mem_all hd n hn)

section
variable {H : Type} {enc : TypeId × Value → H} {w : World} {base : Nat} {n : Nat}
set_option maxRecDepth 100000 in
/-- One label, from its two cells. -/
theorem open_label {a : Addr} {cs : List Value} {x : DataW H × List MemPlace} (h1 : w.cells? base a 2 = some cs) (h2 : DataW.trod enc Tryz.prog w base (fun _ => true) true n 56 cs = some x) :
    ∃ s : L.Lb, w.cell? (a.add 0) = some (.string s.n) ∧ w.cell? (a.add 1) = some (.string s.v) ∧ s.n.size ≤ maxLen ∧ s.v.size ≤ maxLen ∧ ((∀ k ∈ x.1.weights Tryz.prog 56, k ≤ reachBytes) → s.v.size ≤ 140737488355328) := by
  obtain ⟨_, hlen, hcell⟩ := World.cells?_some h1
  obtain ⟨xs, k, hk, hxy, _, hxl, hf⟩ := DataW.trod_struct Tryz.underlying56 h2
  match xs, hxl, cs, hlen with
  | [y0, y1], _, [v0, v1], _ =>
    have g0 := hf 0 _ rfl
    have g1 := hf 1 _ rfl
    simp [rw_c9] at g0 g1
    obtain ⟨n0, e0, d0, b0⟩ := DataW.trod_string Tryz.underlying9 g0
    obtain ⟨n1, e1, d1, b1⟩ := DataW.trod_string Tryz.underlying9 g1
    simp at e0 e1
    subst e0 e1
    have k0 := hcell 0 (by simp)
    have k1 := hcell 1 (by simp)
    refine ⟨⟨n0, n1⟩, ?_, ?_, b0, b1, fun hwt => ?_⟩
    · simpa using k0
    · simpa using k1
    · subst d0 d1
      have q1 := hwt (bts n1).length (by
        rw [hxy]
        simp only [DataW.weights, Tryz.underlying56]
        exact DataW.weights_mem_each (j := 1) (t := 9) (d := .lit (.string n1.data.toList)) rfl rfl _ (by simp [DataW.weights, bts]))
      rw [← size_bts] at q1
      simp only [reachBytes] at q1
      show n1.size ≤ _
      omega
set_option maxRecDepth 100000 in
/-- One matcher, from its three cells. -/
theorem open_match {a : Addr} {cs : List Value} {x : DataW H × List MemPlace} (h1 : w.cells? base a 3 = some cs) (h2 : DataW.trod enc Tryz.prog w base (fun _ => true) true n 58 cs = some x) :
    ∃ s : Mt, w.cell? (a.add 0) = some (.string s.n) ∧ w.cell? (a.add 1) = some (.int .i64 s.op) ∧ w.cell? (a.add 2) = some (.string s.t) ∧ OkM s ∧ ((∀ k ∈ x.1.weights Tryz.prog 58, k ≤ reachBytes) → s.t.size ≤ 140737488355328) := by
  obtain ⟨_, hlen, hcell⟩ := World.cells?_some h1
  obtain ⟨xs, k, hk, hxy, _, hxl, hf⟩ := DataW.trod_struct Tryz.underlying58 h2
  match xs, hxl, cs, hlen with
  | [y0, y1, y2], _, [v0, v1, v2], _ =>
    have g0 := hf 0 _ rfl
    have g1 := hf 1 _ rfl
    have g2 := hf 2 _ rfl
    simp [rw_c9, rw_c3] at g0 g1 g2
    obtain ⟨n0, e0, d0, b0⟩ := DataW.trod_string Tryz.underlying9 g0
    obtain ⟨n1, e1, d1, b1⟩ := DataW.trod_int Tryz.underlying3 g1
    obtain ⟨n2, e2, d2, b2⟩ := DataW.trod_string Tryz.underlying9 g2
    simp at e0 e1 e2
    subst e0 e1 e2
    have k0 := hcell 0 (by simp)
    have k1 := hcell 1 (by simp)
    have k2 := hcell 2 (by simp)
    have b3 : -9223372036854775808 ≤ n1 ∧ n1 ≤ 9223372036854775807 := by simpa [Lit.wf, IntKind.min, IntKind.max, IntKind.signed, IntKind.bits] using b1
    unfold maxLen at b0 b2
    refine ⟨⟨n0, n1, n2⟩, ?_, ?_, ?_, ⟨by show n0.size ≤ _; omega, by show n2.size ≤ _; omega, b3.1, b3.2⟩, fun hwt => ?_⟩
    · simpa using k0
    · simpa using k1
    · simpa using k2
    · subst d0 d1 d2
      have q1 := hwt (bts n2).length (by
        rw [hxy]
        simp only [DataW.weights, Tryz.underlying58]
        exact DataW.weights_mem_each (j := 2) (t := 9) (d := .lit (.string n2.data.toList)) rfl rfl _ (by simp [DataW.weights, bts]))
      rw [← size_bts] at q1
      simp only [reachBytes] at q1
      show n2.size ≤ _
      omega
end

/-- Labels that came in. -/
theorem open_labels {H : Type} {enc : TypeId × Value → H} {W : World} {a : Option Addr} {len cap : Nat} {d : DataW H} {ps : List MemPlace} (h : DataW.Trod enc Tryz.prog W 0 (fun _ => true) true 40 (.slice a len cap) d ps) (hwd : ∀ k ∈ d.weights Tryz.prog 40, k ≤ reachBytes) :
    ∃ l : List L.Lb, l.length = len ∧ L.Ls W a l ∧ len ≤ 9223372036854775807 ∧ ∀ x ∈ l, x.v.size ≤ 140737488355328 := by
  obtain ⟨fuel, hf⟩ := h
  rcases Go.Deep.open_slice Tryz.underlying40 hf with ⟨hcs, _⟩ | ⟨x, l, c, m, n, D, Pl, hcs, _, hl, hm, hmm, hxd, hx⟩
  · simp [Value.cells] at hcs
    obtain ⟨rfl, rfl, rfl⟩ := hcs
    exact ⟨[], rfl, ⟨by simp, fun h => absurd rfl h⟩, by omega, by simp⟩
  · simp [Value.cells] at hcs
    obtain ⟨rfl, rfl, rfl⟩ := hcs
    have hlm : len ≤ m := by
      rw [hmm]
      split <;> omega
    simp only [Prod.mk.injEq] at hxd
    obtain ⟨hd, _⟩ := hxd
    subst hd
    have each : ∀ i, i < len → ∃ s : L.Lb, W.cell? ((x.add (i * 2)).add 0) = some (.string s.n) ∧ W.cell? ((x.add (i * 2)).add 1) = some (.string s.v) ∧ s.n.size ≤ maxLen ∧ s.v.size ≤ maxLen ∧ s.v.size ≤ 140737488355328 := by
      intro i hi
      obtain ⟨cs', h1, h2⟩ := hx i (by omega)
      rw [rw_c50] at h1
      obtain ⟨s, t0, t1, t2, t3, t4⟩ := open_label h1 h2
      refine ⟨s, t0, t1, t2, t3, t4 (fun k hk => hwd k ?_)⟩
      simp only [DataW.weights, Tryz.underlying40, List.mem_cons, List.mem_append]
      exact .inr (.inl (rw_weights_mem_all (List.mem_map.2 ⟨i, List.mem_range.2 hi, rfl⟩) k hk))
    obtain ⟨y, hy⟩ := Go.Deep.choose_lt each
    unfold maxLen at hm hy
    refine ⟨(List.range len).map y, by simp, ⟨fun z hz => ?_, fun h0 => ?_⟩, by omega, fun z hz => ?_⟩
    · obtain ⟨i, hi, rfl⟩ := List.mem_map.1 hz
      have := hy i (List.mem_range.1 hi)
      exact ⟨by omega, by omega⟩
    · have h0' : 0 < len := by
        rcases Nat.eq_zero_or_pos len with e | e
        · rw [e] at h0; simp at h0
        · exact e
      obtain ⟨b, off, sp⟩ := x
      have c := (hy 0 h0').1
      have hs : sp = none := by simpa [Addr.add] using World.cell?_spot c
      subst hs
      refine ⟨b, off, rfl, ?_, fun i z hz => ?_⟩
      · rcases Nat.lt_or_ge b W.heap.size with h' | h'
        · exact h'
        · simp [World.cell?, Addr.add, Array.getElem?_eq_none h'] at c
      · have hi : i < len := by have := (List.getElem?_eq_some_iff.1 hz).1; simpa using this
        have hz' : z = y i := by simp [List.getElem?_map, hi] at hz; exact hz.symm
        subst hz'
        have k := hy i hi
        simp only [Addr.add_lit, Nat.add_zero] at k
        exact ⟨k.1, k.2.1⟩
    · obtain ⟨i, hi, rfl⟩ := List.mem_map.1 hz
      exact (hy i (List.mem_range.1 hi)).2.2.2.2
/-- Matchers that came in. -/
theorem open_matchers {H : Type} {enc : TypeId × Value → H} {W : World} {a : Option Addr} {len cap : Nat} {d : DataW H} {ps : List MemPlace} (h : DataW.Trod enc Tryz.prog W 0 (fun _ => true) true 22 (.slice a len cap) d ps) (hwd : ∀ k ∈ d.weights Tryz.prog 22, k ≤ reachBytes) :
    ∃ l : List Mt, l.length = len ∧ Ms W a l ∧ len ≤ cap ∧ cap ≤ 9223372036854775807 ∧ (a = none → len = 0 ∧ cap = 0) ∧ Tz l := by
  obtain ⟨fuel, hf⟩ := h
  rcases Go.Deep.open_slice Tryz.underlying22 hf with ⟨hcs, _⟩ | ⟨x, l, c, m, n, D, Pl, hcs, _, hl, hm, hmm, hxd, hx⟩
  · simp [Value.cells] at hcs
    obtain ⟨rfl, rfl, rfl⟩ := hcs
    exact ⟨[], rfl, Ms.nil _ _, by omega, by omega, fun _ => ⟨rfl, rfl⟩, fun x hx => by cases hx⟩
  · simp [Value.cells] at hcs
    obtain ⟨rfl, rfl, rfl⟩ := hcs
    have hlm : len ≤ m := by
      rw [hmm]
      split <;> omega
    simp only [Prod.mk.injEq] at hxd
    obtain ⟨hd, _⟩ := hxd
    subst hd
    have each : ∀ i, i < len → ∃ s : Mt, W.cell? ((x.add (i * 3)).add 0) = some (.string s.n) ∧ W.cell? ((x.add (i * 3)).add 1) = some (.int .i64 s.op) ∧ W.cell? ((x.add (i * 3)).add 2) = some (.string s.t) ∧ OkM s ∧ s.t.size ≤ 140737488355328 := by
      intro i hi
      obtain ⟨cs', h1, h2⟩ := hx i (by omega)
      rw [rw_c31] at h1
      obtain ⟨s, t0, t1, t2, t3, t4⟩ := open_match h1 h2
      refine ⟨s, t0, t1, t2, t3, t4 (fun k hk => hwd k ?_)⟩
      simp only [DataW.weights, Tryz.underlying22, List.mem_cons, List.mem_append]
      exact .inr (.inl (rw_weights_mem_all (List.mem_map.2 ⟨i, List.mem_range.2 hi, rfl⟩) k hk))
    obtain ⟨y, hy⟩ := Go.Deep.choose_lt each
    unfold maxLen at hm
    refine ⟨(List.range len).map y, by simp, ⟨fun z hz => ?_, fun h0 => ?_⟩, hl, by omega, (fun e => by cases e), fun z hz => ?_⟩
    · obtain ⟨i, hi, rfl⟩ := List.mem_map.1 hz
      exact (hy i (List.mem_range.1 hi)).2.2.2.1
    · have h0' : 0 < len := by
        rcases Nat.eq_zero_or_pos len with e | e
        · rw [e] at h0; simp at h0
        · exact e
      obtain ⟨b, off, sp⟩ := x
      have c := (hy 0 h0').1
      have hs : sp = none := by simpa [Addr.add] using World.cell?_spot c
      subst hs
      refine ⟨b, off, rfl, ?_, fun i z hz => ?_⟩
      · rcases Nat.lt_or_ge b W.heap.size with h' | h'
        · exact h'
        · simp [World.cell?, Addr.add, Array.getElem?_eq_none h'] at c
      · have hi : i < len := by have := (List.getElem?_eq_some_iff.1 hz).1; simpa using this
        have hz' : z = y i := by simp [List.getElem?_map, hi] at hz; exact hz.symm
        subst hz'
        have k := hy i hi
        simp only [Addr.add_lit, Nat.add_zero] at k
        exact ⟨k.1, k.2.1, k.2.2.1⟩
    · obtain ⟨i, hi, rfl⟩ := List.mem_map.1 hz
      exact Nat.le_trans (hy i (List.mem_range.1 hi)).2.2.2.2 (by omega)

end Go.Proofs.YtanlgplgplncdaaGreatDoor
