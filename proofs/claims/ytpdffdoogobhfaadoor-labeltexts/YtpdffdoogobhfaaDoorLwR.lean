/-
  Rows: lists of labels as they come in; Go's tables.
-/
import Derived.Test.YtpdffdoogobhfaaDoorRows
import Derived.Test.YtpdffdoogobhfaaDoorLwD
import Derived.SizedLaws
import Derived.ProofKit
import Derived.OpenShut
import Derived.ShutString
import Derived.ChangeOld
import Derived.Deep.Slices
import Derived.PinnedBridge
import Derived.Lib.LaidU8T
namespace Go.Proofs.YtpdffdoogobhfaaDoor
open Go.ChangeShapes Go.WideShapes Go.ChangeAt Go.RowKit
open Go.ChangeMaps (open_string shut_string)
set_option linter.unusedVariables false
set_option linter.unusedSimpArgs false

theorem own : ownKnob Tryd.prog.godebug = none := by kernel_rfl
theorem laidOut : laidOutB Tryd.prog = true := by kernel_rfl
theorem c9 : Tryd.prog.cellsOf 9 = 1 := by kernel_rfl
theorem c35 : Tryd.prog.cellsOf 35 = 2 := by kernel_rfl
theorem bytes35 : Tryd.prog.bytesOf 35 = 32 := by kernel_rfl

section
variable {H : Type} {enc : TypeId × Value → H} {w : World} {base : Nat} {n : Nat}
set_option maxRecDepth 100000 in
/-- One label, from its two cells. -/
theorem open_label {a : Addr} {cs : List Value} {x : DataW H × List MemPlace} (h1 : w.cells? base a 2 = some cs) (h2 : DataW.trod enc Tryd.prog w base (fun _ => true) true n 35 cs = some x) :
    ∃ s : Lb, w.cell? (a.add 0) = some (.string s.n) ∧ w.cell? (a.add 1) = some (.string s.v) ∧ s.n.size ≤ maxLen ∧ s.v.size ≤ maxLen := by
  obtain ⟨_, hlen, hcell⟩ := World.cells?_some h1
  obtain ⟨xs, k, hk, hxy, _, hxl, hf⟩ := DataW.trod_struct Tryd.underlying35 h2
  match xs, hxl, cs, hlen with
  | [y0, y1], _, [v0, v1], _ =>
    have g0 := hf 0 _ rfl
    have g1 := hf 1 _ rfl
    simp [c9] at g0 g1
    obtain ⟨n0, e0, _, b0⟩ := DataW.trod_string Tryd.underlying9 g0
    obtain ⟨n1, e1, _, b1⟩ := DataW.trod_string Tryd.underlying9 g1
    simp at e0 e1
    subst e0 e1
    have k0 := hcell 0 (by simp)
    have k1 := hcell 1 (by simp)
    refine ⟨⟨n0, n1⟩, ?_, ?_, b0, b1⟩
    · simpa using k0
    · simpa using k1
end

theorem open_labels {H : Type} {enc : TypeId × Value → H} {W : World} {a : Option Addr} {len cap : Nat} {d : DataW H} {ps : List MemPlace} (h : DataW.Trod enc Tryd.prog W 0 (fun _ => true) true 22 (.slice a len cap) d ps) (hwd : ∀ k ∈ d.weights Tryd.prog 22, k ≤ reachBytes) :
    ∃ l : List Lb, l.length = len ∧ Ar W a cap l := by
  obtain ⟨fuel, hf⟩ := h
  rcases Go.Deep.open_slice Tryd.underlying22 hf with ⟨hcs, _⟩ | ⟨x, l, c, m, n, D, Pl, hcs, _, hl, hm, hmm, hxd, hx⟩
  · simp [Value.cells] at hcs
    obtain ⟨rfl, rfl, rfl⟩ := hcs
    exact ⟨[], rfl, Ls.nil _ _, fun _ => ⟨rfl, rfl⟩, by simp, Nat.le_refl _⟩
  · simp [Value.cells] at hcs
    obtain ⟨rfl, rfl, rfl⟩ := hcs
    have hlm : len ≤ m := by
      rw [hmm]
      split <;> omega
    simp only [Prod.mk.injEq] at hxd
    obtain ⟨hd, _⟩ := hxd
    subst hd
    have each : ∀ i, i < len → ∃ s : Lb, W.cell? ((x.add (i * 2)).add 0) = some (.string s.n) ∧ W.cell? ((x.add (i * 2)).add 1) = some (.string s.v) ∧ s.n.size ≤ maxLen ∧ s.v.size ≤ maxLen := by
      intro i hi
      obtain ⟨cs', h1, h2⟩ := hx i (by omega)
      rw [c35] at h1
      exact open_label h1 h2
    obtain ⟨y, hy⟩ := Go.Deep.choose_lt each
    have hlen : len * 32 ≤ 140737488351232 := by
      have := hwd _ (by simp only [DataW.weights, Tryd.underlying22, List.mem_cons]; exact .inl rfl)
      rw [bytes35] at this
      simp only [List.length_map, List.length_range, reachBytes] at this
      omega
    refine ⟨(List.range len).map y, by simp, ?_, (fun e => by cases e), by simpa using hlen, by simpa using hl⟩
    · refine ⟨fun z hz => ?_, fun h0 => ?_⟩
      · obtain ⟨i, hi, rfl⟩ := List.mem_map.1 hz
        have := hy i (List.mem_range.1 hi)
        unfold maxLen at this
        exact ⟨by omega, by omega⟩
      · have h0' : 0 < len := by
          rcases Nat.eq_zero_or_pos len with e | e
          · rw [e] at h0; simp at h0
          · exact e
        obtain ⟨b, off, sp⟩ := x
        have c := (hy 0 h0').1
        have hs : sp = none := by simpa [Addr.add] using World.cell?_spot c
        subst hs
        refine ⟨b, off, rfl, ?_, fun i z hz => ?_⟩
        · rcases Nat.lt_or_ge b W.heap.size with h' | h'
          · exact h'
          · simp [World.cell?, Addr.add, Array.getElem?_eq_none h'] at c
        · have hi : i < len := by have := (List.getElem?_eq_some_iff.1 hz).1; simpa using this
          have hz' : z = y i := by simp [List.getElem?_map, hi] at hz; exact hz.symm
          subst hz'
          have k := hy i hi
          simp only [Addr.add_lit, Nat.add_zero] at k
          exact ⟨k.1, k.2.1⟩

end Go.Proofs.YtpdffdoogobhfaaDoor
