/-
  Lists of labels as they come in, with the sizes of the texts within.
-/
import Derived.Test.YtpdffdoogobhfaaDoorLwR
import Derived.Test.YtpdffdoogobhfaaDoorReD
namespace Go.Proofs.YtpdffdoogobhfaaDoor
open Go.ChangeShapes Go.WideShapes Go.ChangeAt Go.RowKit
open Go.ChangeMaps (open_string shut_string)
set_option linter.unusedVariables false
set_option linter.unusedSimpArgs false

theorem weights_mem_all {H : Type} {P : Program} {e : TypeId} : ∀ {ds : List (DataW H)} {d : DataW H}, d ∈ ds → ∀ n ∈ d.weights P e, n ∈ DataW.weightsAll P e ds
  | y :: t, d, hd, n, hn => by
    simp only [DataW.weightsAll, List.mem_append]
    rcases List.mem_cons.1 hd with rfl | hd
    · exact .inl hn
    · exact .inr (weights_mem_all hd n hn)

section
variable {H : Type} {enc : TypeId × Value → H} {w : World} {base : Nat} {n : Nat}
set_option maxRecDepth 100000 in
theorem label_small {a : Addr} {cs : List Value} {x : DataW H × List MemPlace} (h1 : w.cells? base a 2 = some cs) (h2 : DataW.trod enc Tryd.prog w base (fun _ => true) true n 35 cs = some x) (hwt : ∀ k ∈ x.1.weights Tryd.prog 35, k ≤ reachBytes) :
    ∀ s t : ByteArray, w.cell? (a.add 0) = some (.string s) → w.cell? (a.add 1) = some (.string t) → s.size ≤ 4611686018427387904 ∧ t.size ≤ 4611686018427387904 := by
  obtain ⟨_, hlen, hcell⟩ := World.cells?_some h1
  obtain ⟨xs, k, hk, hxy, _, hxl, hf⟩ := DataW.trod_struct Tryd.underlying35 h2
  match xs, hxl, cs, hlen with
  | [y0, y1], _, [v0, v1], _ =>
    have g0 := hf 0 _ rfl
    have g1 := hf 1 _ rfl
    simp [c9] at g0 g1
    obtain ⟨n0, e0, d0, b0⟩ := DataW.trod_string Tryd.underlying9 g0
    obtain ⟨n1, e1, d1, b1⟩ := DataW.trod_string Tryd.underlying9 g1
    simp at e0 e1
    subst e0 e1
    have k0 := hcell 0 (by simp)
    have k1 := hcell 1 (by simp)
    intro s t hs ht
    have es : s = n0 := by simpa using (show some (Value.string s) = some (.string n0) from by rw [← hs]; simpa using k0)
    have et : t = n1 := by simpa using (show some (Value.string t) = some (.string n1) from by rw [← ht]; simpa using k1)
    subst es et d0 d1
    have q0 := hwt (bts s).length (by
      rw [hxy]
      simp only [DataW.weights, Tryd.underlying35]
      exact DataW.weights_mem_each (j := 0) (t := 9) (d := .lit (.string s.data.toList)) rfl rfl _ (by simp [DataW.weights, bts]))
    have q1 := hwt (bts t).length (by
      rw [hxy]
      simp only [DataW.weights, Tryd.underlying35]
      exact DataW.weights_mem_each (j := 1) (t := 9) (d := .lit (.string t.data.toList)) rfl rfl _ (by simp [DataW.weights, bts]))
    rw [← size_bts] at q0 q1
    simp only [reachBytes] at q0 q1
    exact ⟨by omega, by omega⟩
end

theorem labels_small {H : Type} {enc : TypeId × Value → H} {W : World} {a : Option Addr} {cap : Nat} {l : List Lb} {d : DataW H} {ps : List MemPlace} (h : DataW.Trod enc Tryd.prog W 0 (fun _ => true) true 22 (.slice a l.length cap) d ps) (hwd : ∀ k ∈ d.weights Tryd.prog 22, k ≤ reachBytes) (hA : Ar W a cap l) : Sm l := by
  obtain ⟨fuel, hf⟩ := h
  rcases Go.Deep.open_slice Tryd.underlying22 hf with ⟨hcs, _⟩ | ⟨x, len, c, m, n, D, Pl, hcs, _, hl, hm, hmm, hxd, hx⟩
  · simp [Value.cells] at hcs
    obtain ⟨rfl, h0, rfl⟩ := hcs
    subst h0
    intro x hx; cases hx
  · simp [Value.cells] at hcs
    obtain ⟨rfl, rfl, rfl⟩ := hcs
    have hlm : l.length ≤ m := by
      rw [hmm]
      split <;> omega
    simp only [Prod.mk.injEq] at hxd
    obtain ⟨hd, _⟩ := hxd
    subst hd
    intro z hz
    obtain ⟨i, hi, e⟩ := List.getElem_of_mem hz
    obtain ⟨b, off, y, e1, _, _, hy, c0, c1, _, _⟩ := hA.ls.get (i := i) hi
    rw [hy] at e
    subst e
    injection e1 with e1
    subst e1
    obtain ⟨cs', h1, h2⟩ := hx i (by omega)
    rw [c35] at h1
    refine label_small h1 h2 (fun k hk => hwd k ?_) _ _ ?_ ?_
    · simp only [DataW.weights, Tryd.underlying22, List.mem_cons, List.mem_append]
      exact .inr (.inl (weights_mem_all (List.mem_map.2 ⟨i, List.mem_range.2 hi, rfl⟩) k hk))
    · simpa [Addr.add_lit] using c0
    · simpa [Addr.add_lit, Nat.add_assoc] using c1

end Go.Proofs.YtpdffdoogobhfaaDoor
