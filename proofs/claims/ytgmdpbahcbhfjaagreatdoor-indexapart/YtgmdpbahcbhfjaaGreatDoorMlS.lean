import Derived.Test.YtgmdpbahcbhfjaaGreatDoorMlG
import Derived.Sort.KeysCollected
set_option linter.unusedSimpArgs false
set_option linter.unusedVariables false
set_option maxHeartbeats 40000000
set_option maxRecDepth 100000
/-
  A map with text keys, as the library's contracts want it. Nothing of the program.
-/
namespace Go.Proofs.YtgmdpbahcbhfjaaGreatDoor
open Go.RowKit Go.MapKept Go.Maps

def RU : Value → Option (DataW Unit × List MemPlace) := fun _ => some (.nil, [])
theorem keyOf_strB {P : Program} {k : TypeId} (hk : P.underlying k = some .string) {a : ByteArray} (h : a.size ≤ maxLen) : keyOf P k (.string a) = some (.string a.data.toList) := by
  unfold keyOf mapKey
  simp [hk, h]
theorem Ml.ownsS {P : Program} {k : TypeId} {w : World} {b : Nat} {l : List (ByteArray × Value)} (hk : P.underlying k = some .string) (h : Ml Value.string w b l) (hwf : ∀ p ∈ l, p.1.size ≤ maxLen) (hl : l.length ≤ maxLen) :
    ∃ D : DataW Unit, w.ownsMap P k RU b l.length D ∧ (strKeys D).Perm (l.map fun p => p.1.data.toList) ∧ Maps.size D = l.length := by
  obtain ⟨es, clock, hb, hs, hp⟩ := h
  have hz : es.size = l.length := by
    have := hp.length_eq
    simpa using this
  have hkey : ∀ x ∈ es.toList, ∃ a : ByteArray, x.key = .string a ∧ a.size ≤ maxLen := by
    intro x hx
    have h1 : (x.key, x.val) ∈ es.toList.map (fun x => (x.key, x.val)) := List.mem_map.2 ⟨x, hx, rfl⟩
    have h2 := hp.mem_iff.1 h1
    obtain ⟨p, hp1, hp2⟩ := List.mem_map.1 h2
    have h3 := (Prod.mk.inj hp2).1
    exact ⟨p.1, h3.symm, hwf p hp1⟩
  have hrd : ∀ x ∈ es.toList, ∃ a : ByteArray, x.key = .string a ∧ Go.WideElems.rd P k RU x = some (.string a.data.toList, .nil) := by
    intro x hx
    obtain ⟨a, ha, hw⟩ := hkey x hx
    refine ⟨a, ha, ?_⟩
    unfold Go.WideElems.rd
    rw [ha, keyOf_strB hk hw]
    rfl
  refine ⟨_, ⟨es, clock, hb, ⟨by omega, hs, fun x hx => ?_⟩, by omega, rfl⟩, ?_, ?_⟩
  · obtain ⟨a, _, h2⟩ := hrd x hx
    exact ⟨_, h2⟩
  · show (((es.toList.map (Go.WideElems.rg P k RU)).foldr DataW.insert []).map fun p => strOf p.1).Perm _
    refine ((Go.WideShapes.sorted_perm _).map _).trans ?_
    rw [List.map_map]
    have e1 : es.toList.map ((fun p : Lit × DataW Unit => strOf p.1) ∘ Go.WideElems.rg P k RU) = (es.toList.map (fun x => (x.key, x.val))).map (fun q => match q.1 with | .string a => a.data.toList | _ => []) := by
      rw [List.map_map]
      refine List.map_congr_left fun x hx => ?_
      obtain ⟨a, h1, h2⟩ := hrd x hx
      simp only [Function.comp_apply, Go.WideElems.rg, h2, Option.getD_some, h1, strOf]
    have e2 : l.map (fun p => p.1.data.toList) = (l.map fun p => (Value.string p.1, p.2)).map (fun q => match q.1 with | .string a => a.data.toList | _ => []) := by
      rw [List.map_map]
      rfl
    rw [e1, e2]
    exact hp.map _
  · show ((es.toList.map (Go.WideElems.rg P k RU)).foldr DataW.insert []).length = _
    rw [length_sorted, List.length_map, Array.length_toList, hz]
end Go.Proofs.YtgmdpbahcbhfjaaGreatDoor
