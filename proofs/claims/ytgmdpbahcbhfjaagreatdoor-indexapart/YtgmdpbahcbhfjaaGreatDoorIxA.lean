import Derived.Test.YtgmdpbahcbhfjaaGreatDoorMlR
import Derived.Test.YtgmdpbahcbhfjaaGreatDoorLbM
import Derived.Test.YtgmdpbahcbhfjaaGreatDoorChecked
set_option linter.unusedSimpArgs false
set_option linter.unusedVariables false
set_option maxHeartbeats 40000000
set_option maxRecDepth 100000
/-
  Package index: keys of its maps.
-/
namespace Go.Proofs.YtgmdpbahcbhfjaaGreatDoor
open Go.RowKit

theorem ix_laidOut : laidOutB Tryz.prog = true := by kernel_rfl
theorem ix_size : 110 < Tryz.prog.types.size ∧ 105 < Tryz.prog.types.size := ⟨of_decide_eq_true (by kernel_rfl), of_decide_eq_true (by kernel_rfl)⟩
theorem law105 : WideMaps.KeyLaw Tryz.prog 105 := deep_law_laid ix_laidOut (m := 2) (by omega) ix_size.2 (by kernel_rfl) (by rw [Tryz.underlying105])
theorem law110 : WideMaps.KeyLaw Tryz.prog 110 := deep_law_laid ix_laidOut (m := 3) (by omega) ix_size.1 (by kernel_rfl) (by rw [Tryz.underlying110])
theorem cof9 : Tryz.prog.cellsOf 9 = 1 := by kernel_rfl
theorem cof75 : Tryz.prog.cellsOf 75 = 2 := by kernel_rfl
theorem cof105 : Tryz.prog.cellsOf 105 = 3 := by kernel_rfl
theorem cof110 : Tryz.prog.cellsOf 110 = 16 := by kernel_rfl
theorem kt105 : Tryz.prog.keyType 105 = true := by kernel_rfl
theorem kt110 : Tryz.prog.keyType 110 = true := by kernel_rfl
theorem lits75 (m : Nat) (a b : ByteArray) (ha : a.size ≤ maxLen) (hb : b.size ≤ maxLen) : Tryz.prog.keyLits (m + 2) 75 [.string a, .string b] = some [.string a.data.toList, .string b.data.toList] := by
  simp [Program.keyLits, Tryz.underlying75, Tryz.underlying9, cof75, cof9, ha, hb]
/-- A key: a tenant, a name, a value. -/
structure Kx where
  t : ByteArray
  n : ByteArray
  v : ByteArray
  fit : t.size ≤ maxLen ∧ n.size ≤ maxLen ∧ v.size ≤ maxLen
deriving DecidableEq
def Kx.val (k : Kx) : Value := .agg #[.string k.t, .string k.n, .string k.v]
theorem Kx.inj {a b : Kx} (h : a.val = b.val) : a = b := by
  obtain ⟨a1, a2, a3, _⟩ := a
  obtain ⟨b1, b2, b3, _⟩ := b
  simp [Kx.val] at h
  simp [h]
theorem ix_types : ∃ n, Tryz.prog.types.size = n + 3 := ⟨Tryz.prog.types.size - 3, by have := ix_size; omega⟩
theorem key105 (k : Kx) : ∃ l, keyOf Tryz.prog 105 k.val = some l := by
  obtain ⟨t, n, v, h1, h2, h3⟩ := k
  obtain ⟨q, hq⟩ := ix_types
  have hf : (Value.agg #[.string t, .string n, .string v]).formed Tryz.prog 105 = true := by simp [Value.formed, Tryz.underlying105, cof105]
  have hl : Tryz.prog.keyLits (Tryz.prog.types.size + 1) 105 [.string t, .string n, .string v] = some [.string t.data.toList, .string n.data.toList, .string v.data.toList] := by
    rw [hq]
    simp [Program.keyLits, Tryz.underlying105, Tryz.underlying9, cof105, cof9, h1, h2, h3]
  unfold keyOf
  rw [Tryz.underlying105]
  simp only [Kx.val, kt105, hf, Bool.and_self, if_true]
  exact ⟨_, by rw [show (Value.agg #[Value.string t, Value.string n, Value.string v]).cells.toList = [Value.string t, Value.string n, Value.string v] from rfl, hl]; rfl⟩
theorem ky105 : Ky Tryz.prog 105 Kx.val := ky_deep law105 key105 (fun h => Kx.inj h)
theorem ky9 : Ky Tryz.prog 9 Value.string := ky_string Tryz.underlying9
end Go.Proofs.YtgmdpbahcbhfjaaGreatDoor
