import Derived.Test.YtnfjhdedcnbdbaaGreatCrc
import Derived.Laws.CopyOwn
namespace Go.Proofs.YtnfjhdedcnbdbaaGreat
open Go.RowKit
set_option linter.unusedVariables false

theorem info_parts {P : Program} {ty : TypeId} {z : Option Value} {s b : Nat} (h : (P.info? ty).map (fun i => (i.zero, i.size, i.bytes)) = some (z, s, b)) : ∃ i, P.info? ty = some i ∧ i.zero = z ∧ i.size = s ∧ i.bytes = b := by
  cases e : P.info? ty with
  | none => rw [e] at h; cases h
  | some i =>
    rw [e] at h
    simp at h
    exact ⟨i, rfl, h.1, h.2.1, h.2.2⟩
theorem info5 : (Tryz.prog.info? 5).map (fun i => (i.zero, i.size, i.bytes)) = some (some (.int .u8 0), 1, 1) := by kernel_rfl
theorem size5b : (Tryz.prog.info? 5).map (·.size) = some 1 := by kernel_rfl
/-- What is lent, as far as it is laid. -/
def lentTo (l : List Int) (i : Nat) : List Int := l ++ (List.replicate (i - l.length) 201 ++ List.replicate (l.length + 8 - i) 0)
theorem lentTo_len (l : List Int) (i : Nat) (h : l.length ≤ i) (h2 : i ≤ l.length + 8) : (lentTo l i).length = l.length + 8 := by
  simp [lentTo]
  omega
theorem lentTo_step (l : List Int) (i : Nat) (h : l.length ≤ i) (h2 : i < l.length + 8) : (cells8 (lentTo l i)).set i (.int .u8 201) = cells8 (lentTo l (i + 1)) := by
  unfold lentTo cells8
  rw [← List.map_set, List.set_append, if_neg (by omega), List.set_append, if_neg (by simp), List.length_replicate, show i - l.length - (i - l.length) = 0 by omega, show l.length + 8 - i = (l.length + 8 - (i + 1)) + 1 by omega, List.replicate_succ, List.set_cons_zero, show i + 1 - l.length = (i - l.length) + 1 by omega, List.replicate_succ']
  simp
theorem lentTo_full (l : List Int) : lentTo l (l.length + 8) = l ++ List.replicate 8 201 := by
  simp [lentTo, show l.length + 8 - l.length = 8 by omega]
theorem splice_zero (l : List Int) : splice (List.replicate (l.length + 8) (Value.int .u8 0)) 0 (cells8 l) = cells8 (lentTo l l.length) := by
  unfold splice lentTo
  simp [cells8]

theorem lent_min {l : List Int} {len : Nat} (h : l.length = len) : (cells8 l).length = Nat.min len (len + 8) := by
  rw [cells8_length, h]
  exact (Nat.min_eq_left (by omega)).symm
theorem lent_fit {l : List Int} {len : Nat} (h : l.length = len) : 0 + (cells8 l).length ≤ (List.replicate (len + 8) (Value.int .u8 0)).length := by
  rw [cells8_length, List.length_replicate]
  omega
theorem lent_src {w : World} {ad : Option Addr} {len : Nat} {l : List Int} (h : Sl w ad len l) (hp : 0 < (cells8 l).length) : ∃ a, ad = some a ∧ ∀ j v, (cells8 l)[j]? = some v → w.cell? (a.add j) = some v := by
  rw [cells8_length, h.len] at hp
  obtain ⟨b, off, rfl, _, _⟩ := h.at hp
  exact ⟨_, rfl, h.cells⟩

end Go.Proofs.YtnfjhdedcnbdbaaGreat
