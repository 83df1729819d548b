import Derived.Test.YtgmdpbahcbhfjaaGreatDoorJNumA
import Derived.Test.YtgmdpbahcbhfjaaGreatDoorRow
import Derived.Test.YtgmdpbahcbhfjaaGreatDoorJPoA
set_option linter.unusedSimpArgs false
set_option linter.unusedVariables false
set_option maxHeartbeats 40000000
set_option maxRecDepth 100000
namespace Go.Proofs.YtgmdpbahcbhfjaaGreatDoor.J
open Go.RowKit





theorem hidden {p : Prop} (h : p) : Hid p := h

end Go.Proofs.YtgmdpbahcbhfjaaGreatDoor.J
/-
  Lists as bytes, purely: Put and Get, there and back.
-/
namespace Go.Proofs.YtgmdpbahcbhfjaaGreatDoor.J

def getL : Nat → Nat → List Int → Option (List Nat × Nat)
  | 0, _, _ => some ([], 0)
  | m + 1, k, b =>
    if (dec b).2 = 0 ∨ 4294967295 < (dec b).1 ∨ 4294967295 < k + (dec b).1 then none
    else match getL m (k + (dec b).1 + 1) (b.drop (dec b).2) with
      | none => none
      | some (l, t) => some ((k + (dec b).1) :: l, (dec b).2 + t)
/-- The least that the next number may be. -/
def lv (l : List Nat) (i : Nat) : Nat := if i = 0 then 0 else l.getD (i - 1) 0 + 1

/-- What Get answers. -/
theorem getL_len : ∀ (m k : Nat) (b : List Int) (l : List Nat) (t : Nat), getL m k b = some (l, t) → l.length = m ∧ (∀ n ∈ l, n ≤ 4294967295)
  | 0, k, b, l, t, h => by
    simp only [getL, Option.some.injEq, Prod.mk.injEq] at h
    obtain ⟨rfl, rfl⟩ := h
    simp
  | m + 1, k, b, l, t, h => by
    rw [getL] at h
    split at h
    · cases h
    · rename_i hc
      split at h
      · cases h
      · rename_i l' t' he
        simp only [Option.some.injEq, Prod.mk.injEq] at h
        obtain ⟨rfl, rfl⟩ := h
        obtain ⟨h1, h2⟩ := getL_len m _ _ l' t' he
        refine ⟨by simp [h1], fun n hn => ?_⟩
        rcases List.mem_cons.1 hn with rfl | hn
        · omega
        · exact h2 n hn

end Go.Proofs.YtgmdpbahcbhfjaaGreatDoor.J
