/-
  Put: the document's.
-/
import Derived.Test.YtnfjhdedcnbdbaaGreatFrA
import Derived.Test.YtnfjhdedcnbdbaaGreatRefCrc
namespace Go.Proofs.YtnfjhdedcnbdbaaGreat
open Go.RowKit
set_option linter.unusedVariables false
set_option linter.unusedSimpArgs false

theorem owns_one (w : World) (k : Int) (g : Nat) (hg : g = w.heap.size) : Bld w (w.alloc (.cells #[.int .u8 k] 5)) (.slice (some ⟨g, 0, none⟩) 1 1) 1 [k] := by
  subst hg
  refine ⟨⟨rfl, .inr ⟨_, 1, #[.int .u8 k], rfl, Nat.zero_le _, (by rw [heap_alloc_new w]), Nat.le_refl _, by decide, rfl, rfl⟩⟩, (Below.refl _ _).alloc (Nat.le_refl _) _, fun g hg => ?_⟩
  simp [Value.ownBlock] at hg
  omega

end Go.Proofs.YtnfjhdedcnbdbaaGreat
