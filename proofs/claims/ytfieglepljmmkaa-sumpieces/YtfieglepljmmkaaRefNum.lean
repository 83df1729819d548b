import Derived.Test.YtfieglepljmmkaaShaB
namespace Go.Proofs.Ytfieglepljmmkaa
open Go.RowKit
set_option linter.unusedVariables false

set_option maxRecDepth 100000 in
set_option maxHeartbeats 1000000 in
theorem numbers_any (w : World) : Calls Try.prog 36 #[] w fun e w' => ∃ ty, e = .returned (.slice (some ⟨w.heap.size, 0, none⟩) 64 64) ∧ Blk w' w.heap.size ty (wc KK) ∧ Below w.heap.size w w' := by
  go_enter Try.func36, Try.ntmps36
  go_wp2_with fail
  go_ret
  refine ⟨25, rfl, ?_, (Below.refl _ w).alloc (Nat.le_refl _) _⟩
  unfold Blk
  rw [heap_alloc_new w]
  kernel_rfl

end Go.Proofs.Ytfieglepljmmkaa
