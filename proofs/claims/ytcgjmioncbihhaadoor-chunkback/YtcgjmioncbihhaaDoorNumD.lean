import Derived.Test.YtcgjmioncbihhaaDoorNumC
namespace Go.Proofs.YtcgjmioncbihhaaDoor.Q
open Go.RowKit
set_option linter.unusedVariables false

set_option maxHeartbeats 400000 in
theorem putUint_any (ad : Option Addr) (len cap N : Nat) (l : List Int) (w : World) (hs : Sl w ad len l) (hb : len ≤ 140737488355328) (h1 : N ≤ 18446744073709551615) :
    Calls Tryd.prog 42 #[.slice ad len cap, .int .u64 N] w fun e w' => e = .returned (.slice (some ⟨w.heap.size, 0, none⟩) (len + grp N + 1) (len + (grp N + 1))) ∧
      w'.ownsRow w.heap.size 5 1 (.slice (some ⟨w.heap.size, 0, none⟩) (len + grp N + 1) (len + (grp N + 1))) (len + grp N + 1) (cells8 (l ++ enc N)) ∧ Below w.heap.size w w' := by
  have hg := grp_le N
  go_enter Tryd.func42, Tryd.ntmps42
  go_wp2_with fail
  refine (uintSize_any _ _ (by omega) (by omega)).mono ?_
  rintro e w' ⟨rfl, rfl⟩
  rw [Int.toNat_natCast]
  go_wp2_with fail
  rw [show ((grp N : Int) + 1) = ((grp N + 1 : Nat) : Int) by omega]
  refine (copyWithRoom_any ad len cap (grp N + 1) l _ hs (by omega)).mono ?_
  rintro e w1 ⟨rfl, hown, hbel⟩
  go_wp2_with fail
  refine (appendUint_any w'.heap.size _ len _ N l _ hown hbel.size h1 (by omega)).mono ?_
  rintro e w2 ⟨rfl, hown2, hbel2⟩
  go_wp2
  go_ret
  exact ⟨rfl, hown2, hbel.trans hbel2⟩

theorem fold_le (m : Int) (h0 : -9223372036854775808 ≤ m) (h1 : m ≤ 9223372036854775807) : fold m ≤ 18446744073709551615 := by
  unfold fold
  split <;> omega

end Go.Proofs.YtcgjmioncbihhaaDoor.Q
