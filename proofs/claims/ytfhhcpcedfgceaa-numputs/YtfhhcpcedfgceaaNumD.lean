import Derived.Test.YtfhhcpcedfgceaaNumC
namespace Go.Proofs.Ytfhhcpcedfgceaa
open Go.RowKit
set_option linter.unusedVariables false

set_option maxHeartbeats 400000 in
theorem putUint_any (ad : Option Addr) (len cap N : Nat) (l : List Int) (w : World) (hs : Sl w ad len l) (hb : len ≤ 140737488355328) (h1 : N ≤ 18446744073709551615) :
    Calls Try.prog 11 #[.slice ad len cap, .int .u64 N] w fun e w' => e = .returned (.slice (some ⟨w.heap.size, 0, none⟩) (len + grp N + 1) (len + (grp N + 1))) ∧
      w'.ownsRow w.heap.size 5 1 (.slice (some ⟨w.heap.size, 0, none⟩) (len + grp N + 1) (len + (grp N + 1))) (len + grp N + 1) (cells8 (l ++ enc N)) ∧ Below w.heap.size w w' := by
  have hg := grp_le N
  go_enter Try.func11, Try.ntmps11
  go_wp2_with fail
  refine (uintSize_any _ _ (by omega) (by omega)).mono ?_
  rintro e w' ⟨rfl, rfl⟩
  rw [Int.toNat_natCast]
  go_wp2_with fail
  rw [show ((grp N : Int) + 1) = ((grp N + 1 : Nat) : Int) by omega]
  refine (copyWithRoom_any ad len cap (grp N + 1) l _ hs (by omega)).mono ?_
  rintro e w1 ⟨rfl, hown, hbel⟩
  go_wp2_with fail
  refine (appendUint_any w'.heap.size _ len _ N l _ hown hbel.size h1 (by omega)).mono ?_
  rintro e w2 ⟨rfl, hown2, hbel2⟩
  go_wp2
  go_ret
  exact ⟨rfl, hown2, hbel.trans hbel2⟩

theorem fold_le (m : Int) (h0 : -9223372036854775808 ≤ m) (h1 : m ≤ 9223372036854775807) : fold m ≤ 18446744073709551615 := by
  unfold fold
  split <;> omega

set_option maxHeartbeats 400000 in
theorem putInt_any (ad : Option Addr) (len cap : Nat) (m : Int) (l : List Int) (w : World) (hs : Sl w ad len l) (hb : len ≤ 140737488355328) (h0 : -9223372036854775808 ≤ m) (h1 : m ≤ 9223372036854775807) :
    Calls Try.prog 12 #[.slice ad len cap, .int .i64 m] w fun e w' => e = .returned (.slice (some ⟨w.heap.size, 0, none⟩) (len + grp (fold m) + 1) (len + (grp (fold m) + 1))) ∧
      w'.ownsRow w.heap.size 5 1 (.slice (some ⟨w.heap.size, 0, none⟩) (len + grp (fold m) + 1) (len + (grp (fold m) + 1))) (len + grp (fold m) + 1) (cells8 (l ++ enc (fold m))) ∧ Below w.heap.size w w' := by
  have hf := fold_le m h0 h1
  go_enter Try.func12, Try.ntmps12
  go_wp2_with fail
  refine (foldSign_any _ _ h0 h1).mono ?_
  rintro e w' ⟨rfl, rfl⟩
  go_wp2_with fail
  refine (putUint_any ad len cap (fold m) l _ hs hb hf).mono ?_
  rintro e w1 ⟨rfl, hown, hbel⟩
  go_wp2
  go_ret
  exact ⟨rfl, hown, hbel⟩

set_option maxHeartbeats 400000 in
theorem putBytes_any (ad : Option Addr) (len cap : Nat) (l : List Int) (ae : Option Addr) (len2 cap2 : Nat) (s : List Int) (w : World) (hs : Sl w ad len l) (hs2 : Sl w ae len2 s) (hn2 : ae = none → len2 = 0 ∧ cap2 = 0)
    (hb : len + len2 ≤ 140737488355328) :
    Calls Try.prog 13 #[.slice ad len cap, .slice ae len2 cap2] w fun e w' => e = .returned (.slice (some ⟨w.heap.size, 0, none⟩) (len + grp len2 + 1 + len2) (len + (grp len2 + 1 + len2))) ∧
      w'.ownsRow w.heap.size 5 1 (.slice (some ⟨w.heap.size, 0, none⟩) (len + grp len2 + 1 + len2) (len + (grp len2 + 1 + len2))) (len + grp len2 + 1 + len2) (cells8 (l ++ enc len2 ++ s)) ∧ Below w.heap.size w w' := by
  obtain ⟨i0, hi, hz0, hz1, hz2⟩ := info_parts info5
  have hg := grp_le len2
  go_enter Try.func13, Try.ntmps13
  go_wp2_with fail
  refine (uintSize_any _ _ (by omega) (by omega)).mono ?_
  rintro e w' ⟨rfl, rfl⟩
  rw [Int.toNat_natCast]
  go_wp2_with fail
  rw [show ((grp len2 : Int) + 1 + (len2 : Int)) = ((grp len2 + 1 + len2 : Nat) : Int) by omega]
  refine (copyWithRoom_any ad len cap (grp len2 + 1 + len2) l _ hs (by omega)).mono ?_
  rintro e w1 ⟨rfl, hown, hbel⟩
  go_wp2_with fail
  refine (appendUint_any w'.heap.size _ len _ len2 l _ hown hbel.size (by omega) (by omega)).mono ?_
  rintro e w2 ⟨rfl, hown2, hbel2⟩
  have hs3 := hs2.later (hbel.trans hbel2)
  have hle := hs2.len
  go_wp2_with (first
    | (at_builtin; refine wpList_append_fits_any _ rfl _ _ 22 rfl w'.heap.size 5 i0 1 Try.underlying22 hi hz1 _ (len + grp len2 + 1) _ _ rfl hown2 ae len2 cap2 (cells8 s) rfl (by rw [cells8_length, hle]; omega) hn2 (by intro x hx; subst hx; exact hs3.cells) (cells8_one s) (by omega) ?_; intro w3 hown3 hgrow3))
  go_ret
  refine ⟨rfl, ?_, ?_⟩
  · rw [cells8_append]; exact hown3
  · exact (hbel.trans hbel2).grown hgrow3 (hbel.trans hbel2).size (by intro j hj; cases hj; exact Nat.le_refl _)

end Go.Proofs.Ytfhhcpcedfgceaa
