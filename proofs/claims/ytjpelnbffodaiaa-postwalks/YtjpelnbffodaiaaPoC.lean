/-
  Package post: rises, cmp.Less, cmp.Compare, Has.
-/
import Derived.Test.YtjpelnbffodaiaaPoB
namespace Go.Proofs.Ytjpelnbffodaiaa
open Go.RowKit
set_option linter.unusedVariables false
set_option linter.unusedSimpArgs false

theorem nanP (x : Int) (w : World) : Calls Try.prog 54 #[.int .u32 x] w fun e w' => e = .returned (.bool false) ∧ w' = w := by
  go_enter Try.func54, Try.ntmps54
  go_wp2
  go_ret
  simp

theorem lessP (x y : Nat) (w : World) : Calls Try.prog 47 #[.int .u32 (x : Int), .int .u32 (y : Int)] w fun e w' => e = .returned (.bool (decide (x < y))) ∧ w' = w := by
  go_enter Try.func47, Try.ntmps47
  go_wp2_with fail
  refine (nanP _ _).mono ?_
  rintro e w' ⟨rfl, rfl⟩
  by_cases h : x < y
  · have hz : (x : Int) < (y : Int) := by omega
    go_wp2
    go_ret
    simp [h, hz]
  · have hz : ¬ (x : Int) < (y : Int) := by omega
    go_wp2
    go_ret
    simp [h, hz]

theorem less_t {x y : Nat} (h : x < y) (w : World) : Calls Try.prog 47 #[.int .u32 (x : Int), .int .u32 (y : Int)] w fun e w' => e = .returned (.bool true) ∧ w' = w := by
  have := lessP x y w
  simpa [h] using this
theorem less_f {x y : Nat} (h : ¬ x < y) (w : World) : Calls Try.prog 47 #[.int .u32 (x : Int), .int .u32 (y : Int)] w fun e w' => e = .returned (.bool false) ∧ w' = w := by
  have := lessP x y w
  simpa [h] using this

set_option maxRecDepth 100000 in
set_option maxHeartbeats 4000000 in
theorem compareP (x y : Nat) (w : World) : Calls Try.prog 45 #[.int .u32 (x : Int), .int .u32 (y : Int)] w fun e w' => e = .returned (.int .i64 (if x < y then -1 else if y < x then 1 else 0)) ∧ w' = w := by
  go_enter Try.func45, Try.ntmps45
  go_wp2_with fail
  refine (nanP _ _).mono ?_
  rintro e w' ⟨rfl, rfl⟩
  go_wp2_with fail
  refine (nanP _ _).mono ?_
  rintro e w' ⟨rfl, rfl⟩
  by_cases h : x < y
  · have hz : (x : Int) < (y : Int) := by omega
    go_wp2
    go_ret
    simp [h]
  · have hz : ¬ (x : Int) < (y : Int) := by omega
    by_cases k : y < x
    · have kz : (y : Int) < (x : Int) := by omega
      go_wp2
      go_ret
      simp [h, k]
    · have kz : ¬ (y : Int) < (x : Int) := by omega
      go_wp2
      go_ret
      simp [h, k]

set_option maxRecDepth 100000 in
set_option maxHeartbeats 8000000 in
theorem risesP (w : World) (ad : Option Addr) (n c : Nat) (l : List Nat) (hs : Sw w ad n l) (hn : n ≤ 1000000000) :
    Calls Try.prog 33 #[.slice ad n c] w fun e w' => e = .returned (.bool (decide (Ris l))) ∧ Below w.heap.size w w' := by
  have HS := hidden hs
  clear hs
  go_enter Try.func33, Try.ntmps33
  go_wp2_with fail
  go_loopw [3] (fun s3 wx => ∃ i : Nat, s3 = .int .i64 ((i + 1 : Nat) : Int) ∧ i ≤ n ∧ Hid (Adj l (i + 1)) ∧ Hid (Below w.heap.size w wx)) (fun s3 _ => n + 1 - (intOf s3).toNat)
  case atStart => exact ⟨0, rfl, by omega, hidden (adj_one _), hidden (Below.refl _ _)⟩
  case round =>
    rename World => wr
    obtain ⟨i, rfl, hi, hadj, hbel⟩ := hrel
    have hl := HS.out.len
    by_cases hlt : i + 1 < n
    · have hltz : ((i + 1 : Nat) : Int) < (n : Int) := by omega
      obtain ⟨b, o, rfl, _, hc⟩ := (HS.out.later hbel.out).at (by omega)
      have k1 := hc i (by omega)
      have k2 := hc (i + 1) (by omega)
      obtain ⟨x, hx⟩ : ∃ x, l.getD i 0 = x := ⟨_, rfl⟩
      obtain ⟨y, hy⟩ : ∃ y, l.getD (i + 1) 0 = y := ⟨_, rfl⟩
      rw [hx] at k1
      rw [hy] at k2
      have HX := hidden hx
      have HY := hidden hy
      have e1 : ((i + 1 : Nat) : Int) - 1 = (i : Int) := by omega
      clear hc hx hy
      by_cases hxy : x < y
      · have HL := less_t hxy
        go_wp2_with fail
        go_quiet (exact Calls.quiet_of_same (HL _))
        go_wp2
        refine ⟨⟨i + 1, by first | rfl | simp, by omega, hidden (adj_step hadj.out (by rw [HX.out, HY.out]; exact hxy)), hidden (below_drewN hbel.out _)⟩, ?_⟩
        simp [intOf]
        omega
      · have hnr : ¬ Ris l := not_ris (i := i) (by omega) (by rw [HX.out, HY.out]; omega)
        have HL := less_f hxy
        go_wp2_with fail
        go_quiet (exact Calls.quiet_of_same (HL _))
        go_wp2
        go_ret
        exact ⟨by simp [hnr], below_drewN hbel.out _⟩
    · have hltz : ¬ ((i + 1 : Nat) : Int) < (n : Int) := by omega
      go_wp2
      go_ret
      refine ⟨?_, hbel.out⟩
      have : Ris l := (ris_adj l).2 (fun j hj => hadj.out j (by omega))
      simp [this]

end Go.Proofs.Ytjpelnbffodaiaa
