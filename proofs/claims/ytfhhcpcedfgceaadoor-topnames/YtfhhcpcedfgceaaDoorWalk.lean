import Derived.Test.YtfhhcpcedfgceaaDoorRows
import Derived.WalkKit
import Derived.WalkSpells
import Derived.WalkLawsBesides
import Derived.Deep.QuietTactic
import Derived.BigQuiet
namespace Go.Proofs.YtfhhcpcedfgceaaDoor
open Go.RowKit
set_option linter.unusedVariables false

theorem ret_str {s t : ByteArray} (h : s = t) : Ending.returned (.string s) = .returned (.string t) := by rw [h]

set_option maxRecDepth 100000 in
set_option maxHeartbeats 1000000 in
theorem small1 (w : World) : Calls Tryd.prog 11 #[.int .i64 1] w fun e w' => e = .returned (.string ⟨#[49]⟩) ∧ w' = w := by
  go_enter Tryd.func11, Tryd.ntmps11
  go_wp2
  go_ret
  exact ⟨ret_str (by decide +kernel), rfl⟩

set_option maxHeartbeats 1000000 in
theorem format1 (w : World) : Calls Tryd.prog 10 #[.int .i64 1, .int .i64 10] w fun e w' => e = .returned (.string ⟨#[49]⟩) ∧ w' = w := by
  go_enter Tryd.func10, Tryd.ntmps10
  go_wp2_with fail
  refine (small1 _).mono ?_
  rintro e w' ⟨rfl, rfl⟩
  go_wp2
  go_ret
  exact ⟨rfl, rfl⟩

set_option maxHeartbeats 1000000 in
theorem inner1 (w : World) : Calls Tryd.prog 9 #[.int .i64 1] w fun e w' => e = .returned (.string ⟨#[49]⟩) ∧ w' = w := by
  go_enter Tryd.func9, Tryd.ntmps9
  go_wp2_with fail
  refine (format1 _).mono ?_
  rintro e w' ⟨rfl, rfl⟩
  go_wp2
  go_ret
  exact ⟨rfl, rfl⟩

set_option maxHeartbeats 1000000 in
theorem itoa1 (w : World) : Calls Tryd.prog 8 #[.int .i64 1] w fun e w' => e = .returned (.string ⟨#[49]⟩) ∧ w' = w := by
  go_enter Tryd.func8, Tryd.ntmps8
  go_wp2_with fail
  refine (inner1 _).mono ?_
  rintro e w' ⟨rfl, rfl⟩
  go_wp2
  go_ret
  exact ⟨rfl, rfl⟩

set_option maxHeartbeats 1000000 in
theorem errno1 (w : World) : Calls Tryd.prog 7 #[.int .i64 1] w fun e w' => e = .returned (.string ⟨#[116, 117, 114, 110, 107, 101, 121, 58, 32, 101, 114, 114, 111, 114, 32, 49]⟩) ∧ w' = w := by
  go_enter Tryd.func7, Tryd.ntmps7
  go_wp2_with fail
  refine (itoa1 _).mono ?_
  rintro e w' ⟨rfl, rfl⟩
  go_wp2
  go_ret
  exact ⟨ret_str (by decide +kernel), rfl⟩

set_option maxRecDepth 100000 in
set_option maxHeartbeats 1000000 in
theorem small7 (w : World) : Calls Tryd.prog 11 #[.int .i64 7] w fun e w' => e = .returned (.string ⟨#[55]⟩) ∧ w' = w := by
  go_enter Tryd.func11, Tryd.ntmps11
  go_wp2
  go_ret
  exact ⟨ret_str (by decide +kernel), rfl⟩

set_option maxHeartbeats 1000000 in
theorem format7 (w : World) : Calls Tryd.prog 10 #[.int .i64 7, .int .i64 10] w fun e w' => e = .returned (.string ⟨#[55]⟩) ∧ w' = w := by
  go_enter Tryd.func10, Tryd.ntmps10
  go_wp2_with fail
  refine (small7 _).mono ?_
  rintro e w' ⟨rfl, rfl⟩
  go_wp2
  go_ret
  exact ⟨rfl, rfl⟩

set_option maxHeartbeats 1000000 in
theorem inner7 (w : World) : Calls Tryd.prog 9 #[.int .i64 7] w fun e w' => e = .returned (.string ⟨#[55]⟩) ∧ w' = w := by
  go_enter Tryd.func9, Tryd.ntmps9
  go_wp2_with fail
  refine (format7 _).mono ?_
  rintro e w' ⟨rfl, rfl⟩
  go_wp2
  go_ret
  exact ⟨rfl, rfl⟩

set_option maxHeartbeats 1000000 in
theorem itoa7 (w : World) : Calls Tryd.prog 8 #[.int .i64 7] w fun e w' => e = .returned (.string ⟨#[55]⟩) ∧ w' = w := by
  go_enter Tryd.func8, Tryd.ntmps8
  go_wp2_with fail
  refine (inner7 _).mono ?_
  rintro e w' ⟨rfl, rfl⟩
  go_wp2
  go_ret
  exact ⟨rfl, rfl⟩

set_option maxRecDepth 100000 in
set_option maxHeartbeats 1000000 in
theorem small90 (w : World) : Calls Tryd.prog 11 #[.int .i64 90] w fun e w' => e = .returned (.string ⟨#[57, 48]⟩) ∧ w' = w := by
  go_enter Tryd.func11, Tryd.ntmps11
  go_wp2
  go_ret
  exact ⟨ret_str (by decide +kernel), rfl⟩

set_option maxHeartbeats 1000000 in
theorem format90 (w : World) : Calls Tryd.prog 10 #[.int .i64 90, .int .i64 10] w fun e w' => e = .returned (.string ⟨#[57, 48]⟩) ∧ w' = w := by
  go_enter Tryd.func10, Tryd.ntmps10
  go_wp2_with fail
  refine (small90 _).mono ?_
  rintro e w' ⟨rfl, rfl⟩
  go_wp2
  go_ret
  exact ⟨rfl, rfl⟩

set_option maxHeartbeats 1000000 in
theorem inner90 (w : World) : Calls Tryd.prog 9 #[.int .i64 90] w fun e w' => e = .returned (.string ⟨#[57, 48]⟩) ∧ w' = w := by
  go_enter Tryd.func9, Tryd.ntmps9
  go_wp2_with fail
  refine (format90 _).mono ?_
  rintro e w' ⟨rfl, rfl⟩
  go_wp2
  go_ret
  exact ⟨rfl, rfl⟩

set_option maxHeartbeats 1000000 in
theorem itoa90 (w : World) : Calls Tryd.prog 8 #[.int .i64 90] w fun e w' => e = .returned (.string ⟨#[57, 48]⟩) ∧ w' = w := by
  go_enter Tryd.func8, Tryd.ntmps8
  go_wp2_with fail
  refine (inner90 _).mono ?_
  rintro e w' ⟨rfl, rfl⟩
  go_wp2
  go_ret
  exact ⟨rfl, rfl⟩

set_option maxHeartbeats 1000000 in
theorem errno90 (w : World) : Calls Tryd.prog 7 #[.int .i64 90] w fun e w' => e = .returned (.string ⟨#[116, 117, 114, 110, 107, 101, 121, 58, 32, 101, 114, 114, 111, 114, 32, 57, 48]⟩) ∧ w' = w := by
  go_enter Tryd.func7, Tryd.ntmps7
  go_wp2_with fail
  refine (itoa90 _).mono ?_
  rintro e w' ⟨rfl, rfl⟩
  go_wp2
  go_ret
  exact ⟨ret_str (by decide +kernel), rfl⟩

set_option maxHeartbeats 1000000 in
theorem fault_any (b : Nat) (w : World) (c0 : w.cell? ⟨b, 0, none⟩ = some (.int .i64 7)) (c1 : w.cell? ⟨b, 1, none⟩ = some (.int .i64 90)) :
    Calls Tryd.prog 6 #[.pointer (some ⟨b, 0, none⟩)] w fun e w' => e = .returned (.string ⟨#[116, 117, 114, 110, 107, 101, 121, 58, 32, 101, 114, 114, 111, 114, 32, 57, 48, 32, 97, 116, 32, 55]⟩) ∧ ∃ n, w' = w.drewN n := by
  go_enter Tryd.func6, Tryd.ntmps6
  go_wp2_with fail
  go_quiet ((first | (go_at_call 7; exact Calls.quiet_of_same (errno90 _)) | (go_at_call 8; exact Calls.quiet_of_same (itoa7 _))))
  go_wp2
  go_ret
  exact ⟨ret_str (by decide +kernel), _, rfl⟩

set_option maxHeartbeats 1000000 in
theorem unwrap_any (b : Nat) (w : World) (c1 : w.cell? ⟨b, 1, none⟩ = some (.int .i64 90)) :
    Calls Tryd.prog 4 #[.pointer (some ⟨b, 0, none⟩)] w fun e w' => e = .returned (.iface 23 (.int .i64 90)) ∧ w' = w := by
  go_enter Tryd.func4, Tryd.ntmps4
  go_wp2
  go_ret
  exact ⟨rfl, rfl⟩

set_option maxHeartbeats 1000000 in
theorem num_any (i : Int) (w : World) : Calls Tryd.prog 5 #[.int .i64 i] w fun e w' => e = .returned (.int .i64 i) ∧ w' = w := by
  go_enter Tryd.func5, Tryd.ntmps5
  go_wp2
  go_ret
  exact ⟨rfl, rfl⟩

end Go.Proofs.YtfhhcpcedfgceaaDoor
