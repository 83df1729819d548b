import Derived.Test.YtfieglepljmmkaaChecked
import Derived.Test.YtfieglepljmmkaaMath
import Derived.Test.YtfieglepljmmkaaRowB
import Derived.Deep.QuietTactic
import Derived.BigQuiet
namespace Go.Proofs.Ytfieglepljmmkaa
open Go.RowKit
set_option linter.unusedVariables false

theorem hidden {p : Prop} (h : p) : Hid p := h
theorem N_add' (x y : BitVec 32) : (N x + N y) % (4294967296 : Int) = N (x + y) := by
  rw [← N_add, IntKind.wrap_u32]

theorem shr_2 (x : BitVec 32) : N x / (4 : Int) = N (x >>> 2) := N_shr x 2
theorem shl_30 (x : BitVec 32) : N x * (1073741824 : Int) % (4294967296 : Int) = N (x <<< 30) := by
  rw [← N_shl, IntKind.wrap_u32]
  rfl

theorem shr_3 (x : BitVec 32) : N x / (8 : Int) = N (x >>> 3) := N_shr x 3
theorem shl_29 (x : BitVec 32) : N x * (536870912 : Int) % (4294967296 : Int) = N (x <<< 29) := by
  rw [← N_shl, IntKind.wrap_u32]
  rfl

theorem shr_6 (x : BitVec 32) : N x / (64 : Int) = N (x >>> 6) := N_shr x 6
theorem shl_26 (x : BitVec 32) : N x * (67108864 : Int) % (4294967296 : Int) = N (x <<< 26) := by
  rw [← N_shl, IntKind.wrap_u32]
  rfl

theorem shr_7 (x : BitVec 32) : N x / (128 : Int) = N (x >>> 7) := N_shr x 7
theorem shl_25 (x : BitVec 32) : N x * (33554432 : Int) % (4294967296 : Int) = N (x <<< 25) := by
  rw [← N_shl, IntKind.wrap_u32]
  rfl

theorem shr_10 (x : BitVec 32) : N x / (1024 : Int) = N (x >>> 10) := N_shr x 10
theorem shl_22 (x : BitVec 32) : N x * (4194304 : Int) % (4294967296 : Int) = N (x <<< 22) := by
  rw [← N_shl, IntKind.wrap_u32]
  rfl

theorem shr_11 (x : BitVec 32) : N x / (2048 : Int) = N (x >>> 11) := N_shr x 11
theorem shl_21 (x : BitVec 32) : N x * (2097152 : Int) % (4294967296 : Int) = N (x <<< 21) := by
  rw [← N_shl, IntKind.wrap_u32]
  rfl

theorem shr_13 (x : BitVec 32) : N x / (8192 : Int) = N (x >>> 13) := N_shr x 13
theorem shl_19 (x : BitVec 32) : N x * (524288 : Int) % (4294967296 : Int) = N (x <<< 19) := by
  rw [← N_shl, IntKind.wrap_u32]
  rfl

theorem shr_17 (x : BitVec 32) : N x / (131072 : Int) = N (x >>> 17) := N_shr x 17
theorem shl_15 (x : BitVec 32) : N x * (32768 : Int) % (4294967296 : Int) = N (x <<< 15) := by
  rw [← N_shl, IntKind.wrap_u32]
  rfl

theorem shr_18 (x : BitVec 32) : N x / (262144 : Int) = N (x >>> 18) := N_shr x 18
theorem shl_14 (x : BitVec 32) : N x * (16384 : Int) % (4294967296 : Int) = N (x <<< 14) := by
  rw [← N_shl, IntKind.wrap_u32]
  rfl

theorem shr_19 (x : BitVec 32) : N x / (524288 : Int) = N (x >>> 19) := N_shr x 19
theorem shl_13 (x : BitVec 32) : N x * (8192 : Int) % (4294967296 : Int) = N (x <<< 13) := by
  rw [← N_shl, IntKind.wrap_u32]
  rfl

theorem shr_22 (x : BitVec 32) : N x / (4194304 : Int) = N (x >>> 22) := N_shr x 22
theorem shl_10 (x : BitVec 32) : N x * (1024 : Int) % (4294967296 : Int) = N (x <<< 10) := by
  rw [← N_shl, IntKind.wrap_u32]
  rfl

theorem shr_25 (x : BitVec 32) : N x / (33554432 : Int) = N (x >>> 25) := N_shr x 25
theorem shl_7 (x : BitVec 32) : N x * (128 : Int) % (4294967296 : Int) = N (x <<< 7) := by
  rw [← N_shl, IntKind.wrap_u32]
  rfl

theorem rotl_2 (x : BitVec 32) (w : World) : Calls Try.prog 40 #[.int .u32 (N x), .int .i64 (-2)] w fun e w' => e = .returned (.int .u32 (N (rotr x 2))) ∧ w' = w := by
  have k1 := shr_2
  have k2 := shl_30
  have k3 := N_or
  have k0 : bits .and .u64 (IntKind.u64.wrap (-2)) 31 = 30 := by decide
  go_enter Try.func40, Try.ntmps40
  go_wp2
  go_ret
  refine ⟨congrArg Ending.returned (congrArg (Value.int IntKind.u32) ?_), rfl⟩
  exact congrArg N (BitVec.or_comm _ _)
theorem turned_2 (x : BitVec 32) (w : World) : Calls Try.prog 38 #[.int .u32 (N x), .int .i64 2] w fun e w' => e = .returned (.int .u32 (N (rotr x 2))) ∧ w' = w := by
  go_enter Try.func38, Try.ntmps38
  go_wp2_with fail
  refine (rotl_2 x w).mono ?_
  rintro e w' ⟨rfl, rfl⟩
  go_wp2
  go_ret
  exact ⟨rfl, rfl⟩
theorem rot_2 (x : BitVec 32) (w : World) : Calls Try.prog 35 #[.int .u32 (N x), .int .i64 2] w fun e w' => e = .returned (.int .u32 (N (rotr x 2))) ∧ ∃ m, w' = w.drewN m := by
  have k1 := shr_2
  have k2 := shl_30
  have k3 := N_or
  go_enter Try.func35, Try.ntmps35
  go_wp2_with fail
  go_quiet (fail)
  go_wp2
  go_ret
  refine ⟨congrArg Ending.returned (congrArg (Value.int IntKind.u32) ?_), _, rfl⟩
  rfl

theorem rotl_6 (x : BitVec 32) (w : World) : Calls Try.prog 40 #[.int .u32 (N x), .int .i64 (-6)] w fun e w' => e = .returned (.int .u32 (N (rotr x 6))) ∧ w' = w := by
  have k1 := shr_6
  have k2 := shl_26
  have k3 := N_or
  have k0 : bits .and .u64 (IntKind.u64.wrap (-6)) 31 = 26 := by decide
  go_enter Try.func40, Try.ntmps40
  go_wp2
  go_ret
  refine ⟨congrArg Ending.returned (congrArg (Value.int IntKind.u32) ?_), rfl⟩
  exact congrArg N (BitVec.or_comm _ _)
theorem turned_6 (x : BitVec 32) (w : World) : Calls Try.prog 38 #[.int .u32 (N x), .int .i64 6] w fun e w' => e = .returned (.int .u32 (N (rotr x 6))) ∧ w' = w := by
  go_enter Try.func38, Try.ntmps38
  go_wp2_with fail
  refine (rotl_6 x w).mono ?_
  rintro e w' ⟨rfl, rfl⟩
  go_wp2
  go_ret
  exact ⟨rfl, rfl⟩
theorem rot_6 (x : BitVec 32) (w : World) : Calls Try.prog 35 #[.int .u32 (N x), .int .i64 6] w fun e w' => e = .returned (.int .u32 (N (rotr x 6))) ∧ ∃ m, w' = w.drewN m := by
  have k1 := shr_6
  have k2 := shl_26
  have k3 := N_or
  go_enter Try.func35, Try.ntmps35
  go_wp2_with fail
  go_quiet (fail)
  go_wp2
  go_ret
  refine ⟨congrArg Ending.returned (congrArg (Value.int IntKind.u32) ?_), _, rfl⟩
  rfl

theorem rotl_7 (x : BitVec 32) (w : World) : Calls Try.prog 40 #[.int .u32 (N x), .int .i64 (-7)] w fun e w' => e = .returned (.int .u32 (N (rotr x 7))) ∧ w' = w := by
  have k1 := shr_7
  have k2 := shl_25
  have k3 := N_or
  have k0 : bits .and .u64 (IntKind.u64.wrap (-7)) 31 = 25 := by decide
  go_enter Try.func40, Try.ntmps40
  go_wp2
  go_ret
  refine ⟨congrArg Ending.returned (congrArg (Value.int IntKind.u32) ?_), rfl⟩
  exact congrArg N (BitVec.or_comm _ _)
theorem turned_7 (x : BitVec 32) (w : World) : Calls Try.prog 38 #[.int .u32 (N x), .int .i64 7] w fun e w' => e = .returned (.int .u32 (N (rotr x 7))) ∧ w' = w := by
  go_enter Try.func38, Try.ntmps38
  go_wp2_with fail
  refine (rotl_7 x w).mono ?_
  rintro e w' ⟨rfl, rfl⟩
  go_wp2
  go_ret
  exact ⟨rfl, rfl⟩
theorem rot_7 (x : BitVec 32) (w : World) : Calls Try.prog 35 #[.int .u32 (N x), .int .i64 7] w fun e w' => e = .returned (.int .u32 (N (rotr x 7))) ∧ ∃ m, w' = w.drewN m := by
  have k1 := shr_7
  have k2 := shl_25
  have k3 := N_or
  go_enter Try.func35, Try.ntmps35
  go_wp2_with fail
  go_quiet (fail)
  go_wp2
  go_ret
  refine ⟨congrArg Ending.returned (congrArg (Value.int IntKind.u32) ?_), _, rfl⟩
  rfl

theorem rotl_11 (x : BitVec 32) (w : World) : Calls Try.prog 40 #[.int .u32 (N x), .int .i64 (-11)] w fun e w' => e = .returned (.int .u32 (N (rotr x 11))) ∧ w' = w := by
  have k1 := shr_11
  have k2 := shl_21
  have k3 := N_or
  have k0 : bits .and .u64 (IntKind.u64.wrap (-11)) 31 = 21 := by decide
  go_enter Try.func40, Try.ntmps40
  go_wp2
  go_ret
  refine ⟨congrArg Ending.returned (congrArg (Value.int IntKind.u32) ?_), rfl⟩
  exact congrArg N (BitVec.or_comm _ _)
theorem turned_11 (x : BitVec 32) (w : World) : Calls Try.prog 38 #[.int .u32 (N x), .int .i64 11] w fun e w' => e = .returned (.int .u32 (N (rotr x 11))) ∧ w' = w := by
  go_enter Try.func38, Try.ntmps38
  go_wp2_with fail
  refine (rotl_11 x w).mono ?_
  rintro e w' ⟨rfl, rfl⟩
  go_wp2
  go_ret
  exact ⟨rfl, rfl⟩
theorem rot_11 (x : BitVec 32) (w : World) : Calls Try.prog 35 #[.int .u32 (N x), .int .i64 11] w fun e w' => e = .returned (.int .u32 (N (rotr x 11))) ∧ ∃ m, w' = w.drewN m := by
  have k1 := shr_11
  have k2 := shl_21
  have k3 := N_or
  go_enter Try.func35, Try.ntmps35
  go_wp2_with fail
  go_quiet (fail)
  go_wp2
  go_ret
  refine ⟨congrArg Ending.returned (congrArg (Value.int IntKind.u32) ?_), _, rfl⟩
  rfl

theorem rotl_13 (x : BitVec 32) (w : World) : Calls Try.prog 40 #[.int .u32 (N x), .int .i64 (-13)] w fun e w' => e = .returned (.int .u32 (N (rotr x 13))) ∧ w' = w := by
  have k1 := shr_13
  have k2 := shl_19
  have k3 := N_or
  have k0 : bits .and .u64 (IntKind.u64.wrap (-13)) 31 = 19 := by decide
  go_enter Try.func40, Try.ntmps40
  go_wp2
  go_ret
  refine ⟨congrArg Ending.returned (congrArg (Value.int IntKind.u32) ?_), rfl⟩
  exact congrArg N (BitVec.or_comm _ _)
theorem turned_13 (x : BitVec 32) (w : World) : Calls Try.prog 38 #[.int .u32 (N x), .int .i64 13] w fun e w' => e = .returned (.int .u32 (N (rotr x 13))) ∧ w' = w := by
  go_enter Try.func38, Try.ntmps38
  go_wp2_with fail
  refine (rotl_13 x w).mono ?_
  rintro e w' ⟨rfl, rfl⟩
  go_wp2
  go_ret
  exact ⟨rfl, rfl⟩
theorem rot_13 (x : BitVec 32) (w : World) : Calls Try.prog 35 #[.int .u32 (N x), .int .i64 13] w fun e w' => e = .returned (.int .u32 (N (rotr x 13))) ∧ ∃ m, w' = w.drewN m := by
  have k1 := shr_13
  have k2 := shl_19
  have k3 := N_or
  go_enter Try.func35, Try.ntmps35
  go_wp2_with fail
  go_quiet (fail)
  go_wp2
  go_ret
  refine ⟨congrArg Ending.returned (congrArg (Value.int IntKind.u32) ?_), _, rfl⟩
  rfl

theorem rotl_17 (x : BitVec 32) (w : World) : Calls Try.prog 40 #[.int .u32 (N x), .int .i64 (-17)] w fun e w' => e = .returned (.int .u32 (N (rotr x 17))) ∧ w' = w := by
  have k1 := shr_17
  have k2 := shl_15
  have k3 := N_or
  have k0 : bits .and .u64 (IntKind.u64.wrap (-17)) 31 = 15 := by decide
  go_enter Try.func40, Try.ntmps40
  go_wp2
  go_ret
  refine ⟨congrArg Ending.returned (congrArg (Value.int IntKind.u32) ?_), rfl⟩
  exact congrArg N (BitVec.or_comm _ _)
theorem turned_17 (x : BitVec 32) (w : World) : Calls Try.prog 38 #[.int .u32 (N x), .int .i64 17] w fun e w' => e = .returned (.int .u32 (N (rotr x 17))) ∧ w' = w := by
  go_enter Try.func38, Try.ntmps38
  go_wp2_with fail
  refine (rotl_17 x w).mono ?_
  rintro e w' ⟨rfl, rfl⟩
  go_wp2
  go_ret
  exact ⟨rfl, rfl⟩
theorem rot_17 (x : BitVec 32) (w : World) : Calls Try.prog 35 #[.int .u32 (N x), .int .i64 17] w fun e w' => e = .returned (.int .u32 (N (rotr x 17))) ∧ ∃ m, w' = w.drewN m := by
  have k1 := shr_17
  have k2 := shl_15
  have k3 := N_or
  go_enter Try.func35, Try.ntmps35
  go_wp2_with fail
  go_quiet (fail)
  go_wp2
  go_ret
  refine ⟨congrArg Ending.returned (congrArg (Value.int IntKind.u32) ?_), _, rfl⟩
  rfl

theorem rotl_18 (x : BitVec 32) (w : World) : Calls Try.prog 40 #[.int .u32 (N x), .int .i64 (-18)] w fun e w' => e = .returned (.int .u32 (N (rotr x 18))) ∧ w' = w := by
  have k1 := shr_18
  have k2 := shl_14
  have k3 := N_or
  have k0 : bits .and .u64 (IntKind.u64.wrap (-18)) 31 = 14 := by decide
  go_enter Try.func40, Try.ntmps40
  go_wp2
  go_ret
  refine ⟨congrArg Ending.returned (congrArg (Value.int IntKind.u32) ?_), rfl⟩
  exact congrArg N (BitVec.or_comm _ _)
theorem turned_18 (x : BitVec 32) (w : World) : Calls Try.prog 38 #[.int .u32 (N x), .int .i64 18] w fun e w' => e = .returned (.int .u32 (N (rotr x 18))) ∧ w' = w := by
  go_enter Try.func38, Try.ntmps38
  go_wp2_with fail
  refine (rotl_18 x w).mono ?_
  rintro e w' ⟨rfl, rfl⟩
  go_wp2
  go_ret
  exact ⟨rfl, rfl⟩
theorem rot_18 (x : BitVec 32) (w : World) : Calls Try.prog 35 #[.int .u32 (N x), .int .i64 18] w fun e w' => e = .returned (.int .u32 (N (rotr x 18))) ∧ ∃ m, w' = w.drewN m := by
  have k1 := shr_18
  have k2 := shl_14
  have k3 := N_or
  go_enter Try.func35, Try.ntmps35
  go_wp2_with fail
  go_quiet (fail)
  go_wp2
  go_ret
  refine ⟨congrArg Ending.returned (congrArg (Value.int IntKind.u32) ?_), _, rfl⟩
  rfl

theorem rotl_19 (x : BitVec 32) (w : World) : Calls Try.prog 40 #[.int .u32 (N x), .int .i64 (-19)] w fun e w' => e = .returned (.int .u32 (N (rotr x 19))) ∧ w' = w := by
  have k1 := shr_19
  have k2 := shl_13
  have k3 := N_or
  have k0 : bits .and .u64 (IntKind.u64.wrap (-19)) 31 = 13 := by decide
  go_enter Try.func40, Try.ntmps40
  go_wp2
  go_ret
  refine ⟨congrArg Ending.returned (congrArg (Value.int IntKind.u32) ?_), rfl⟩
  exact congrArg N (BitVec.or_comm _ _)
theorem turned_19 (x : BitVec 32) (w : World) : Calls Try.prog 38 #[.int .u32 (N x), .int .i64 19] w fun e w' => e = .returned (.int .u32 (N (rotr x 19))) ∧ w' = w := by
  go_enter Try.func38, Try.ntmps38
  go_wp2_with fail
  refine (rotl_19 x w).mono ?_
  rintro e w' ⟨rfl, rfl⟩
  go_wp2
  go_ret
  exact ⟨rfl, rfl⟩
theorem rot_19 (x : BitVec 32) (w : World) : Calls Try.prog 35 #[.int .u32 (N x), .int .i64 19] w fun e w' => e = .returned (.int .u32 (N (rotr x 19))) ∧ ∃ m, w' = w.drewN m := by
  have k1 := shr_19
  have k2 := shl_13
  have k3 := N_or
  go_enter Try.func35, Try.ntmps35
  go_wp2_with fail
  go_quiet (fail)
  go_wp2
  go_ret
  refine ⟨congrArg Ending.returned (congrArg (Value.int IntKind.u32) ?_), _, rfl⟩
  rfl

theorem rotl_22 (x : BitVec 32) (w : World) : Calls Try.prog 40 #[.int .u32 (N x), .int .i64 (-22)] w fun e w' => e = .returned (.int .u32 (N (rotr x 22))) ∧ w' = w := by
  have k1 := shr_22
  have k2 := shl_10
  have k3 := N_or
  have k0 : bits .and .u64 (IntKind.u64.wrap (-22)) 31 = 10 := by decide
  go_enter Try.func40, Try.ntmps40
  go_wp2
  go_ret
  refine ⟨congrArg Ending.returned (congrArg (Value.int IntKind.u32) ?_), rfl⟩
  exact congrArg N (BitVec.or_comm _ _)
theorem turned_22 (x : BitVec 32) (w : World) : Calls Try.prog 38 #[.int .u32 (N x), .int .i64 22] w fun e w' => e = .returned (.int .u32 (N (rotr x 22))) ∧ w' = w := by
  go_enter Try.func38, Try.ntmps38
  go_wp2_with fail
  refine (rotl_22 x w).mono ?_
  rintro e w' ⟨rfl, rfl⟩
  go_wp2
  go_ret
  exact ⟨rfl, rfl⟩
theorem rot_22 (x : BitVec 32) (w : World) : Calls Try.prog 35 #[.int .u32 (N x), .int .i64 22] w fun e w' => e = .returned (.int .u32 (N (rotr x 22))) ∧ ∃ m, w' = w.drewN m := by
  have k1 := shr_22
  have k2 := shl_10
  have k3 := N_or
  go_enter Try.func35, Try.ntmps35
  go_wp2_with fail
  go_quiet (fail)
  go_wp2
  go_ret
  refine ⟨congrArg Ending.returned (congrArg (Value.int IntKind.u32) ?_), _, rfl⟩
  rfl

theorem rotl_25 (x : BitVec 32) (w : World) : Calls Try.prog 40 #[.int .u32 (N x), .int .i64 (-25)] w fun e w' => e = .returned (.int .u32 (N (rotr x 25))) ∧ w' = w := by
  have k1 := shr_25
  have k2 := shl_7
  have k3 := N_or
  have k0 : bits .and .u64 (IntKind.u64.wrap (-25)) 31 = 7 := by decide
  go_enter Try.func40, Try.ntmps40
  go_wp2
  go_ret
  refine ⟨congrArg Ending.returned (congrArg (Value.int IntKind.u32) ?_), rfl⟩
  exact congrArg N (BitVec.or_comm _ _)
theorem turned_25 (x : BitVec 32) (w : World) : Calls Try.prog 38 #[.int .u32 (N x), .int .i64 25] w fun e w' => e = .returned (.int .u32 (N (rotr x 25))) ∧ w' = w := by
  go_enter Try.func38, Try.ntmps38
  go_wp2_with fail
  refine (rotl_25 x w).mono ?_
  rintro e w' ⟨rfl, rfl⟩
  go_wp2
  go_ret
  exact ⟨rfl, rfl⟩
theorem rot_25 (x : BitVec 32) (w : World) : Calls Try.prog 35 #[.int .u32 (N x), .int .i64 25] w fun e w' => e = .returned (.int .u32 (N (rotr x 25))) ∧ ∃ m, w' = w.drewN m := by
  have k1 := shr_25
  have k2 := shl_7
  have k3 := N_or
  go_enter Try.func35, Try.ntmps35
  go_wp2_with fail
  go_quiet (fail)
  go_wp2
  go_ret
  refine ⟨congrArg Ending.returned (congrArg (Value.int IntKind.u32) ?_), _, rfl⟩
  rfl

end Go.Proofs.Ytfieglepljmmkaa
