/-
  The document's own: follows, UTF8, IsValue.
-/
import Derived.Test.YtpdffdoogobhfaaDoorReA
import Derived.Test.YtpdffdoogobhfaaDoorReM
namespace Go.Proofs.YtpdffdoogobhfaaDoor
open Go.RowKit
set_option linter.unusedVariables false
set_option linter.unusedSimpArgs false

def folN (k : Nat) : Int := match fol k with | none => -1 | some (n, _, _) => (n : Int)
def folL (k : Nat) : Nat := match fol k with | none => 0 | some (_, lo, _) => lo
def folH (k : Nat) : Nat := match fol k with | none => 0 | some (_, _, hi) => hi
set_option maxRecDepth 100000 in
set_option maxHeartbeats 4000000 in
theorem followsP (k : Nat) (hk : k < 256) (w : World) : Calls Tryd.prog 74 #[.int .u8 (k : Int)] w fun e w' => e = .returned (.tuple #[.int .i64 (folN k), .int .u8 (folL k : Int), .int .u8 (folH k : Int)]) ∧ w' = w := by
  rcases (show (0 ≤ k ∧ k ≤ 127) ∨ (128 ≤ k ∧ k ≤ 193) ∨ (194 ≤ k ∧ k ≤ 223) ∨ (224 ≤ k ∧ k ≤ 224) ∨ (225 ≤ k ∧ k ≤ 236) ∨ (237 ≤ k ∧ k ≤ 237) ∨ (238 ≤ k ∧ k ≤ 239) ∨ (240 ≤ k ∧ k ≤ 240) ∨ (241 ≤ k ∧ k ≤ 243) ∨ (244 ≤ k ∧ k ≤ 244) ∨ (245 ≤ k ∧ k ≤ 255) by omega) with h | h | h | h | h | h | h | h | h | h | h
  · have z1 : (k : Int) < 128 := by omega
    have z2 : ¬ ((194 : Int) ≤ (k : Int)) := by omega
    have z3 : (k : Int) ≤ 223 := by omega
    have z5 : ¬ ((225 : Int) ≤ (k : Int)) := by omega
    have z6 : (k : Int) ≤ 239 := by omega
    have z7 : ¬ ((241 : Int) ≤ (k : Int)) := by omega
    have z8 : (k : Int) ≤ 243 := by omega
    have y224 : ((k : Int) == 224) = false := by simp; omega
    have y237 : ((k : Int) == 237) = false := by simp; omega
    have y240 : ((k : Int) == 240) = false := by simp; omega
    have y244 : ((k : Int) == 244) = false := by simp; omega
    have hf : fol k = some (0, 128, 191) := by
      unfold fol
      rw [if_pos (by omega)]
    unfold folN folL folH
    rw [hf]
    clear hf
    go_enter Tryd.func74, Tryd.ntmps74
    go_wp2
    go_ret3
    exact ⟨rfl, rfl⟩
  · have z1 : ¬ ((k : Int) < 128) := by omega
    have z2 : ¬ ((194 : Int) ≤ (k : Int)) := by omega
    have z3 : (k : Int) ≤ 223 := by omega
    have z5 : ¬ ((225 : Int) ≤ (k : Int)) := by omega
    have z6 : (k : Int) ≤ 239 := by omega
    have z7 : ¬ ((241 : Int) ≤ (k : Int)) := by omega
    have z8 : (k : Int) ≤ 243 := by omega
    have y224 : ((k : Int) == 224) = false := by simp; omega
    have y237 : ((k : Int) == 237) = false := by simp; omega
    have y240 : ((k : Int) == 240) = false := by simp; omega
    have y244 : ((k : Int) == 244) = false := by simp; omega
    have hf : fol k = none := by
      unfold fol
      rw [if_neg (by omega), if_neg (by omega), if_neg (by omega), if_neg (by omega), if_neg (by omega), if_neg (by omega), if_neg (by omega), if_neg (by omega)]
    unfold folN folL folH
    rw [hf]
    clear hf
    go_enter Tryd.func74, Tryd.ntmps74
    go_wp2
    go_ret3
    exact ⟨rfl, rfl⟩
  · have z1 : ¬ ((k : Int) < 128) := by omega
    have z2 : (194 : Int) ≤ (k : Int) := by omega
    have z3 : (k : Int) ≤ 223 := by omega
    have z5 : ¬ ((225 : Int) ≤ (k : Int)) := by omega
    have z6 : (k : Int) ≤ 239 := by omega
    have z7 : ¬ ((241 : Int) ≤ (k : Int)) := by omega
    have z8 : (k : Int) ≤ 243 := by omega
    have y224 : ((k : Int) == 224) = false := by simp; omega
    have y237 : ((k : Int) == 237) = false := by simp; omega
    have y240 : ((k : Int) == 240) = false := by simp; omega
    have y244 : ((k : Int) == 244) = false := by simp; omega
    have hf : fol k = some (1, 128, 191) := by
      unfold fol
      rw [if_neg (by omega), if_pos (by omega)]
    unfold folN folL folH
    rw [hf]
    clear hf
    go_enter Tryd.func74, Tryd.ntmps74
    go_wp2
    go_ret3
    exact ⟨rfl, rfl⟩
  · have z1 : ¬ ((k : Int) < 128) := by omega
    have z2 : (194 : Int) ≤ (k : Int) := by omega
    have z3 : ¬ ((k : Int) ≤ 223) := by omega
    have z5 : ¬ ((225 : Int) ≤ (k : Int)) := by omega
    have z6 : (k : Int) ≤ 239 := by omega
    have z7 : ¬ ((241 : Int) ≤ (k : Int)) := by omega
    have z8 : (k : Int) ≤ 243 := by omega
    have y224 : ((k : Int) == 224) = true := by simp; omega
    have y237 : ((k : Int) == 237) = false := by simp; omega
    have y240 : ((k : Int) == 240) = false := by simp; omega
    have y244 : ((k : Int) == 244) = false := by simp; omega
    have hf : fol k = some (2, 160, 191) := by
      unfold fol
      rw [if_neg (by omega), if_neg (by omega), if_pos (by omega)]
    unfold folN folL folH
    rw [hf]
    clear hf
    go_enter Tryd.func74, Tryd.ntmps74
    go_wp2
    go_ret3
    exact ⟨rfl, rfl⟩
  · have z1 : ¬ ((k : Int) < 128) := by omega
    have z2 : (194 : Int) ≤ (k : Int) := by omega
    have z3 : ¬ ((k : Int) ≤ 223) := by omega
    have z5 : (225 : Int) ≤ (k : Int) := by omega
    have z6 : (k : Int) ≤ 239 := by omega
    have z7 : ¬ ((241 : Int) ≤ (k : Int)) := by omega
    have z8 : (k : Int) ≤ 243 := by omega
    have y224 : ((k : Int) == 224) = false := by simp; omega
    have y237 : ((k : Int) == 237) = false := by simp; omega
    have y240 : ((k : Int) == 240) = false := by simp; omega
    have y244 : ((k : Int) == 244) = false := by simp; omega
    have hf : fol k = some (2, 128, 191) := by
      unfold fol
      rw [if_neg (by omega), if_neg (by omega), if_neg (by omega), if_neg (by omega), if_pos (by omega)]
    unfold folN folL folH
    rw [hf]
    clear hf
    go_enter Tryd.func74, Tryd.ntmps74
    go_wp2
    go_ret3
    exact ⟨rfl, rfl⟩
  · have z1 : ¬ ((k : Int) < 128) := by omega
    have z2 : (194 : Int) ≤ (k : Int) := by omega
    have z3 : ¬ ((k : Int) ≤ 223) := by omega
    have z5 : (225 : Int) ≤ (k : Int) := by omega
    have z6 : (k : Int) ≤ 239 := by omega
    have z7 : ¬ ((241 : Int) ≤ (k : Int)) := by omega
    have z8 : (k : Int) ≤ 243 := by omega
    have y224 : ((k : Int) == 224) = false := by simp; omega
    have y237 : ((k : Int) == 237) = true := by simp; omega
    have y240 : ((k : Int) == 240) = false := by simp; omega
    have y244 : ((k : Int) == 244) = false := by simp; omega
    have hf : fol k = some (2, 128, 159) := by
      unfold fol
      rw [if_neg (by omega), if_neg (by omega), if_neg (by omega), if_pos (by omega)]
    unfold folN folL folH
    rw [hf]
    clear hf
    go_enter Tryd.func74, Tryd.ntmps74
    go_wp2
    go_ret3
    exact ⟨rfl, rfl⟩
  · have z1 : ¬ ((k : Int) < 128) := by omega
    have z2 : (194 : Int) ≤ (k : Int) := by omega
    have z3 : ¬ ((k : Int) ≤ 223) := by omega
    have z5 : (225 : Int) ≤ (k : Int) := by omega
    have z6 : (k : Int) ≤ 239 := by omega
    have z7 : ¬ ((241 : Int) ≤ (k : Int)) := by omega
    have z8 : (k : Int) ≤ 243 := by omega
    have y224 : ((k : Int) == 224) = false := by simp; omega
    have y237 : ((k : Int) == 237) = false := by simp; omega
    have y240 : ((k : Int) == 240) = false := by simp; omega
    have y244 : ((k : Int) == 244) = false := by simp; omega
    have hf : fol k = some (2, 128, 191) := by
      unfold fol
      rw [if_neg (by omega), if_neg (by omega), if_neg (by omega), if_neg (by omega), if_pos (by omega)]
    unfold folN folL folH
    rw [hf]
    clear hf
    go_enter Tryd.func74, Tryd.ntmps74
    go_wp2
    go_ret3
    exact ⟨rfl, rfl⟩
  · have z1 : ¬ ((k : Int) < 128) := by omega
    have z2 : (194 : Int) ≤ (k : Int) := by omega
    have z3 : ¬ ((k : Int) ≤ 223) := by omega
    have z5 : (225 : Int) ≤ (k : Int) := by omega
    have z6 : ¬ ((k : Int) ≤ 239) := by omega
    have z7 : ¬ ((241 : Int) ≤ (k : Int)) := by omega
    have z8 : (k : Int) ≤ 243 := by omega
    have y224 : ((k : Int) == 224) = false := by simp; omega
    have y237 : ((k : Int) == 237) = false := by simp; omega
    have y240 : ((k : Int) == 240) = true := by simp; omega
    have y244 : ((k : Int) == 244) = false := by simp; omega
    have hf : fol k = some (3, 144, 191) := by
      unfold fol
      rw [if_neg (by omega), if_neg (by omega), if_neg (by omega), if_neg (by omega), if_neg (by omega), if_pos (by omega)]
    unfold folN folL folH
    rw [hf]
    clear hf
    go_enter Tryd.func74, Tryd.ntmps74
    go_wp2
    go_ret3
    exact ⟨rfl, rfl⟩
  · have z1 : ¬ ((k : Int) < 128) := by omega
    have z2 : (194 : Int) ≤ (k : Int) := by omega
    have z3 : ¬ ((k : Int) ≤ 223) := by omega
    have z5 : (225 : Int) ≤ (k : Int) := by omega
    have z6 : ¬ ((k : Int) ≤ 239) := by omega
    have z7 : (241 : Int) ≤ (k : Int) := by omega
    have z8 : (k : Int) ≤ 243 := by omega
    have y224 : ((k : Int) == 224) = false := by simp; omega
    have y237 : ((k : Int) == 237) = false := by simp; omega
    have y240 : ((k : Int) == 240) = false := by simp; omega
    have y244 : ((k : Int) == 244) = false := by simp; omega
    have hf : fol k = some (3, 128, 191) := by
      unfold fol
      rw [if_neg (by omega), if_neg (by omega), if_neg (by omega), if_neg (by omega), if_neg (by omega), if_neg (by omega), if_pos (by omega)]
    unfold folN folL folH
    rw [hf]
    clear hf
    go_enter Tryd.func74, Tryd.ntmps74
    go_wp2
    go_ret3
    exact ⟨rfl, rfl⟩
  · have z1 : ¬ ((k : Int) < 128) := by omega
    have z2 : (194 : Int) ≤ (k : Int) := by omega
    have z3 : ¬ ((k : Int) ≤ 223) := by omega
    have z5 : (225 : Int) ≤ (k : Int) := by omega
    have z6 : ¬ ((k : Int) ≤ 239) := by omega
    have z7 : (241 : Int) ≤ (k : Int) := by omega
    have z8 : ¬ ((k : Int) ≤ 243) := by omega
    have y224 : ((k : Int) == 224) = false := by simp; omega
    have y237 : ((k : Int) == 237) = false := by simp; omega
    have y240 : ((k : Int) == 240) = false := by simp; omega
    have y244 : ((k : Int) == 244) = true := by simp; omega
    have hf : fol k = some (3, 128, 143) := by
      unfold fol
      rw [if_neg (by omega), if_neg (by omega), if_neg (by omega), if_neg (by omega), if_neg (by omega), if_neg (by omega), if_neg (by omega), if_pos (by omega)]
    unfold folN folL folH
    rw [hf]
    clear hf
    go_enter Tryd.func74, Tryd.ntmps74
    go_wp2
    go_ret3
    exact ⟨rfl, rfl⟩
  · have z1 : ¬ ((k : Int) < 128) := by omega
    have z2 : (194 : Int) ≤ (k : Int) := by omega
    have z3 : ¬ ((k : Int) ≤ 223) := by omega
    have z5 : (225 : Int) ≤ (k : Int) := by omega
    have z6 : ¬ ((k : Int) ≤ 239) := by omega
    have z7 : (241 : Int) ≤ (k : Int) := by omega
    have z8 : ¬ ((k : Int) ≤ 243) := by omega
    have y224 : ((k : Int) == 224) = false := by simp; omega
    have y237 : ((k : Int) == 237) = false := by simp; omega
    have y240 : ((k : Int) == 240) = false := by simp; omega
    have y244 : ((k : Int) == 244) = false := by simp; omega
    have hf : fol k = none := by
      unfold fol
      rw [if_neg (by omega), if_neg (by omega), if_neg (by omega), if_neg (by omega), if_neg (by omega), if_neg (by omega), if_neg (by omega), if_neg (by omega)]
    unfold folN folL folH
    rw [hf]
    clear hf
    go_enter Tryd.func74, Tryd.ntmps74
    go_wp2
    go_ret3
    exact ⟨rfl, rfl⟩

theorem folN_range (k : Nat) : -1 ≤ folN k ∧ folN k ≤ 3 := by
  unfold folN fol
  by_cases h1 : k < 128
  · rw [if_pos h1]; decide
  rw [if_neg h1]
  by_cases h2 : 194 ≤ k ∧ k ≤ 223
  · rw [if_pos h2]; decide
  rw [if_neg h2]
  by_cases h3 : k = 224
  · rw [if_pos h3]; decide
  rw [if_neg h3]
  by_cases h4 : k = 237
  · rw [if_pos h4]; decide
  rw [if_neg h4]
  by_cases h5 : 225 ≤ k ∧ k ≤ 239
  · rw [if_pos h5]; decide
  rw [if_neg h5]
  by_cases h6 : k = 240
  · rw [if_pos h6]; decide
  rw [if_neg h6]
  by_cases h7 : 241 ≤ k ∧ k ≤ 243
  · rw [if_pos h7]; decide
  rw [if_neg h7]
  by_cases h8 : k = 244
  · rw [if_pos h8]; decide
  rw [if_neg h8]; decide

end Go.Proofs.YtpdffdoogobhfaaDoor
