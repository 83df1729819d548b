import Derived.Test.YtanlgplgplncdaaGreatDoorLbM
import Derived.Test.YtanlgplgplncdaaGreatDoorTxA
/-
  UTF-8 as the document reads it, purely.
-/
namespace Go.Proofs.YtanlgplgplncdaaGreatDoor.L
open Go Go.Lib
set_option linter.unusedSimpArgs false

/-- How many bytes follow a first byte, from which to which the second may be. -/
def fol (k : Nat) : Option (Nat × Nat × Nat) :=
  if k < 128 then some (0, 128, 191) else if 194 ≤ k ∧ k ≤ 223 then some (1, 128, 191) else if k = 224 then some (2, 160, 191) else if k = 237 then some (2, 128, 159)
  else if 225 ≤ k ∧ k ≤ 239 then some (2, 128, 191) else if k = 240 then some (3, 144, 191) else if 241 ≤ k ∧ k ≤ 243 then some (3, 128, 191) else if k = 244 then some (3, 128, 143) else none
def bt (l : List UInt8) (j : Nat) : Nat := (l.getD j 0).toNat
/-- May byte j stand there? -/
def cok (l : List UInt8) (lo hi j : Nat) : Bool := !((decide (j = 1) && (decide (bt l j < lo) || decide (hi < bt l j))) || decide (bt l j < 128) || decide (191 < bt l j))
def callJ (l : List UInt8) (lo hi : Nat) : Nat → Bool
  | 0 => true
  | n + 1 => callJ l lo hi n && cok l lo hi (n + 1)
theorem chk1 (l : List UInt8) (lo hi : Nat) (h1 : 128 ≤ lo) (h2 : hi ≤ 191) : (match checkN l.length (bt l 1) (bt l 2) (bt l 3) 2 lo hi with | none => false | some k => validD (l.drop k)) = (decide (1 < l.length) && callJ l lo hi 1 && validD (l.drop 2)) := by
  simp only [checkN, callJ, cok, if_true]
  by_cases a : l.length < 2 ∨ bt l 1 < lo ∨ hi < bt l 1
  · rw [if_pos a]
    rcases a with a | a | a
    · simp [show ¬ 1 < l.length by omega]
    · simp [a]
    · simp [a]
  · rw [if_neg a]
    have : 1 < l.length ∧ ¬ bt l 1 < lo ∧ ¬ hi < bt l 1 := by omega
    simp [this.1, this.2.1, this.2.2, show ¬ bt l 1 < 128 by omega, show ¬ 191 < bt l 1 by omega]
theorem chk2 (l : List UInt8) (lo hi : Nat) (h1 : 128 ≤ lo) (h2 : hi ≤ 191) : (match checkN l.length (bt l 1) (bt l 2) (bt l 3) 3 lo hi with | none => false | some k => validD (l.drop k)) = (decide (2 < l.length) && callJ l lo hi 2 && validD (l.drop 3)) := by
  simp only [checkN, callJ, cok]
  rw [if_neg (by decide), if_pos trivial]
  by_cases a : l.length < 3 ∨ bt l 1 < lo ∨ hi < bt l 1 ∨ bt l 2 < 128 ∨ 191 < bt l 2
  · rw [if_pos a]
    rcases a with a | a | a | a | a
    · simp [show ¬ 2 < l.length by omega]
    · simp [a]
    · simp [a]
    · simp [a]
    · simp [a]
  · rw [if_neg a]
    have : 2 < l.length ∧ ¬ bt l 1 < lo ∧ ¬ hi < bt l 1 ∧ ¬ bt l 2 < 128 ∧ ¬ 191 < bt l 2 := by omega
    simp [this.1, this.2.1, this.2.2.1, this.2.2.2.1, this.2.2.2.2, show ¬ bt l 1 < 128 by omega, show ¬ 191 < bt l 1 by omega]
theorem chk3 (l : List UInt8) (lo hi : Nat) (h1 : 128 ≤ lo) (h2 : hi ≤ 191) : (match checkN l.length (bt l 1) (bt l 2) (bt l 3) 4 lo hi with | none => false | some k => validD (l.drop k)) = (decide (3 < l.length) && callJ l lo hi 3 && validD (l.drop 4)) := by
  simp only [checkN, callJ, cok]
  rw [if_neg (by decide), if_neg (by decide), if_pos trivial]
  by_cases a : l.length < 4 ∨ bt l 1 < lo ∨ hi < bt l 1 ∨ bt l 2 < 128 ∨ 191 < bt l 2 ∨ bt l 3 < 128 ∨ 191 < bt l 3
  · rw [if_pos a]
    rcases a with a | a | a | a | a | a | a
    · simp [show ¬ 3 < l.length by omega]
    · simp [a]
    · simp [a]
    · simp [a]
    · simp [a]
    · simp [a]
    · simp [a]
  · rw [if_neg a]
    have : 3 < l.length ∧ ¬ bt l 1 < lo ∧ ¬ hi < bt l 1 ∧ ¬ bt l 2 < 128 ∧ ¬ 191 < bt l 2 ∧ ¬ bt l 3 < 128 ∧ ¬ 191 < bt l 3 := by omega
    simp [this.1, this.2.1, this.2.2.1, this.2.2.2.1, this.2.2.2.2.1, this.2.2.2.2.2.1, this.2.2.2.2.2.2, show ¬ bt l 1 < 128 by omega, show ¬ 191 < bt l 1 by omega]
theorem chk0 (l : List UInt8) (sz lo hi : Nat) (h : sz ≠ 2 ∧ sz ≠ 3 ∧ sz ≠ 4) : (match checkN l.length (bt l 1) (bt l 2) (bt l 3) sz lo hi with | none => false | some k => validD (l.drop k)) = false := by
  simp [checkN, h.1, h.2.1, h.2.2]

def tabB (k : Nat) : Bool := match fol k with
  | none => decide (firstT k % 8 ≠ 2 ∧ firstT k % 8 ≠ 3 ∧ firstT k % 8 ≠ 4)
  | some (n, lo, hi) => decide (firstT k % 8 = n + 1 ∧ accLo (firstT k / 16) = lo ∧ accHi (firstT k / 16) = hi ∧ 128 ≤ lo ∧ hi ≤ 191 ∧ (n = 1 ∨ n = 2 ∨ n = 3))
theorem tab_all : ∀ k : Fin 256, 128 ≤ k.val → tabB k.val = true := by decide +kernel

/-- UTF-8, one step. -/
theorem valid_fol (l : List UInt8) (hne : l ≠ []) : validD l = match fol (bt l 0) with
    | none => false
    | some (n, lo, hi) => decide (n < l.length) && callJ l lo hi n && validD (l.drop (n + 1)) := by
  by_cases h0 : bt l 0 < 128
  · have : fol (bt l 0) = some (0, 128, 191) := by rw [fol, if_pos h0]
    rw [this]
    cases l with
    | nil => exact absurd rfl hne
    | cons b t =>
      rw [validD_cons b t (by simpa [bt] using h0)]
      simp [callJ]
  · have hlt : bt l 0 < 256 := (l.getD 0 0).toNat_lt
    rw [validD_lead l hne (by show 128 ≤ bt l 0; omega)]
    show (match checkN l.length (bt l 1) (bt l 2) (bt l 3) (firstT (bt l 0) % 8) (accLo (firstT (bt l 0) / 16)) (accHi (firstT (bt l 0) / 16)) with | none => false | some k => validD (l.drop k)) = _
    generalize bt l 0 = k at h0 hlt
    have this := tab_all ⟨k, hlt⟩ (by show 128 ≤ k; omega)
    simp only [tabB] at this
    cases hf : fol k with
    | none =>
      rw [hf] at this
      exact chk0 l _ _ _ (of_decide_eq_true this)
    | some x =>
      obtain ⟨n, lo, hi⟩ := x
      rw [hf] at this
      obtain ⟨e1, e2, e3, g1, g2, g3⟩ := of_decide_eq_true this
      rw [e1, e2, e3]
      rcases g3 with rfl | rfl | rfl
      · exact chk1 l lo hi g1 g2
      · exact chk2 l lo hi g1 g2
      · exact chk3 l lo hi g1 g2

end Go.Proofs.YtanlgplgplncdaaGreatDoor.L

/-
  The document's own: follows, UTF8, IsValue.
-/
namespace Go.Proofs.YtanlgplgplncdaaGreatDoor.L
open Go.RowKit
set_option linter.unusedVariables false
set_option linter.unusedSimpArgs false

def folN (k : Nat) : Int := match fol k with | none => -1 | some (n, _, _) => (n : Int)
def folL (k : Nat) : Nat := match fol k with | none => 0 | some (_, lo, _) => lo
def folH (k : Nat) : Nat := match fol k with | none => 0 | some (_, _, hi) => hi
set_option maxRecDepth 100000 in
set_option maxHeartbeats 4000000 in
theorem followsP (k : Nat) (hk : k < 256) (w : World) : Calls Tryz.prog 86 #[.int .u8 (k : Int)] w fun e w' => e = .returned (.tuple #[.int .i64 (folN k), .int .u8 (folL k : Int), .int .u8 (folH k : Int)]) ∧ w' = w := by
  rcases (show (0 ≤ k ∧ k ≤ 127) ∨ (128 ≤ k ∧ k ≤ 193) ∨ (194 ≤ k ∧ k ≤ 223) ∨ (224 ≤ k ∧ k ≤ 224) ∨ (225 ≤ k ∧ k ≤ 236) ∨ (237 ≤ k ∧ k ≤ 237) ∨ (238 ≤ k ∧ k ≤ 239) ∨ (240 ≤ k ∧ k ≤ 240) ∨ (241 ≤ k ∧ k ≤ 243) ∨ (244 ≤ k ∧ k ≤ 244) ∨ (245 ≤ k ∧ k ≤ 255) by omega) with h | h | h | h | h | h | h | h | h | h | h
  · have z1 : (k : Int) < 128 := by omega
    have z2 : ¬ ((194 : Int) ≤ (k : Int)) := by omega
    have z3 : (k : Int) ≤ 223 := by omega
    have z5 : ¬ ((225 : Int) ≤ (k : Int)) := by omega
    have z6 : (k : Int) ≤ 239 := by omega
    have z7 : ¬ ((241 : Int) ≤ (k : Int)) := by omega
    have z8 : (k : Int) ≤ 243 := by omega
    have y224 : ((k : Int) == 224) = false := by simp; omega
    have y237 : ((k : Int) == 237) = false := by simp; omega
    have y240 : ((k : Int) == 240) = false := by simp; omega
    have y244 : ((k : Int) == 244) = false := by simp; omega
    have hf : fol k = some (0, 128, 191) := by
      unfold fol
      rw [if_pos (by omega)]
    unfold folN folL folH
    rw [hf]
    clear hf
    go_enter Tryz.func86, Tryz.ntmps86
    go_wp2
    go_ret3
    exact ⟨rfl, rfl⟩
  · have z1 : ¬ ((k : Int) < 128) := by omega
    have z2 : ¬ ((194 : Int) ≤ (k : Int)) := by omega
    have z3 : (k : Int) ≤ 223 := by omega
    have z5 : ¬ ((225 : Int) ≤ (k : Int)) := by omega
    have z6 : (k : Int) ≤ 239 := by omega
    have z7 : ¬ ((241 : Int) ≤ (k : Int)) := by omega
    have z8 : (k : Int) ≤ 243 := by omega
    have y224 : ((k : Int) == 224) = false := by simp; omega
    have y237 : ((k : Int) == 237) = false := by simp; omega
    have y240 : ((k : Int) == 240) = false := by simp; omega
    have y244 : ((k : Int) == 244) = false := by simp; omega
    have hf : fol k = none := by
      unfold fol
      rw [if_neg (by omega), if_neg (by omega), if_neg (by omega), if_neg (by omega), if_neg (by omega), if_neg (by omega), if_neg (by omega), if_neg (by omega)]
    unfold folN folL folH
    rw [hf]
    clear hf
    go_enter Tryz.func86, Tryz.ntmps86
    go_wp2
    go_ret3
    exact ⟨rfl, rfl⟩
  · have z1 : ¬ ((k : Int) < 128) := by omega
    have z2 : (194 : Int) ≤ (k : Int) := by omega
    have z3 : (k : Int) ≤ 223 := by omega
    have z5 : ¬ ((225 : Int) ≤ (k : Int)) := by omega
    have z6 : (k : Int) ≤ 239 := by omega
    have z7 : ¬ ((241 : Int) ≤ (k : Int)) := by omega
    have z8 : (k : Int) ≤ 243 := by omega
    have y224 : ((k : Int) == 224) = false := by simp; omega
    have y237 : ((k : Int) == 237) = false := by simp; omega
    have y240 : ((k : Int) == 240) = false := by simp; omega
    have y244 : ((k : Int) == 244) = false := by simp; omega
    have hf : fol k = some (1, 128, 191) := by
      unfold fol
      rw [if_neg (by omega), if_pos (by omega)]
    unfold folN folL folH
    rw [hf]
    clear hf
    go_enter Tryz.func86, Tryz.ntmps86
    go_wp2
    go_ret3
    exact ⟨rfl, rfl⟩
  · have z1 : ¬ ((k : Int) < 128) := by omega
    have z2 : (194 : Int) ≤ (k : Int) := by omega
    have z3 : ¬ ((k : Int) ≤ 223) := by omega
    have z5 : ¬ ((225 : Int) ≤ (k : Int)) := by omega
    have z6 : (k : Int) ≤ 239 := by omega
    have z7 : ¬ ((241 : Int) ≤ (k : Int)) := by omega
    have z8 : (k : Int) ≤ 243 := by omega
    have y224 : ((k : Int) == 224) = true := by simp; omega
    have y237 : ((k : Int) == 237) = false := by simp; omega
    have y240 : ((k : Int) == 240) = false := by simp; omega
    have y244 : ((k : Int) == 244) = false := by simp; omega
    have hf : fol k = some (2, 160, 191) := by
      unfold fol
      rw [if_neg (by omega), if_neg (by omega), if_pos (by omega)]
    unfold folN folL folH
    rw [hf]
    clear hf
    go_enter Tryz.func86, Tryz.ntmps86
    go_wp2
    go_ret3
    exact ⟨rfl, rfl⟩
  · have z1 : ¬ ((k : Int) < 128) := by omega
    have z2 : (194 : Int) ≤ (k : Int) := by omega
    have z3 : ¬ ((k : Int) ≤ 223) := by omega
    have z5 : (225 : Int) ≤ (k : Int) := by omega
    have z6 : (k : Int) ≤ 239 := by omega
    have z7 : ¬ ((241 : Int) ≤ (k : Int)) := by omega
    have z8 : (k : Int) ≤ 243 := by omega
    have y224 : ((k : Int) == 224) = false := by simp; omega
    have y237 : ((k : Int) == 237) = false := by simp; omega
    have y240 : ((k : Int) == 240) = false := by simp; omega
    have y244 : ((k : Int) == 244) = false := by simp; omega
    have hf : fol k = some (2, 128, 191) := by
      unfold fol
      rw [if_neg (by omega), if_neg (by omega), if_neg (by omega), if_neg (by omega), if_pos (by omega)]
    unfold folN folL folH
    rw [hf]
    clear hf
    go_enter Tryz.func86, Tryz.ntmps86
    go_wp2
    go_ret3
    exact ⟨rfl, rfl⟩
  · have z1 : ¬ ((k : Int) < 128) := by omega
    have z2 : (194 : Int) ≤ (k : Int) := by omega
    have z3 : ¬ ((k : Int) ≤ 223) := by omega
    have z5 : (225 : Int) ≤ (k : Int) := by omega
    have z6 : (k : Int) ≤ 239 := by omega
    have z7 : ¬ ((241 : Int) ≤ (k : Int)) := by omega
    have z8 : (k : Int) ≤ 243 := by omega
    have y224 : ((k : Int) == 224) = false := by simp; omega
    have y237 : ((k : Int) == 237) = true := by simp; omega
    have y240 : ((k : Int) == 240) = false := by simp; omega
    have y244 : ((k : Int) == 244) = false := by simp; omega
    have hf : fol k = some (2, 128, 159) := by
      unfold fol
      rw [if_neg (by omega), if_neg (by omega), if_neg (by omega), if_pos (by omega)]
    unfold folN folL folH
    rw [hf]
    clear hf
    go_enter Tryz.func86, Tryz.ntmps86
    go_wp2
    go_ret3
    exact ⟨rfl, rfl⟩
  · have z1 : ¬ ((k : Int) < 128) := by omega
    have z2 : (194 : Int) ≤ (k : Int) := by omega
    have z3 : ¬ ((k : Int) ≤ 223) := by omega
    have z5 : (225 : Int) ≤ (k : Int) := by omega
    have z6 : (k : Int) ≤ 239 := by omega
    have z7 : ¬ ((241 : Int) ≤ (k : Int)) := by omega
    have z8 : (k : Int) ≤ 243 := by omega
    have y224 : ((k : Int) == 224) = false := by simp; omega
    have y237 : ((k : Int) == 237) = false := by simp; omega
    have y240 : ((k : Int) == 240) = false := by simp; omega
    have y244 : ((k : Int) == 244) = false := by simp; omega
    have hf : fol k = some (2, 128, 191) := by
      unfold fol
      rw [if_neg (by omega), if_neg (by omega), if_neg (by omega), if_neg (by omega), if_pos (by omega)]
    unfold folN folL folH
    rw [hf]
    clear hf
    go_enter Tryz.func86, Tryz.ntmps86
    go_wp2
    go_ret3
    exact ⟨rfl, rfl⟩
  · have z1 : ¬ ((k : Int) < 128) := by omega
    have z2 : (194 : Int) ≤ (k : Int) := by omega
    have z3 : ¬ ((k : Int) ≤ 223) := by omega
    have z5 : (225 : Int) ≤ (k : Int) := by omega
    have z6 : ¬ ((k : Int) ≤ 239) := by omega
    have z7 : ¬ ((241 : Int) ≤ (k : Int)) := by omega
    have z8 : (k : Int) ≤ 243 := by omega
    have y224 : ((k : Int) == 224) = false := by simp; omega
    have y237 : ((k : Int) == 237) = false := by simp; omega
    have y240 : ((k : Int) == 240) = true := by simp; omega
    have y244 : ((k : Int) == 244) = false := by simp; omega
    have hf : fol k = some (3, 144, 191) := by
      unfold fol
      rw [if_neg (by omega), if_neg (by omega), if_neg (by omega), if_neg (by omega), if_neg (by omega), if_pos (by omega)]
    unfold folN folL folH
    rw [hf]
    clear hf
    go_enter Tryz.func86, Tryz.ntmps86
    go_wp2
    go_ret3
    exact ⟨rfl, rfl⟩
  · have z1 : ¬ ((k : Int) < 128) := by omega
    have z2 : (194 : Int) ≤ (k : Int) := by omega
    have z3 : ¬ ((k : Int) ≤ 223) := by omega
    have z5 : (225 : Int) ≤ (k : Int) := by omega
    have z6 : ¬ ((k : Int) ≤ 239) := by omega
    have z7 : (241 : Int) ≤ (k : Int) := by omega
    have z8 : (k : Int) ≤ 243 := by omega
    have y224 : ((k : Int) == 224) = false := by simp; omega
    have y237 : ((k : Int) == 237) = false := by simp; omega
    have y240 : ((k : Int) == 240) = false := by simp; omega
    have y244 : ((k : Int) == 244) = false := by simp; omega
    have hf : fol k = some (3, 128, 191) := by
      unfold fol
      rw [if_neg (by omega), if_neg (by omega), if_neg (by omega), if_neg (by omega), if_neg (by omega), if_neg (by omega), if_pos (by omega)]
    unfold folN folL folH
    rw [hf]
    clear hf
    go_enter Tryz.func86, Tryz.ntmps86
    go_wp2
    go_ret3
    exact ⟨rfl, rfl⟩
  · have z1 : ¬ ((k : Int) < 128) := by omega
    have z2 : (194 : Int) ≤ (k : Int) := by omega
    have z3 : ¬ ((k : Int) ≤ 223) := by omega
    have z5 : (225 : Int) ≤ (k : Int) := by omega
    have z6 : ¬ ((k : Int) ≤ 239) := by omega
    have z7 : (241 : Int) ≤ (k : Int) := by omega
    have z8 : ¬ ((k : Int) ≤ 243) := by omega
    have y224 : ((k : Int) == 224) = false := by simp; omega
    have y237 : ((k : Int) == 237) = false := by simp; omega
    have y240 : ((k : Int) == 240) = false := by simp; omega
    have y244 : ((k : Int) == 244) = true := by simp; omega
    have hf : fol k = some (3, 128, 143) := by
      unfold fol
      rw [if_neg (by omega), if_neg (by omega), if_neg (by omega), if_neg (by omega), if_neg (by omega), if_neg (by omega), if_neg (by omega), if_pos (by omega)]
    unfold folN folL folH
    rw [hf]
    clear hf
    go_enter Tryz.func86, Tryz.ntmps86
    go_wp2
    go_ret3
    exact ⟨rfl, rfl⟩
  · have z1 : ¬ ((k : Int) < 128) := by omega
    have z2 : (194 : Int) ≤ (k : Int) := by omega
    have z3 : ¬ ((k : Int) ≤ 223) := by omega
    have z5 : (225 : Int) ≤ (k : Int) := by omega
    have z6 : ¬ ((k : Int) ≤ 239) := by omega
    have z7 : (241 : Int) ≤ (k : Int) := by omega
    have z8 : ¬ ((k : Int) ≤ 243) := by omega
    have y224 : ((k : Int) == 224) = false := by simp; omega
    have y237 : ((k : Int) == 237) = false := by simp; omega
    have y240 : ((k : Int) == 240) = false := by simp; omega
    have y244 : ((k : Int) == 244) = false := by simp; omega
    have hf : fol k = none := by
      unfold fol
      rw [if_neg (by omega), if_neg (by omega), if_neg (by omega), if_neg (by omega), if_neg (by omega), if_neg (by omega), if_neg (by omega), if_neg (by omega)]
    unfold folN folL folH
    rw [hf]
    clear hf
    go_enter Tryz.func86, Tryz.ntmps86
    go_wp2
    go_ret3
    exact ⟨rfl, rfl⟩

theorem folN_range (k : Nat) : -1 ≤ folN k ∧ folN k ≤ 3 := by
  unfold folN fol
  by_cases h1 : k < 128
  · rw [if_pos h1]; decide
  rw [if_neg h1]
  by_cases h2 : 194 ≤ k ∧ k ≤ 223
  · rw [if_pos h2]; decide
  rw [if_neg h2]
  by_cases h3 : k = 224
  · rw [if_pos h3]; decide
  rw [if_neg h3]
  by_cases h4 : k = 237
  · rw [if_pos h4]; decide
  rw [if_neg h4]
  by_cases h5 : 225 ≤ k ∧ k ≤ 239
  · rw [if_pos h5]; decide
  rw [if_neg h5]
  by_cases h6 : k = 240
  · rw [if_pos h6]; decide
  rw [if_neg h6]
  by_cases h7 : 241 ≤ k ∧ k ≤ 243
  · rw [if_pos h7]; decide
  rw [if_neg h7]
  by_cases h8 : k = 244
  · rw [if_pos h8]; decide
  rw [if_neg h8]; decide

end Go.Proofs.YtanlgplgplncdaaGreatDoor.L

/-
  The document's own: UTF8.
-/
namespace Go.Proofs.YtanlgplgplncdaaGreatDoor.L
open Go.RowKit
set_option linter.unusedVariables false
set_option linter.unusedSimpArgs false

theorem callJ_false {l : List UInt8} {lo hi : Nat} : ∀ {n k : Nat}, k ≤ n → callJ l lo hi k = false → callJ l lo hi n = false
  | 0, k, h, e => by obtain rfl : k = 0 := by omega
                     exact e
  | n + 1, k, h, e => by
    by_cases h2 : k = n + 1
    · rw [← h2]; exact e
    · rw [callJ, callJ_false (n := n) (by omega) e, Bool.false_and]

set_option maxRecDepth 100000 in
set_option maxHeartbeats 8000000 in
theorem utf8P (s : ByteArray) (w : World) (hs : s.size ≤ 4611686018427387904) : Calls Tryz.prog 70 #[.string s] w fun e w' => e = .returned (.bool (Lib.validD (bts s))) ∧ w' = w := by
  obtain ⟨R, hR⟩ : ∃ R, Lib.validD (bts s) = R := ⟨_, rfl⟩
  have HR := hidden hR
  rw [hR]
  clear hR
  go_enter Tryz.func70, Tryz.ntmps70
  go_wp2
  go_loopw [3] (fun s0 wx => ∃ i : Nat, s0 = .int .i64 (i : Int) ∧ i ≤ s.size ∧ Hid (Lib.validD ((bts s).drop i) = R) ∧ wx = w) (fun s0 _ => s.size - (intOf s0).toNat)
  case atStart => exact ⟨0, rfl, by omega, hidden (by simpa using HR.out), rfl⟩
  case round =>
    obtain ⟨i, rfl, hi, hrel, rfl⟩ := hrel
    by_cases hlt : i < s.size
    · have hltz : (i : Int) < (s.size : Int) := by omega
      obtain ⟨x, hx, hx2, hdr⟩ := byte_at s hlt
      have hbt : ∀ j, bt ((bts s).drop i) j = ((bts s).getD (i + j) 0).toNat := fun j => by simp [bt, List.getD, List.getElem?_drop]
      have hb0 : bt ((bts s).drop i) 0 = x.toNat := by rw [hdr]; rfl
      have hv := valid_fol ((bts s).drop i) (by rw [hdr]; simp)
      rw [hb0, hrel.out] at hv
      have hlen : ((bts s).drop i).length = s.size - i := by rw [List.length_drop, ← size_bts]
      rw [hlen] at hv
      have kF := fun w => followsP x.toNat x.toNat_lt w
      cases hf : fol x.toNat with
      | none =>
        rw [hf] at hv
        have HV := hidden hv
        have e1 : folN x.toNat = -1 := by rw [folN, hf]
        have e2 : folL x.toNat = 0 := by rw [folL, hf]
        have e3 : folH x.toNat = 0 := by rw [folH, hf]
        rw [e1, e2, e3] at kF
        clear hv hf e1 e2 e3 hdr hx2 hb0 hbt hlen hrel
        go_wp2_with (go_at_call 86; refine (kF _).mono ?_; rintro e w' ⟨rfl, hw'⟩; obtain rfl := hw'.symm)
        go_ret
        exact ⟨by rw [HV.out]; rfl, rfl⟩
      | some y =>
        obtain ⟨n, lo, hi'⟩ := y
        rw [hf] at hv
        simp only at hv
        have e1 : folN x.toNat = (n : Int) := by rw [folN, hf]
        have e2 : folL x.toNat = lo := by rw [folL, hf]
        have e3 : folH x.toNat = hi' := by rw [folH, hf]
        have hn3 : n ≤ 3 := by have := folN_range x.toNat; rw [e1] at this; omega
        rw [e1, e2, e3] at kF
        have HV := hidden hv
        have HBT := hidden hbt
        have z0 : ¬ (n : Int) < 0 := by omega
        clear hv hf e1 e2 e3 hdr hx2 hb0 hbt hlen hrel
        by_cases hin : i + n < s.size
        · have z1 : ¬ (s.size : Int) ≤ (i : Int) + (n : Int) := by omega
          go_wp2_with (go_at_call 86; refine (kF _).mono ?_; rintro e w' ⟨rfl, hw'⟩; obtain rfl := hw'.symm)
          clear kF hltz z0 z1
          go_loopw [7] (fun s0 wx => ∃ k : Nat, s0 = .int .i64 (k : Int) ∧ 1 ≤ k ∧ k ≤ n + 1 ∧ Hid (callJ ((bts s).drop i) lo hi' (k - 1) = true) ∧ wx = wr) (fun s0 _ => n + 1 - (intOf s0).toNat)
          case atStart => exact ⟨1, rfl, by omega, by omega, hidden rfl, rfl⟩
          case round =>
            obtain ⟨k, rfl, hk1, hk2, hcal, rfl⟩ := hrel
            by_cases hkn : k ≤ n
            · have hknz : (k : Int) ≤ (n : Int) := by omega
              obtain ⟨q, hq⟩ : ∃ q, i + k = q := ⟨_, rfl⟩
              have hqn : q < s.size := by omega
              obtain ⟨y, hy, hy2, -⟩ := byte_at s hqn
              have hb : bt ((bts s).drop i) k = y.toNat := by rw [HBT.out k, hq, List.getD, hy2]; rfl
              have hck : cok ((bts s).drop i) lo hi' k = !((decide (k = 1) && (decide (y.toNat < lo) || decide (hi' < y.toNat))) || decide (y.toNat < 128) || decide (191 < y.toNat)) := by rw [cok, hb]
              have hst : callJ ((bts s).drop i) lo hi' k = cok ((bts s).drop i) lo hi' k := by
                obtain ⟨k', rfl⟩ : ∃ k', k = k' + 1 := ⟨k - 1, by omega⟩
                have := hcal.out
                rw [Nat.add_sub_cancel] at this
                rw [callJ, this, Bool.true_and]
              have hqz : (i : Int) + (k : Int) = (q : Int) := by omega
              have hqs : (q : Int) < (s.size : Int) := by omega
              rw [hck] at hst
              have HST := hidden hst
              clear hst hck hb hy2
              have hsplit : (k = 1 ∧ y.toNat < lo) ∨ (k = 1 ∧ ¬ y.toNat < lo ∧ hi' < y.toNat) ∨ (k = 1 ∧ ¬ y.toNat < lo ∧ ¬ hi' < y.toNat ∧ y.toNat < 128) ∨ (k = 1 ∧ ¬ y.toNat < lo ∧ ¬ hi' < y.toNat ∧ ¬ y.toNat < 128 ∧ 191 < y.toNat) ∨ (k = 1 ∧ ¬ y.toNat < lo ∧ ¬ hi' < y.toNat ∧ ¬ y.toNat < 128 ∧ ¬ 191 < y.toNat) ∨ (¬ k = 1 ∧ y.toNat < 128) ∨ (¬ k = 1 ∧ ¬ y.toNat < 128 ∧ 191 < y.toNat) ∨ (¬ k = 1 ∧ ¬ y.toNat < 128 ∧ ¬ 191 < y.toNat) := by omega
              rcases hsplit with hc | hc | hc | hc | hc | hc | hc | hc
              · have hq1 : (i : Int) + 1 = (q : Int) := by omega
                have f1 : (y.toNat : Int) < (lo : Int) := by omega
                have HV2 : Hid (R = false) := hidden (by rw [HV.out, callJ_false hkn (by rw [HST.out]; simp [hc]), Bool.and_false]; rfl)
                obtain ⟨rfl, -⟩ := hc
                clear hqz
                go_wp2
                go_ret
                exact ⟨by rw [HV2.out]; rfl, rfl⟩
              · have hq1 : (i : Int) + 1 = (q : Int) := by omega
                have f1 : ¬ (y.toNat : Int) < (lo : Int) := by omega
                have f2 : (hi' : Int) < (y.toNat : Int) := by omega
                have HV2 : Hid (R = false) := hidden (by rw [HV.out, callJ_false hkn (by rw [HST.out]; simp [hc]), Bool.and_false]; rfl)
                obtain ⟨rfl, -⟩ := hc
                clear hqz
                go_wp2
                go_ret
                exact ⟨by rw [HV2.out]; rfl, rfl⟩
              · have hq1 : (i : Int) + 1 = (q : Int) := by omega
                have f1 : ¬ (y.toNat : Int) < (lo : Int) := by omega
                have f2 : ¬ (hi' : Int) < (y.toNat : Int) := by omega
                have f3 : (y.toNat : Int) < 128 := by omega
                have HV2 : Hid (R = false) := hidden (by rw [HV.out, callJ_false hkn (by rw [HST.out]; simp [hc]), Bool.and_false]; rfl)
                obtain ⟨rfl, -⟩ := hc
                clear hqz
                go_wp2
                go_ret
                exact ⟨by rw [HV2.out]; rfl, rfl⟩
              · have hq1 : (i : Int) + 1 = (q : Int) := by omega
                have f1 : ¬ (y.toNat : Int) < (lo : Int) := by omega
                have f2 : ¬ (hi' : Int) < (y.toNat : Int) := by omega
                have f3 : ¬ (y.toNat : Int) < 128 := by omega
                have f4 : (191 : Int) < (y.toNat : Int) := by omega
                have HV2 : Hid (R = false) := hidden (by rw [HV.out, callJ_false hkn (by rw [HST.out]; simp [hc]), Bool.and_false]; rfl)
                obtain ⟨rfl, -⟩ := hc
                clear hqz
                go_wp2
                go_ret
                exact ⟨by rw [HV2.out]; rfl, rfl⟩
              · have hq1 : (i : Int) + 1 = (q : Int) := by omega
                have f1 : ¬ (y.toNat : Int) < (lo : Int) := by omega
                have f2 : ¬ (hi' : Int) < (y.toNat : Int) := by omega
                have f3 : ¬ (y.toNat : Int) < 128 := by omega
                have f4 : ¬ (191 : Int) < (y.toNat : Int) := by omega
                have HC : Hid (callJ ((bts s).drop i) lo hi' k = true) := hidden (by rw [HST.out]; simp [hc])
                obtain ⟨rfl, -⟩ := hc
                clear hqz
                go_wp2
                exact ⟨⟨2, rfl, by omega, by omega, HC, trivial⟩, by simp only [intOf]; omega⟩
              · have f0 : ((k : Int) == 1) = false := by simp; omega
                have f3 : (y.toNat : Int) < 128 := by omega
                have HV2 : Hid (R = false) := hidden (by rw [HV.out, callJ_false hkn (by rw [HST.out]; simp [hc]), Bool.and_false]; rfl)
                go_wp2
                go_ret
                exact ⟨by rw [HV2.out]; rfl, rfl⟩
              · have f0 : ((k : Int) == 1) = false := by simp; omega
                have f3 : ¬ (y.toNat : Int) < 128 := by omega
                have f4 : (191 : Int) < (y.toNat : Int) := by omega
                have HV2 : Hid (R = false) := hidden (by rw [HV.out, callJ_false hkn (by rw [HST.out]; simp [hc]), Bool.and_false]; rfl)
                go_wp2
                go_ret
                exact ⟨by rw [HV2.out]; rfl, rfl⟩
              · have f0 : ((k : Int) == 1) = false := by simp; omega
                have f3 : ¬ (y.toNat : Int) < 128 := by omega
                have f4 : ¬ (191 : Int) < (y.toNat : Int) := by omega
                have HC : Hid (callJ ((bts s).drop i) lo hi' k = true) := hidden (by rw [HST.out]; simp [hc])
                go_wp2
                exact ⟨⟨k + 1, rfl, by omega, by omega, HC, trivial⟩, by simp only [intOf]; omega⟩
            · have hknz : ¬ (k : Int) ≤ (n : Int) := by omega
              obtain rfl : k = n + 1 := by omega
              have HN : Hid (Lib.validD ((bts s).drop (i + 1 + n)) = R) := hidden (by have := hcal.out; rw [Nat.add_sub_cancel] at this; rw [HV.out, this, decide_eq_true (by omega), List.drop_drop]; simp [Nat.add_assoc, Nat.add_comm, Nat.add_left_comm])
              go_wp2
              exact ⟨⟨i + 1 + n, by simp, by omega, HN, trivial⟩, by simp only [intOf]; omega⟩
        · have z1 : (s.size : Int) ≤ (i : Int) + (n : Int) := by omega
          have HV2 : Hid (R = false) := hidden (by rw [HV.out, decide_eq_false (by omega)]; rfl)
          go_wp2_with (go_at_call 86; refine (kF _).mono ?_; rintro e w' ⟨rfl, hw'⟩; obtain rfl := hw'.symm)
          go_ret
          exact ⟨by rw [HV2.out]; rfl, rfl⟩
    · have hltz : ¬ (i : Int) < (s.size : Int) := by omega
      have HV2 : Hid (R = true) := hidden (by rw [← hrel.out, List.drop_of_length_le (by rw [← size_bts]; omega)]; rfl)
      go_wp2
      go_ret
      exact ⟨by rw [HV2.out]; rfl, rfl⟩

end Go.Proofs.YtanlgplgplncdaaGreatDoor.L

/-
  The document's own: IsValue, Right.
-/
namespace Go.Proofs.YtanlgplgplncdaaGreatDoor.L
open Go.RowKit
set_option linter.unusedVariables false
set_option linter.unusedSimpArgs false

set_option maxHeartbeats 2000000 in
theorem risValueP (s : ByteArray) (w : World) (hs : s.size ≤ 4611686018427387904) : Calls Tryz.prog 56 #[.string s] w fun e w' => e = .returned (.bool (isVal (bts s))) ∧ w' = w := by
  have hV := utf8P s w hs
  unfold isVal
  rw [← size_bts]
  obtain ⟨q, hq⟩ : ∃ q, Lib.validD (bts s) = q := ⟨_, rfl⟩
  rw [hq] at hV ⊢
  clear hq
  have e0 := empty_bts s
  cases q with
  | false =>
    go_enter Tryz.func56, Tryz.ntmps56
    go_wp2_with (go_at_call 70; refine hV.mono ?_; rintro e w' ⟨rfl, rfl⟩)
    go_ret
    exact ⟨by simp, rfl⟩
  | true =>
    cases h1 : decide (bts s = []) with
    | true =>
      rw [h1] at e0
      have h1' := of_decide_eq_true h1
      go_enter Tryz.func56, Tryz.ntmps56
      go_wp2_with (go_at_call 70; refine hV.mono ?_; rintro e w' ⟨rfl, rfl⟩)
      go_ret
      exact ⟨by simp [h1', e0], rfl⟩
    | false =>
      rw [h1] at e0
      have h1' := of_decide_eq_false h1
      by_cases h2 : s.size ≤ 64
      · have z2 : (s.size : Int) ≤ 64 := by omega
        go_enter Tryz.func56, Tryz.ntmps56
        go_wp2_with (go_at_call 70; refine hV.mono ?_; rintro e w' ⟨rfl, rfl⟩)
        go_ret
        exact ⟨by simp [h1', h2, e0], rfl⟩
      · have z2 : ¬ (s.size : Int) ≤ 64 := by omega
        go_enter Tryz.func56, Tryz.ntmps56
        go_wp2_with (go_at_call 70; refine hV.mono ?_; rintro e w' ⟨rfl, rfl⟩)
        go_ret
        exact ⟨by simp [h1', h2, e0]; try omega, rfl⟩

end Go.Proofs.YtanlgplgplncdaaGreatDoor.L
