import Derived.Test.YtgmdpbahcbhfjaaGreatDoorRows
import Derived.WalkKit
import Derived.WalkSpells
import Derived.WalkLawsBesides
set_option linter.unusedSimpArgs false
set_option linter.unusedVariables false
set_option maxHeartbeats 40000000
set_option maxRecDepth 100000
namespace Go.Proofs.YtgmdpbahcbhfjaaGreatDoor.J
open Go.RowKit

/-- How many bits a byte wants. -/
def bits8 (i : Nat) : Nat := if i < 1 then 0 else if i < 2 then 1 else if i < 4 then 2 else if i < 8 then 3 else if i < 16 then 4 else if i < 32 then 5 else if i < 64 then 6 else if i < 128 then 7 else 8
def tab8 : ByteArray := ⟨((List.range 256).map fun i => UInt8.ofNat (bits8 i)).toArray⟩
theorem tab8_get? : ∀ i : Fin 256, (tab8[i.val]?).map (fun b => b.toNat) = some (bits8 i.val) := by decide +kernel
theorem tab8_get (i : Nat) (h : i < 256) (h' : i < tab8.size) : (tab8[i]'h').toNat = bits8 i := by
  have e := tab8_get? ⟨i, h⟩
  simpa [h'] using e

/-- x wants r bits. -/
def IsLen (x r : Nat) : Prop := x < 2 ^ r ∧ (0 < x → 1 ≤ r ∧ 2 ^ (r - 1) ≤ x) ∧ r ≤ 64

theorem isLen_shift (x y k : Nat) (hk : k ≤ 56) (hy : y = x / 2 ^ k) (hy1 : y < 256) (hlo : 2 ^ k ≤ x ∨ k = 0) : IsLen x (k + bits8 y) := by
  have hp : 0 < 2 ^ k := Nat.two_pow_pos k
  have hx1 : 2 ^ k * y ≤ x := by rw [hy]; exact Nat.mul_div_le _ _
  have hx2 : x < 2 ^ k * (y + 1) := by rw [hy]; exact Nat.lt_mul_div_succ _ hp
  have key : y < 2 ^ bits8 y ∧ (0 < y → 1 ≤ bits8 y ∧ 2 ^ (bits8 y - 1) ≤ y) ∧ bits8 y ≤ 8 := by
    unfold bits8
    repeat' split
    all_goals (refine ⟨by simp; omega, fun h => ⟨by omega, by simp; omega⟩, by omega⟩)
  obtain ⟨k1, k2, k3⟩ := key
  refine ⟨?_, fun h0 => ?_, by omega⟩
  · rw [Nat.pow_add]
    exact Nat.lt_of_lt_of_le hx2 (Nat.mul_le_mul_left _ k1)
  · have hy0 : 0 < y := by
      rcases hlo with h | h
      · rw [hy]; exact Nat.div_pos h hp
      · subst h; simp at hy; omega
    obtain ⟨g1, g2⟩ := k2 hy0
    refine ⟨by omega, ?_⟩
    rw [show k + bits8 y - 1 = k + (bits8 y - 1) by omega, Nat.pow_add]
    exact Nat.le_trans (Nat.mul_le_mul_left _ g2) hx1

theorem bits8_le (y : Nat) : bits8 y ≤ 8 := by
  unfold bits8
  repeat' split
  all_goals omega

theorem len_leaf (T : ByteArray) (hT : T = tab8) (x y : Int) (k : Nat) (h0 : 0 ≤ x) (hy : y.toNat = x.toNat / 2 ^ k) (hlo : 2 ^ k ≤ x.toNat ∨ k = 0) (hy0 : 0 ≤ y) (hy1 : y < 256) (hk : k ≤ 56) (hlt : y.toNat < T.size) :
    ∃ r : Nat, wrap64 ((k : Int) + wrap64 ((T[y.toNat]'hlt).toNat : Int)) = (r : Int) ∧ IsLen x.toNat r := by
  subst hT
  have hb := bits8_le y.toNat
  refine ⟨k + bits8 y.toNat, ?_, isLen_shift _ _ _ hk hy (by omega) hlo⟩
  rw [tab8_get y.toNat (by omega)]
  generalize bits8 y.toNat = t at hb
  simp only [wrap64]
  omega

theorem len_leaf0 (T : ByteArray) (hT : T = tab8) (x : Int) (h0 : 0 ≤ x) (hx : x < 256) (hlt : x.toNat < T.size) :
    ∃ r : Nat, wrap64 (wrap64 ((T[x.toNat]'hlt).toNat : Int)) = (r : Int) ∧ IsLen x.toNat r := by
  obtain ⟨r, h, hr⟩ := len_leaf T hT x x 0 h0 (by simp) (.inr rfl) h0 hx (by omega) hlt
  exact ⟨r, by simpa using h, hr⟩

theorem ret_of {Q : World → Nat → Prop} {w : World} {a : Int} (h : ∃ r : Nat, a = (r : Int) ∧ Q w r) : ∃ r : Nat, Ending.returned (.int .i64 a) = .returned (.int .i64 r) ∧ Q w r := by
  obtain ⟨r, rfl, h⟩ := h
  exact ⟨r, rfl, h⟩

set_option maxHeartbeats 4000000 in
set_option maxRecDepth 100000 in
theorem len64_any (x : Int) (w : World) (h0 : 0 ≤ x) (h1 : x ≤ 18446744073709551615) :
    Calls Tryz.prog 118 #[.int .u64 x] w fun e w' => (∃ r : Nat, e = .returned (.int .i64 r) ∧ IsLen x.toNat r) ∧ w' = w := by
  go_enter Tryz.func118, Tryz.ntmps118
  go_wp2
  all_goals go_ret
  all_goals refine ⟨ret_of (Q := fun _ r => IsLen x.toNat r) (w := w) ?_, rfl⟩
  · exact len_leaf _ (by kernel_rfl) x _ 56 h0 (by omega) (.inl (by omega)) (by omega) (by omega) (by omega) _
  · exact len_leaf _ (by kernel_rfl) x _ 48 h0 (by omega) (.inl (by omega)) (by omega) (by omega) (by omega) _
  · exact len_leaf _ (by kernel_rfl) x _ 40 h0 (by omega) (.inl (by omega)) (by omega) (by omega) (by omega) _
  · exact len_leaf _ (by kernel_rfl) x _ 32 h0 (by omega) (.inl (by omega)) (by omega) (by omega) (by omega) _
  · exact len_leaf _ (by kernel_rfl) x _ 24 h0 (by omega) (.inl (by omega)) (by omega) (by omega) (by omega) _
  · exact len_leaf _ (by kernel_rfl) x _ 16 h0 (by omega) (.inl (by omega)) (by omega) (by omega) (by omega) _
  · exact len_leaf _ (by kernel_rfl) x _ 8 h0 (by omega) (.inl (by omega)) (by omega) (by omega) (by omega) _
  · exact len_leaf0 _ (by kernel_rfl) x h0 (by omega) _

end Go.Proofs.YtgmdpbahcbhfjaaGreatDoor.J
