/-
  Code points in bytes: what a text begins with. Nothing of the program.
-/
import Derived.Test.YtanlgplgplncdaaDoorPtA
import Derived.Lib.DecodeN
namespace Go.Proofs.YtanlgplgplncdaaDoor
open Go
set_option linter.unusedVariables false
set_option linter.unusedSimpArgs false

def bts (s : ByteArray) : List UInt8 := s.data.toList
def enc (c : Nat) : List UInt8 := bts (Utf8.encode (c : Int))
/-- A code point that a text may have. -/
def Vc (c : Nat) : Prop := c < 55296 ∨ (57344 ≤ c ∧ c ≤ 1114111)
theorem valid_iff (c : Nat) : Utf8.valid (c : Int) = true ↔ Vc c := by
  unfold Utf8.valid Vc
  simp only [Bool.or_eq_true, Bool.and_eq_true, decide_eq_true_eq]
  omega
def b8 (n : Nat) : UInt8 := UInt8.ofNat n
theorem b8_nat {n : Nat} (h : n < 256) : (b8 n).toNat = n := by unfold b8; simp; omega
theorem enc_eq {c : Nat} (h : Vc c) : enc c = if c < 128 then [b8 c] else if c < 2048 then [b8 (192 + c / 64), b8 (128 + c % 64)] else if c < 65536 then [b8 (224 + c / 4096), b8 (128 + c / 64 % 64), b8 (128 + c % 64)] else [b8 (240 + c / 262144), b8 (128 + c / 4096 % 64), b8 (128 + c / 64 % 64), b8 (128 + c % 64)] := by
  have hv := (valid_iff c).2 h
  unfold enc Utf8.encode
  simp only [hv, if_true, Int.toNat_natCast]
  (repeat' split) <;> rfl
theorem enc_len {c : Nat} (h : Vc c) : 1 ≤ (enc c).length ∧ (enc c).length ≤ 4 := by
  rw [enc_eq h]
  (repeat' split) <;> simp

theorem get_bts (s : ByteArray) (j : Nat) : s.get! j = (bts s)[j]?.getD default := by
  unfold bts
  show s.data[j]! = _
  rw [Array.getElem?_toList, getElem!_def]
  cases s.data[j]? <;> rfl

/-- What begins with a code point's bytes is read as it. -/
theorem decode_enc (s : ByteArray) (i c : Nat) (h : Vc c) (t : List UInt8) (hp : (bts s).drop i = enc c ++ t) : Utf8.decode s i = (c, (enc c).length) := by
  have hl : ((bts s).drop i).length = s.size - i := by rw [List.length_drop]; rfl
  have hg : ∀ k, k < (enc c).length → s.get! (i + k) = (enc c)[k]?.getD default := fun k hk => by
    rw [get_bts, show (bts s)[i + k]? = ((bts s).drop i)[k]? by rw [List.getElem?_drop], hp, List.getElem?_append_left hk]
  have hsz : (enc c).length ≤ s.size - i := by rw [← hl, hp, List.length_append]; omega
  rw [Lib.decode_at]
  rw [enc_eq h] at hg hsz ⊢
  by_cases h1 : c < 128
  · rw [if_pos h1] at hg hsz ⊢
    have g0 := hg 0 (by simp)
    rw [Nat.add_zero] at g0
    rw [g0]
    simp only [List.getElem?_cons_zero, Option.getD_some, b8_nat (show c < 256 by omega)]
    unfold Lib.decodeN
    simp [h1]
  · rw [if_neg h1] at hg hsz ⊢
    by_cases h2 : c < 2048
    · rw [if_pos h2] at hg hsz ⊢
      have g0 := hg 0 (by simp)
      have g1 := hg 1 (by simp)
      rw [Nat.add_zero] at g0
      rw [g0, g1]
      simp only [List.getElem?_cons_zero, List.getElem?_cons_succ, Option.getD_some, b8_nat (show 192 + c / 64 < 256 by omega), b8_nat (show 128 + c % 64 < 256 by omega)]
      simp only [List.length_cons, List.length_nil] at hsz
      unfold Lib.decodeN
      have e1 : ¬ 192 + c / 64 < 128 := by omega
      have e2 : (192 + c / 64) / 32 = 6 := by omega
      have e3 : (128 + c % 64) / 64 = 2 := by omega
      have e4 : (192 + c / 64) % 32 * 64 + (128 + c % 64) % 64 = c := by omega
      have e5 : 1 < s.size - i := by omega
      rw [if_neg e1, if_pos ⟨e2, e5, e3⟩, e4, if_pos (by omega)]
      rfl
    · rw [if_neg h2] at hg hsz ⊢
      by_cases h3 : c < 65536
      · rw [if_pos h3] at hg hsz ⊢
        have g0 := hg 0 (by simp)
        have g1 := hg 1 (by simp)
        have g2 := hg 2 (by simp)
        rw [Nat.add_zero] at g0
        rw [g0, g1, g2]
        simp only [List.getElem?_cons_zero, List.getElem?_cons_succ, Option.getD_some, b8_nat (show 224 + c / 4096 < 256 by omega), b8_nat (show 128 + c % 64 < 256 by omega), b8_nat (show 128 + c / 64 % 64 < 256 by omega)]
        simp only [List.length_cons, List.length_nil] at hsz
        unfold Lib.decodeN
        have e1 : ¬ 224 + c / 4096 < 128 := by omega
        have e2 : ¬ (224 + c / 4096) / 32 = 6 := by omega
        have e2' : (224 + c / 4096) / 16 = 14 := by omega
        have e3 : (128 + c % 64) / 64 = 2 := by omega
        have e3' : (128 + c / 64 % 64) / 64 = 2 := by omega
        have e4 : (224 + c / 4096) % 16 * 4096 + (128 + c / 64 % 64) % 64 * 64 + (128 + c % 64) % 64 = c := by omega
        have e5 : 1 < s.size - i := by omega
        have e6 : 2 < s.size - i := by omega
        rw [if_neg e1, if_neg (fun h => e2 h.1), if_pos ⟨e2', ⟨e5, e3'⟩, e6, e3⟩, e4, if_pos ⟨by omega, h⟩]
        rfl
      · rw [if_neg h3] at hg hsz ⊢
        have hc : c ≤ 1114111 := by unfold Vc at h; omega
        have g0 := hg 0 (by simp)
        have g1 := hg 1 (by simp)
        have g2 := hg 2 (by simp)
        have g3 := hg 3 (by simp)
        rw [Nat.add_zero] at g0
        rw [g0, g1, g2, g3]
        simp only [List.getElem?_cons_zero, List.getElem?_cons_succ, Option.getD_some, b8_nat (show 240 + c / 262144 < 256 by omega), b8_nat (show 128 + c % 64 < 256 by omega), b8_nat (show 128 + c / 64 % 64 < 256 by omega), b8_nat (show 128 + c / 4096 % 64 < 256 by omega)]
        simp only [List.length_cons, List.length_nil] at hsz
        unfold Lib.decodeN
        have e1 : ¬ 240 + c / 262144 < 128 := by omega
        have e2 : ¬ (240 + c / 262144) / 32 = 6 := by omega
        have e2' : ¬ (240 + c / 262144) / 16 = 14 := by omega
        have e2'' : (240 + c / 262144) / 8 = 30 := by omega
        have e3 : (128 + c % 64) / 64 = 2 := by omega
        have e3' : (128 + c / 64 % 64) / 64 = 2 := by omega
        have e3'' : (128 + c / 4096 % 64) / 64 = 2 := by omega
        have e4 : (240 + c / 262144) % 8 * 262144 + (128 + c / 4096 % 64) % 64 * 4096 + (128 + c / 64 % 64) % 64 * 64 + (128 + c % 64) % 64 = c := by omega
        have e5 : 1 < s.size - i := by omega
        have e6 : 2 < s.size - i := by omega
        have e7 : 3 < s.size - i := by omega
        rw [if_neg e1, if_neg (fun h => e2 h.1), if_neg (fun h => e2' h.1), if_pos ⟨e2'', ⟨e5, e3''⟩, ⟨e6, e3'⟩, e7, e3⟩, e4, if_pos ⟨by omega, h⟩]
        rfl
/-- Whatever is read is a code point that a text may have. -/
theorem decode_vc (s : ByteArray) (i : Nat) : Vc (Utf8.decode s i).1 := by
  have herr : Vc 65533 := by unfold Vc; omega
  unfold Utf8.decode
  simp only []
  (repeat' split) <;> first
    | exact herr
    | (simp only [Utf8.runeError]; exact herr)
    | (rename_i h; simp only [Bool.and_eq_true, decide_eq_true_eq] at h; exact (valid_iff _).1 (by have := h.2; simpa using this))
    | (unfold Vc; simp only [Utf8.runeError, beq_iff_eq, Bool.and_eq_true, decide_eq_true_eq] at *; omega)

end Go.Proofs.YtanlgplgplncdaaDoor
