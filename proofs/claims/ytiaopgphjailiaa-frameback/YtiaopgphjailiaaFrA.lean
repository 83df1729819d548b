/-
  Size, words, copies: the program's and the document's.
-/
import Derived.Test.YtiaopgphjailiaaFrM
import Derived.Test.YtiaopgphjailiaaLent
import Derived.Test.YtiaopgphjailiaaApp
namespace Go.Proofs.Ytiaopgphjailiaa
open Go.RowKit
set_option linter.unusedVariables false
set_option linter.unusedSimpArgs false

theorem size_any (n : Int) (w : World) (hn : n ≤ 9223372036854775807) : Calls Try.prog 13 #[.int .i64 n] w fun e w' => e = .returned (.int .i64 (sizeN n)) ∧ w' = w := by
  have H : Hid (sizeN n = if n < 0 then 0 else if 4194304 < n then 0 else n + 9) := rfl
  go_enter Try.func13, Try.ntmps13
  by_cases h1 : n < 0
  · go_wp2
    go_ret
    rw [H.out, if_pos h1]
    exact ⟨rfl, rfl⟩
  · by_cases h2 : 4194304 < n
    · go_wp2
      go_ret
      rw [H.out, if_neg (by omega), if_pos h2]
      exact ⟨rfl, rfl⟩
    · go_wp2
      go_ret
      rw [H.out, if_neg (by omega), if_neg (by omega)]
      refine ⟨?_, rfl⟩
      show Ending.returned (.int .i64 _) = _
      congr 2
      omega
theorem refSize_any (n : Int) (w : World) (hn : n ≤ 9223372036854775807) : Calls Try.prog 14 #[.int .i64 n] w fun e w' => e = .returned (.int .i64 (sizeN n)) ∧ w' = w := by
  have H : Hid (sizeN n = if n < 0 then 0 else if 4194304 < n then 0 else n + 9) := rfl
  go_enter Try.func14, Try.ntmps14
  by_cases h1 : n < 0
  · go_wp2
    go_ret
    rw [H.out, if_pos h1]
    exact ⟨rfl, rfl⟩
  · by_cases h2 : 4194304 < n
    · go_wp2
      go_ret
      rw [H.out, if_neg (by omega), if_pos h2]
      exact ⟨rfl, rfl⟩
    · go_wp2
      go_ret
      rw [H.out, if_neg (by omega), if_neg (by omega)]
      exact ⟨rfl, rfl⟩

theorem or32 (a b k : Nat) (ha : a < 2 ^ k) (hb : b * 2 ^ k < 4294967296) (hk : k < 32) : bits .or .u32 (a : Int) ((b : Int) * ((2 ^ k : Nat) : Int)) = ((a + 2 ^ k * b : Nat) : Int) := by
  have h := u32_or_nat a (b * 2 ^ k) (Nat.lt_of_lt_of_le ha (by have := Nat.pow_le_pow_right (n := 2) (by decide) (Nat.le_of_lt hk); omega)) hb
  rw [Int.natCast_mul] at h
  refine h.trans ?_
  rw [Nat.or_comm, Nat.mul_comm, ← Nat.two_pow_add_eq_or_of_lt ha, Nat.add_comm]
theorem word_or (n0 n1 n2 n3 : Nat) (h0 : n0 ≤ 255) (h1 : n1 ≤ 255) (h2 : n2 ≤ 255) (h3 : n3 ≤ 255) : bits .or .u32 (bits .or .u32 (bits .or .u32 (n0 : Int) ((n1 : Int) * 256)) ((n2 : Int) * 65536)) ((n3 : Int) * 16777216) = ((n0 + 256 * n1 + 65536 * n2 + 16777216 * n3 : Nat) : Int) := by
  have e1 : bits .or .u32 (n0 : Int) ((n1 : Int) * 256) = ((n0 + 256 * n1 : Nat) : Int) := or32 n0 n1 8 (by omega) (by omega) (by decide)
  rw [e1]
  have e2 : bits .or .u32 ((n0 + 256 * n1 : Nat) : Int) ((n2 : Int) * 65536) = ((n0 + 256 * n1 + 65536 * n2 : Nat) : Int) := or32 _ n2 16 (by omega) (by omega) (by decide)
  rw [e2]
  exact or32 _ n3 24 (by omega) (by omega) (by decide)

set_option maxHeartbeats 1000000 in
theorem wordAt_any (ad : Option Addr) (len cap : Nat) (l : List Int) (w : World) (hs : Sl w ad len l) (h4 : 4 ≤ len) : Calls Try.prog 25 #[.slice ad len cap] w fun e w' => e = .returned (.int .u32 (num4 l : Nat)) ∧ ∃ n, w' = w.drewN n := by
  obtain ⟨b, off, rfl, _, hc⟩ := hs.at (by omega)
  have c0 : w.cell? ⟨b, off, none⟩ = some (.int .u8 (l.getD 0 0)) := hc 0 (by omega)
  have c1 := hc 1 (by omega)
  have c2 := hc 2 (by omega)
  have c3 := hc 3 (by omega)
  have b0 := hs.byte.at 0
  have b1 := hs.byte.at 1
  have b2 := hs.byte.at 2
  have b3 := hs.byte.at 3
  have H : Hid (num4 l = (l.getD 0 0).toNat + 256 * (l.getD 1 0).toNat + 65536 * (l.getD 2 0).toNat + 16777216 * (l.getD 3 0).toNat) := rfl
  clear hc hs
  generalize l.getD 0 0 = x0 at *
  generalize l.getD 1 0 = x1 at *
  generalize l.getD 2 0 = x2 at *
  generalize l.getD 3 0 = x3 at *
  obtain ⟨n0, rfl⟩ : ∃ n : Nat, x0 = n := ⟨x0.toNat, by omega⟩
  obtain ⟨n1, rfl⟩ : ∃ n : Nat, x1 = n := ⟨x1.toNat, by omega⟩
  obtain ⟨n2, rfl⟩ : ∃ n : Nat, x2 = n := ⟨x2.toNat, by omega⟩
  obtain ⟨n3, rfl⟩ : ∃ n : Nat, x3 = n := ⟨x3.toNat, by omega⟩
  go_enter Try.func25, Try.ntmps25
  go_wp2_with fail
  go_quiet (fail)
  go_wp2
  go_ret
  refine ⟨?_, _, rfl⟩
  show Ending.returned (.int .u32 (bits .or .u32 (bits .or .u32 (bits .or .u32 (n0 : Int) ((n1 : Int) * 256)) ((n2 : Int) * 65536)) ((n3 : Int) * 16777216))) = _
  rw [H.out, word_or n0 n1 n2 n3 (by omega) (by omega) (by omega) (by omega)]
  rfl

set_option maxHeartbeats 1000000 in
theorem word_any (ad : Option Addr) (len cap : Nat) (l : List Int) (w : World) (hs : Sl w ad len l) (h4 : 4 ≤ len) : Calls Try.prog 27 #[.slice ad len cap] w fun e w' => e = .returned (.int .u32 (num4 l : Nat)) ∧ ∃ n, w' = w.drewN n := by
  obtain ⟨b, off, rfl, _, hc⟩ := hs.at (by omega)
  have c0 : w.cell? ⟨b, off, none⟩ = some (.int .u8 (l.getD 0 0)) := hc 0 (by omega)
  have c1 := hc 1 (by omega)
  have c2 := hc 2 (by omega)
  have c3 := hc 3 (by omega)
  have b0 := hs.byte.at 0
  have b1 := hs.byte.at 1
  have b2 := hs.byte.at 2
  have b3 := hs.byte.at 3
  have H : Hid (num4 l = (l.getD 0 0).toNat + 256 * (l.getD 1 0).toNat + 65536 * (l.getD 2 0).toNat + 16777216 * (l.getD 3 0).toNat) := rfl
  clear hc hs
  generalize l.getD 0 0 = x0 at *
  generalize l.getD 1 0 = x1 at *
  generalize l.getD 2 0 = x2 at *
  generalize l.getD 3 0 = x3 at *
  obtain ⟨n0, rfl⟩ : ∃ n : Nat, x0 = n := ⟨x0.toNat, by omega⟩
  obtain ⟨n1, rfl⟩ : ∃ n : Nat, x1 = n := ⟨x1.toNat, by omega⟩
  obtain ⟨n2, rfl⟩ : ∃ n : Nat, x2 = n := ⟨x2.toNat, by omega⟩
  obtain ⟨n3, rfl⟩ : ∃ n : Nat, x3 = n := ⟨x3.toNat, by omega⟩
  go_enter Try.func27, Try.ntmps27
  go_wp2_with fail
  go_quiet (fail)
  go_wp2
  go_ret
  refine ⟨?_, _, rfl⟩
  show Ending.returned (.int .u32 (bits .or .u32 (bits .or .u32 (bits .or .u32 (n0 : Int) ((n1 : Int) * 256)) ((n2 : Int) * 65536)) ((n3 : Int) * 16777216))) = _
  rw [H.out, word_or n0 n1 n2 n3 (by omega) (by omega) (by omega) (by omega)]
  rfl

end Go.Proofs.Ytiaopgphjailiaa
