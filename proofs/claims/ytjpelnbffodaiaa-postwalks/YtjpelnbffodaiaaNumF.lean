import Derived.Test.YtjpelnbffodaiaaNumE
namespace Go.Proofs.Ytjpelnbffodaiaa
open Go.RowKit
set_option linter.unusedVariables false

theorem hidden {p : Prop} (h : p) : Hid p := h

theorem decAt_bound : ∀ (l : List Int) (i n : Nat), i ≤ 10 → n < 128 ^ i → Byte l → (decAt l i n).1 < 18446744073709551616 ∧ (decAt l i n).2 ≤ 10 ∧ (decAt l i n).2 ≤ i + l.length
  | [], i, n, _, _, _ => by simp [decAt]
  | c :: t, i, n, hi, hn, hb => by
    have hc := hb c (by simp)
    have ht : Byte t := fun x hx => hb x (by simp [hx])
    rw [decAt]
    split
    · simp
    · split
      · simp
      · rename_i h1 h2
        by_cases hge : 128 ≤ c
        · rw [if_pos hge]
          have hbd := acc_bound n i (c.toNat % 128) hn (by omega) (by omega)
          have := decAt_bound t (i + 1) _ (by omega) hbd.1 ht
          simp only [List.length_cons]
          omega
        · have hbd := acc_bound n i (c.toNat % 128) hn (by omega) (by omega)
          rw [if_neg hge]
          split
          · simp
          · simp only [List.length_cons]
            omega
theorem dec_bound (l : List Int) (hb : Byte l) : (dec l).1 ≤ 18446744073709551615 ∧ (dec l).2 ≤ 10 ∧ (dec l).2 ≤ l.length := by
  have := decAt_bound l 0 0 (by omega) (by simp) hb
  unfold dec
  omega

end Go.Proofs.Ytjpelnbffodaiaa
