/-
  There and back, as plain mathematics: what is written is read, no beginning of it is read, what is read is what was written.
-/
import Derived.Test.YtfhhcpcedfgceaaNumF
namespace Go.Proofs.Ytfhhcpcedfgceaa
set_option linter.unusedVariables false

theorem grpF_ge : ∀ f n, grpF f n = 0 ∨ 128 ^ grpF f n ≤ n
  | 0, n => .inl rfl
  | f + 1, n => by
    rw [grpF]
    split
    · exact .inl rfl
    · right
      rcases grpF_ge f (n / 128) with h | h
      · rw [h]; simp; omega
      · rw [Nat.pow_succ]; omega
theorem grp_ge (n : Nat) : grp n = 0 ∨ 128 ^ grp n ≤ n := grpF_ge 9 n

theorem decAt_encK : ∀ (k n i acc : Nat) (b : List Int), i + k ≤ 9 → (i + k = 9 → n / 128 ^ k ≤ 1) → (n / 128 ^ k ≠ 0 ∨ i + k = 0) → n / 128 ^ k < 128 → decAt (encK k n ++ b) i acc = (acc + n * 128 ^ i, i + k + 1)
  | 0, n, i, acc, b, h1, h2, h3, h4 => by
    simp only [Nat.pow_zero, Nat.div_one, Nat.add_zero] at h2 h3 h4
    show decAt ((n : Int) :: b) i acc = _
    rw [decAt, if_neg (by omega), if_neg (by omega), if_neg (by omega), if_neg (by omega), Int.toNat_natCast, Nat.mod_eq_of_lt h4]
  | k + 1, n, i, acc, b, h1, h2, h3, h4 => by
    have e : n / 128 ^ (k + 1) = n / 128 / 128 ^ k := by rw [Nat.pow_succ, Nat.mul_comm, Nat.div_div_eq_div_mul]
    rw [e] at h2 h3 h4
    show decAt (((n % 128 + 128 : Nat) : Int) :: (encK k (n / 128) ++ b)) i acc = _
    rw [decAt, if_neg (by omega), if_neg (by omega), if_pos (by omega), decAt_encK k (n / 128) (i + 1) _ b (by omega) (by intro h; exact h2 (by omega)) (by omega) h4, Int.toNat_natCast]
    have e2 : (n % 128 + 128) % 128 = n % 128 := by omega
    have e3 : n % 128 * 128 ^ i + n / 128 * 128 ^ (i + 1) = n * 128 ^ i := by
      rw [Nat.pow_succ, Nat.mul_comm (128 ^ i) 128, ← Nat.mul_assoc, ← Nat.add_mul]
      congr 1
      omega
    rw [e2, Nat.add_assoc, e3]
    congr 1
    omega

theorem dec_enc (n : Nat) (h : n < 18446744073709551616) (b : List Int) : dec (enc n ++ b) = (n, grp n + 1) := by
  have hg := grp_le n
  have h4 := last_lt n h
  have e := decAt_encK (grp n) n 0 0 b (by omega) (by
      intro h9
      have : grp n = 9 := by omega
      rw [this]
      omega) (by
      rcases grp_ge n with h0 | h0
      · right; omega
      · left
        have := Nat.div_pos h0 (Nat.pow_pos (by omega))
        omega) h4
  unfold dec enc
  rw [e]
  simp

theorem decAt_short : ∀ (k n i acc c : Nat), i + k ≤ 9 → c ≤ k → decAt ((encK k n).take c) i acc = (0, 0)
  | k, n, i, acc, 0, _, _ => by simp [decAt]
  | 0, n, i, acc, c + 1, _, h => by omega
  | k + 1, n, i, acc, c + 1, h1, h2 => by
    show decAt (((n % 128 + 128 : Nat) : Int) :: (encK k (n / 128)).take c) i acc = _
    rw [decAt, if_neg (by omega), if_neg (by omega), if_pos (by omega)]
    exact decAt_short k (n / 128) (i + 1) _ c (by omega) (by omega)
theorem dec_short (n c : Nat) (h : c < grp n + 1) : dec ((enc n).take c) = (0, 0) := decAt_short _ _ _ _ _ (by have := grp_le n; omega) (by omega)

theorem decAt_back : ∀ (b : List Int) (i acc x m : Nat), Byte b → decAt b i acc = (x, m) → m ≠ 0 →
    ∃ k y, m = i + k + 1 ∧ x = acc + y * 128 ^ i ∧ b.take (k + 1) = encK k y ∧ (y / 128 ^ k ≠ 0 ∨ i + k = 0) ∧ y / 128 ^ k < 128 ∧ i + k ≤ 9
  | [], i, acc, x, m, hb, h, hm => by
    simp only [decAt, Prod.mk.injEq] at h
    omega
  | c :: t, i, acc, x, m, hb, h, hm => by
    have hc := hb c (by simp)
    have ht : Byte t := fun x hx => hb x (by simp [hx])
    rw [decAt] at h
    by_cases h1 : 10 ≤ i
    · rw [if_pos h1] at h; simp only [Prod.mk.injEq] at h; omega
    · rw [if_neg h1] at h
      by_cases h2 : i = 9 ∧ 1 < c
      · rw [if_pos h2] at h; simp only [Prod.mk.injEq] at h; omega
      · rw [if_neg h2] at h
        by_cases h3 : 128 ≤ c
        · rw [if_pos h3] at h
          obtain ⟨k, y, e1, e2, e3, e4, e5, e6⟩ := decAt_back t (i + 1) _ x m ht h hm
          have hd : (y * 128 + c.toNat % 128) / 128 = y := by omega
          have hq : (y * 128 + c.toNat % 128) / 128 ^ (k + 1) = y / 128 ^ k := by rw [Nat.pow_succ, Nat.mul_comm (128 ^ k), ← Nat.div_div_eq_div_mul, hd]
          refine ⟨k + 1, y * 128 + c.toNat % 128, by omega, ?_, ?_, ?_, ?_, by omega⟩
          · rw [e2, Nat.pow_succ, Nat.add_mul, Nat.mul_assoc y 128, Nat.mul_comm 128 (128 ^ i)]
            omega
          · rw [List.take_succ_cons, e3, encK, hd]
            congr 1
            omega
          · rw [hq]; omega
          · rw [hq]; exact e5
        · rw [if_neg h3] at h
          by_cases h4 : c = 0 ∧ 0 < i
          · rw [if_pos h4] at h; simp only [Prod.mk.injEq] at h; omega
          · rw [if_neg h4] at h
            simp only [Prod.mk.injEq] at h
            refine ⟨0, c.toNat, by omega, ?_, ?_, ?_, ?_, by omega⟩
            · rw [← h.1, Nat.mod_eq_of_lt (by omega)]
            · simp [encK]; omega
            · simp; omega
            · simp; omega

theorem enc_dec (b : List Int) (hb : Byte b) (h : (dec b).2 ≠ 0) : enc (dec b).1 = b.take (dec b).2 ∧ (dec b).2 = grp (dec b).1 + 1 := by
  obtain ⟨k, y, e1, e2, e3, e4, e5, e6⟩ := decAt_back b 0 0 (dec b).1 (dec b).2 hb rfl h
  simp only [Nat.pow_zero, Nat.mul_one, Nat.zero_add] at e1 e2 e4 e6
  rw [e2]
  have hp : 0 < 128 ^ k := Nat.pow_pos (by omega)
  have hg : grp y = k := by
    refine grpF_is 9 k y e6 ?_ ?_
    · rcases e4 with h0 | h0
      · right
        rcases Nat.lt_or_ge y (128 ^ k) with h1 | h1
        · rw [Nat.div_eq_of_lt h1] at h0; omega
        · exact h1
      · exact .inl h0
    · rw [Nat.pow_succ]
      have := (Nat.div_lt_iff_lt_mul hp).1 e5
      omega
  refine ⟨?_, by omega⟩
  rw [enc, hg, e1, e3]

theorem dec_form (len : Nat) (hl : len ≤ 536870912) (S b : List Int) : dec (enc len ++ S ++ b) = (len, grp len + 1) := by
  rw [List.append_assoc]
  exact dec_enc len (by omega) _
theorem form_good (len : Nat) (hl : len ≤ 536870912) (S b : List Int) (hS : S.length = len) : badB (enc len ++ S ++ b) len = false := by
  simp only [badB, dec_form len hl S b, Bool.or_eq_false_iff, decide_eq_false_iff_not, List.length_append, enc_length, hS]
  omega
theorem form_read (len : Nat) (S b : List Int) (hS : S.length = len) : ((enc len ++ S ++ b).drop (grp len + 1)).take len = S := by
  rw [List.append_assoc, ← enc_length len, List.drop_left, ← hS, List.take_left]
theorem form_less (len : Nat) (hl : len ≤ 536870912) (S : List Int) : badB (enc len ++ S) ((len : Int) - 1) = true := by
  have := dec_form len hl S []
  rw [List.append_nil] at this
  simp only [badB, this, Bool.or_eq_true, decide_eq_true_eq]
  omega
theorem form_short (len c : Nat) (hl : len ≤ 536870912) (S : List Int) (hS : S.length = len) (hc : c < grp len + 1 + len) : badB ((enc len ++ S).take c) len = true := by
  have he := enc_length len
  by_cases h : c < grp len + 1
  · rw [List.take_append_of_le_length (by omega)]
    simp [badB, dec_short len c h]
  · have e : (enc len ++ S).take c = enc len ++ S.take (c - (grp len + 1)) := by
      rw [List.take_append, List.take_of_length_le (by omega), he]
    rw [e]
    have := dec_enc len (by omega) (S.take (c - (grp len + 1)))
    simp only [badB, this, Bool.or_eq_true, decide_eq_true_eq, List.length_append, he, List.length_take, hS]
    omega
theorem enc_short (n c : Nat) (most : Int) (hc : c < grp n + 1) : badB ((enc n).take c) most = true := by simp [badB, dec_short n c hc]

end Go.Proofs.Ytfhhcpcedfgceaa
