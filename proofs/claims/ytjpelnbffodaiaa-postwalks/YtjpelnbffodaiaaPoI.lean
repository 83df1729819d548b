/-
  Lists as bytes, purely: Put and Get, there and back.
-/
import Derived.Test.YtjpelnbffodaiaaNumF
import Derived.Test.YtjpelnbffodaiaaPoA
namespace Go.Proofs.Ytjpelnbffodaiaa
set_option linter.unusedVariables false

theorem grpF_ge : ∀ f n, grpF f n = 0 ∨ 128 ^ grpF f n ≤ n
  | 0, n => .inl rfl
  | f + 1, n => by
    rw [grpF]
    split
    · exact .inl rfl
    · right
      rcases grpF_ge f (n / 128) with h | h
      · rw [h]; simp; omega
      · rw [Nat.pow_succ]; omega
theorem grp_ge (n : Nat) : grp n = 0 ∨ 128 ^ grp n ≤ n := grpF_ge 9 n

theorem decAt_encK : ∀ (k n i acc : Nat) (b : List Int), i + k ≤ 9 → (i + k = 9 → n / 128 ^ k ≤ 1) → (n / 128 ^ k ≠ 0 ∨ i + k = 0) → n / 128 ^ k < 128 → decAt (encK k n ++ b) i acc = (acc + n * 128 ^ i, i + k + 1)
  | 0, n, i, acc, b, h1, h2, h3, h4 => by
    simp only [Nat.pow_zero, Nat.div_one, Nat.add_zero] at h2 h3 h4
    show decAt ((n : Int) :: b) i acc = _
    rw [decAt, if_neg (by omega), if_neg (by omega), if_neg (by omega), if_neg (by omega), Int.toNat_natCast, Nat.mod_eq_of_lt h4]
  | k + 1, n, i, acc, b, h1, h2, h3, h4 => by
    have e : n / 128 ^ (k + 1) = n / 128 / 128 ^ k := by rw [Nat.pow_succ, Nat.mul_comm, Nat.div_div_eq_div_mul]
    rw [e] at h2 h3 h4
    show decAt (((n % 128 + 128 : Nat) : Int) :: (encK k (n / 128) ++ b)) i acc = _
    rw [decAt, if_neg (by omega), if_neg (by omega), if_pos (by omega), decAt_encK k (n / 128) (i + 1) _ b (by omega) (by intro h; exact h2 (by omega)) (by omega) h4, Int.toNat_natCast]
    have e2 : (n % 128 + 128) % 128 = n % 128 := by omega
    have e3 : n % 128 * 128 ^ i + n / 128 * 128 ^ (i + 1) = n * 128 ^ i := by
      rw [Nat.pow_succ, Nat.mul_comm (128 ^ i) 128, ← Nat.mul_assoc, ← Nat.add_mul]
      congr 1
      omega
    rw [e2, Nat.add_assoc, e3]
    congr 1
    omega

theorem dec_enc (n : Nat) (h : n < 18446744073709551616) (b : List Int) : dec (enc n ++ b) = (n, grp n + 1) := by
  have hg := grp_le n
  have h4 := last_lt n h
  have e := decAt_encK (grp n) n 0 0 b (by omega) (by
      intro h9
      have : grp n = 9 := by omega
      rw [this]
      omega) (by
      rcases grp_ge n with h0 | h0
      · right; omega
      · left
        have := Nat.div_pos h0 (Nat.pow_pos (by omega))
        omega) h4
  unfold dec enc
  rw [e]
  simp


/-- The gaps of a list. -/
def encL : Nat → List Nat → List Int
  | _, [] => []
  | k, n :: t => enc (n - k) ++ encL (n + 1) t
def putF (l : List Nat) : List Int := enc l.length ++ encL 0 l

def getL : Nat → Nat → List Int → Option (List Nat × Nat)
  | 0, _, _ => some ([], 0)
  | m + 1, k, b =>
    if (dec b).2 = 0 ∨ 4294967295 < (dec b).1 ∨ 4294967295 < k + (dec b).1 then none
    else match getL m (k + (dec b).1 + 1) (b.drop (dec b).2) with
      | none => none
      | some (l, t) => some ((k + (dec b).1) :: l, (dec b).2 + t)
def getF (b : List Int) : Option (List Nat × Nat) :=
  if (dec b).2 = 0 ∨ b.length - (dec b).2 < (dec b).1 then none
  else match getL (dec b).1 0 (b.drop (dec b).2) with
    | none => none
    | some (l, t) => some (l, (dec b).2 + t)

/-- The least that the next number may be. -/
def lv (l : List Nat) (i : Nat) : Nat := if i = 0 then 0 else l.getD (i - 1) 0 + 1

theorem enc_len1 (n : Nat) : 1 ≤ (enc n).length := by rw [enc_length]; omega
theorem encL_len : ∀ (l : List Nat) (k : Nat), l.length ≤ (encL k l).length
  | [], _ => by simp
  | n :: t, k => by
    have := encL_len t (n + 1)
    have := enc_len1 (n - k)
    simp [encL]
    omega
theorem encL_le : ∀ (l : List Nat) (k : Nat), (encL k l).length ≤ 10 * l.length
  | [], _ => by simp [encL]
  | n :: t, k => by
    have := encL_le t (n + 1)
    have := enc_length (n - k)
    have := grp_le (n - k)
    simp [encL]
    omega
theorem putF_len (l : List Nat) : (putF l).length ≤ 10 * l.length + 10 := by
  have := encL_le l 0
  have := enc_length l.length
  have := grp_le l.length
  simp [putF]
  omega

theorem getL_encL : ∀ (l : List Nat) (k : Nat) (r : List Int), Ris l → (∀ n ∈ l, k ≤ n ∧ n ≤ 4294967295) → getL l.length k (encL k l ++ r) = some (l, (encL k l).length)
  | [], k, r, _, _ => by simp [getL, encL]
  | n :: t, k, r, h1, h2 => by
    have hn := h2 n (by simp)
    have hd := dec_enc (n - k) (by omega) (encL (n + 1) t ++ r)
    have hlen := enc_length (n - k)
    have ih := getL_encL t (n + 1) r h1.tail (fun m hm => ⟨(List.pairwise_cons.1 h1).1 m hm, (h2 m (by simp [hm])).2⟩)
    show getL (t.length + 1) k (enc (n - k) ++ encL (n + 1) t ++ r) = _
    rw [List.append_assoc, getL, hd]
    have hdr : (enc (n - k) ++ (encL (n + 1) t ++ r)).drop (grp (n - k) + 1) = encL (n + 1) t ++ r := by
      rw [← hlen, List.drop_left]
    simp only []
    rw [if_neg (by omega), hdr, show k + (n - k) + 1 = n + 1 by omega, ih]
    simp [encL, hlen]
    omega

theorem getF_putF (l : List Nat) (r : List Int) (h : Ris l) (hb : ∀ n ∈ l, n ≤ 4294967295) (hl : l.length < 18446744073709551616) : getF (putF l ++ r) = some (l, (putF l).length) := by
  have hd := dec_enc l.length hl (encL 0 l ++ r)
  have hlen := enc_length l.length
  have hel := encL_len l 0
  unfold getF putF
  rw [List.append_assoc, hd]
  simp only []
  have hdr : (enc l.length ++ (encL 0 l ++ r)).drop (grp l.length + 1) = encL 0 l ++ r := by
    rw [← hlen, List.drop_left]
  rw [if_neg (by simp [hlen]; omega), hdr, getL_encL l 0 r h (fun n hn => ⟨by omega, hb n hn⟩)]
  simp [hlen]

/-- What Get answers. -/
theorem getL_len : ∀ (m k : Nat) (b : List Int) (l : List Nat) (t : Nat), getL m k b = some (l, t) → l.length = m ∧ (∀ n ∈ l, n ≤ 4294967295)
  | 0, k, b, l, t, h => by
    simp only [getL, Option.some.injEq, Prod.mk.injEq] at h
    obtain ⟨rfl, rfl⟩ := h
    simp
  | m + 1, k, b, l, t, h => by
    rw [getL] at h
    split at h
    · cases h
    · rename_i hc
      split at h
      · cases h
      · rename_i l' t' he
        simp only [Option.some.injEq, Prod.mk.injEq] at h
        obtain ⟨rfl, rfl⟩ := h
        obtain ⟨h1, h2⟩ := getL_len m _ _ l' t' he
        refine ⟨by simp [h1], fun n hn => ?_⟩
        rcases List.mem_cons.1 hn with rfl | hn
        · omega
        · exact h2 n hn

theorem getF_len {b : List Int} {l : List Nat} {t : Nat} (h : getF b = some (l, t)) : l.length ≤ b.length ∧ ∀ n ∈ l, n ≤ 4294967295 := by
  unfold getF at h
  split at h
  · cases h
  · rename_i hc
    split at h
    · cases h
    · rename_i l' t' he
      simp only [Option.some.injEq, Prod.mk.injEq] at h
      obtain ⟨rfl, rfl⟩ := h
      obtain ⟨h1, h2⟩ := getL_len _ _ _ l' t' he
      exact ⟨by omega, h2⟩

end Go.Proofs.Ytjpelnbffodaiaa
