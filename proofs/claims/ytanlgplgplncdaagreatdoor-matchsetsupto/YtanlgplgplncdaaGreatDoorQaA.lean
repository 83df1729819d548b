/-
  The document's reader, purely: code points with their places, and how they stand to the bytes.
-/
import Derived.Test.YtanlgplgplncdaaGreatDoorPtR
namespace Go.Proofs.YtanlgplgplncdaaGreatDoor
open Go
set_option linter.unusedVariables false
set_option linter.unusedSimpArgs false

/-- From a place on: the code points (-2: no UTF-8, and the last one), and the places, of the end too. -/
inductive Rn (S : List UInt8) : Nat → List Int → List Nat → Prop
  | fin : Rn S S.length [] [S.length]
  | bad (a : Nat) (h : a < S.length) (hf : fp (S.drop a) = none) : Rn S a [-2] [a, a]
  | step (a c k : Nat) (cs : List Int) (ps : List Nat) (hf : fp (S.drop a) = some (c, k)) (h : Rn S (a + k) cs ps) : Rn S a ((c : Int) :: cs) (a :: ps)

theorem fp_ascii {S : List UInt8} {a : Nat} {x : UInt8} (hx : x.toNat < 128) (h : S[a]? = some x) : fp (S.drop a) = some (x.toNat, 1) := by
  have hl := (List.getElem?_eq_some_iff.1 h).1
  have hd : S.drop a = x :: S.drop (a + 1) := by
    rw [List.drop_eq_getElem_cons hl]
    rw [List.getElem?_eq_getElem hl] at h
    injection h with h
    rw [h]
  have hv : Vc x.toNat := by unfold Vc; omega
  have he : enc x.toNat = [x] := by
    rw [enc_eq hv, if_pos hx]
    unfold b8
    simp
  exact fp_some.2 ⟨hv, by rw [he]; rfl, S.drop (a + 1), by rw [he, hd]; rfl⟩
theorem fp_ascii' {S : List UInt8} {a k : Nat} {x : UInt8} (hx : x.toNat < 128) (h : fp (S.drop a) = some (x.toNat, k)) : S[a]? = some x ∧ k = 1 := by
  obtain ⟨hv, hk, t, ht⟩ := fp_some.1 h
  have he : enc x.toNat = [x] := by
    rw [enc_eq hv, if_pos hx]
    unfold b8
    simp
  rw [he] at ht hk
  have h0 : (S.drop a)[0]? = some x := by rw [ht]; rfl
  rw [List.getElem?_drop] at h0
  exact ⟨by simpa using h0, hk⟩
theorem Rn.len {S : List UInt8} {a : Nat} {cs : List Int} {ps : List Nat} (h : Rn S a cs ps) : ps.length = cs.length + 1 ∧ ps[0]? = some a ∧ a ≤ S.length := by
  induction h with
  | fin => exact ⟨rfl, rfl, Nat.le_refl _⟩
  | bad a h hf => exact ⟨rfl, rfl, Nat.le_of_lt h⟩
  | step a c k cs ps hf h ih =>
    refine ⟨by simp [ih.1], rfl, ?_⟩
    have := ih.2.2
    omega
/-- The code point that stands here. -/
def hd (cs : List Int) : Int := cs.head?.getD (-1)
theorem Rn.hd_eq {S : List UInt8} {a : Nat} {cs : List Int} {ps : List Nat} (h : Rn S a cs ps) (x : UInt8) (hx : x.toNat < 128) : hd cs = (x.toNat : Int) ↔ S[a]? = some x := by
  cases h with
  | fin =>
    rw [List.getElem?_eq_none (Nat.le_refl _)]
    simp [hd]
  | bad a h hf =>
    constructor
    · intro e; simp [hd] at e
    · intro e; rw [fp_ascii hx e] at hf; cases hf
  | step a c k cs ps hf h =>
    constructor
    · intro e
      have e' : c = x.toNat := by simp [hd] at e; omega
      rw [e'] at hf
      exact (fp_ascii' hx hf).1
    · intro e
      rw [fp_ascii hx e] at hf
      injection hf with hf
      injection hf with e1 e2
      simp [hd, e1]
theorem Rn.hd_none {S : List UInt8} {a : Nat} {cs : List Int} {ps : List Nat} (h : Rn S a cs ps) : hd cs = -1 ↔ S[a]? = none := by
  cases h with
  | fin => simp [hd]
  | bad a h hf => simp [hd, h]
  | step a c k cs ps hf h =>
    have := fp_len hf
    rw [List.length_drop] at this
    have h1 : a < S.length := by omega
    simp [hd, h1]
/-- An ASCII letter that stands here: the next place. -/
theorem Rn.next {S : List UInt8} {a : Nat} {cs : List Int} {ps : List Nat} (h : Rn S a cs ps) (x : UInt8) (hx : x.toNat < 128) (e : S[a]? = some x) : Rn S (a + 1) (cs.drop 1) (ps.drop 1) := by
  cases h with
  | fin => rw [List.getElem?_eq_none (Nat.le_refl _)] at e; cases e
  | bad a h hf => rw [fp_ascii hx e] at hf; cases hf
  | step a c k cs ps hf h =>
    rw [fp_ascii hx e] at hf
    injection hf with hf
    injection hf with e1 e2
    subst e2
    exact h
/-- What stands here: a code point, or none. -/
theorem Rn.fp {S : List UInt8} {a : Nat} {cs : List Int} {ps : List Nat} (h : Rn S a cs ps) : (∃ c k, fp (S.drop a) = some (c, k) ∧ hd cs = (c : Int) ∧ Vc c ∧ Rn S (a + k) (cs.drop 1) (ps.drop 1)) ∨ (fp (S.drop a) = none ∧ (hd cs = -1 ∨ hd cs = -2)) := by
  cases h with
  | fin =>
    right
    refine ⟨?_, .inl rfl⟩
    rw [List.drop_length]
    unfold Go.Proofs.YtanlgplgplncdaaGreatDoor.fp fpG
    rw [if_pos rfl]
  | bad a h hf => exact .inr ⟨hf, .inr rfl⟩
  | step a c k cs ps hf h => exact .inl ⟨c, k, hf, by simp [hd], (fp_some.1 hf).1, h⟩
theorem Rn.last {S : List UInt8} {a : Nat} {cs : List Int} {ps : List Nat} (h : Rn S a cs ps) : cs = [] ↔ a = S.length := by
  cases h with
  | fin => simp
  | bad a h hf => simp; omega
  | step a c k cs ps hf h =>
    have := fp_len hf
    rw [List.length_drop] at this
    simp
    omega

end Go.Proofs.YtanlgplgplncdaaGreatDoor
