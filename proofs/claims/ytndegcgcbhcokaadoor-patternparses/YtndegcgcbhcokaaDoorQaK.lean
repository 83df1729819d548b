/-
  Code points as utf8.DecodeRuneInString tells them.
-/
import Derived.Test.YtndegcgcbhcokaaDoorQaT
import Derived.Test.YtndegcgcbhcokaaDoorPtC
import Derived.Lib.DecodeN
namespace Go.Proofs.YtndegcgcbhcokaaDoor
open Go Go.Lib
set_option linter.unusedVariables false
set_option linter.unusedSimpArgs false

theorem b8_of {x : UInt8} {n : Nat} (h : n = x.toNat) : b8 n = x := by rw [h]; unfold b8; simp
theorem fp_of_enc {l : List UInt8} {c k : Nat} {E t : List UInt8} (hv : Vc c) (hE : enc c = E) (hk : E.length = k) (hl : l = E ++ t) : fp l = some (c, k) := by
  refine fp_some.2 ⟨hv, by rw [hE, hk], t, by rw [hE, hl]⟩

set_option maxHeartbeats 2000000 in
theorem dec_ok (s : ByteArray) (h0 : bts s ≠ []) (hn : ¬ ((Utf8.decode s 0).1 = 65533 ∧ (Utf8.decode s 0).2 < 2)) : fp (bts s) = some ((Utf8.decode s 0).1, (Utf8.decode s 0).2) := by
  rw [decode_at] at hn ⊢
  have hz : s.size - 0 = (bts s).length := by rw [size_bts]; omega
  rw [hz] at hn ⊢
  simp only [get_bts, Nat.zero_add] at hn ⊢
  generalize bts s = l at h0 hn ⊢
  cases l with
  | nil => exact absurd rfl h0
  | cons a t1 =>
    have ha := a.toNat_lt
    simp only [List.length_cons, List.getElem?_cons_zero, Option.getD_some, List.getElem?_cons_succ] at hn ⊢
    unfold decodeN at hn ⊢
    split
    · rename_i h1
      have hv : Vc a.toNat := by unfold Vc; omega
      exact fp_of_enc (E := [a]) (t := t1) hv (by rw [enc_eq hv, if_pos h1, b8_of rfl]) rfl rfl
    · rename_i h1
      rw [if_neg h1] at hn
      split
      · rename_i h2
        rw [if_pos h2] at hn
        cases t1 with
        | nil => exfalso; simp at h2
        | cons b t2 =>
          have hb := b.toNat_lt
          simp only [List.getElem?_cons_zero, Option.getD_some] at h2 hn ⊢
          split
          · rename_i h3
            have hv : Vc (a.toNat % 32 * 64 + b.toNat % 64) := by unfold Vc; omega
            refine fp_of_enc (E := [a, b]) (t := t2) hv ?_ rfl rfl
            rw [enc_eq hv, if_neg (by omega), if_pos (by omega), b8_of (x := a) (by omega), b8_of (x := b) (by omega)]
          · rename_i h3
            rw [if_neg h3] at hn
            exact absurd ⟨rfl, by decide⟩ hn
      · rename_i h2
        rw [if_neg h2] at hn
        split
        · rename_i h3
          rw [if_pos h3] at hn
          cases t1 with
          | nil => exfalso; simp at h3
          | cons b t2 =>
            cases t2 with
            | nil => exfalso; simp at h3
            | cons c t3 =>
              have hb := b.toNat_lt
              have hc := c.toNat_lt
              simp only [List.getElem?_cons_zero, Option.getD_some, List.getElem?_cons_succ] at h3 hn ⊢
              split
              · rename_i h4
                have hv : Vc (a.toNat % 16 * 4096 + b.toNat % 64 * 64 + c.toNat % 64) := by unfold Vc; omega
                refine fp_of_enc (E := [a, b, c]) (t := t3) hv ?_ rfl rfl
                rw [enc_eq hv, if_neg (by omega), if_neg (by omega), if_pos (by omega), b8_of (x := a) (by omega), b8_of (x := b) (by omega), b8_of (x := c) (by omega)]
              · rename_i h4
                rw [if_neg h4] at hn
                exact absurd ⟨rfl, by decide⟩ hn
        · rename_i h3
          rw [if_neg h3] at hn
          split
          · rename_i h4
            rw [if_pos h4] at hn
            cases t1 with
            | nil => exfalso; simp at h4
            | cons b t2 =>
              cases t2 with
              | nil => exfalso; simp at h4
              | cons c t3 =>
                cases t3 with
                | nil => exfalso; simp at h4
                | cons d t4 =>
                  have hb := b.toNat_lt
                  have hc := c.toNat_lt
                  have hd := d.toNat_lt
                  simp only [List.getElem?_cons_zero, Option.getD_some, List.getElem?_cons_succ] at h4 hn ⊢
                  split
                  · rename_i h5
                    have hv : Vc (a.toNat % 8 * 262144 + b.toNat % 64 * 4096 + c.toNat % 64 * 64 + d.toNat % 64) := by unfold Vc; omega
                    refine fp_of_enc (E := [a, b, c, d]) (t := t4) hv ?_ rfl rfl
                    rw [enc_eq hv, if_neg (by omega), if_neg (by omega), if_neg (by omega), b8_of (x := a) (by omega), b8_of (x := b) (by omega), b8_of (x := c) (by omega), b8_of (x := d) (by omega)]
                  · rename_i h5
                    rw [if_neg h5] at hn
                    exact absurd ⟨rfl, by decide⟩ hn
          · rename_i h4
            rw [if_neg h4] at hn
            exact absurd ⟨rfl, by decide⟩ hn
theorem dec_no (s : ByteArray) (hn : (Utf8.decode s 0).1 = 65533 ∧ (Utf8.decode s 0).2 < 2) : fp (bts s) = none := by
  cases h : fp (bts s) with
  | none => rfl
  | some r =>
    obtain ⟨c, k⟩ := r
    obtain ⟨hv, hk, t, ht⟩ := fp_some.1 h
    have := decode_enc s 0 c hv t (by rw [List.drop_zero]; exact ht)
    rw [this] at hn
    obtain ⟨h1, h2⟩ := hn
    simp only at h1 h2
    subst h1
    have he : (enc 65533).length = 3 := by rw [enc_eq hv]; rfl
    omega

end Go.Proofs.YtndegcgcbhcokaaDoor
