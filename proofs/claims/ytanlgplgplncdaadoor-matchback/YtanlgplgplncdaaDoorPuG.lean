/-
  Patterns, purely: how many spots there are, and that a machine's sets have room in 64 bits.
-/
import Derived.Test.YtanlgplgplncdaaDoorPuF
namespace Go.Proofs.YtanlgplgplncdaaDoor
open Go
set_option linter.unusedVariables false
set_option linter.unusedSimpArgs false

mutual
def Pt.cnt : Pt → Nat
  | .grp l => rowsCnt l
  | .rep a _ => a.cnt
  | _ => 1
def rowCnt : List Pt → Nat
  | [] => 0
  | p :: t => p.cnt + rowCnt t
def rowsCnt : List (List Pt) → Nat
  | [] => 0
  | r :: t => rowCnt r + rowsCnt t
end
mutual
/-- As it is read: classes are short, signs are signs. -/
def Pt.fine : Pt → Prop
  | .cls _ l => l.length ≤ 1000 ∧ l ≠ []
  | .grp l => rowsFine l ∧ l.length ≤ 1000
  | .rep a s => a.fine ∧ (s = 42 ∨ s = 43 ∨ s = 63)
  | _ => True
def rowFine : List Pt → Prop
  | [] => True
  | p :: t => p.fine ∧ rowFine t
def rowsFine : List (List Pt) → Prop
  | [] => True
  | r :: t => rowFine r ∧ r.length ≤ 1000 ∧ rowsFine t
end
mutual
theorem Pt.add_len : ∀ (p : Pt) (m : List Sp), (p.add m).2.length = m.length + p.cnt
  | .chr c, m => by simp [Pt.add, spotM, Pt.cnt]
  | .any, m => by simp [Pt.add, spotM, Pt.cnt]
  | .cls neg l, m => by simp [Pt.add, spotM, Pt.cnt]
  | .grp l, m => by simp only [Pt.add, Pt.cnt]; exact rowsAdd_len l _ m
  | .rep a s, m => by
    simp only [Pt.add, Pt.cnt, repM]
    have := Pt.add_len a m
    split
    · exact this
    · rw [lnk_length]; exact this
theorem rowAdd_len : ∀ (r : List Pt) (e : Es) (m : List Sp), (rowAdd r e m).2.length = m.length + rowCnt r
  | [], e, m => by simp [rowAdd, rowCnt]
  | p :: t, e, m => by
    simp only [rowAdd, rowCnt]
    rw [rowAdd_len t, lnk_length, Pt.add_len p m]
    omega
theorem rowsAdd_len : ∀ (l : List (List Pt)) (e : Es) (m : List Sp), (rowsAdd l e m).2.length = m.length + rowsCnt l
  | [], e, m => by simp [rowsAdd, rowsCnt]
  | r :: t, e, m => by
    simp only [rowsAdd, rowsCnt]
    rw [rowsAdd_len t, rowAdd_len r]
    omega
end
theorem Es.b64.chain {a b : Es} (ha : a.b64) (hb : b.b64) : (a.chain b).b64 := by
  unfold Es.chain Es.b64
  constructor
  · simp only; split
    · exact or_lt ha.1 hb.1
    · exact ha.1
  · simp only; split
    · exact or_lt hb.2 ha.2
    · exact hb.2
theorem Es.b64.either {a b : Es} (ha : a.b64) (hb : b.b64) : (a.either b).b64 := ⟨or_lt ha.1 hb.1, or_lt ha.2 hb.2⟩
theorem Es.b64.zero (b : Bool) : (⟨0, 0, b⟩ : Es).b64 := ⟨by simp, by simp⟩
theorem spot_b64 (m : List Sp) (l : Sn) (h : m.length + 1 ≤ 64) : (spotM m l).1.b64 := by
  have h1 : 2 ^ m.length < 2 ^ 64 := Nat.pow_lt_pow_right (by omega) (by omega)
  have h2 : (2 : Nat) ^ 64 = 18446744073709551616 := by decide
  exact ⟨by simp only [spotM]; omega, by simp only [spotM]; omega⟩
mutual
theorem Pt.add_b64 : ∀ (p : Pt) (m : List Sp), m.length + p.cnt ≤ 64 → (p.add m).1.b64
  | .chr c, m, h => by simp only [Pt.add]; exact spot_b64 m _ (by simpa [Pt.cnt] using h)
  | .any, m, h => by simp only [Pt.add]; exact spot_b64 m _ (by simpa [Pt.cnt] using h)
  | .cls neg l, m, h => by simp only [Pt.add]; exact spot_b64 m _ (by simpa [Pt.cnt] using h)
  | .grp l, m, h => by simp only [Pt.add]; simp only [Pt.cnt] at h; exact rowsAdd_b64 l _ m h (Es.b64.zero _)
  | .rep a s, m, h => by
    simp only [Pt.add, repM]
    simp only [Pt.cnt] at h
    have := Pt.add_b64 a m h
    split <;> exact this
theorem rowAdd_b64 : ∀ (r : List Pt) (e : Es) (m : List Sp), m.length + rowCnt r ≤ 64 → e.b64 → (rowAdd r e m).1.b64
  | [], e, m, h, he => by simp only [rowAdd]; exact he
  | p :: t, e, m, h, he => by
    simp only [rowAdd]
    simp only [rowCnt] at h
    exact rowAdd_b64 t _ _ (by rw [lnk_length, Pt.add_len]; omega) (he.chain (Pt.add_b64 p m (by omega)))
theorem rowsAdd_b64 : ∀ (l : List (List Pt)) (e : Es) (m : List Sp), m.length + rowsCnt l ≤ 64 → e.b64 → (rowsAdd l e m).1.b64
  | [], e, m, h, he => by simp only [rowsAdd]; exact he
  | r :: t, e, m, h, he => by
    simp only [rowsAdd]
    simp only [rowsCnt] at h
    exact rowsAdd_b64 t _ _ (by rw [rowAdd_len]; omega) (he.either (rowAdd_b64 r _ m (by omega) (Es.b64.zero _)))
end

theorem withF_cnt : ∀ (l : Sn) (x : Nat × Nat) (ah be : Sn), (withF l x ah be).length ≤ ah.length + l.length + be.length + 1 ∧ withF l x ah be ≠ []
  | [], x, ah, be => by rw [withF]; simp; omega
  | o :: t, x, ah, be => by
    rw [withF]
    split
    · have := withF_cnt t x (ah ++ [o]) be; simp at this ⊢; exact ⟨by omega, this.2⟩
    · split
      · have := withF_cnt t x ah (be ++ [o]); simp at this ⊢; exact ⟨by omega, this.2⟩
      · have := withF_cnt t (min o.1 x.1, max o.2 x.2) ah be; simp at this ⊢; exact ⟨by omega, this.2⟩
theorem cls_cnt {S : List UInt8} : ∀ (f a : Nat) (acc : Sn), a ≤ S.length → ∀ l b, clsF S f a acc = .ok l b → l.length + a ≤ acc.length + b ∧ l ≠ []
  | 0, a, acc, ha, l, b, h => by rw [clsF] at h; cases h
  | f + 1, a, acc, ha, l, b, h => by
    rw [clsF] at h
    by_cases h93 : acc ≠ [] ∧ S[a]? = some 93
    · rw [if_pos h93] at h
      injection h with e1 e2
      subst e1
      exact ⟨by omega, h93.1⟩
    · rw [if_neg h93] at h
      cases h1 : spanF S a with
      | bad k => rw [h1] at h; cases h
      | out => rw [h1] at h; cases h
      | ok x b1 =>
        rw [h1] at h
        have k1 := span_bd ha h1
        have := cls_cnt f b1 (withS acc x) k1.2 l b h
        have k2 := withF_cnt acc x [] []
        simp at k2
        exact ⟨by have := this.1; unfold withS at this; omega, this.2⟩

theorem read_cnt (S : List UInt8) (hS : S.length ≤ 999) : ∀ (f d a : Nat), a ≤ S.length →
    (∀ l b, rowsF S f d a = .ok l b → rowsCnt l + a ≤ b ∧ rowsFine l ∧ l ≠ [] ∧ l.length + a ≤ b + 1) ∧ (∀ l b, rowF S f d a = .ok l b → rowCnt l + a ≤ b ∧ rowFine l ∧ l.length + a ≤ b) ∧
    (∀ p b, itemF S f d a = .ok p b → p.cnt + a ≤ b ∧ p.fine) ∧ (∀ p b, atomF S f d a = .ok p b → p.cnt + a ≤ b ∧ p.fine)
  | 0, d, a, ha => by
    refine ⟨fun l b h => ?_, fun l b h => ?_, fun l b h => ?_, fun l b h => ?_⟩
    · rw [rowsF] at h; cases h
    · rw [rowF] at h; cases h
    · rw [itemF] at h; cases h
    · rw [atomF] at h; cases h
  | f + 1, d, a, ha => by
    have ih := read_cnt S hS f
    have bd := read_bd S f
    obtain ⟨_, r1, i1, t1⟩ := ih d a ha
    obtain ⟨_, ⟨R1, _⟩, ⟨I1, _⟩, ⟨T1, _⟩⟩ := bd d a ha
    refine ⟨fun l b h => ?_, fun l b h => ?_, fun p b h => ?_, fun p b h => ?_⟩
    · rw [rowsF] at h
      cases h1 : rowF S f d a with
      | bad k => rw [h1] at h; cases h
      | out => rw [h1] at h; cases h
      | ok r b1 =>
        rw [h1] at h
        simp only at h
        have k1 := r1 r b1 h1
        have k2 := R1 r b1 h1
        by_cases h124 : S[b1]? = some 124
        · rw [if_pos h124] at h
          have hl := (List.getElem?_eq_some_iff.1 h124).1
          cases h2 : rowsF S f d (b1 + 1) with
          | bad k => rw [h2] at h; cases h
          | out => rw [h2] at h; cases h
          | ok t b2 =>
            rw [h2] at h
            injection h with e1 e2
            subst e1 e2
            have k3 := (ih d (b1 + 1) hl).1 t b2 h2
            simp only [rowsCnt, rowsFine]
            exact ⟨by omega, ⟨k1.2.1, by omega, k3.2.1⟩, by simp, by simp only [List.length_cons]; omega⟩
        · rw [if_neg h124] at h
          injection h with e1 e2
          subst e1 e2
          simp only [rowsCnt, rowsFine]
          exact ⟨by omega, ⟨k1.2.1, by omega, trivial⟩, by simp, by simp only [List.length_cons, List.length_nil]; omega⟩
    · rw [rowF] at h
      by_cases hst : S[a]? = none ∨ S[a]? = some 124 ∨ S[a]? = some 41
      · rw [if_pos hst] at h
        injection h with e1 e2
        subst e1 e2
        simp only [rowCnt, rowFine]
        exact ⟨by omega, trivial, by simp⟩
      · rw [if_neg hst] at h
        cases h1 : itemF S f d a with
        | bad k => rw [h1] at h; cases h
        | out => rw [h1] at h; cases h
        | ok q b1 =>
          rw [h1] at h
          simp only at h
          have k1 := i1 q b1 h1
          have k2 := I1 q b1 h1
          cases h2 : rowF S f d b1 with
          | bad k => rw [h2] at h; cases h
          | out => rw [h2] at h; cases h
          | ok t b2 =>
            rw [h2] at h
            injection h with e1 e2
            subst e1 e2
            have k3 := (ih d b1 k2.2).2.1 t b2 h2
            simp only [rowCnt, rowFine]
            exact ⟨by omega, ⟨k1.2, k3.2.1⟩, by simp only [List.length_cons]; omega⟩
    · rw [itemF] at h
      cases h1 : atomF S f d a with
      | bad k => rw [h1] at h; cases h
      | out => rw [h1] at h; cases h
      | ok q b1 =>
        rw [h1] at h
        simp only at h
        have k1 := t1 q b1 h1
        split at h
        · injection h with e1 e2
          subst e1 e2
          simp only [Pt.cnt, Pt.fine]
          exact ⟨by omega, k1.2, by simp⟩
        · split at h
          · injection h with e1 e2
            subst e1 e2
            simp only [Pt.cnt, Pt.fine]
            exact ⟨by omega, k1.2, by simp⟩
          · split at h
            · injection h with e1 e2
              subst e1 e2
              simp only [Pt.cnt, Pt.fine]
              exact ⟨by omega, k1.2, by simp⟩
            · injection h with e1 e2
              subst e1 e2
              exact k1
    · rw [atomF] at h
      by_cases h46 : S[a]? = some 46
      · rw [if_pos h46] at h
        injection h with e1 e2
        subst e1 e2
        simp only [Pt.cnt, Pt.fine]
        exact ⟨by omega, trivial⟩
      · rw [if_neg h46] at h
        by_cases h91 : S[a]? = some 91
        · rw [if_pos h91] at h
          have hl := (List.getElem?_eq_some_iff.1 h91).1
          have hle : (if S[a + 1]? = some 94 then a + 2 else a + 1) ≤ S.length ∧ a < (if S[a + 1]? = some 94 then a + 2 else a + 1) := by
            split
            · rename_i h94; have := (List.getElem?_eq_some_iff.1 h94).1; omega
            · omega
          cases h2 : clsF S (S.length + 2) (if S[a + 1]? = some 94 then a + 2 else a + 1) [] with
          | bad k => rw [h2] at h; cases h
          | out => rw [h2] at h; cases h
          | ok t b2 =>
            rw [h2] at h
            injection h with e1 e2
            subst e1 e2
            have k2 := cls_cnt _ _ [] hle.1 t b2 h2
            have k3 := (cls_bd (S.length + 2) _ [] hle.1).1 t b2 h2
            simp only [Pt.cnt, Pt.fine]
            have k4 := k2.1
            simp at k4
            exact ⟨by omega, by omega, k2.2⟩
        · rw [if_neg h91] at h
          by_cases h40 : d < 16 ∧ S[a]? = some 40
          · rw [if_pos h40] at h
            have hl := (List.getElem?_eq_some_iff.1 h40.2).1
            cases h2 : rowsF S f (d + 1) (a + 1) with
            | bad k => rw [h2] at h; cases h
            | out => rw [h2] at h; cases h
            | ok t b2 =>
              rw [h2] at h
              simp only at h
              have k2 := (ih (d + 1) (a + 1) hl).1 t b2 h2
              split at h
              · injection h with e1 e2
                subst e1 e2
                simp only [Pt.cnt, Pt.fine]
                have k5 := ((bd (d + 1) (a + 1) hl).1.1 t b2 h2).2
                exact ⟨by omega, k2.2.1, by omega⟩
              · cases h
          · rw [if_neg h40] at h
            cases h2 : charF S a with
            | bad k => rw [h2] at h; cases h
            | out => rw [h2] at h; cases h
            | ok c b2 =>
              rw [h2] at h
              injection h with e1 e2
              subst e1 e2
              have k2 := char_bd ha h2
              simp only [Pt.cnt, Pt.fine]
              exact ⟨by omega, trivial⟩

end Go.Proofs.YtanlgplgplncdaaDoor
