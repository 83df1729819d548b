import Derived.Test.YtanlgplgplncdaaDoorPtI
/-
  Parts of a pattern in memory: their blocks lie in F.
-/
namespace Go.Proofs.YtanlgplgplncdaaDoor
open Go.RowKit
set_option linter.unusedVariables false
set_option linter.unusedSimpArgs false

mutual
/-- A part, as a value. -/
def PtV (F : Nat → Prop) (w : World) : Pt → Value → Prop
  | .chr c, v => v = .iface 155 (.int .i32 (c : Int)) ∧ c ≤ 1114111
  | .any, v => v = .iface 159 (.agg #[])
  | .cls neg l, v => ClV F w v neg l
  | .grp l, v => ∃ ad c b off, v = .iface 137 (.agg #[.slice ad l.length c]) ∧ (l ≠ [] → ad = some ⟨b, off, none⟩ ∧ F b) ∧ RowsV F w l b off
  | .rep a s, v => ∃ u, v = .iface 139 (.agg #[u, .int .u8 (s : Int)]) ∧ PtV F w a u
/-- Items from a place on. -/
def RowV (F : Nat → Prop) (w : World) : List Pt → Nat → Nat → Prop
  | [], _, _ => True
  | p :: t, b, off => (∃ v, w.cell? ⟨b, off, none⟩ = some v ∧ PtV F w p v) ∧ RowV F w t b (off + 1)
/-- Rows from a place on. -/
def RowsV (F : Nat → Prop) (w : World) : List (List Pt) → Nat → Nat → Prop
  | [], _, _ => True
  | r :: t, b, off => (∃ ad c b' off', w.cell? ⟨b, off, none⟩ = some (.slice ad r.length c) ∧ (r ≠ [] → ad = some ⟨b', off', none⟩ ∧ F b') ∧ RowV F w r b' off') ∧ RowsV F w t b (off + 1)
end

theorem ClV.keep {F G : Nat → Prop} {w w' : World} {v : Value} {neg : Bool} {l : Sn} (h : ClV F w v neg l) (hc : Chg G w w') (hd : ∀ b, F b → ¬ G b) : ClV F w' v neg l := by
  obtain ⟨ad, c, e, hs, hb, hf⟩ := h
  refine ⟨ad, c, e, ⟨hs.sz, fun h0 => ?_⟩, hb, hf⟩
  obtain ⟨b, off, e1, hlt, hcell⟩ := hs.at' h0
  have hbk := hc.block b hlt (hd b (hf _ h0 e1))
  refine ⟨b, off, e1, Nat.lt_of_lt_of_le hlt hc.size, fun k x hx => ?_⟩
  rw [show w'.cell? ⟨b, off + k * 2, none⟩ = w.cell? ⟨b, off + k * 2, none⟩ from World.cell?_of_block hbk, show w'.cell? ⟨b, off + k * 2 + 1, none⟩ = w.cell? ⟨b, off + k * 2 + 1, none⟩ from World.cell?_of_block hbk]
  exact hcell k x hx
theorem ClV.mono {F G : Nat → Prop} {w : World} {v : Value} {neg : Bool} {l : Sn} (h : ClV F w v neg l) (hFG : ∀ b, F b → G b) : ClV G w v neg l := by
  obtain ⟨ad, c, e, hs, hb, hf⟩ := h
  exact ⟨ad, c, e, hs, hb, fun y h0 e => hFG _ (hf y h0 e)⟩
theorem cell_lt {w : World} {b off : Nat} {v : Value} (h : w.cell? ⟨b, off, none⟩ = some v) : b < w.heap.size := by
  rcases Nat.lt_or_ge b w.heap.size with h' | h'
  · exact h'
  · simp [World.cell?, Array.getElem?_eq_none h'] at h

mutual
/-- Parts stay while other blocks change. -/
theorem PtV.keep {F G : Nat → Prop} {w w' : World} (hc : Chg G w w') (hd : ∀ b, F b → ¬ G b) : ∀ (p : Pt) (v : Value), PtV F w p v → PtV F w' p v
  | .chr c, v, h => by simp only [PtV] at h ⊢; exact h
  | .any, v, h => by simp only [PtV] at h ⊢; exact h
  | .cls neg l, v, h => by simp only [PtV] at h ⊢; exact h.keep hc hd
  | .grp l, v, h => by
    simp only [PtV] at h ⊢
    obtain ⟨ad, c, b, off, e, h1, h2⟩ := h
    refine ⟨ad, c, b, off, e, h1, RowsV.keep hc hd l b off (fun h0 => (h1 h0).2) h2⟩
  | .rep a s, v, h => by
    simp only [PtV] at h ⊢
    obtain ⟨u, e, h1⟩ := h
    exact ⟨u, e, PtV.keep hc hd a u h1⟩
theorem RowV.keep {F G : Nat → Prop} {w w' : World} (hc : Chg G w w') (hd : ∀ b, F b → ¬ G b) : ∀ (l : List Pt) (b off : Nat), (l ≠ [] → F b) → RowV F w l b off → RowV F w' l b off
  | [], b, off, _, h => by simp only [RowV]
  | p :: t, b, off, hF, h => by
    simp only [RowV] at h ⊢
    obtain ⟨⟨v, h1, h2⟩, h3⟩ := h
    have hFb := hF (by simp)
    refine ⟨⟨v, ?_, PtV.keep hc hd p v h2⟩, RowV.keep hc hd t b (off + 1) (fun _ => hFb) h3⟩
    rw [show w'.cell? ⟨b, off, none⟩ = w.cell? ⟨b, off, none⟩ from World.cell?_of_block (hc.block b (cell_lt h1) (hd b hFb))]
    exact h1
theorem RowsV.keep {F G : Nat → Prop} {w w' : World} (hc : Chg G w w') (hd : ∀ b, F b → ¬ G b) : ∀ (l : List (List Pt)) (b off : Nat), (l ≠ [] → F b) → RowsV F w l b off → RowsV F w' l b off
  | [], b, off, _, h => by simp only [RowsV]
  | r :: t, b, off, hF, h => by
    simp only [RowsV] at h ⊢
    obtain ⟨⟨ad, c, b', off', h1, h2, h3⟩, h4⟩ := h
    have hFb := hF (by simp)
    refine ⟨⟨ad, c, b', off', ?_, h2, RowV.keep hc hd r b' off' (fun h0 => (h2 h0).2) h3⟩, RowsV.keep hc hd t b (off + 1) (fun _ => hFb) h4⟩
    rw [show w'.cell? ⟨b, off, none⟩ = w.cell? ⟨b, off, none⟩ from World.cell?_of_block (hc.block b (cell_lt h1) (hd b hFb))]
    exact h1
end
mutual
theorem PtV.mono {F G : Nat → Prop} {w : World} (hFG : ∀ b, F b → G b) : ∀ (p : Pt) (v : Value), PtV F w p v → PtV G w p v
  | .chr c, v, h => by simp only [PtV] at h ⊢; exact h
  | .any, v, h => by simp only [PtV] at h ⊢; exact h
  | .cls neg l, v, h => by simp only [PtV] at h ⊢; exact h.mono hFG
  | .grp l, v, h => by
    simp only [PtV] at h ⊢
    obtain ⟨ad, c, b, off, e, h1, h2⟩ := h
    exact ⟨ad, c, b, off, e, fun h0 => ⟨(h1 h0).1, hFG _ (h1 h0).2⟩, RowsV.mono hFG l b off h2⟩
  | .rep a s, v, h => by
    simp only [PtV] at h ⊢
    obtain ⟨u, e, h1⟩ := h
    exact ⟨u, e, PtV.mono hFG a u h1⟩
theorem RowV.mono {F G : Nat → Prop} {w : World} (hFG : ∀ b, F b → G b) : ∀ (l : List Pt) (b off : Nat), RowV F w l b off → RowV G w l b off
  | [], b, off, h => by simp only [RowV]
  | p :: t, b, off, h => by
    simp only [RowV] at h ⊢
    obtain ⟨⟨v, h1, h2⟩, h3⟩ := h
    exact ⟨⟨v, h1, PtV.mono hFG p v h2⟩, RowV.mono hFG t b (off + 1) h3⟩
theorem RowsV.mono {F G : Nat → Prop} {w : World} (hFG : ∀ b, F b → G b) : ∀ (l : List (List Pt)) (b off : Nat), RowsV F w l b off → RowsV G w l b off
  | [], b, off, h => by simp only [RowsV]
  | r :: t, b, off, h => by
    simp only [RowsV] at h ⊢
    obtain ⟨⟨ad, c, b', off', h1, h2, h3⟩, h4⟩ := h
    exact ⟨⟨ad, c, b', off', h1, fun h0 => ⟨(h2 h0).1, hFG _ (h2 h0).2⟩, RowV.mono hFG r b' off' h3⟩, RowsV.mono hFG t b (off + 1) h4⟩
end

end Go.Proofs.YtanlgplgplncdaaDoor

/-
  Reading a pattern, purely: it goes on, and has steps enough.
-/
namespace Go.Proofs.YtanlgplgplncdaaDoor
open Go
set_option linter.unusedVariables false
set_option linter.unusedSimpArgs false

theorem char_bd {S : List UInt8} {a c b : Nat} (ha : a ≤ S.length) (h : charF S a = .ok c b) : a < b ∧ b ≤ S.length := by
  unfold charF at h
  simp only at h
  generalize hb : (if decide (S[a]? = some 92) = true then a + 1 else a) = b0 at h
  have h0 : a ≤ b0 ∧ b0 ≤ S.length := by
    rw [← hb]
    split
    · rename_i hd
      exact ⟨by omega, (List.getElem?_eq_some_iff.1 (of_decide_eq_true hd)).1⟩
    · exact ⟨Nat.le_refl _, ha⟩
  split at h
  · cases h
  · rename_i c' k hf
    split at h
    · injection h with e1 e2
      have := fp_len hf
      rw [List.length_drop] at this
      omega
    · cases h
theorem char_no (S : List UInt8) (a : Nat) : charF S a ≠ .out := by
  unfold charF
  simp only
  split
  · simp
  · split <;> simp
theorem span_bd {S : List UInt8} {a : Nat} {x : Nat × Nat} {b : Nat} (ha : a ≤ S.length) (h : spanF S a = .ok x b) : a < b ∧ b ≤ S.length := by
  unfold spanF at h
  cases h1 : charF S a with
  | bad k => rw [h1] at h; cases h
  | out => rw [h1] at h; cases h
  | ok lo b1 =>
    have k1 := char_bd ha h1
    rw [h1] at h
    simp only at h
    split at h
    · rename_i h45
      have hl := (List.getElem?_eq_some_iff.1 h45).1
      cases h2 : charF S (b1 + 1) with
      | bad k => rw [h2] at h; cases h
      | out => rw [h2] at h; cases h
      | ok hi b2 =>
        have k2 := char_bd (by omega) h2
        rw [h2] at h
        simp only at h
        split at h
        · cases h
        · injection h with e1 e2; omega
    · injection h with e1 e2; omega
theorem span_no (S : List UInt8) (a : Nat) : spanF S a ≠ .out := by
  unfold spanF
  cases h1 : charF S a with
  | bad k => simp
  | out => exact absurd h1 (char_no S a)
  | ok lo b1 =>
    simp only
    split
    · cases h2 : charF S (b1 + 1) with
      | bad k => simp
      | out => exact absurd h2 (char_no S _)
      | ok hi b2 => simp only; split <;> simp
    · simp
theorem cls_bd {S : List UInt8} : ∀ (f a : Nat) (acc : Sn), a ≤ S.length → (∀ l b, clsF S f a acc = .ok l b → a < b ∧ b ≤ S.length) ∧ (S.length + 1 ≤ f + a → clsF S f a acc ≠ .out)
  | 0, a, acc, ha => ⟨(fun l b h => by rw [clsF] at h; cases h), fun h => by omega⟩
  | f + 1, a, acc, ha => by
    rw [clsF]
    by_cases h93 : acc ≠ [] ∧ S[a]? = some 93
    · rw [if_pos h93]
      refine ⟨fun l b h => ?_, fun _ => by simp⟩
      injection h with e1 e2
      have := (List.getElem?_eq_some_iff.1 h93.2).1
      omega
    · rw [if_neg h93]
      cases h1 : spanF S a with
      | bad k => exact ⟨(fun l b h => by cases h), fun _ => by simp⟩
      | out => exact absurd h1 (span_no S a)
      | ok x b1 =>
        have k1 := span_bd ha h1
        simp only
        obtain ⟨m1, m2⟩ := cls_bd f b1 (withS acc x) k1.2
        exact ⟨fun l b h => by have := m1 l b h; omega, fun h => m2 (by omega)⟩

theorem read_bd (S : List UInt8) : ∀ (f d a : Nat), a ≤ S.length →
    ((∀ l b, rowsF S f d a = .ok l b → a ≤ b ∧ b ≤ S.length) ∧ (4 * (S.length - a) + 4 ≤ f → rowsF S f d a ≠ .out)) ∧
    ((∀ l b, rowF S f d a = .ok l b → a ≤ b ∧ b ≤ S.length) ∧ (4 * (S.length - a) + 3 ≤ f → rowF S f d a ≠ .out)) ∧
    ((∀ l b, itemF S f d a = .ok l b → a < b ∧ b ≤ S.length) ∧ (4 * (S.length - a) + 2 ≤ f → itemF S f d a ≠ .out)) ∧
    ((∀ l b, atomF S f d a = .ok l b → a < b ∧ b ≤ S.length) ∧ (4 * (S.length - a) + 1 ≤ f → atomF S f d a ≠ .out))
  | 0, d, a, ha => by
    refine ⟨⟨fun l b h => ?_, fun h => by omega⟩, ⟨fun l b h => ?_, fun h => by omega⟩, ⟨fun l b h => ?_, fun h => by omega⟩, ⟨fun l b h => ?_, fun h => by omega⟩⟩
    · rw [rowsF] at h; cases h
    · rw [rowF] at h; cases h
    · rw [itemF] at h; cases h
    · rw [atomF] at h; cases h
  | f + 1, d, a, ha => by
    have ih := read_bd S f
    obtain ⟨_, ⟨r1, r2⟩, ⟨i1, i2⟩, ⟨t1, t2⟩⟩ := ih d a ha
    refine ⟨?_, ?_, ?_, ?_⟩
    · rw [rowsF]
      cases h1 : rowF S f d a with
      | bad k => exact ⟨(fun l b h => by cases h), fun _ => by simp⟩
      | out => exact ⟨(fun l b h => by cases h), fun h => absurd h1 (r2 (by omega))⟩
      | ok r b1 =>
        have k1 := r1 r b1 h1
        simp only
        by_cases h124 : S[b1]? = some 124
        · rw [if_pos h124]
          have hl := (List.getElem?_eq_some_iff.1 h124).1
          obtain ⟨⟨q1, q2⟩, _⟩ := ih d (b1 + 1) hl
          cases h2 : rowsF S f d (b1 + 1) with
          | bad k => exact ⟨(fun l b h => by cases h), fun _ => by simp⟩
          | out => exact ⟨(fun l b h => by cases h), fun h => absurd h2 (q2 (by omega))⟩
          | ok t b2 =>
            have k2 := q1 t b2 h2
            simp only
            exact ⟨fun l b h => by injection h with e1 e2; omega, fun _ => by simp⟩
        · rw [if_neg h124]
          exact ⟨fun l b h => by injection h with e1 e2; omega, fun _ => by simp⟩
    · rw [rowF]
      by_cases hst : S[a]? = none ∨ S[a]? = some 124 ∨ S[a]? = some 41
      · rw [if_pos hst]
        exact ⟨fun l b h => by injection h with e1 e2; omega, fun _ => by simp⟩
      · rw [if_neg hst]
        cases h1 : itemF S f d a with
        | bad k => exact ⟨(fun l b h => by cases h), fun _ => by simp⟩
        | out => exact ⟨(fun l b h => by cases h), fun h => absurd h1 (i2 (by omega))⟩
        | ok p b1 =>
          have k1 := i1 p b1 h1
          simp only
          obtain ⟨_, ⟨q1, q2⟩, _⟩ := ih d b1 k1.2
          cases h2 : rowF S f d b1 with
          | bad k => exact ⟨(fun l b h => by cases h), fun _ => by simp⟩
          | out => exact ⟨(fun l b h => by cases h), fun h => absurd h2 (q2 (by omega))⟩
          | ok t b2 =>
            have k2 := q1 t b2 h2
            simp only
            exact ⟨fun l b h => by injection h with e1 e2; omega, fun _ => by simp⟩
    · rw [itemF]
      cases h1 : atomF S f d a with
      | bad k => exact ⟨(fun l b h => by cases h), fun _ => by simp⟩
      | out => exact ⟨(fun l b h => by cases h), fun h => absurd h1 (t2 (by omega))⟩
      | ok p b1 =>
        have k1 := t1 p b1 h1
        simp only
        by_cases h42 : S[b1]? = some 42
        · rw [if_pos h42]
          have hl := (List.getElem?_eq_some_iff.1 h42).1
          exact ⟨fun l b h => by injection h with e1 e2; omega, fun _ => by simp⟩
        · rw [if_neg h42]
          by_cases h43 : S[b1]? = some 43
          · rw [if_pos h43]
            have hl := (List.getElem?_eq_some_iff.1 h43).1
            exact ⟨fun l b h => by injection h with e1 e2; omega, fun _ => by simp⟩
          · rw [if_neg h43]
            by_cases h63 : S[b1]? = some 63
            · rw [if_pos h63]
              have hl := (List.getElem?_eq_some_iff.1 h63).1
              exact ⟨fun l b h => by injection h with e1 e2; omega, fun _ => by simp⟩
            · rw [if_neg h63]
              exact ⟨fun l b h => by injection h with e1 e2; omega, fun _ => by simp⟩
    · rw [atomF]
      by_cases h46 : S[a]? = some 46
      · rw [if_pos h46]
        have hl := (List.getElem?_eq_some_iff.1 h46).1
        exact ⟨fun l b h => by injection h with e1 e2; omega, fun _ => by simp⟩
      · rw [if_neg h46]
        by_cases h91 : S[a]? = some 91
        · rw [if_pos h91]
          have hl := (List.getElem?_eq_some_iff.1 h91).1
          have hle : (if S[a + 1]? = some 94 then a + 2 else a + 1) ≤ S.length ∧ a < (if S[a + 1]? = some 94 then a + 2 else a + 1) := by
            split
            · rename_i h94; have := (List.getElem?_eq_some_iff.1 h94).1; omega
            · omega
          obtain ⟨m1, m2⟩ := cls_bd (S := S) (S.length + 2) (if S[a + 1]? = some 94 then a + 2 else a + 1) [] hle.1
          cases h2 : clsF S (S.length + 2) (if S[a + 1]? = some 94 then a + 2 else a + 1) [] with
          | bad k => exact ⟨(fun l b h => by cases h), fun _ => by simp⟩
          | out => exact absurd h2 (m2 (by omega))
          | ok t b2 =>
            have k2 := m1 t b2 h2
            simp only
            exact ⟨fun l b h => by injection h with e1 e2; omega, fun _ => by simp⟩
        · rw [if_neg h91]
          by_cases h40 : d < 16 ∧ S[a]? = some 40
          · rw [if_pos h40]
            have hl := (List.getElem?_eq_some_iff.1 h40.2).1
            obtain ⟨⟨q1, q2⟩, _⟩ := ih (d + 1) (a + 1) hl
            cases h2 : rowsF S f (d + 1) (a + 1) with
            | bad k => exact ⟨(fun l b h => by cases h), fun _ => by simp⟩
            | out => exact ⟨(fun l b h => by cases h), fun h => absurd h2 (q2 (by omega))⟩
            | ok t b2 =>
              have k2 := q1 t b2 h2
              simp only
              by_cases h41 : S[b2]? = some 41
              · rw [if_pos h41]
                have hl2 := (List.getElem?_eq_some_iff.1 h41).1
                exact ⟨fun l b h => by injection h with e1 e2; omega, fun _ => by simp⟩
              · rw [if_neg h41]
                exact ⟨(fun l b h => by cases h), fun _ => by simp⟩
          · rw [if_neg h40]
            cases h2 : charF S a with
            | bad k => exact ⟨(fun l b h => by cases h), fun _ => by simp⟩
            | out => exact absurd h2 (char_no S a)
            | ok c b2 =>
              have k2 := char_bd ha h2
              simp only
              exact ⟨fun l b h => by injection h with e1 e2; omega, fun _ => by simp⟩

end Go.Proofs.YtanlgplgplncdaaDoor
