import Derived.Test.YtgmdpbahcbhfjaaGreatDoorPtG
import Derived.Lib.DecodeN
set_option linter.unusedSimpArgs false
set_option linter.unusedVariables false
set_option maxHeartbeats 40000000
set_option maxRecDepth 100000
/-
  Code points in bytes: what a text begins with. Nothing of the program.
-/
namespace Go.Proofs.YtgmdpbahcbhfjaaGreatDoor
open Go

def bts (s : ByteArray) : List UInt8 := s.data.toList
def enc (c : Nat) : List UInt8 := bts (Utf8.encode (c : Int))
/-- A code point that a text may have. -/
def Vc (c : Nat) : Prop := c < 55296 ∨ (57344 ≤ c ∧ c ≤ 1114111)
theorem valid_iff (c : Nat) : Utf8.valid (c : Int) = true ↔ Vc c := by
  unfold Utf8.valid Vc
  simp only [Bool.or_eq_true, Bool.and_eq_true, decide_eq_true_eq]
  omega
def b8 (n : Nat) : UInt8 := UInt8.ofNat n
theorem b8_nat {n : Nat} (h : n < 256) : (b8 n).toNat = n := by unfold b8; simp; omega
theorem enc_eq {c : Nat} (h : Vc c) : enc c = if c < 128 then [b8 c] else if c < 2048 then [b8 (192 + c / 64), b8 (128 + c % 64)] else if c < 65536 then [b8 (224 + c / 4096), b8 (128 + c / 64 % 64), b8 (128 + c % 64)] else [b8 (240 + c / 262144), b8 (128 + c / 4096 % 64), b8 (128 + c / 64 % 64), b8 (128 + c % 64)] := by
  have hv := (valid_iff c).2 h
  unfold enc Utf8.encode
  simp only [hv, if_true, Int.toNat_natCast]
  (repeat' split) <;> rfl
theorem enc_len {c : Nat} (h : Vc c) : 1 ≤ (enc c).length ∧ (enc c).length ≤ 4 := by
  rw [enc_eq h]
  (repeat' split) <;> simp

theorem get_bts (s : ByteArray) (j : Nat) : s.get! j = (bts s)[j]?.getD default := by
  unfold bts
  show s.data[j]! = _
  rw [Array.getElem?_toList, getElem!_def]
  cases s.data[j]? <;> rfl

/-- What begins with a code point's bytes is read as it. -/
theorem decode_enc (s : ByteArray) (i c : Nat) (h : Vc c) (t : List UInt8) (hp : (bts s).drop i = enc c ++ t) : Utf8.decode s i = (c, (enc c).length) := by
  have hl : ((bts s).drop i).length = s.size - i := by rw [List.length_drop]; rfl
  have hg : ∀ k, k < (enc c).length → s.get! (i + k) = (enc c)[k]?.getD default := fun k hk => by
    rw [get_bts, show (bts s)[i + k]? = ((bts s).drop i)[k]? by rw [List.getElem?_drop], hp, List.getElem?_append_left hk]
  have hsz : (enc c).length ≤ s.size - i := by rw [← hl, hp, List.length_append]; omega
  rw [Lib.decode_at]
  rw [enc_eq h] at hg hsz ⊢
  by_cases h1 : c < 128
  · rw [if_pos h1] at hg hsz ⊢
    have g0 := hg 0 (by simp)
    rw [Nat.add_zero] at g0
    rw [g0]
    simp only [List.getElem?_cons_zero, Option.getD_some, b8_nat (show c < 256 by omega)]
    unfold Lib.decodeN
    simp [h1]
  · rw [if_neg h1] at hg hsz ⊢
    by_cases h2 : c < 2048
    · rw [if_pos h2] at hg hsz ⊢
      have g0 := hg 0 (by simp)
      have g1 := hg 1 (by simp)
      rw [Nat.add_zero] at g0
      rw [g0, g1]
      simp only [List.getElem?_cons_zero, List.getElem?_cons_succ, Option.getD_some, b8_nat (show 192 + c / 64 < 256 by omega), b8_nat (show 128 + c % 64 < 256 by omega)]
      simp only [List.length_cons, List.length_nil] at hsz
      unfold Lib.decodeN
      have e1 : ¬ 192 + c / 64 < 128 := by omega
      have e2 : (192 + c / 64) / 32 = 6 := by omega
      have e3 : (128 + c % 64) / 64 = 2 := by omega
      have e4 : (192 + c / 64) % 32 * 64 + (128 + c % 64) % 64 = c := by omega
      have e5 : 1 < s.size - i := by omega
      rw [if_neg e1, if_pos ⟨e2, e5, e3⟩, e4, if_pos (by omega)]
      rfl
    · rw [if_neg h2] at hg hsz ⊢
      by_cases h3 : c < 65536
      · rw [if_pos h3] at hg hsz ⊢
        have g0 := hg 0 (by simp)
        have g1 := hg 1 (by simp)
        have g2 := hg 2 (by simp)
        rw [Nat.add_zero] at g0
        rw [g0, g1, g2]
        simp only [List.getElem?_cons_zero, List.getElem?_cons_succ, Option.getD_some, b8_nat (show 224 + c / 4096 < 256 by omega), b8_nat (show 128 + c % 64 < 256 by omega), b8_nat (show 128 + c / 64 % 64 < 256 by omega)]
        simp only [List.length_cons, List.length_nil] at hsz
        unfold Lib.decodeN
        have e1 : ¬ 224 + c / 4096 < 128 := by omega
        have e2 : ¬ (224 + c / 4096) / 32 = 6 := by omega
        have e2' : (224 + c / 4096) / 16 = 14 := by omega
        have e3 : (128 + c % 64) / 64 = 2 := by omega
        have e3' : (128 + c / 64 % 64) / 64 = 2 := by omega
        have e4 : (224 + c / 4096) % 16 * 4096 + (128 + c / 64 % 64) % 64 * 64 + (128 + c % 64) % 64 = c := by omega
        have e5 : 1 < s.size - i := by omega
        have e6 : 2 < s.size - i := by omega
        rw [if_neg e1, if_neg (fun h => e2 h.1), if_pos ⟨e2', ⟨e5, e3'⟩, e6, e3⟩, e4, if_pos ⟨by omega, h⟩]
        rfl
      · rw [if_neg h3] at hg hsz ⊢
        have hc : c ≤ 1114111 := by unfold Vc at h; omega
        have g0 := hg 0 (by simp)
        have g1 := hg 1 (by simp)
        have g2 := hg 2 (by simp)
        have g3 := hg 3 (by simp)
        rw [Nat.add_zero] at g0
        rw [g0, g1, g2, g3]
        simp only [List.getElem?_cons_zero, List.getElem?_cons_succ, Option.getD_some, b8_nat (show 240 + c / 262144 < 256 by omega), b8_nat (show 128 + c % 64 < 256 by omega), b8_nat (show 128 + c / 64 % 64 < 256 by omega), b8_nat (show 128 + c / 4096 % 64 < 256 by omega)]
        simp only [List.length_cons, List.length_nil] at hsz
        unfold Lib.decodeN
        have e1 : ¬ 240 + c / 262144 < 128 := by omega
        have e2 : ¬ (240 + c / 262144) / 32 = 6 := by omega
        have e2' : ¬ (240 + c / 262144) / 16 = 14 := by omega
        have e2'' : (240 + c / 262144) / 8 = 30 := by omega
        have e3 : (128 + c % 64) / 64 = 2 := by omega
        have e3' : (128 + c / 64 % 64) / 64 = 2 := by omega
        have e3'' : (128 + c / 4096 % 64) / 64 = 2 := by omega
        have e4 : (240 + c / 262144) % 8 * 262144 + (128 + c / 4096 % 64) % 64 * 4096 + (128 + c / 64 % 64) % 64 * 64 + (128 + c % 64) % 64 = c := by omega
        have e5 : 1 < s.size - i := by omega
        have e6 : 2 < s.size - i := by omega
        have e7 : 3 < s.size - i := by omega
        rw [if_neg e1, if_neg (fun h => e2 h.1), if_neg (fun h => e2' h.1), if_pos ⟨e2'', ⟨e5, e3''⟩, ⟨e6, e3'⟩, e7, e3⟩, e4, if_pos ⟨by omega, h⟩]
        rfl
/-- Whatever is read is a code point that a text may have. -/
theorem decode_vc (s : ByteArray) (i : Nat) : Vc (Utf8.decode s i).1 := by
  have herr : Vc 65533 := by unfold Vc; omega
  unfold Utf8.decode
  simp only []
  (repeat' split) <;> first
    | exact herr
    | (simp only [Utf8.runeError]; exact herr)
    | (rename_i h; simp only [Bool.and_eq_true, decide_eq_true_eq] at h; exact (valid_iff _).1 (by have := h.2; simpa using this))
    | (unfold Vc; simp only [Utf8.runeError, beq_iff_eq, Bool.and_eq_true, decide_eq_true_eq] at *; omega)

end Go.Proofs.YtgmdpbahcbhfjaaGreatDoor
/-
  Reading a pattern, purely: with steps enough, the tree, or the fault's place. A pattern between brackets is read as it is alone.
-/
namespace Go.Proofs.YtgmdpbahcbhfjaaGreatDoor
open Go

def fpG (l E : List UInt8) (x : Nat) : Option (Nat × Nat) := if l = [] then none else if E.isPrefixOf l then some (x, E.length) else none
theorem fpG_some {l E : List UInt8} {x c k : Nat} : fpG l E x = some (c, k) ↔ l ≠ [] ∧ E <+: l ∧ x = c ∧ E.length = k := by
  unfold fpG
  by_cases h1 : l = []
  · rw [if_pos h1]
    exact ⟨(fun h => by cases h), fun h => absurd h1 h.1⟩
  · rw [if_neg h1]
    by_cases h2 : E.isPrefixOf l = true
    · rw [if_pos h2]
      constructor
      · intro h
        injection h with h
        injection h with e1 e2
        exact ⟨h1, List.isPrefixOf_iff_prefix.1 h2, e1, e2⟩
      · rintro ⟨_, _, e1, e2⟩
        rw [e1, e2]
    · rw [if_neg h2]
      exact ⟨(fun h => by cases h), fun h => absurd (List.isPrefixOf_iff_prefix.2 h.2.1) h2⟩
def dc (l : List UInt8) : Nat := (Utf8.decode ⟨l.toArray⟩ 0).1
theorem dc_vc (l : List UInt8) : Vc (dc l) := by
  rw [dc]
  exact decode_vc _ _
theorem dec_1 {c : Nat} (h : Vc c) (s : ByteArray) (t : List UInt8) (hb : (bts s).drop 0 = enc c ++ t) : (Utf8.decode s 0).1 = c := by
  rw [decode_enc s 0 c h t hb]
theorem bts_arr (l : List UInt8) : (bts ⟨l.toArray⟩).drop 0 = l := by simp [bts]
theorem dc_of {c : Nat} (h : Vc c) (t l : List UInt8) (hl : l = enc c ++ t) : dc l = c := by
  rw [dc]
  exact dec_1 h _ t ((bts_arr l).trans hl)
theorem dc_enc {c : Nat} (h : Vc c) (t : List UInt8) : dc (enc c ++ t) = c := dc_of h t _ rfl
/-- The code point that a text begins with, and its bytes; none: none, or what is no UTF-8. -/
def fp (l : List UInt8) : Option (Nat × Nat) := fpG l (enc (dc l)) (dc l)
theorem enc_ne {c : Nat} (h : Vc c) (t : List UInt8) : enc c ++ t ≠ [] := by
  have hl := (enc_len h).1
  generalize enc c = L at hl
  cases L with
  | nil => simp at hl
  | cons x y => simp
theorem fp_some {l : List UInt8} {c k : Nat} : fp l = some (c, k) ↔ Vc c ∧ k = (enc c).length ∧ ∃ t, l = enc c ++ t := by
  rw [fp, fpG_some]
  constructor
  · rintro ⟨h1, ⟨t, h2⟩, h3, h4⟩
    have hv := dc_vc l
    rw [h3] at h2 h4 hv
    exact ⟨hv, h4.symm, t, h2.symm⟩
  · rintro ⟨hv, hk, t, ht⟩
    rw [ht, dc_enc hv t]
    exact ⟨enc_ne hv t, ⟨t, rfl⟩, rfl, hk.symm⟩

inductive Pr (α : Type) where
  | ok (x : α) (b : Nat)
  | bad (k : Nat)
  | out

def isSg (c : Nat) : Bool := c == 92 || c == 46 || c == 91 || c == 93 || c == 40 || c == 41 || c == 124 || c == 42 || c == 43 || c == 63 || c == 94 || c == 45
def charF (S : List UInt8) (a : Nat) : Pr Nat :=
  let esc := decide (S[a]? = some 92)
  let b := if esc then a + 1 else a
  match fp (S.drop b) with
  | none => .bad b
  | some (c, k) => if isSg c = esc then .ok c (b + k) else .bad b
def spanF (S : List UInt8) (a : Nat) : Pr (Nat × Nat) :=
  match charF S a with
  | .ok lo b => if S[b]? = some 45 then (match charF S (b + 1) with
    | .ok hi c => if hi < lo then .bad (b + 1) else .ok (lo, hi) c
    | .bad k => .bad k
    | .out => .out) else .ok (lo, lo) b
  | .bad k => .bad k
  | .out => .out
def withF : Sn → Nat × Nat → Sn → Sn → Sn
  | [], x, ah, be => ah ++ [x] ++ be
  | o :: t, x, ah, be => if o.2 + 1 < x.1 then withF t x (ah ++ [o]) be else if x.2 + 1 < o.1 then withF t x ah (be ++ [o]) else withF t (min o.1 x.1, max o.2 x.2) ah be
def withS (l : Sn) (x : Nat × Nat) : Sn := withF l x [] []
def clsF (S : List UInt8) : Nat → Nat → Sn → Pr Sn
  | 0, _, _ => .out
  | f + 1, a, acc => if acc ≠ [] ∧ S[a]? = some 93 then .ok acc (a + 1) else
    match spanF S a with
    | .ok x b => clsF S f b (withS acc x)
    | .bad k => .bad k
    | .out => .out
mutual
def rowsF (S : List UInt8) : Nat → Nat → Nat → Pr (List (List Pt))
  | 0, _, _ => .out
  | f + 1, d, a =>
    match rowF S f d a with
    | .ok r b => if S[b]? = some 124 then (match rowsF S f d (b + 1) with
      | .ok l c => .ok (r :: l) c
      | .bad k => .bad k
      | .out => .out) else .ok [r] b
    | .bad k => .bad k
    | .out => .out
def rowF (S : List UInt8) : Nat → Nat → Nat → Pr (List Pt)
  | 0, _, _ => .out
  | f + 1, d, a => if S[a]? = none ∨ S[a]? = some 124 ∨ S[a]? = some 41 then .ok [] a else
    match itemF S f d a with
    | .ok p b => (match rowF S f d b with
      | .ok t c => .ok (p :: t) c
      | .bad k => .bad k
      | .out => .out)
    | .bad k => .bad k
    | .out => .out
def itemF (S : List UInt8) : Nat → Nat → Nat → Pr Pt
  | 0, _, _ => .out
  | f + 1, d, a =>
    match atomF S f d a with
    | .ok p b => if S[b]? = some 42 then .ok (.rep p 42) (b + 1) else if S[b]? = some 43 then .ok (.rep p 43) (b + 1) else if S[b]? = some 63 then .ok (.rep p 63) (b + 1) else .ok p b
    | .bad k => .bad k
    | .out => .out
def atomF (S : List UInt8) : Nat → Nat → Nat → Pr Pt
  | 0, _, _ => .out
  | f + 1, d, a =>
    if S[a]? = some 46 then .ok .any (a + 1)
    else if S[a]? = some 91 then (match clsF S (S.length + 2) (if S[a + 1]? = some 94 then a + 2 else a + 1) [] with
      | .ok l b => .ok (.cls (decide (S[a + 1]? = some 94)) l) b
      | .bad k => .bad k
      | .out => .out)
    else if d < 16 ∧ S[a]? = some 40 then (match rowsF S f (d + 1) (a + 1) with
      | .ok l b => if S[b]? = some 41 then .ok (.grp l) (b + 1) else .bad b
      | .bad k => .bad k
      | .out => .out)
    else (match charF S a with
      | .ok c b => .ok (.chr c) b
      | .bad k => .bad k
      | .out => .out)
end

/-! ### how deep -/

/-! ### a text within brackets -/
theorem fp_len {l : List UInt8} {c k : Nat} (h : fp l = some (c, k)) : 1 ≤ k ∧ k ≤ l.length := by
  obtain ⟨hv, hk, t, ht⟩ := fp_some.1 h
  rw [hk, ht, List.length_append]
  exact ⟨(enc_len hv).1, Nat.le_add_right _ _⟩
end Go.Proofs.YtgmdpbahcbhfjaaGreatDoor
