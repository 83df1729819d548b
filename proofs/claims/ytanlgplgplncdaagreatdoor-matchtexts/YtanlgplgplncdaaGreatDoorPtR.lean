/-
  Reading a pattern, purely: with steps enough, the tree, or the fault's place. A pattern between brackets is read as it is alone.
-/
import Derived.Test.YtanlgplgplncdaaGreatDoorPtG
namespace Go.Proofs.YtanlgplgplncdaaGreatDoor
open Go
set_option linter.unusedVariables false
set_option linter.unusedSimpArgs false

def fpG (l E : List UInt8) (x : Nat) : Option (Nat × Nat) := if l = [] then none else if E.isPrefixOf l then some (x, E.length) else none
theorem fpG_some {l E : List UInt8} {x c k : Nat} : fpG l E x = some (c, k) ↔ l ≠ [] ∧ E <+: l ∧ x = c ∧ E.length = k := by
  unfold fpG
  by_cases h1 : l = []
  · rw [if_pos h1]
    exact ⟨(fun h => by cases h), fun h => absurd h1 h.1⟩
  · rw [if_neg h1]
    by_cases h2 : E.isPrefixOf l = true
    · rw [if_pos h2]
      constructor
      · intro h
        injection h with h
        injection h with e1 e2
        exact ⟨h1, List.isPrefixOf_iff_prefix.1 h2, e1, e2⟩
      · rintro ⟨_, _, e1, e2⟩
        rw [e1, e2]
    · rw [if_neg h2]
      exact ⟨(fun h => by cases h), fun h => absurd (List.isPrefixOf_iff_prefix.2 h.2.1) h2⟩
def dc (l : List UInt8) : Nat := (Utf8.decode ⟨l.toArray⟩ 0).1
theorem dc_vc (l : List UInt8) : Vc (dc l) := by
  rw [dc]
  exact decode_vc _ _
theorem dec_1 {c : Nat} (h : Vc c) (s : ByteArray) (t : List UInt8) (hb : (bts s).drop 0 = enc c ++ t) : (Utf8.decode s 0).1 = c := by
  rw [decode_enc s 0 c h t hb]
theorem bts_arr (l : List UInt8) : (bts ⟨l.toArray⟩).drop 0 = l := by simp [bts]
theorem dc_of {c : Nat} (h : Vc c) (t l : List UInt8) (hl : l = enc c ++ t) : dc l = c := by
  rw [dc]
  exact dec_1 h _ t ((bts_arr l).trans hl)
theorem dc_enc {c : Nat} (h : Vc c) (t : List UInt8) : dc (enc c ++ t) = c := dc_of h t _ rfl
/-- The code point that a text begins with, and its bytes; none: none, or what is no UTF-8. -/
def fp (l : List UInt8) : Option (Nat × Nat) := fpG l (enc (dc l)) (dc l)
theorem enc_ne {c : Nat} (h : Vc c) (t : List UInt8) : enc c ++ t ≠ [] := by
  have hl := (enc_len h).1
  generalize enc c = L at hl
  cases L with
  | nil => simp at hl
  | cons x y => simp
theorem fp_some {l : List UInt8} {c k : Nat} : fp l = some (c, k) ↔ Vc c ∧ k = (enc c).length ∧ ∃ t, l = enc c ++ t := by
  rw [fp, fpG_some]
  constructor
  · rintro ⟨h1, ⟨t, h2⟩, h3, h4⟩
    have hv := dc_vc l
    rw [h3] at h2 h4 hv
    exact ⟨hv, h4.symm, t, h2.symm⟩
  · rintro ⟨hv, hk, t, ht⟩
    rw [ht, dc_enc hv t]
    exact ⟨enc_ne hv t, ⟨t, rfl⟩, rfl, hk.symm⟩

inductive Pr (α : Type) where
  | ok (x : α) (b : Nat)
  | bad (k : Nat)
  | out

def isSg (c : Nat) : Bool := c == 92 || c == 46 || c == 91 || c == 93 || c == 40 || c == 41 || c == 124 || c == 42 || c == 43 || c == 63 || c == 94 || c == 45
def charF (S : List UInt8) (a : Nat) : Pr Nat :=
  let esc := decide (S[a]? = some 92)
  let b := if esc then a + 1 else a
  match fp (S.drop b) with
  | none => .bad b
  | some (c, k) => if isSg c = esc then .ok c (b + k) else .bad b
def spanF (S : List UInt8) (a : Nat) : Pr (Nat × Nat) :=
  match charF S a with
  | .ok lo b => if S[b]? = some 45 then (match charF S (b + 1) with
    | .ok hi c => if hi < lo then .bad (b + 1) else .ok (lo, hi) c
    | .bad k => .bad k
    | .out => .out) else .ok (lo, lo) b
  | .bad k => .bad k
  | .out => .out
def withF : Sn → Nat × Nat → Sn → Sn → Sn
  | [], x, ah, be => ah ++ [x] ++ be
  | o :: t, x, ah, be => if o.2 + 1 < x.1 then withF t x (ah ++ [o]) be else if x.2 + 1 < o.1 then withF t x ah (be ++ [o]) else withF t (min o.1 x.1, max o.2 x.2) ah be
def withS (l : Sn) (x : Nat × Nat) : Sn := withF l x [] []
def clsF (S : List UInt8) : Nat → Nat → Sn → Pr Sn
  | 0, _, _ => .out
  | f + 1, a, acc => if acc ≠ [] ∧ S[a]? = some 93 then .ok acc (a + 1) else
    match spanF S a with
    | .ok x b => clsF S f b (withS acc x)
    | .bad k => .bad k
    | .out => .out
mutual
def rowsF (S : List UInt8) : Nat → Nat → Nat → Pr (List (List Pt))
  | 0, _, _ => .out
  | f + 1, d, a =>
    match rowF S f d a with
    | .ok r b => if S[b]? = some 124 then (match rowsF S f d (b + 1) with
      | .ok l c => .ok (r :: l) c
      | .bad k => .bad k
      | .out => .out) else .ok [r] b
    | .bad k => .bad k
    | .out => .out
def rowF (S : List UInt8) : Nat → Nat → Nat → Pr (List Pt)
  | 0, _, _ => .out
  | f + 1, d, a => if S[a]? = none ∨ S[a]? = some 124 ∨ S[a]? = some 41 then .ok [] a else
    match itemF S f d a with
    | .ok p b => (match rowF S f d b with
      | .ok t c => .ok (p :: t) c
      | .bad k => .bad k
      | .out => .out)
    | .bad k => .bad k
    | .out => .out
def itemF (S : List UInt8) : Nat → Nat → Nat → Pr Pt
  | 0, _, _ => .out
  | f + 1, d, a =>
    match atomF S f d a with
    | .ok p b => if S[b]? = some 42 then .ok (.rep p 42) (b + 1) else if S[b]? = some 43 then .ok (.rep p 43) (b + 1) else if S[b]? = some 63 then .ok (.rep p 63) (b + 1) else .ok p b
    | .bad k => .bad k
    | .out => .out
def atomF (S : List UInt8) : Nat → Nat → Nat → Pr Pt
  | 0, _, _ => .out
  | f + 1, d, a =>
    if S[a]? = some 46 then .ok .any (a + 1)
    else if S[a]? = some 91 then (match clsF S (S.length + 2) (if S[a + 1]? = some 94 then a + 2 else a + 1) [] with
      | .ok l b => .ok (.cls (decide (S[a + 1]? = some 94)) l) b
      | .bad k => .bad k
      | .out => .out)
    else if d < 16 ∧ S[a]? = some 40 then (match rowsF S f (d + 1) (a + 1) with
      | .ok l b => if S[b]? = some 41 then .ok (.grp l) (b + 1) else .bad b
      | .bad k => .bad k
      | .out => .out)
    else (match charF S a with
      | .ok c b => .ok (.chr c) b
      | .bad k => .bad k
      | .out => .out)
end

/-! ### how deep -/
mutual
def Pt.dep : Pt → Nat
  | .grp l => rowsDep l + 1
  | .rep a _ => a.dep
  | _ => 0
def rowDep : List Pt → Nat
  | [] => 0
  | p :: t => max p.dep (rowDep t)
def rowsDep : List (List Pt) → Nat
  | [] => 0
  | r :: t => max (rowDep r) (rowsDep t)
end

/-! ### a text within brackets -/
/-- s stands in S behind n bytes, a bracket behind it. -/
structure Sub (S s : List UInt8) (n : Nat) : Prop where
  at' : ∀ i, i < s.length → S[n + i]? = s[i]?
  stop : S[n + s.length]? = some 41
  fp : ∀ i r, fp (s.drop i) = some r → fp (S.drop (n + i)) = some r
  len : s.length ≤ S.length
theorem Sub.mk' (pre s suf : List UInt8) : Sub (pre ++ s ++ 41 :: suf) s pre.length := by
  refine ⟨fun i hi => ?_, ?_, fun i r h => ?_, by simp; omega⟩
  · rw [List.append_assoc, List.getElem?_append_right (by omega), Nat.add_sub_cancel_left, List.getElem?_append_left hi]
  · rw [List.append_assoc, List.getElem?_append_right (by omega), Nat.add_sub_cancel_left, List.getElem?_append_right (by omega)]
    simp
  · obtain ⟨c, k⟩ := r
    obtain ⟨hv, hk, t, ht⟩ := fp_some.1 h
    refine fp_some.2 ⟨hv, hk, t ++ 41 :: suf, ?_⟩
    have hi : i ≤ s.length := by
      rcases Nat.lt_or_ge s.length i with h' | h'
      · rw [List.drop_of_length_le (by omega)] at ht
        exact absurd ht.symm (enc_ne hv t)
      · exact h'
    rw [List.append_assoc, List.drop_append, List.drop_of_length_le (by omega), Nat.add_sub_cancel_left, List.nil_append, List.drop_append_of_le_length hi, ht, List.append_assoc]
/-- A byte that is no bracket stands at a place of S as it does in s. -/
theorem Sub.eq {S s : List UInt8} {n : Nat} (h : Sub S s n) {a : Nat} (ha : a ≤ s.length) (x : UInt8) (hx : x ≠ 41) : S[n + a]? = some x ↔ s[a]? = some x := by
  rcases Nat.lt_or_ge a s.length with hl | hl
  · rw [h.at' a hl]
  · obtain rfl : a = s.length := by omega
    rw [h.stop, List.getElem?_eq_none (Nat.le_refl _)]
    simp only [Option.some.injEq, reduceCtorEq, iff_false]
    exact fun e => hx e.symm
theorem fp_len {l : List UInt8} {c k : Nat} (h : fp l = some (c, k)) : 1 ≤ k ∧ k ≤ l.length := by
  obtain ⟨hv, hk, t, ht⟩ := fp_some.1 h
  rw [hk, ht, List.length_append]
  exact ⟨(enc_len hv).1, Nat.le_add_right _ _⟩
theorem loc_char {S s : List UInt8} {n : Nat} (h : Sub S s n) {a : Nat} (ha : a ≤ s.length) {c b : Nat} (hc : charF s a = .ok c b) : charF S (n + a) = .ok c (n + b) ∧ a < b ∧ b ≤ s.length := by
  have he : decide (S[n + a]? = some 92) = decide (s[a]? = some 92) := decide_eq_decide.2 (h.eq ha 92 (by decide))
  unfold charF at hc ⊢
  simp only [he] at hc ⊢
  generalize hesc : decide (s[a]? = some 92) = esc at hc ⊢
  have hb : (if esc = true then n + a + 1 else n + a) = n + (if esc = true then a + 1 else a) := by split <;> omega
  rw [hb]
  generalize hbb : (if esc = true then a + 1 else a) = b0 at hc ⊢
  have hab : a ≤ b0 := by rw [← hbb]; split <;> omega
  cases hf : fp (s.drop b0) with
  | none => rw [hf] at hc; cases hc
  | some r =>
    obtain ⟨x, k⟩ := r
    rw [hf] at hc
    rw [h.fp _ _ hf]
    simp only at hc ⊢
    split at hc
    · rename_i hs
      injection hc with h1 h2
      subst h1 h2
      have := fp_len hf
      rw [List.length_drop] at this
      rw [if_pos hs]
      exact ⟨by rw [Nat.add_assoc], by omega, by omega⟩
    · cases hc
theorem loc_span {S s : List UInt8} {n : Nat} (h : Sub S s n) {a : Nat} (ha : a ≤ s.length) {x : Nat × Nat} {b : Nat} (hc : spanF s a = .ok x b) : spanF S (n + a) = .ok x (n + b) ∧ a < b ∧ b ≤ s.length := by
  unfold spanF at hc ⊢
  cases h1 : charF s a with
  | bad k => rw [h1] at hc; cases hc
  | out => rw [h1] at hc; cases hc
  | ok lo b1 =>
    obtain ⟨k1, k2, k3⟩ := loc_char h ha h1
    rw [h1] at hc
    rw [k1]
    simp only at hc ⊢
    by_cases h45 : s[b1]? = some 45
    · rw [if_pos h45] at hc
      rw [if_pos ((h.eq k3 45 (by decide)).2 h45)]
      have hl : b1 + 1 ≤ s.length := (List.getElem?_eq_some_iff.1 h45).1
      cases h2 : charF s (b1 + 1) with
      | bad k => rw [h2] at hc; cases hc
      | out => rw [h2] at hc; cases hc
      | ok hi b2 =>
        obtain ⟨m1, m2, m3⟩ := loc_char h hl h2
        rw [h2] at hc
        rw [Nat.add_assoc, m1]
        simp only at hc ⊢
        split at hc
        · cases hc
        · rename_i hlt
          rw [if_neg hlt]
          injection hc with e1 e2
          subst e1 e2
          exact ⟨rfl, by omega, m3⟩
    · rw [if_neg h45] at hc
      rw [if_neg (fun e => h45 ((h.eq k3 45 (by decide)).1 e))]
      injection hc with e1 e2
      subst e1 e2
      exact ⟨rfl, k2, k3⟩
theorem clsF_more (S : List UInt8) : ∀ (f g a : Nat) (acc : Sn) (l : Sn) (b : Nat), f ≤ g → clsF S f a acc = .ok l b → clsF S g a acc = .ok l b
  | 0, _, _, _, _, _, _, h => by rw [clsF] at h; cases h
  | f + 1, 0, _, _, _, _, hg, _ => by omega
  | f + 1, g + 1, a, acc, l, b, hg, h => by
    rw [clsF] at h ⊢
    split at h
    · rename_i hc; rw [if_pos hc]; exact h
    · rename_i hc
      rw [if_neg hc]
      cases h1 : spanF S a with
      | bad k => rw [h1] at h; cases h
      | out => rw [h1] at h; cases h
      | ok x b1 =>
        rw [h1] at h
        simp only at h ⊢
        exact clsF_more S f g _ _ _ _ (by omega) h
theorem loc_cls {S s : List UInt8} {n : Nat} (h : Sub S s n) : ∀ (f a : Nat) (acc l : Sn) (b : Nat), a ≤ s.length → clsF s f a acc = .ok l b → clsF S f (n + a) acc = .ok l (n + b) ∧ a < b ∧ b ≤ s.length
  | 0, _, _, _, _, _, hc => by rw [clsF] at hc; cases hc
  | f + 1, a, acc, l, b, ha, hc => by
    rw [clsF] at hc ⊢
    by_cases h93 : acc ≠ [] ∧ s[a]? = some 93
    · rw [if_pos h93] at hc
      rw [if_pos ⟨h93.1, (h.eq ha 93 (by decide)).2 h93.2⟩]
      injection hc with e1 e2
      subst e1 e2
      exact ⟨rfl, by omega, (List.getElem?_eq_some_iff.1 h93.2).1⟩
    · rw [if_neg h93] at hc
      rw [if_neg (fun e => h93 ⟨e.1, (h.eq ha 93 (by decide)).1 e.2⟩)]
      cases h1 : spanF s a with
      | bad k => rw [h1] at hc; cases hc
      | out => rw [h1] at hc; cases hc
      | ok x b1 =>
        obtain ⟨k1, k2, k3⟩ := loc_span h ha h1
        rw [h1] at hc
        rw [k1]
        simp only at hc ⊢
        obtain ⟨m1, m2, m3⟩ := loc_cls h f b1 _ l b k3 hc
        exact ⟨m1, by omega, m3⟩

/-- A sign is no character. -/
theorem fp_40 {l t : List UInt8} (h : l = 40 :: t) : fp l = some (40, 1) := by
  refine fp_some.2 ⟨by unfold Vc; omega, ?_, t, ?_⟩
  · rw [enc_eq (by unfold Vc; omega)]; rfl
  · rw [h, enc_eq (by unfold Vc; omega)]; rfl
theorem char_sign {S : List UInt8} {a : Nat} (h : S[a]? = some 40) : charF S a = .bad a := by
  have hd : S.drop a = 40 :: S.drop (a + 1) := by
    have hl := (List.getElem?_eq_some_iff.1 h).1
    rw [List.drop_eq_getElem_cons hl]
    rw [List.getElem?_eq_getElem hl] at h
    injection h with h
    rw [h]
  have hne : ¬ S[a]? = some 92 := by rw [h]; decide
  unfold charF
  simp only [decide_eq_false hne, if_false, Bool.false_eq_true]
  rw [fp_40 hd]
  rfl

/-- What a reading within brackets is. -/
def Lo {α : Type} (n b d p : Nat) (x : α) (R : Pr α) : Prop := (d + p ≤ 16 → R = .ok x (n + b)) ∧ (d ≤ 16 → 16 < d + p → ∃ k, R = .bad k)

theorem loc_main {S s : List UInt8} {n : Nat} (h : Sub S s n) (e : Nat) : ∀ (f d a : Nat), a ≤ s.length →
    (∀ l b, rowsF s f d a = .ok l b → a ≤ b ∧ b ≤ s.length ∧ Lo n b (d + e) (rowsDep l) l (rowsF S f (d + e) (n + a))) ∧
    (∀ l b, rowF s f d a = .ok l b → a ≤ b ∧ b ≤ s.length ∧ Lo n b (d + e) (rowDep l) l (rowF S f (d + e) (n + a))) ∧
    (∀ l b, itemF s f d a = .ok l b → a < b ∧ b ≤ s.length ∧ Lo n b (d + e) (l.dep) l (itemF S f (d + e) (n + a))) ∧
    (∀ l b, atomF s f d a = .ok l b → a < b ∧ b ≤ s.length ∧ Lo n b (d + e) (l.dep) l (atomF S f (d + e) (n + a)))
  | 0, d, a, ha => by
    refine ⟨fun l b hc => ?_, fun l b hc => ?_, fun l b hc => ?_, fun l b hc => ?_⟩
    · rw [rowsF] at hc; cases hc
    · rw [rowF] at hc; cases hc
    · rw [itemF] at hc; cases hc
    · rw [atomF] at hc; cases hc
  | f + 1, d, a, ha => by
    have ih := loc_main h e f
    refine ⟨fun l b hc => ?_, fun l b hc => ?_, fun l b hc => ?_, fun l b hc => ?_⟩
    · -- rows
      rw [rowsF] at hc ⊢
      cases h1 : rowF s f d a with
      | bad k => rw [h1] at hc; cases hc
      | out => rw [h1] at hc; cases hc
      | ok r b1 =>
        obtain ⟨p1, p2, p3, p4⟩ := (ih d a ha).2.1 r b1 h1
        rw [h1] at hc
        simp only at hc
        by_cases h124 : s[b1]? = some 124
        · rw [if_pos h124] at hc
          have hl : b1 + 1 ≤ s.length := (List.getElem?_eq_some_iff.1 h124).1
          have h124' := (h.eq p2 124 (by decide)).2 h124
          cases h2 : rowsF s f d (b1 + 1) with
          | bad k => rw [h2] at hc; cases hc
          | out => rw [h2] at hc; cases hc
          | ok t b2 =>
            obtain ⟨q1, q2, q3, q4⟩ := (ih d (b1 + 1) hl).1 t b2 h2
            rw [h2] at hc
            simp only at hc
            injection hc with e1 e2
            subst e1 e2
            refine ⟨by omega, q2, fun hd => ?_, fun hde hd => ?_⟩
            · simp only [rowsDep] at hd
              rw [p3 (by omega)]
              simp only
              rw [if_pos h124', Nat.add_assoc, q3 (by omega)]
            · simp only [rowsDep] at hd
              by_cases hr : d + e + rowDep r ≤ 16
              · rw [p3 hr]
                simp only
                obtain ⟨k, hk⟩ := q4 (by omega) (by omega)
                rw [if_pos h124', Nat.add_assoc, hk]
                exact ⟨k, rfl⟩
              · obtain ⟨k, hk⟩ := p4 (by omega) (by omega)
                rw [hk]
                exact ⟨k, rfl⟩
        · rw [if_neg h124] at hc
          have h124' : ¬ S[n + b1]? = some 124 := fun x => h124 ((h.eq p2 124 (by decide)).1 x)
          injection hc with e1 e2
          subst e1 e2
          refine ⟨p1, p2, fun hd => ?_, fun hde hd => ?_⟩
          · simp only [rowsDep] at hd
            rw [p3 (by omega)]
            simp only
            rw [if_neg h124']
          · simp only [rowsDep] at hd
            obtain ⟨k, hk⟩ := p4 (by omega) (by omega)
            rw [hk]
            exact ⟨k, rfl⟩
    · -- row
      rw [rowF] at hc ⊢
      by_cases hst : s[a]? = none ∨ s[a]? = some 124 ∨ s[a]? = some 41
      · rw [if_pos hst] at hc
        injection hc with e1 e2
        subst e1 e2
        have hst' : S[n + a]? = none ∨ S[n + a]? = some 124 ∨ S[n + a]? = some 41 := by
          rcases Nat.lt_or_ge a s.length with hl | hl
          · rw [h.at' a hl]; exact hst
          · obtain rfl : a = s.length := by omega
            exact Or.inr (Or.inr h.stop)
        rw [if_pos hst']
        exact ⟨Nat.le_refl _, ha, fun _ => rfl, fun hde hd => by simp only [rowDep] at hd; omega⟩
      · rw [if_neg hst] at hc
        have hl : a < s.length := by
          rcases Nat.lt_or_ge a s.length with hl | hl
          · exact hl
          · exact absurd (Or.inl (List.getElem?_eq_none hl)) hst
        have hst' : ¬ (S[n + a]? = none ∨ S[n + a]? = some 124 ∨ S[n + a]? = some 41) := by rw [h.at' a hl]; exact hst
        rw [if_neg hst']
        cases h1 : itemF s f d a with
        | bad k => rw [h1] at hc; cases hc
        | out => rw [h1] at hc; cases hc
        | ok p b1 =>
          obtain ⟨p1, p2, p3, p4⟩ := (ih d a ha).2.2.1 p b1 h1
          rw [h1] at hc
          simp only at hc
          cases h2 : rowF s f d b1 with
          | bad k => rw [h2] at hc; cases hc
          | out => rw [h2] at hc; cases hc
          | ok t b2 =>
            obtain ⟨q1, q2, q3, q4⟩ := (ih d b1 p2).2.1 t b2 h2
            rw [h2] at hc
            simp only at hc
            injection hc with e1 e2
            subst e1 e2
            refine ⟨by omega, q2, fun hd => ?_, fun hde hd => ?_⟩
            · simp only [rowDep] at hd
              rw [p3 (by omega)]
              simp only
              rw [q3 (by omega)]
            · simp only [rowDep] at hd
              by_cases hr : d + e + p.dep ≤ 16
              · rw [p3 hr]
                simp only
                obtain ⟨k, hk⟩ := q4 (by omega) (by omega)
                rw [hk]
                exact ⟨k, rfl⟩
              · obtain ⟨k, hk⟩ := p4 (by omega) (by omega)
                rw [hk]
                exact ⟨k, rfl⟩
    · -- item
      rw [itemF] at hc ⊢
      cases h1 : atomF s f d a with
      | bad k => rw [h1] at hc; cases hc
      | out => rw [h1] at hc; cases hc
      | ok p b1 =>
        obtain ⟨p1, p2, p3, p4⟩ := (ih d a ha).2.2.2 p b1 h1
        rw [h1] at hc
        simp only at hc
        have deep : d + e ≤ 16 → 16 < d + e + p.dep → ∃ k, (match atomF S f (d + e) (n + a) with
            | .ok p b => if S[b]? = some 42 then Pr.ok (Pt.rep p 42) (b + 1) else if S[b]? = some 43 then .ok (.rep p 43) (b + 1) else if S[b]? = some 63 then .ok (.rep p 63) (b + 1) else .ok p b
            | .bad k => .bad k
            | .out => .out) = .bad k := fun hde hd => by
          obtain ⟨k, hk⟩ := p4 hde hd
          rw [hk]
          exact ⟨k, rfl⟩
        have e42 := h.eq p2 42 (by decide)
        have e43 := h.eq p2 43 (by decide)
        have e63 := h.eq p2 63 (by decide)
        by_cases h42 : s[b1]? = some 42
        · rw [if_pos h42] at hc
          have hl : b1 + 1 ≤ s.length := (List.getElem?_eq_some_iff.1 h42).1
          injection hc with e1 e2
          subst e1 e2
          refine ⟨by omega, hl, fun hd => ?_, fun hde hd => deep hde (by simpa [Pt.dep] using hd)⟩
          rw [p3 (by simpa [Pt.dep] using hd)]
          simp only
          rw [if_pos (e42.2 h42), Nat.add_assoc]
        · rw [if_neg h42] at hc
          by_cases h43 : s[b1]? = some 43
          · rw [if_pos h43] at hc
            have hl : b1 + 1 ≤ s.length := (List.getElem?_eq_some_iff.1 h43).1
            injection hc with e1 e2
            subst e1 e2
            refine ⟨by omega, hl, fun hd => ?_, fun hde hd => deep hde (by simpa [Pt.dep] using hd)⟩
            rw [p3 (by simpa [Pt.dep] using hd)]
            simp only
            rw [if_neg (fun x => h42 (e42.1 x)), if_pos (e43.2 h43), Nat.add_assoc]
          · rw [if_neg h43] at hc
            by_cases h63 : s[b1]? = some 63
            · rw [if_pos h63] at hc
              have hl : b1 + 1 ≤ s.length := (List.getElem?_eq_some_iff.1 h63).1
              injection hc with e1 e2
              subst e1 e2
              refine ⟨by omega, hl, fun hd => ?_, fun hde hd => deep hde (by simpa [Pt.dep] using hd)⟩
              rw [p3 (by simpa [Pt.dep] using hd)]
              simp only
              rw [if_neg (fun x => h42 (e42.1 x)), if_neg (fun x => h43 (e43.1 x)), if_pos (e63.2 h63), Nat.add_assoc]
            · rw [if_neg h63] at hc
              injection hc with e1 e2
              subst e1 e2
              refine ⟨p1, p2, fun hd => ?_, fun hde hd => deep hde hd⟩
              rw [p3 hd]
              simp only
              rw [if_neg (fun x => h42 (e42.1 x)), if_neg (fun x => h43 (e43.1 x)), if_neg (fun x => h63 (e63.1 x))]
    · -- atom
      rw [atomF] at hc ⊢
      have e46 := h.eq ha 46 (by decide)
      have e91 := h.eq ha 91 (by decide)
      have e40 := h.eq ha 40 (by decide)
      by_cases h46 : s[a]? = some 46
      · rw [if_pos h46] at hc
        rw [if_pos (e46.2 h46)]
        have hl : a + 1 ≤ s.length := (List.getElem?_eq_some_iff.1 h46).1
        injection hc with e1 e2
        subst e1 e2
        exact ⟨by omega, hl, fun _ => by rw [Nat.add_assoc], fun hde hd => by simp only [Pt.dep] at hd; omega⟩
      · rw [if_neg h46] at hc
        rw [if_neg (fun x => h46 (e46.1 x))]
        by_cases h91 : s[a]? = some 91
        · rw [if_pos h91] at hc
          rw [if_pos (e91.2 h91)]
          have hl : a + 1 ≤ s.length := (List.getElem?_eq_some_iff.1 h91).1
          have e94 := h.eq hl 94 (by decide)
          have hd94 : decide (S[n + a + 1]? = some 94) = decide (s[a + 1]? = some 94) := decide_eq_decide.2 (by rw [Nat.add_assoc]; exact e94)
          have hif : (if S[n + a + 1]? = some 94 then n + a + 2 else n + a + 1) = n + (if s[a + 1]? = some 94 then a + 2 else a + 1) := by
            rw [Nat.add_assoc]
            by_cases h94 : s[a + 1]? = some 94
            · rw [if_pos (e94.2 h94), if_pos h94]; omega
            · rw [if_neg (fun x => h94 (e94.1 x)), if_neg h94]
          have hle : (if s[a + 1]? = some 94 then a + 2 else a + 1) ≤ s.length ∧ a < (if s[a + 1]? = some 94 then a + 2 else a + 1) := by
            split
            · rename_i h94; have := (List.getElem?_eq_some_iff.1 h94).1; omega
            · omega
          rw [hd94, hif]
          cases h2 : clsF s (s.length + 2) (if s[a + 1]? = some 94 then a + 2 else a + 1) [] with
          | bad k => rw [h2] at hc; cases hc
          | out => rw [h2] at hc; cases hc
          | ok t b2 =>
            obtain ⟨m1, m2, m3⟩ := loc_cls h _ _ _ _ _ hle.1 h2
            rw [h2] at hc
            simp only at hc
            injection hc with e1 e2
            subst e1 e2
            rw [clsF_more S _ (S.length + 2) _ _ _ _ (by have := h.len; omega) m1]
            exact ⟨by omega, m3, fun _ => rfl, fun hde hd => by simp only [Pt.dep] at hd; omega⟩
        · rw [if_neg h91] at hc
          rw [if_neg (fun x => h91 (e91.1 x))]
          by_cases h40 : s[a]? = some 40
          · by_cases hd16 : d < 16
            · rw [if_pos ⟨hd16, h40⟩] at hc
              have hl : a + 1 ≤ s.length := (List.getElem?_eq_some_iff.1 h40).1
              cases h2 : rowsF s f (d + 1) (a + 1) with
              | bad k => rw [h2] at hc; cases hc
              | out => rw [h2] at hc; cases hc
              | ok t b2 =>
                obtain ⟨q1, q2, q3, q4⟩ := (ih (d + 1) (a + 1) hl).1 t b2 h2
                rw [h2] at hc
                simp only at hc
                split at hc
                · rename_i h41
                  injection hc with e1 e2
                  subst e1 e2
                  have hl2 : b2 < s.length := (List.getElem?_eq_some_iff.1 h41).1
                  refine ⟨by omega, hl2, fun hd => ?_, fun hde hd => ?_⟩
                  · simp only [Pt.dep] at hd
                    rw [if_pos ⟨by omega, e40.2 h40⟩, show d + e + 1 = d + 1 + e by omega, Nat.add_assoc n a 1, q3 (by omega)]
                    simp only
                    rw [if_pos (by rw [h.at' b2 hl2]; exact h41), Nat.add_assoc]
                  · simp only [Pt.dep] at hd
                    by_cases hdf : d + e < 16
                    · obtain ⟨k, hk⟩ := q4 (by omega) (by omega)
                      rw [if_pos ⟨hdf, e40.2 h40⟩, show d + e + 1 = d + 1 + e by omega, Nat.add_assoc n a 1, hk]
                      exact ⟨k, rfl⟩
                    · rw [if_neg (fun x => hdf x.1), char_sign (e40.2 h40)]
                      exact ⟨_, rfl⟩
                · cases hc
            · rw [if_neg (fun x => hd16 x.1), char_sign h40] at hc
              cases hc
          · rw [if_neg (fun x => h40 x.2)] at hc
            rw [if_neg (fun x => h40 (e40.1 x.2))]
            cases h2 : charF s a with
            | bad k => rw [h2] at hc; cases hc
            | out => rw [h2] at hc; cases hc
            | ok c b2 =>
              obtain ⟨m1, m2, m3⟩ := loc_char h ha h2
              rw [h2] at hc
              simp only at hc
              injection hc with e1 e2
              subst e1 e2
              rw [m1]
              exact ⟨m2, m3, fun _ => rfl, fun hde hd => by simp only [Pt.dep] at hd; omega⟩

end Go.Proofs.YtanlgplgplncdaaGreatDoor
