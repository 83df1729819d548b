import Derived.Test.YtndegcgcbhcokaaDoorPuY
/-
  What is printed is read again, purely: characters, spans.
-/
namespace Go.Proofs.YtndegcgcbhcokaaDoor
open Go
set_option linter.unusedVariables false
set_option linter.unusedSimpArgs false

theorem drop_get {S : List UInt8} {a : Nat} {x : UInt8} {t : List UInt8} (h : S.drop a = x :: t) : S[a]? = some x ∧ S.drop (a + 1) = t := by
  have h1 : S[a]? = (S.drop a)[0]? := by simp
  refine ⟨by rw [h1, h]; rfl, ?_⟩
  have : S.drop (a + 1) = (S.drop a).drop 1 := by rw [List.drop_drop]
  rw [this, h]
  rfl
/-- No code point but the sign itself begins with the byte of a sign. -/
theorem enc_head {c : Nat} (h : Vc c) (k : UInt8) (hk : k.toNat < 128) {x : UInt8} {t : List UInt8} (he : enc c = x :: t) (hx : x = k) : c = k.toNat := by
  rw [enc_eq h] at he
  unfold Vc at h
  subst hx
  split at he
  · injection he with he _
    rw [← he, b8_nat (by omega)]
  · split at he
    · injection he with he _
      rw [← he, b8_nat (by omega)] at hk
      omega
    · split at he
      · injection he with he _
        rw [← he, b8_nat (by omega)] at hk
        omega
      · injection he with he _
        rw [← he, b8_nat (by omega)] at hk
        omega
theorem charF_of {S : List UInt8} {a c n b : Nat} {esc : Bool} (h1 : decide (S[a]? = some 92) = esc) (h2 : (if esc = true then a + 1 else a) = b) (h3 : fp (S.drop b) = some (c, n)) (h4 : isSg c = esc) : charF S a = .ok c (b + n) := by
  unfold charF
  simp only [h1, h2, h3, h4, if_true]
theorem chrT_yes {c : Nat} (hs : isSg c = true) : chrT c = 92 :: bts (str c) := by unfold chrT; rw [hs, if_pos rfl, List.singleton_append]
theorem chrT_no {c : Nat} (hs : isSg c = false) : chrT c = bts (str c) := by unfold chrT; rw [hs, if_neg (by simp), List.nil_append]
theorem sg92 : isSg 92 = true := by decide
theorem charF_txt {S : List UInt8} {a c : Nat} {rest : List UInt8} (hv : Vc c) (h : S.drop a = chrT c ++ rest) : charF S a = .ok c (a + (chrT c).length) := by
  obtain ⟨E, hE⟩ : ∃ E, enc c = E := ⟨_, rfl⟩
  have hb : bts (str c) = E := by rw [← hE]; rfl
  have hl := (enc_len hv).1
  rw [hE] at hl
  have hfp : ∀ T : List UInt8, T = E ++ rest → fp T = some (c, E.length) := fun T hT => fp_some.2 ⟨hv, by rw [hE], rest, by rw [hE]; exact hT⟩
  have hhd := fun (x : UInt8) (t : List UInt8) (he : E = x :: t) (hx : x = 92) => enc_head hv 92 (by decide) (hE.trans he) hx
  clear hE
  cases hs : isSg c with
  | true =>
    rw [chrT_yes hs, hb] at h ⊢
    obtain ⟨h1, h2⟩ := drop_get h
    have := charF_of (esc := true) (decide_eq_true h1) (if_pos rfl) (hfp _ h2) hs
    rw [this, List.length_cons, show a + (E.length + 1) = a + 1 + E.length by omega]
  | false =>
    rw [chrT_no hs, hb] at h ⊢
    have hne : ¬ S[a]? = some 92 := fun e => by
      cases he : E with
      | nil => rw [he] at hl; simp at hl
      | cons x t =>
        rw [he] at h
        have h1 := (drop_get h).1
        rw [e] at h1
        injection h1 with h1
        have hc92 : c = 92 := hhd x t he h1.symm
        rw [hc92, sg92] at hs
        cases hs
    exact charF_of (esc := false) (decide_eq_false hne) (if_neg (by simp)) (hfp _ h) hs
/-- A character alone is no span. -/
theorem spanF_one {S : List UInt8} {a c : Nat} {rest : List UInt8} (hv : Vc c) (h : S.drop a = chrT c ++ rest) (h45 : rest.head? ≠ some 45) : spanF S a = .ok (c, c) (a + (chrT c).length) := by
  unfold spanF
  rw [charF_txt hv h]
  simp only
  have h2 : S[a + (chrT c).length]? = rest.head? := by
    have : S[a + (chrT c).length]? = (S.drop a)[(chrT c).length]? := by rw [List.getElem?_drop]
    rw [this, h, List.getElem?_append_right (Nat.le_refl _), Nat.sub_self, List.head?_eq_getElem?]
  rw [h2, if_neg h45]
theorem spanF_two {S : List UInt8} {a c d : Nat} {rest : List UInt8} (hv : Vc c) (hw : Vc d) (hcd : c ≤ d) (h : S.drop a = chrT c ++ 45 :: chrT d ++ rest) : spanF S a = .ok (c, d) (a + (chrT c).length + 1 + (chrT d).length) := by
  unfold spanF
  have h' : S.drop a = chrT c ++ (45 :: chrT d ++ rest) := by rw [h]; simp
  rw [charF_txt hv h']
  simp only
  have h3 : S.drop (a + (chrT c).length) = 45 :: (chrT d ++ rest) := by
    rw [← List.drop_drop, h', List.drop_left]
    simp
  obtain ⟨h4, h5⟩ := drop_get h3
  rw [if_pos h4, charF_txt hw h5]
  simp only
  rw [if_neg (by omega)]

end Go.Proofs.YtndegcgcbhcokaaDoor

/-
  What is printed is read again, purely: classes.
-/
namespace Go.Proofs.YtndegcgcbhcokaaDoor
open Go
set_option linter.unusedVariables false
set_option linter.unusedSimpArgs false

theorem withF_end : ∀ (l : Sn) (x : Nat × Nat) (ah be : Sn), (∀ o ∈ l, o.2 + 1 < x.1) → withF l x ah be = ah ++ l ++ [x] ++ be
  | [], x, ah, be, h => by rw [withF]; simp
  | o :: t, x, ah, be, h => by
    rw [withF, if_pos (h o (by simp)), withF_end t x (ah ++ [o]) be (fun y hy => h y (by simp [hy]))]
    simp
theorem withS_end {acc : Sn} {x : Nat × Nat} (h : ∀ o ∈ acc, o.2 + 1 < x.1) : withS acc x = acc ++ [x] := by
  unfold withS
  rw [withF_end acc x [] [] h]
  simp
theorem withF_join : ∀ (l : Sn) (lo : Nat) (ah : Sn), (∀ o ∈ l, o.2 + 1 < lo) → withF (l ++ [(lo, lo)]) (lo + 1, lo + 1) ah [] = ah ++ l ++ [(lo, lo + 1)]
  | [], lo, ah, h => by
    rw [List.nil_append, withF, if_neg (by show ¬ lo + 1 < lo + 1; omega), if_neg (by show ¬ lo + 1 + 1 < lo; omega), withF]
    show ah ++ [(min lo (lo + 1), max lo (lo + 1))] ++ [] = _
    rw [Nat.min_eq_left (by omega), Nat.max_eq_right (by omega)]
    simp
  | o :: t, lo, ah, h => by
    rw [List.cons_append, withF, if_pos (by have := h o (by simp); show o.2 + 1 < lo + 1; omega), withF_join t lo (ah ++ [o]) (fun y hy => h y (by simp [hy]))]
    simp
theorem withS_join {acc : Sn} {lo : Nat} (h : ∀ o ∈ acc, o.2 + 1 < lo) : withS (acc ++ [(lo, lo)]) (lo + 1, lo + 1) = acc ++ [(lo, lo + 1)] := by
  unfold withS
  rw [withF_join acc lo [] h]
  simp
/-- Spans as a class keeps them. -/
def Tidy : Sn → Prop
  | [] => True
  | s :: t => s.1 ≤ s.2 ∧ Vc s.1 ∧ Vc s.2 ∧ (∀ o ∈ t, s.2 + 1 < o.1) ∧ Tidy t

theorem sg45 : isSg 45 = true := by decide
theorem chrT_head {c : Nat} (hv : Vc c) : ∃ x t, chrT c = x :: t ∧ x ≠ 45 ∧ x ≠ 93 := by
  cases hs : isSg c with
  | true => exact ⟨92, _, chrT_yes hs, by decide, by decide⟩
  | false =>
    obtain ⟨E, hE⟩ : ∃ E, enc c = E := ⟨_, rfl⟩
    have hb : bts (str c) = E := by rw [← hE]; rfl
    have hl := (enc_len hv).1
    rw [hE] at hl
    rw [chrT_no hs, hb]
    cases he : E with
    | nil => rw [he] at hl; simp at hl
    | cons x t =>
      refine ⟨x, t, rfl, fun e => ?_, fun e => ?_⟩
      · have hc : c = 45 := enc_head hv 45 (by decide) (hE.trans he) e
        rw [hc] at hs
        exact absurd hs (by decide)
      · have hc : c = 93 := enc_head hv 93 (by decide) (hE.trans he) e
        rw [hc] at hs
        exact absurd hs (by decide)
theorem spanT_head {s : Nat × Nat} (hv : Vc s.1) (rest : List UInt8) : ∃ x t, spanT s ++ rest = x :: t ∧ x ≠ 45 ∧ x ≠ 93 := by
  obtain ⟨x, t, h1, h2, h3⟩ := chrT_head hv
  unfold spanT
  rw [h1]
  exact ⟨x, _, rfl, h2, h3⟩
theorem flat_head {l : Sn} (h : Tidy l) (rest : List UInt8) : (l.flatMap spanT ++ 93 :: rest).head? ≠ some 45 := by
  cases l with
  | nil => simp
  | cons s t =>
    simp only [Tidy] at h
    obtain ⟨x, u, h1, h2, h3⟩ := spanT_head h.2.1 (t.flatMap spanT ++ 93 :: rest)
    rw [List.flatMap_cons, List.append_assoc, h1]
    simp only [List.head?_cons]
    exact fun e => h2 (Option.some.inj e)
theorem clsF_go {S : List UInt8} {f a b : Nat} {acc : Sn} {x : Nat × Nat} (hne : ¬ S[a]? = some 93) (h : spanF S a = .ok x b) : clsF S (f + 1) a acc = clsF S f b (withS acc x) := by
  rw [clsF, if_neg (fun e => hne e.2), h]
theorem not93 {S : List UInt8} {a : Nat} {x : UInt8} {t : List UInt8} (h : S.drop a = x :: t) (hx : x ≠ 93) : ¬ S[a]? = some 93 := fun e => by
  rw [(drop_get h).1] at e
  exact hx (Option.some.inj e)
theorem drop_len {S A B : List UInt8} {a : Nat} (h : S.drop a = A ++ B) : S.drop (a + A.length) = B := by
  rw [← List.drop_drop, h, List.drop_left]

theorem spanT_one (lo : Nat) : spanT (lo, lo) = chrT lo := by unfold spanT; rw [if_pos rfl, List.append_nil]
theorem spanT_far {lo hi : Nat} (h1 : ¬ lo = hi) (h2 : lo + 1 < hi) : spanT (lo, hi) = chrT lo ++ 45 :: chrT hi := by
  unfold spanT
  generalize chrT lo = A
  generalize chrT hi = B
  rw [if_neg h1, if_pos h2, List.singleton_append]
theorem spanT_two (lo : Nat) : spanT (lo, lo + 1) = chrT lo ++ chrT (lo + 1) := by
  unfold spanT
  generalize chrT lo = A
  generalize chrT (lo + 1) = B
  rw [if_neg (by show ¬ lo = lo + 1; omega), if_neg (by show ¬ lo + 1 < lo + 1; omega), List.nil_append]

theorem span_len2' {lo : Nat} (hv : Vc lo) (hw : Vc (lo + 1)) : 2 ≤ (spanT (lo, lo + 1)).length := by
  obtain ⟨x, t, h1, _⟩ := chrT_head hv
  obtain ⟨y, u, h2, _⟩ := chrT_head hw
  rw [spanT_two, h1, h2]
  simp only [List.length_append, List.length_cons]
  omega
/-- A CLASS AS IT IS PRINTED IS READ AS IT WAS. -/
theorem cls_read {S : List UInt8} (l : Sn) : ∀ (f a : Nat) (acc : Sn) (rest : List UInt8), Tidy l → (∀ o ∈ acc, ∀ s ∈ l, o.2 + 1 < s.1) → (acc ≠ [] ∨ l ≠ []) → S.drop a = l.flatMap spanT ++ 93 :: rest → (l.flatMap spanT).length + 1 ≤ f → clsF S f a acc = .ok (acc ++ l) (a + (l.flatMap spanT).length + 1) := by
  induction l with
  | nil =>
    intro f a acc rest ht ha hne h hf
    cases f with
    | zero => simp at hf
    | succ f =>
      have h93 : S[a]? = some 93 := (drop_get (by simpa using h)).1
      have hacc : acc ≠ [] := hne.elim id (fun h => absurd rfl h)
      rw [clsF, if_pos ⟨hacc, h93⟩]
      simp
  | cons s t ih0 =>
    intro f a acc rest ht ha hne h hf
    obtain ⟨lo, hi⟩ := s
    simp only [Tidy] at ht
    obtain ⟨hle, hv, hw, hlt, htt⟩ := ht
    rw [List.flatMap_cons, List.append_assoc] at h
    rw [List.flatMap_cons, List.length_append] at hf
    have hacc : ∀ o ∈ acc, o.2 + 1 < lo := fun o ho => ha o ho (lo, hi) (by simp)
    have ih := fun (g b : Nat) (A : Sn) => ih0 g b A rest htt
    have hA : ∀ o ∈ acc ++ [(lo, hi)], ∀ s ∈ t, o.2 + 1 < s.1 := fun o ho s hs => by
      rcases List.mem_append.1 ho with ho | ho
      · exact ha o ho s (by simp [hs])
      · rw [List.mem_singleton.1 ho]; exact hlt s hs
    have hfin : ∀ g, (t.flatMap spanT).length + 1 ≤ g → clsF S g (a + (spanT (lo, hi)).length) (acc ++ [(lo, hi)]) = .ok (acc ++ (lo, hi) :: t) (a + (((lo, hi) :: t).flatMap spanT).length + 1) := fun g hg => by
      rw [ih g (a + (spanT (lo, hi)).length) (acc ++ [(lo, hi)]) hA (.inl (by simp)) (drop_len h) hg]
      rw [List.flatMap_cons, List.length_append, List.append_assoc, List.singleton_append, Nat.add_assoc a]
    obtain ⟨x, u, hx, hx45, hx93⟩ := spanT_head (s := (lo, hi)) hv (t.flatMap spanT ++ 93 :: rest)
    have hn93 := not93 (h.trans hx) hx93
    have hsl : 1 ≤ (spanT (lo, hi)).length := by
      obtain ⟨x, u, h9, _⟩ := spanT_head (s := (lo, hi)) hv []
      rw [List.append_nil] at h9
      rw [h9]
      simp
    obtain ⟨f, rfl⟩ : ∃ g, f = g + 2 := ⟨f - 2, by omega⟩
    by_cases h1 : lo = hi
    · subst h1
      have hsp := spanT_one lo
      rw [hsp] at h hfin
      rw [clsF_go hn93 (spanF_one hv h (flat_head htt rest)), withS_end hacc]
      exact hfin (f + 1) (by omega)
    · by_cases h2 : lo + 1 < hi
      · have hsp := spanT_far h1 h2
        rw [hsp] at h hfin
        have hs2 := spanF_two hv hw hle h
        rw [clsF_go hn93 hs2, withS_end hacc]
        have := hfin (f + 1) (by omega)
        rw [List.length_append, List.length_cons, show a + ((chrT lo).length + ((chrT hi).length + 1)) = a + (chrT lo).length + 1 + (chrT hi).length by omega] at this
        exact this
      · obtain rfl : hi = lo + 1 := by omega
        have hsp := spanT_two lo
        have hl1 := span_len2' hv hw (lo := lo)
        rw [hsp] at h hfin
        rw [List.append_assoc] at h
        obtain ⟨y, v, hy, hy45, hy93⟩ := chrT_head hw
        have hh : (chrT (lo + 1) ++ (t.flatMap spanT ++ 93 :: rest)).head? ≠ some 45 := by
          rw [hy]
          simp only [List.cons_append, List.head?_cons]
          exact fun e => hy45 (Option.some.inj e)
        have h3 := drop_len h
        have hn2 : ¬ S[a + (chrT lo).length]? = some 93 := not93 (t := v ++ (t.flatMap spanT ++ 93 :: rest)) (by rw [h3, hy, List.cons_append]) hy93
        rw [clsF_go hn93 (spanF_one hv h hh), withS_end hacc, clsF_go hn2 (spanF_one hw h3 (flat_head htt rest)), withS_join hacc]
        have := hfin f (by omega)
        rw [List.length_append, ← Nat.add_assoc] at this
        exact this

end Go.Proofs.YtndegcgcbhcokaaDoor

/-
  Classes are tidy, purely.
-/
namespace Go.Proofs.YtndegcgcbhcokaaDoor
open Go
set_option linter.unusedVariables false
set_option linter.unusedSimpArgs false

theorem tidy_app : ∀ (a b : Sn), Tidy (a ++ b) ↔ Tidy a ∧ Tidy b ∧ ∀ o ∈ a, ∀ s ∈ b, o.2 + 1 < s.1
  | [], b => by simp [Tidy]
  | o :: t, b => by
    rw [List.cons_append, Tidy, Tidy, tidy_app t b]
    constructor
    · rintro ⟨h1, h2, h3, h4, h5, h6, h7⟩
      refine ⟨⟨h1, h2, h3, fun s hs => h4 s (List.mem_append.2 (.inl hs)), h5⟩, h6, fun p hp s hs => ?_⟩
      rcases List.mem_cons.1 hp with rfl | hp
      · exact h4 s (List.mem_append.2 (.inr hs))
      · exact h7 p hp s hs
    · rintro ⟨⟨h1, h2, h3, h4, h5⟩, h6, h7⟩
      refine ⟨h1, h2, h3, fun s hs => ?_, h5, h6, fun p hp s hs => h7 p (List.mem_cons.2 (.inr hp)) s hs⟩
      rcases List.mem_append.1 hs with hs | hs
      · exact h4 s hs
      · exact h7 o (List.mem_cons.2 (.inl rfl)) s hs
theorem tidy_le : ∀ {l : Sn}, Tidy l → ∀ o ∈ l, o.1 ≤ o.2 ∧ Vc o.1 ∧ Vc o.2
  | [], h, o, ho => by cases ho
  | s :: t, h, o, ho => by
    rw [Tidy] at h
    rcases List.mem_cons.1 ho with rfl | ho
    · exact ⟨h.1, h.2.1, h.2.2.1⟩
    · exact tidy_le h.2.2.2.2 o ho
theorem tidy_one {x : Nat × Nat} (h : x.1 ≤ x.2) (h1 : Vc x.1) (h2 : Vc x.2) : Tidy [x] := by
  rw [Tidy]
  exact ⟨h, h1, h2, (fun o ho => by cases ho), by rw [Tidy]; trivial⟩
theorem withF_tidy : ∀ (l : Sn) (x : Nat × Nat) (ah be : Sn), Tidy l → Tidy ah → Tidy be → x.1 ≤ x.2 → Vc x.1 → Vc x.2 → (∀ o ∈ ah, o.2 + 1 < x.1) → (∀ o ∈ be, x.2 + 1 < o.1) → (∀ o ∈ ah, ∀ s ∈ l, o.2 + 1 < s.1) → (∀ o ∈ be, ∀ s ∈ l, o.2 + 1 < s.1) → Tidy (withF l x ah be)
  | [], x, ah, be, hl, ha, hb, hx, hv, hw, h1, h2, h3, h4 => by
    rw [withF, tidy_app, tidy_app]
    refine ⟨⟨ha, tidy_one hx hv hw, fun o ho s hs => by rw [List.mem_singleton.1 hs]; exact h1 o ho⟩, hb, fun o ho s hs => ?_⟩
    have hs2 := h2 s hs
    rcases List.mem_append.1 ho with ho | ho
    · have := h1 o ho; omega
    · rw [List.mem_singleton.1 ho]; exact hs2
  | o :: t, x, ah, be, hl, ha, hb, hx, hv, hw, h1, h2, h3, h4 => by
    rw [Tidy] at hl
    obtain ⟨l1, l2, l3, l4, l5⟩ := hl
    have hbe : ¬ x.2 + 1 < o.1 → be = [] := fun hn => by
      cases be with
      | nil => rfl
      | cons b bs =>
        have e1 := h2 b (List.mem_cons.2 (.inl rfl))
        have e2 := h4 b (List.mem_cons.2 (.inl rfl)) o (List.mem_cons.2 (.inl rfl))
        have e3 := (tidy_le hb b (List.mem_cons.2 (.inl rfl))).1
        omega
    rw [withF]
    by_cases c1 : o.2 + 1 < x.1
    · rw [if_pos c1]
      have hb0 := hbe (by omega)
      subst hb0
      refine withF_tidy t x (ah ++ [o]) [] l5 ((tidy_app _ _).2 ⟨ha, tidy_one l1 l2 l3, fun p hp s hs => by rw [List.mem_singleton.1 hs]; exact h3 p hp o (List.mem_cons.2 (.inl rfl))⟩) hb hx hv hw (fun p hp => ?_) (fun p hp => by cases hp) (fun p hp s hs => ?_) (fun p hp => by cases hp)
      · rcases List.mem_append.1 hp with hp | hp
        · exact h1 p hp
        · rw [List.mem_singleton.1 hp]; exact c1
      · rcases List.mem_append.1 hp with hp | hp
        · exact h3 p hp s (List.mem_cons.2 (.inr hs))
        · rw [List.mem_singleton.1 hp]; exact l4 s hs
    · rw [if_neg c1]
      by_cases c2 : x.2 + 1 < o.1
      · rw [if_pos c2]
        refine withF_tidy t x ah (be ++ [o]) l5 ha ((tidy_app _ _).2 ⟨hb, tidy_one l1 l2 l3, fun p hp s hs => by rw [List.mem_singleton.1 hs]; exact h4 p hp o (List.mem_cons.2 (.inl rfl))⟩) hx hv hw h1 (fun p hp => ?_) (fun p hp s hs => h3 p hp s (List.mem_cons.2 (.inr hs))) (fun p hp s hs => ?_)
        · rcases List.mem_append.1 hp with hp | hp
          · exact h2 p hp
          · rw [List.mem_singleton.1 hp]; exact c2
        · rcases List.mem_append.1 hp with hp | hp
          · exact h4 p hp s (List.mem_cons.2 (.inr hs))
          · rw [List.mem_singleton.1 hp]; exact l4 s hs
      · rw [if_neg c2]
        have hb0 := hbe c2
        subst hb0
        have hmin : Vc (min o.1 x.1) := by rcases Nat.le_total o.1 x.1 with h | h
                                           · rw [Nat.min_eq_left h]; exact l2
                                           · rw [Nat.min_eq_right h]; exact hv
        have hmax : Vc (max o.2 x.2) := by rcases Nat.le_total o.2 x.2 with h | h
                                           · rw [Nat.max_eq_right h]; exact hw
                                           · rw [Nat.max_eq_left h]; exact l3
        refine withF_tidy t (min o.1 x.1, max o.2 x.2) ah [] l5 ha hb (by show min o.1 x.1 ≤ max o.2 x.2; omega) hmin hmax (fun p hp => ?_) (fun p hp => by cases hp) (fun p hp s hs => h3 p hp s (List.mem_cons.2 (.inr hs))) (fun p hp => by cases hp)
        have e1 := h1 p hp
        have e2 := h3 p hp o (List.mem_cons.2 (.inl rfl))
        show p.2 + 1 < min o.1 x.1
        omega
theorem withS_tidy {l : Sn} {x : Nat × Nat} (hl : Tidy l) (hx : x.1 ≤ x.2) (hv : Vc x.1) (hw : Vc x.2) : Tidy (withS l x) :=
  withF_tidy l x [] [] hl (by rw [Tidy]; trivial) (by rw [Tidy]; trivial) hx hv hw (fun o h => by cases h) (fun o h => by cases h) (fun o h => by cases h) (fun o h => by cases h)
/-- What is read is of code points. -/
theorem char_vc {S : List UInt8} {a c b : Nat} (h : charF S a = .ok c b) : Vc c := by
  unfold charF at h
  simp only at h
  split at h
  · cases h
  · rename_i c' k hf
    split at h
    · injection h with e1 e2
      subst e1
      exact (fp_some.1 hf).1
    · cases h
theorem span_vc {S : List UInt8} {a b : Nat} {x : Nat × Nat} (h : spanF S a = .ok x b) : x.1 ≤ x.2 ∧ Vc x.1 ∧ Vc x.2 := by
  unfold spanF at h
  cases h1 : charF S a with
  | bad k => rw [h1] at h; cases h
  | out => rw [h1] at h; cases h
  | ok lo b1 =>
    rw [h1] at h
    simp only at h
    split at h
    · cases h2 : charF S (b1 + 1) with
      | bad k => rw [h2] at h; cases h
      | out => rw [h2] at h; cases h
      | ok hi b2 =>
        rw [h2] at h
        simp only at h
        split at h
        · cases h
        · injection h with e1 e2
          subst e1
          exact ⟨by show lo ≤ hi; omega, char_vc h1, char_vc h2⟩
    · injection h with e1 e2
      subst e1
      exact ⟨Nat.le_refl _, char_vc h1, char_vc h1⟩
theorem cls_tidy {S : List UInt8} : ∀ (f a : Nat) (acc l : Sn) (b : Nat), Tidy acc → clsF S f a acc = .ok l b → Tidy l
  | 0, a, acc, l, b, ha, h => by rw [clsF] at h; cases h
  | f + 1, a, acc, l, b, ha, h => by
    rw [clsF] at h
    split at h
    · injection h with e1 e2
      subst e1
      exact ha
    · cases h1 : spanF S a with
      | bad k => rw [h1] at h; cases h
      | out => rw [h1] at h; cases h
      | ok x b1 =>
        rw [h1] at h
        simp only at h
        obtain ⟨h2, h3, h4⟩ := span_vc h1
        exact cls_tidy f b1 _ l b (withS_tidy ha h2 h3 h4) h

end Go.Proofs.YtndegcgcbhcokaaDoor

/-
  The document's Match, purely: sets of places; ranges as they were read.
-/
namespace Go.Proofs.YtndegcgcbhcokaaDoor
open Go
set_option linter.unusedVariables false
set_option linter.unusedSimpArgs false

theorem inS_app (a b : Sn) (c : Nat) : inS (a ++ b) c = (inS a c || inS b c) := by simp [inS]
theorem inS_cons (s : Nat × Nat) (t : Sn) (c : Nat) : inS (s :: t) c = ((decide (s.1 ≤ c) && decide (c ≤ s.2)) || inS t c) := by simp [inS]
theorem inS_nil (c : Nat) : inS [] c = false := rfl
theorem inS_withF : ∀ (l : Sn) (x : Nat × Nat) (ah be : Sn) (c : Nat), (∀ o ∈ l, o.1 ≤ o.2) → x.1 ≤ x.2 → (inS (withF l x ah be) c = true ↔ inS ah c = true ∨ inS l c = true ∨ inS be c = true ∨ (x.1 ≤ c ∧ c ≤ x.2))
  | [], x, ah, be, c, hl, hx => by
    rw [withF, inS_app, inS_app, inS_cons, inS_nil]
    simp only [Bool.or_eq_true, Bool.and_eq_true, decide_eq_true_eq, Bool.or_false, inS_nil, Bool.false_eq_true, false_or]
    constructor
    · rintro ((h | h) | h)
      · exact .inl h
      · exact .inr (.inr h)
      · exact .inr (.inl h)
    · rintro (h | h | h)
      · exact .inl (.inl h)
      · exact .inr h
      · exact .inl (.inr h)
  | o :: t, x, ah, be, c, hl, hx => by
    have ho := hl o (by simp)
    have ht : ∀ y ∈ t, y.1 ≤ y.2 := fun y hy => hl y (by simp [hy])
    rw [withF, inS_cons]
    simp only [Bool.or_eq_true, Bool.and_eq_true, decide_eq_true_eq]
    split
    · rw [inS_withF t x _ be c ht hx, inS_app, inS_cons, inS_nil]
      simp only [Bool.or_eq_true, Bool.and_eq_true, decide_eq_true_eq, Bool.or_false]
      constructor
      · rintro ((h | h) | h | h | h)
        · exact .inl h
        · exact .inr (.inl (.inl h))
        · exact .inr (.inl (.inr h))
        · exact .inr (.inr (.inl h))
        · exact .inr (.inr (.inr h))
      · rintro (h | (h | h) | h | h)
        · exact .inl (.inl h)
        · exact .inl (.inr h)
        · exact .inr (.inl h)
        · exact .inr (.inr (.inl h))
        · exact .inr (.inr (.inr h))
    · split
      · rw [inS_withF t x ah _ c ht hx, inS_app, inS_cons, inS_nil]
        simp only [Bool.or_eq_true, Bool.and_eq_true, decide_eq_true_eq, Bool.or_false]
        constructor
        · rintro (h | h | (h | h) | h)
          · exact .inl h
          · exact .inr (.inl (.inr h))
          · exact .inr (.inr (.inl h))
          · exact .inr (.inl (.inl h))
          · exact .inr (.inr (.inr h))
        · rintro (h | (h | h) | h | h)
          · exact .inl h
          · exact .inr (.inr (.inl (.inr h)))
          · exact .inr (.inl h)
          · exact .inr (.inr (.inl (.inl h)))
          · exact .inr (.inr (.inr h))
      · rename_i c1 c2
        rw [inS_withF t (min o.1 x.1, max o.2 x.2) ah be c ht (by simp only; omega)]
        simp only
        constructor
        · rintro (h | h | h | h)
          · exact .inl h
          · exact .inr (.inl (.inr h))
          · exact .inr (.inr (.inl h))
          · by_cases h1 : o.1 ≤ c ∧ c ≤ o.2
            · exact .inr (.inl (.inl h1))
            · exact .inr (.inr (.inr (by omega)))
        · rintro (h | (h | h) | h | h)
          · exact .inl h
          · exact .inr (.inr (.inr (by omega)))
          · exact .inr (.inl h)
          · exact .inr (.inr (.inl h))
          · exact .inr (.inr (.inr (by omega)))
/-- Ranges that may be. -/
def RgOk (raw : Sn) : Prop := ∀ o ∈ raw, o.1 ≤ o.2 ∧ Vc o.1 ∧ Vc o.2
theorem fold_snoc2 (raw : Sn) (x : Nat × Nat) : (raw ++ [x]).foldl withS [] = withS (raw.foldl withS []) x := by rw [List.foldl_append]; rfl
theorem fold_tidy : ∀ (n : Nat) (raw : Sn), raw.length = n → RgOk raw → Tidy (raw.foldl withS []) ∧ ∀ c, inS (raw.foldl withS []) c = true ↔ inS raw c = true
  | 0, raw, h, _ => by
    have e := List.eq_nil_of_length_eq_zero h
    subst e
    exact ⟨trivial, fun c => Iff.rfl⟩
  | n + 1, raw, h, hok => by
    rcases List.eq_nil_or_concat raw with e | ⟨l, x, e⟩
    · rw [e] at h; simp at h
    · rw [List.concat_eq_append] at e
      subst e
      have hl : RgOk l := fun o ho => hok o (by simp [ho])
      have hx := hok x (by simp)
      obtain ⟨h1, h2⟩ := fold_tidy n l (by simpa using h) hl
      rw [fold_snoc2]
      refine ⟨withS_tidy h1 hx.1 hx.2.1 hx.2.2, fun c => ?_⟩
      refine (inS_withF (l.foldl withS []) x [] [] c (fun o ho => (tidy_le h1 o ho).1) hx.1).trans ?_
      rw [h2 c, inS_app, inS_cons, inS_nil]
      simp
theorem inS_oth : ∀ (l : Sn) (low c : Nat), Tidy l → (∀ o ∈ l, low ≤ o.1) → low ≤ c → c ≤ 1114111 → (inS (othS low l) c = true ↔ ¬ inS l c = true)
  | [], low, c, _, _, h1, h2 => by
    rw [othS, if_pos (by omega), inS_cons, inS_nil]
    simp [inS_nil]
    omega
  | s :: t, low, c, ht, hl, h1, h2 => by
    have hs := hl s (by simp)
    obtain ⟨q1, q2, q3, q4, q5⟩ := ht
    have hlow : ∀ o ∈ t, s.2 + 1 ≤ o.1 := fun o ho => by have := q4 o ho; omega
    have hno : c ≤ s.2 → ¬ inS t c = true := fun hc hin => by
      unfold inS at hin
      obtain ⟨o, ho, hh⟩ := List.any_eq_true.1 hin
      simp only [Bool.and_eq_true, decide_eq_true_eq] at hh
      have := hlow o ho
      omega
    have hno2 : c < s.2 + 1 → ¬ inS (othS (s.2 + 1) t) c = true := fun hc hin => by
      have key : ∀ (l : Sn) (lo : Nat), (∀ o ∈ l, lo ≤ o.1) → Tidy l → c < lo → ¬ inS (othS lo l) c = true := by
        intro l
        induction l with
        | nil =>
          intro lo _ _ hlt
          rw [othS]
          split
          · rw [inS_cons, inS_nil]; simp; omega
          · simp [inS_nil]
        | cons s t ih =>
          intro lo hlo ht hlt
          have h5 := hlo s (by simp)
          rw [othS, inS_app]
          simp only [Bool.or_eq_true, not_or]
          refine ⟨?_, ih (s.2 + 1) (fun o ho => by have := ht.2.2.2.1 o ho; omega) ht.2.2.2.2 (by have := ht.1; omega)⟩
          split
          · rw [inS_cons, inS_nil]; simp; omega
          · simp [inS_nil]
      exact key t (s.2 + 1) hlow q5 hc hin
    rw [othS, inS_app, inS_cons]
    simp only [Bool.or_eq_true, Bool.and_eq_true, decide_eq_true_eq, not_or, not_and]
    rcases Nat.lt_or_ge c s.1 with hc | hc
    · rw [if_pos (by omega), inS_cons, inS_nil]
      simp only [Bool.or_false, Bool.and_eq_true, decide_eq_true_eq]
      have := hno (by omega)
      exact ⟨fun _ => ⟨fun h => by omega, this⟩, fun _ => .inl ⟨h1, by omega⟩⟩
    · rcases Nat.lt_or_ge s.2 c with hc2 | hc2
      · have ih := inS_oth t (s.2 + 1) c q5 hlow (by omega) h2
        rw [ih]
        constructor
        · rintro (h | h)
          · exfalso
            split at h
            · rw [inS_cons, inS_nil] at h
              simp at h
              omega
            · simp [inS_nil] at h
          · exact ⟨fun _ => by omega, h⟩
        · rintro ⟨_, h⟩
          exact .inr h
      · constructor
        · rintro (h | h)
          · exfalso
            split at h
            · rw [inS_cons, inS_nil] at h
              simp at h
              omega
            · simp [inS_nil] at h
          · exact absurd h (hno2 (by omega))
        · rintro ⟨h, _⟩
          exact absurd hc2 (h hc)

/-! ### sets of places -/
/-- From some places on: the places at which what L means may end. -/
def En1 (L : Tx → Prop) (t : Tx) (f : Nat → Prop) (j : Nat) : Prop := ∃ i, i ≤ j ∧ f i ∧ L ((t.take j).drop i)
theorem en_nil (t : Tx) (f : Nat → Prop) (j : Nat) (hj : j ≤ t.length) : En1 (fun v => v = []) t f j ↔ f j := by
  constructor
  · rintro ⟨i, h1, h2, h3⟩
    have := congrArg List.length h3
    rw [List.length_drop, List.length_take] at this
    simp at this
    have : i = j := by omega
    rw [← this]; exact h2
  · intro h
    refine ⟨j, Nat.le_refl _, h, ?_⟩
    rw [List.drop_of_length_le (by rw [List.length_take]; omega)]
theorem take_split (t : Tx) (i m j : Nat) (h1 : i ≤ m) (h2 : m ≤ j) : (t.take j).drop i = (t.take m).drop i ++ (t.take j).drop m := by
  have e : t.take m = (t.take j).take m := by rw [List.take_take, Nat.min_eq_left h2]
  rw [e]
  generalize t.take j = u
  rw [List.drop_take]
  have : (u.drop i).drop (m - i) = u.drop m := by rw [List.drop_drop]; congr 1; omega
  rw [← this, List.take_append_drop]
theorem en_cat (P Q : Tx → Prop) (t : Tx) (f : Nat → Prop) (j : Nat) (hj : j ≤ t.length) : En1 (Cat P Q) t f j ↔ En1 Q t (En1 P t f) j := by
  constructor
  · rintro ⟨i, h1, h2, u, v, h3, h4, h5⟩
    have hl := congrArg List.length h3
    rw [List.length_drop, List.length_take, List.length_append] at hl
    have hm : (t.take (i + u.length)).drop i = u ∧ (t.take j).drop (i + u.length) = v := by
      have hs := take_split t i (i + u.length) j (by omega) (by omega)
      rw [h3] at hs
      have hlen : ((t.take (i + u.length)).drop i).length = u.length := by rw [List.length_drop, List.length_take]; omega
      exact ⟨(List.append_inj hs hlen.symm).1.symm, (List.append_inj hs hlen.symm).2.symm⟩
    exact ⟨i + u.length, by omega, ⟨i, by omega, h2, by rw [hm.1]; exact h4⟩, by rw [hm.2]; exact h5⟩
  · rintro ⟨m, h1, ⟨i, h2, h3, h4⟩, h5⟩
    exact ⟨i, by omega, h3, _, _, take_split t i m j h2 h1, h4, h5⟩
theorem en_or (P Q : Tx → Prop) (t : Tx) (f : Nat → Prop) (j : Nat) : En1 (fun v => P v ∨ Q v) t f j ↔ En1 P t f j ∨ En1 Q t f j := by
  constructor
  · rintro ⟨i, h1, h2, h3 | h3⟩
    · exact .inl ⟨i, h1, h2, h3⟩
    · exact .inr ⟨i, h1, h2, h3⟩
  · rintro (⟨i, h1, h2, h3⟩ | ⟨i, h1, h2, h3⟩)
    · exact ⟨i, h1, h2, .inl h3⟩
    · exact ⟨i, h1, h2, .inr h3⟩
theorem en_congr {P Q : Tx → Prop} {t : Tx} {f g : Nat → Prop} {j : Nat} (h : ∀ v, P v ↔ Q v) (hf : ∀ i, i ≤ j → (f i ↔ g i)) : En1 P t f j ↔ En1 Q t g j := by
  constructor
  · rintro ⟨i, h1, h2, h3⟩; exact ⟨i, h1, (hf i h1).1 h2, (h _).1 h3⟩
  · rintro ⟨i, h1, h2, h3⟩; exact ⟨i, h1, (hf i h1).2 h2, (h _).2 h3⟩
/-- What is closed under one more step holds all. -/
theorem en_plus_sub {P : Tx → Prop} {t : Tx} {f A : Nat → Prop} (h1 : ∀ j, j ≤ t.length → En1 P t f j → A j) (h2 : ∀ j, j ≤ t.length → En1 P t A j → A j) (j : Nat) (hj : j ≤ t.length) (h : En1 (Plus P) t f j) : A j := by
  obtain ⟨i, hi, hf, hp⟩ := h
  have key : ∀ v, Plus P v → ∀ i, i ≤ j → v = (t.take j).drop i → (f i ∨ A i) → A j := by
    intro v hv
    induction hv with
    | one hp =>
      intro i hi e hf
      rcases hf with hf | hf
      · exact h1 j hj ⟨i, hi, hf, by rw [← e]; exact hp⟩
      · exact h2 j hj ⟨i, hi, hf, by rw [← e]; exact hp⟩
    | @more u v hu hv ih =>
      intro i hi e hf
      have hl := congrArg List.length e
      rw [List.length_drop, List.length_take, List.length_append] at hl
      have hs := take_split t i (i + u.length) j (by omega) (by omega)
      rw [← e] at hs
      have hlen : ((t.take (i + u.length)).drop i).length = u.length := by rw [List.length_drop, List.length_take]; omega
      have e1 := (List.append_inj hs hlen.symm).1
      have e2 := (List.append_inj hs hlen.symm).2
      have hm : A (i + u.length) := by
        rcases hf with hf | hf
        · exact h1 _ (by omega) ⟨i, by omega, hf, by rw [← e1]; exact hu⟩
        · exact h2 _ (by omega) ⟨i, by omega, hf, by rw [← e1]; exact hu⟩
      exact ih (i + u.length) (by omega) e2 (.inr hm)
  exact key _ hp i hi rfl (.inl hf)
theorem en_plus_one {P : Tx → Prop} {t : Tx} {f : Nat → Prop} {j : Nat} (h : En1 P t f j) : En1 (Plus P) t f j := by
  obtain ⟨i, h1, h2, h3⟩ := h
  exact ⟨i, h1, h2, .one h3⟩
theorem plus_snoc {P : Tx → Prop} {u v : Tx} (h : Plus P u) (hv : P v) : Plus P (u ++ v) := by
  induction h with
  | one hp => exact .more hp (.one hv)
  | more hp _ ih => rw [List.append_assoc]; exact .more hp ih
theorem en_plus_more {P : Tx → Prop} {t : Tx} {f : Nat → Prop} {j : Nat} (h : En1 P t (En1 (Plus P) t f) j) : En1 (Plus P) t f j := by
  obtain ⟨m, h1, ⟨i, h2, h3, h4⟩, h5⟩ := h
  refine ⟨i, by omega, h3, ?_⟩
  rw [take_split t i m j h2 h1]
  exact plus_snoc h4 h5

end Go.Proofs.YtndegcgcbhcokaaDoor
