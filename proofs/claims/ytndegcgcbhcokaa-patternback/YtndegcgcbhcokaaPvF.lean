import Derived.Test.YtndegcgcbhcokaaPuY
import Derived.Test.YtndegcgcbhcokaaPvA
import Derived.Test.YtndegcgcbhcokaaPuO
import Derived.Test.YtndegcgcbhcokaaPuX
/-
  What is printed is read again, purely: characters, spans.
-/
namespace Go.Proofs.Ytndegcgcbhcokaa
open Go
set_option linter.unusedVariables false
set_option linter.unusedSimpArgs false

theorem drop_get {S : List UInt8} {a : Nat} {x : UInt8} {t : List UInt8} (h : S.drop a = x :: t) : S[a]? = some x ∧ S.drop (a + 1) = t := by
  have h1 : S[a]? = (S.drop a)[0]? := by simp
  refine ⟨by rw [h1, h]; rfl, ?_⟩
  have : S.drop (a + 1) = (S.drop a).drop 1 := by rw [List.drop_drop]
  rw [this, h]
  rfl
/-- No code point but the sign itself begins with the byte of a sign. -/
theorem enc_head {c : Nat} (h : Vc c) (k : UInt8) (hk : k.toNat < 128) {x : UInt8} {t : List UInt8} (he : enc c = x :: t) (hx : x = k) : c = k.toNat := by
  rw [enc_eq h] at he
  unfold Vc at h
  subst hx
  split at he
  · injection he with he _
    rw [← he, b8_nat (by omega)]
  · split at he
    · injection he with he _
      rw [← he, b8_nat (by omega)] at hk
      omega
    · split at he
      · injection he with he _
        rw [← he, b8_nat (by omega)] at hk
        omega
      · injection he with he _
        rw [← he, b8_nat (by omega)] at hk
        omega
theorem charF_of {S : List UInt8} {a c n b : Nat} {esc : Bool} (h1 : decide (S[a]? = some 92) = esc) (h2 : (if esc = true then a + 1 else a) = b) (h3 : fp (S.drop b) = some (c, n)) (h4 : isSg c = esc) : charF S a = .ok c (b + n) := by
  unfold charF
  simp only [h1, h2, h3, h4, if_true]
theorem chrT_yes {c : Nat} (hs : isSg c = true) : chrT c = 92 :: bts (str c) := by unfold chrT; rw [hs, if_pos rfl, List.singleton_append]
theorem chrT_no {c : Nat} (hs : isSg c = false) : chrT c = bts (str c) := by unfold chrT; rw [hs, if_neg (by simp), List.nil_append]
theorem sg92 : isSg 92 = true := by decide
theorem charF_txt {S : List UInt8} {a c : Nat} {rest : List UInt8} (hv : Vc c) (h : S.drop a = chrT c ++ rest) : charF S a = .ok c (a + (chrT c).length) := by
  obtain ⟨E, hE⟩ : ∃ E, enc c = E := ⟨_, rfl⟩
  have hb : bts (str c) = E := by rw [← hE]; rfl
  have hl := (enc_len hv).1
  rw [hE] at hl
  have hfp : ∀ T : List UInt8, T = E ++ rest → fp T = some (c, E.length) := fun T hT => fp_some.2 ⟨hv, by rw [hE], rest, by rw [hE]; exact hT⟩
  have hhd := fun (x : UInt8) (t : List UInt8) (he : E = x :: t) (hx : x = 92) => enc_head hv 92 (by decide) (hE.trans he) hx
  clear hE
  cases hs : isSg c with
  | true =>
    rw [chrT_yes hs, hb] at h ⊢
    obtain ⟨h1, h2⟩ := drop_get h
    have := charF_of (esc := true) (decide_eq_true h1) (if_pos rfl) (hfp _ h2) hs
    rw [this, List.length_cons, show a + (E.length + 1) = a + 1 + E.length by omega]
  | false =>
    rw [chrT_no hs, hb] at h ⊢
    have hne : ¬ S[a]? = some 92 := fun e => by
      cases he : E with
      | nil => rw [he] at hl; simp at hl
      | cons x t =>
        rw [he] at h
        have h1 := (drop_get h).1
        rw [e] at h1
        injection h1 with h1
        have hc92 : c = 92 := hhd x t he h1.symm
        rw [hc92, sg92] at hs
        cases hs
    exact charF_of (esc := false) (decide_eq_false hne) (if_neg (by simp)) (hfp _ h) hs
/-- A character alone is no span. -/
theorem spanF_one {S : List UInt8} {a c : Nat} {rest : List UInt8} (hv : Vc c) (h : S.drop a = chrT c ++ rest) (h45 : rest.head? ≠ some 45) : spanF S a = .ok (c, c) (a + (chrT c).length) := by
  unfold spanF
  rw [charF_txt hv h]
  simp only
  have h2 : S[a + (chrT c).length]? = rest.head? := by
    have : S[a + (chrT c).length]? = (S.drop a)[(chrT c).length]? := by rw [List.getElem?_drop]
    rw [this, h, List.getElem?_append_right (Nat.le_refl _), Nat.sub_self, List.head?_eq_getElem?]
  rw [h2, if_neg h45]
theorem spanF_two {S : List UInt8} {a c d : Nat} {rest : List UInt8} (hv : Vc c) (hw : Vc d) (hcd : c ≤ d) (h : S.drop a = chrT c ++ 45 :: chrT d ++ rest) : spanF S a = .ok (c, d) (a + (chrT c).length + 1 + (chrT d).length) := by
  unfold spanF
  have h' : S.drop a = chrT c ++ (45 :: chrT d ++ rest) := by rw [h]; simp
  rw [charF_txt hv h']
  simp only
  have h3 : S.drop (a + (chrT c).length) = 45 :: (chrT d ++ rest) := by
    rw [← List.drop_drop, h', List.drop_left]
    simp
  obtain ⟨h4, h5⟩ := drop_get h3
  rw [if_pos h4, charF_txt hw h5]
  simp only
  rw [if_neg (by omega)]

end Go.Proofs.Ytndegcgcbhcokaa

/-
  What is printed is read again, purely: classes.
-/
namespace Go.Proofs.Ytndegcgcbhcokaa
open Go
set_option linter.unusedVariables false
set_option linter.unusedSimpArgs false

theorem withF_end : ∀ (l : Sn) (x : Nat × Nat) (ah be : Sn), (∀ o ∈ l, o.2 + 1 < x.1) → withF l x ah be = ah ++ l ++ [x] ++ be
  | [], x, ah, be, h => by rw [withF]; simp
  | o :: t, x, ah, be, h => by
    rw [withF, if_pos (h o (by simp)), withF_end t x (ah ++ [o]) be (fun y hy => h y (by simp [hy]))]
    simp
theorem withS_end {acc : Sn} {x : Nat × Nat} (h : ∀ o ∈ acc, o.2 + 1 < x.1) : withS acc x = acc ++ [x] := by
  unfold withS
  rw [withF_end acc x [] [] h]
  simp
theorem withF_join : ∀ (l : Sn) (lo : Nat) (ah : Sn), (∀ o ∈ l, o.2 + 1 < lo) → withF (l ++ [(lo, lo)]) (lo + 1, lo + 1) ah [] = ah ++ l ++ [(lo, lo + 1)]
  | [], lo, ah, h => by
    rw [List.nil_append, withF, if_neg (by show ¬ lo + 1 < lo + 1; omega), if_neg (by show ¬ lo + 1 + 1 < lo; omega), withF]
    show ah ++ [(min lo (lo + 1), max lo (lo + 1))] ++ [] = _
    rw [Nat.min_eq_left (by omega), Nat.max_eq_right (by omega)]
    simp
  | o :: t, lo, ah, h => by
    rw [List.cons_append, withF, if_pos (by have := h o (by simp); show o.2 + 1 < lo + 1; omega), withF_join t lo (ah ++ [o]) (fun y hy => h y (by simp [hy]))]
    simp
theorem withS_join {acc : Sn} {lo : Nat} (h : ∀ o ∈ acc, o.2 + 1 < lo) : withS (acc ++ [(lo, lo)]) (lo + 1, lo + 1) = acc ++ [(lo, lo + 1)] := by
  unfold withS
  rw [withF_join acc lo [] h]
  simp
/-- Spans as a class keeps them. -/
def Tidy : Sn → Prop
  | [] => True
  | s :: t => s.1 ≤ s.2 ∧ Vc s.1 ∧ Vc s.2 ∧ (∀ o ∈ t, s.2 + 1 < o.1) ∧ Tidy t

theorem sg45 : isSg 45 = true := by decide
theorem chrT_head {c : Nat} (hv : Vc c) : ∃ x t, chrT c = x :: t ∧ x ≠ 45 ∧ x ≠ 93 := by
  cases hs : isSg c with
  | true => exact ⟨92, _, chrT_yes hs, by decide, by decide⟩
  | false =>
    obtain ⟨E, hE⟩ : ∃ E, enc c = E := ⟨_, rfl⟩
    have hb : bts (str c) = E := by rw [← hE]; rfl
    have hl := (enc_len hv).1
    rw [hE] at hl
    rw [chrT_no hs, hb]
    cases he : E with
    | nil => rw [he] at hl; simp at hl
    | cons x t =>
      refine ⟨x, t, rfl, fun e => ?_, fun e => ?_⟩
      · have hc : c = 45 := enc_head hv 45 (by decide) (hE.trans he) e
        rw [hc] at hs
        exact absurd hs (by decide)
      · have hc : c = 93 := enc_head hv 93 (by decide) (hE.trans he) e
        rw [hc] at hs
        exact absurd hs (by decide)
theorem spanT_head {s : Nat × Nat} (hv : Vc s.1) (rest : List UInt8) : ∃ x t, spanT s ++ rest = x :: t ∧ x ≠ 45 ∧ x ≠ 93 := by
  obtain ⟨x, t, h1, h2, h3⟩ := chrT_head hv
  unfold spanT
  rw [h1]
  exact ⟨x, _, rfl, h2, h3⟩
theorem flat_head {l : Sn} (h : Tidy l) (rest : List UInt8) : (l.flatMap spanT ++ 93 :: rest).head? ≠ some 45 := by
  cases l with
  | nil => simp
  | cons s t =>
    simp only [Tidy] at h
    obtain ⟨x, u, h1, h2, h3⟩ := spanT_head h.2.1 (t.flatMap spanT ++ 93 :: rest)
    rw [List.flatMap_cons, List.append_assoc, h1]
    simp only [List.head?_cons]
    exact fun e => h2 (Option.some.inj e)
theorem clsF_go {S : List UInt8} {f a b : Nat} {acc : Sn} {x : Nat × Nat} (hne : ¬ S[a]? = some 93) (h : spanF S a = .ok x b) : clsF S (f + 1) a acc = clsF S f b (withS acc x) := by
  rw [clsF, if_neg (fun e => hne e.2), h]
theorem not93 {S : List UInt8} {a : Nat} {x : UInt8} {t : List UInt8} (h : S.drop a = x :: t) (hx : x ≠ 93) : ¬ S[a]? = some 93 := fun e => by
  rw [(drop_get h).1] at e
  exact hx (Option.some.inj e)
theorem drop_len {S A B : List UInt8} {a : Nat} (h : S.drop a = A ++ B) : S.drop (a + A.length) = B := by
  rw [← List.drop_drop, h, List.drop_left]

theorem spanT_one (lo : Nat) : spanT (lo, lo) = chrT lo := by unfold spanT; rw [if_pos rfl, List.append_nil]
theorem spanT_far {lo hi : Nat} (h1 : ¬ lo = hi) (h2 : lo + 1 < hi) : spanT (lo, hi) = chrT lo ++ 45 :: chrT hi := by
  unfold spanT
  generalize chrT lo = A
  generalize chrT hi = B
  rw [if_neg h1, if_pos h2, List.singleton_append]
theorem spanT_two (lo : Nat) : spanT (lo, lo + 1) = chrT lo ++ chrT (lo + 1) := by
  unfold spanT
  generalize chrT lo = A
  generalize chrT (lo + 1) = B
  rw [if_neg (by show ¬ lo = lo + 1; omega), if_neg (by show ¬ lo + 1 < lo + 1; omega), List.nil_append]

theorem span_len2' {lo : Nat} (hv : Vc lo) (hw : Vc (lo + 1)) : 2 ≤ (spanT (lo, lo + 1)).length := by
  obtain ⟨x, t, h1, _⟩ := chrT_head hv
  obtain ⟨y, u, h2, _⟩ := chrT_head hw
  rw [spanT_two, h1, h2]
  simp only [List.length_append, List.length_cons]
  omega
/-- A CLASS AS IT IS PRINTED IS READ AS IT WAS. -/
theorem cls_read {S : List UInt8} (l : Sn) : ∀ (f a : Nat) (acc : Sn) (rest : List UInt8), Tidy l → (∀ o ∈ acc, ∀ s ∈ l, o.2 + 1 < s.1) → (acc ≠ [] ∨ l ≠ []) → S.drop a = l.flatMap spanT ++ 93 :: rest → (l.flatMap spanT).length + 1 ≤ f → clsF S f a acc = .ok (acc ++ l) (a + (l.flatMap spanT).length + 1) := by
  induction l with
  | nil =>
    intro f a acc rest ht ha hne h hf
    cases f with
    | zero => simp at hf
    | succ f =>
      have h93 : S[a]? = some 93 := (drop_get (by simpa using h)).1
      have hacc : acc ≠ [] := hne.elim id (fun h => absurd rfl h)
      rw [clsF, if_pos ⟨hacc, h93⟩]
      simp
  | cons s t ih0 =>
    intro f a acc rest ht ha hne h hf
    obtain ⟨lo, hi⟩ := s
    simp only [Tidy] at ht
    obtain ⟨hle, hv, hw, hlt, htt⟩ := ht
    rw [List.flatMap_cons, List.append_assoc] at h
    rw [List.flatMap_cons, List.length_append] at hf
    have hacc : ∀ o ∈ acc, o.2 + 1 < lo := fun o ho => ha o ho (lo, hi) (by simp)
    have ih := fun (g b : Nat) (A : Sn) => ih0 g b A rest htt
    have hA : ∀ o ∈ acc ++ [(lo, hi)], ∀ s ∈ t, o.2 + 1 < s.1 := fun o ho s hs => by
      rcases List.mem_append.1 ho with ho | ho
      · exact ha o ho s (by simp [hs])
      · rw [List.mem_singleton.1 ho]; exact hlt s hs
    have hfin : ∀ g, (t.flatMap spanT).length + 1 ≤ g → clsF S g (a + (spanT (lo, hi)).length) (acc ++ [(lo, hi)]) = .ok (acc ++ (lo, hi) :: t) (a + (((lo, hi) :: t).flatMap spanT).length + 1) := fun g hg => by
      rw [ih g (a + (spanT (lo, hi)).length) (acc ++ [(lo, hi)]) hA (.inl (by simp)) (drop_len h) hg]
      rw [List.flatMap_cons, List.length_append, List.append_assoc, List.singleton_append, Nat.add_assoc a]
    obtain ⟨x, u, hx, hx45, hx93⟩ := spanT_head (s := (lo, hi)) hv (t.flatMap spanT ++ 93 :: rest)
    have hn93 := not93 (h.trans hx) hx93
    have hsl : 1 ≤ (spanT (lo, hi)).length := by
      obtain ⟨x, u, h9, _⟩ := spanT_head (s := (lo, hi)) hv []
      rw [List.append_nil] at h9
      rw [h9]
      simp
    obtain ⟨f, rfl⟩ : ∃ g, f = g + 2 := ⟨f - 2, by omega⟩
    by_cases h1 : lo = hi
    · subst h1
      have hsp := spanT_one lo
      rw [hsp] at h hfin
      rw [clsF_go hn93 (spanF_one hv h (flat_head htt rest)), withS_end hacc]
      exact hfin (f + 1) (by omega)
    · by_cases h2 : lo + 1 < hi
      · have hsp := spanT_far h1 h2
        rw [hsp] at h hfin
        have hs2 := spanF_two hv hw hle h
        rw [clsF_go hn93 hs2, withS_end hacc]
        have := hfin (f + 1) (by omega)
        rw [List.length_append, List.length_cons, show a + ((chrT lo).length + ((chrT hi).length + 1)) = a + (chrT lo).length + 1 + (chrT hi).length by omega] at this
        exact this
      · obtain rfl : hi = lo + 1 := by omega
        have hsp := spanT_two lo
        have hl1 := span_len2' hv hw (lo := lo)
        rw [hsp] at h hfin
        rw [List.append_assoc] at h
        obtain ⟨y, v, hy, hy45, hy93⟩ := chrT_head hw
        have hh : (chrT (lo + 1) ++ (t.flatMap spanT ++ 93 :: rest)).head? ≠ some 45 := by
          rw [hy]
          simp only [List.cons_append, List.head?_cons]
          exact fun e => hy45 (Option.some.inj e)
        have h3 := drop_len h
        have hn2 : ¬ S[a + (chrT lo).length]? = some 93 := not93 (t := v ++ (t.flatMap spanT ++ 93 :: rest)) (by rw [h3, hy, List.cons_append]) hy93
        rw [clsF_go hn93 (spanF_one hv h hh), withS_end hacc, clsF_go hn2 (spanF_one hw h3 (flat_head htt rest)), withS_join hacc]
        have := hfin f (by omega)
        rw [List.length_append, ← Nat.add_assoc] at this
        exact this

end Go.Proofs.Ytndegcgcbhcokaa

/-
  Classes are tidy, purely.
-/
namespace Go.Proofs.Ytndegcgcbhcokaa
open Go
set_option linter.unusedVariables false
set_option linter.unusedSimpArgs false

theorem tidy_app : ∀ (a b : Sn), Tidy (a ++ b) ↔ Tidy a ∧ Tidy b ∧ ∀ o ∈ a, ∀ s ∈ b, o.2 + 1 < s.1
  | [], b => by simp [Tidy]
  | o :: t, b => by
    rw [List.cons_append, Tidy, Tidy, tidy_app t b]
    constructor
    · rintro ⟨h1, h2, h3, h4, h5, h6, h7⟩
      refine ⟨⟨h1, h2, h3, fun s hs => h4 s (List.mem_append.2 (.inl hs)), h5⟩, h6, fun p hp s hs => ?_⟩
      rcases List.mem_cons.1 hp with rfl | hp
      · exact h4 s (List.mem_append.2 (.inr hs))
      · exact h7 p hp s hs
    · rintro ⟨⟨h1, h2, h3, h4, h5⟩, h6, h7⟩
      refine ⟨h1, h2, h3, fun s hs => ?_, h5, h6, fun p hp s hs => h7 p (List.mem_cons.2 (.inr hp)) s hs⟩
      rcases List.mem_append.1 hs with hs | hs
      · exact h4 s hs
      · exact h7 o (List.mem_cons.2 (.inl rfl)) s hs
theorem tidy_le : ∀ {l : Sn}, Tidy l → ∀ o ∈ l, o.1 ≤ o.2 ∧ Vc o.1 ∧ Vc o.2
  | [], h, o, ho => by cases ho
  | s :: t, h, o, ho => by
    rw [Tidy] at h
    rcases List.mem_cons.1 ho with rfl | ho
    · exact ⟨h.1, h.2.1, h.2.2.1⟩
    · exact tidy_le h.2.2.2.2 o ho
theorem tidy_one {x : Nat × Nat} (h : x.1 ≤ x.2) (h1 : Vc x.1) (h2 : Vc x.2) : Tidy [x] := by
  rw [Tidy]
  exact ⟨h, h1, h2, (fun o ho => by cases ho), by rw [Tidy]; trivial⟩
theorem withF_tidy : ∀ (l : Sn) (x : Nat × Nat) (ah be : Sn), Tidy l → Tidy ah → Tidy be → x.1 ≤ x.2 → Vc x.1 → Vc x.2 → (∀ o ∈ ah, o.2 + 1 < x.1) → (∀ o ∈ be, x.2 + 1 < o.1) → (∀ o ∈ ah, ∀ s ∈ l, o.2 + 1 < s.1) → (∀ o ∈ be, ∀ s ∈ l, o.2 + 1 < s.1) → Tidy (withF l x ah be)
  | [], x, ah, be, hl, ha, hb, hx, hv, hw, h1, h2, h3, h4 => by
    rw [withF, tidy_app, tidy_app]
    refine ⟨⟨ha, tidy_one hx hv hw, fun o ho s hs => by rw [List.mem_singleton.1 hs]; exact h1 o ho⟩, hb, fun o ho s hs => ?_⟩
    have hs2 := h2 s hs
    rcases List.mem_append.1 ho with ho | ho
    · have := h1 o ho; omega
    · rw [List.mem_singleton.1 ho]; exact hs2
  | o :: t, x, ah, be, hl, ha, hb, hx, hv, hw, h1, h2, h3, h4 => by
    rw [Tidy] at hl
    obtain ⟨l1, l2, l3, l4, l5⟩ := hl
    have hbe : ¬ x.2 + 1 < o.1 → be = [] := fun hn => by
      cases be with
      | nil => rfl
      | cons b bs =>
        have e1 := h2 b (List.mem_cons.2 (.inl rfl))
        have e2 := h4 b (List.mem_cons.2 (.inl rfl)) o (List.mem_cons.2 (.inl rfl))
        have e3 := (tidy_le hb b (List.mem_cons.2 (.inl rfl))).1
        omega
    rw [withF]
    by_cases c1 : o.2 + 1 < x.1
    · rw [if_pos c1]
      have hb0 := hbe (by omega)
      subst hb0
      refine withF_tidy t x (ah ++ [o]) [] l5 ((tidy_app _ _).2 ⟨ha, tidy_one l1 l2 l3, fun p hp s hs => by rw [List.mem_singleton.1 hs]; exact h3 p hp o (List.mem_cons.2 (.inl rfl))⟩) hb hx hv hw (fun p hp => ?_) (fun p hp => by cases hp) (fun p hp s hs => ?_) (fun p hp => by cases hp)
      · rcases List.mem_append.1 hp with hp | hp
        · exact h1 p hp
        · rw [List.mem_singleton.1 hp]; exact c1
      · rcases List.mem_append.1 hp with hp | hp
        · exact h3 p hp s (List.mem_cons.2 (.inr hs))
        · rw [List.mem_singleton.1 hp]; exact l4 s hs
    · rw [if_neg c1]
      by_cases c2 : x.2 + 1 < o.1
      · rw [if_pos c2]
        refine withF_tidy t x ah (be ++ [o]) l5 ha ((tidy_app _ _).2 ⟨hb, tidy_one l1 l2 l3, fun p hp s hs => by rw [List.mem_singleton.1 hs]; exact h4 p hp o (List.mem_cons.2 (.inl rfl))⟩) hx hv hw h1 (fun p hp => ?_) (fun p hp s hs => h3 p hp s (List.mem_cons.2 (.inr hs))) (fun p hp s hs => ?_)
        · rcases List.mem_append.1 hp with hp | hp
          · exact h2 p hp
          · rw [List.mem_singleton.1 hp]; exact c2
        · rcases List.mem_append.1 hp with hp | hp
          · exact h4 p hp s (List.mem_cons.2 (.inr hs))
          · rw [List.mem_singleton.1 hp]; exact l4 s hs
      · rw [if_neg c2]
        have hb0 := hbe c2
        subst hb0
        have hmin : Vc (min o.1 x.1) := by rcases Nat.le_total o.1 x.1 with h | h
                                           · rw [Nat.min_eq_left h]; exact l2
                                           · rw [Nat.min_eq_right h]; exact hv
        have hmax : Vc (max o.2 x.2) := by rcases Nat.le_total o.2 x.2 with h | h
                                           · rw [Nat.max_eq_right h]; exact hw
                                           · rw [Nat.max_eq_left h]; exact l3
        refine withF_tidy t (min o.1 x.1, max o.2 x.2) ah [] l5 ha hb (by show min o.1 x.1 ≤ max o.2 x.2; omega) hmin hmax (fun p hp => ?_) (fun p hp => by cases hp) (fun p hp s hs => h3 p hp s (List.mem_cons.2 (.inr hs))) (fun p hp => by cases hp)
        have e1 := h1 p hp
        have e2 := h3 p hp o (List.mem_cons.2 (.inl rfl))
        show p.2 + 1 < min o.1 x.1
        omega
theorem withS_tidy {l : Sn} {x : Nat × Nat} (hl : Tidy l) (hx : x.1 ≤ x.2) (hv : Vc x.1) (hw : Vc x.2) : Tidy (withS l x) :=
  withF_tidy l x [] [] hl (by rw [Tidy]; trivial) (by rw [Tidy]; trivial) hx hv hw (fun o h => by cases h) (fun o h => by cases h) (fun o h => by cases h) (fun o h => by cases h)
/-- What is read is of code points. -/
theorem char_vc {S : List UInt8} {a c b : Nat} (h : charF S a = .ok c b) : Vc c := by
  unfold charF at h
  simp only at h
  split at h
  · cases h
  · rename_i c' k hf
    split at h
    · injection h with e1 e2
      subst e1
      exact (fp_some.1 hf).1
    · cases h
theorem span_vc {S : List UInt8} {a b : Nat} {x : Nat × Nat} (h : spanF S a = .ok x b) : x.1 ≤ x.2 ∧ Vc x.1 ∧ Vc x.2 := by
  unfold spanF at h
  cases h1 : charF S a with
  | bad k => rw [h1] at h; cases h
  | out => rw [h1] at h; cases h
  | ok lo b1 =>
    rw [h1] at h
    simp only at h
    split at h
    · cases h2 : charF S (b1 + 1) with
      | bad k => rw [h2] at h; cases h
      | out => rw [h2] at h; cases h
      | ok hi b2 =>
        rw [h2] at h
        simp only at h
        split at h
        · cases h
        · injection h with e1 e2
          subst e1
          exact ⟨by show lo ≤ hi; omega, char_vc h1, char_vc h2⟩
    · injection h with e1 e2
      subst e1
      exact ⟨Nat.le_refl _, char_vc h1, char_vc h1⟩
theorem cls_tidy {S : List UInt8} : ∀ (f a : Nat) (acc l : Sn) (b : Nat), Tidy acc → clsF S f a acc = .ok l b → Tidy l
  | 0, a, acc, l, b, ha, h => by rw [clsF] at h; cases h
  | f + 1, a, acc, l, b, ha, h => by
    rw [clsF] at h
    split at h
    · injection h with e1 e2
      subst e1
      exact ha
    · cases h1 : spanF S a with
      | bad k => rw [h1] at h; cases h
      | out => rw [h1] at h; cases h
      | ok x b1 =>
        rw [h1] at h
        simp only at h
        obtain ⟨h2, h3, h4⟩ := span_vc h1
        exact cls_tidy f b1 _ l b (withS_tidy ha h2 h3 h4) h

end Go.Proofs.Ytndegcgcbhcokaa

/-
  What is printed is read again, purely: the whole tree.
-/
namespace Go.Proofs.Ytndegcgcbhcokaa
open Go
set_option linter.unusedVariables false
set_option linter.unusedSimpArgs false

def Pt.isRep : Pt → Bool
  | .rep _ _ => true
  | _ => false
mutual
/-- A tree as it is read. -/
def Pt.shp : Pt → Prop
  | .chr c => Vc c
  | .any => True
  | .cls _ l => Tidy l ∧ l ≠ []
  | .grp l => rowsShp l ∧ l ≠ []
  | .rep a s => a.shp ∧ a.isRep = false ∧ (s = 42 ∨ s = 43 ∨ s = 63)
def rowShp : List Pt → Prop
  | [] => True
  | p :: t => p.shp ∧ rowShp t
def rowsShp : List (List Pt) → Prop
  | [] => True
  | r :: t => rowShp r ∧ rowsShp t
end
/-- What may stand behind an item: no sign of repetition. -/
def noRep (rest : List UInt8) : Prop := rest.head? ≠ some 42 ∧ rest.head? ≠ some 43 ∧ rest.head? ≠ some 63
theorem at_drop {S A rest : List UInt8} {a : Nat} (h : S.drop a = A ++ rest) : S[a + A.length]? = rest.head? := by
  have : S[a + A.length]? = (S.drop a)[A.length]? := by rw [List.getElem?_drop]
  rw [this, h, List.getElem?_append_right (Nat.le_refl _), Nat.sub_self, List.head?_eq_getElem?]
theorem at_head {S T : List UInt8} {a : Nat} (h : S.drop a = T) : S[a]? = T.head? := by
  have : S[a]? = (S.drop a)[0]? := by simp
  rw [this, h, List.head?_eq_getElem?]
/-- A printed character begins with no sign but the one that escapes. -/
theorem chrT_sign {c : Nat} (hv : Vc c) : ∃ x t, chrT c = x :: t ∧ ∀ k : UInt8, k.toNat < 128 → isSg k.toNat = true → k ≠ 92 → x ≠ k := by
  cases hs : isSg c with
  | true => exact ⟨92, _, chrT_yes hs, fun k _ _ h e => h e.symm⟩
  | false =>
    obtain ⟨E, hE⟩ : ∃ E, enc c = E := ⟨_, rfl⟩
    have hb : bts (str c) = E := by rw [← hE]; rfl
    have hl := (enc_len hv).1
    rw [hE] at hl
    rw [chrT_no hs, hb]
    cases he : E with
    | nil => rw [he] at hl; simp at hl
    | cons x t =>
      refine ⟨x, t, rfl, fun k h1 h2 h3 e => ?_⟩
      have hc : c = k.toNat := enc_head hv k h1 (hE.trans he) e
      rw [hc, h2] at hs
      cases hs
theorem item_up {S : List UInt8} {f d a b : Nat} {p : Pt} (h : atomF S f d a = .ok p b) (g : Nat) (hg : f ≤ g) : atomF S g d a = .ok p b := by rw [(read_more S f g hg d a).2.2.2 (by rw [h]; simp), h]
theorem row_up {S : List UInt8} {f d a b : Nat} {r : List Pt} (h : rowF S f d a = .ok r b) (g : Nat) (hg : f ≤ g) : rowF S g d a = .ok r b := by rw [(read_more S f g hg d a).2.1 (by rw [h]; simp), h]
theorem it_up {S : List UInt8} {f d a b : Nat} {p : Pt} (h : itemF S f d a = .ok p b) (g : Nat) (hg : f ≤ g) : itemF S g d a = .ok p b := by rw [(read_more S f g hg d a).2.2.1 (by rw [h]; simp), h]
theorem rows_up {S : List UInt8} {f d a b : Nat} {r : List (List Pt)} (h : rowsF S f d a = .ok r b) (g : Nat) (hg : f ≤ g) : rowsF S g d a = .ok r b := by rw [(read_more S f g hg d a).1 (by rw [h]; simp), h]
mutual
theorem Pt.txt_head : ∀ (p : Pt), p.shp → ∃ x t, p.txt = x :: t ∧ x ≠ 124 ∧ x ≠ 41 ∧ x ≠ 42 ∧ x ≠ 43 ∧ x ≠ 63
  | .chr c, h => by
    simp only [Pt.shp] at h
    obtain ⟨x, t, h1, h2⟩ := chrT_sign h
    simp only [Pt.txt]
    exact ⟨x, t, h1, h2 124 (by decide) (by decide) (by decide), h2 41 (by decide) (by decide) (by decide), h2 42 (by decide) (by decide) (by decide), h2 43 (by decide) (by decide) (by decide), h2 63 (by decide) (by decide) (by decide)⟩
  | .any, h => by simp only [Pt.txt]; exact ⟨46, [], rfl, by decide, by decide, by decide, by decide, by decide⟩
  | .cls neg l, h => by simp only [Pt.txt]; exact ⟨91, _, rfl, by decide, by decide, by decide, by decide, by decide⟩
  | .grp l, h => by simp only [Pt.txt]; exact ⟨40, _, rfl, by decide, by decide, by decide, by decide, by decide⟩
  | .rep a s, h => by
    simp only [Pt.shp] at h
    obtain ⟨x, t, h1, h2⟩ := Pt.txt_head a h.1
    simp only [Pt.txt]
    rw [h1]
    exact ⟨x, _, rfl, h2⟩
end
def stopR (rest : List UInt8) : Prop := rest.head? = none ∨ rest.head? = some 124 ∨ rest.head? = some 41
theorem stop_noRep {rest : List UInt8} (h : stopR rest) : noRep rest := by
  unfold noRep
  rcases h with h | h | h <;> rw [h] <;> exact ⟨by decide, by decide, by decide⟩
theorem row_noRep {t : List Pt} (ht : rowShp t) {rest : List UInt8} (h : stopR rest) : noRep (rowT t ++ rest) := by
  cases t with
  | nil => rw [rowT, List.nil_append]; exact stop_noRep h
  | cons p t =>
    simp only [rowShp] at ht
    obtain ⟨x, u, h1, _, _, h2, h3, h4⟩ := Pt.txt_head p ht.1
    rw [rowT, h1]
    unfold noRep
    simp only [List.cons_append, List.head?_cons]
    exact ⟨fun e => h2 (Option.some.inj e), fun e => h3 (Option.some.inj e), fun e => h4 (Option.some.inj e)⟩
theorem sg_nat {s : Nat} (h : s = 42 ∨ s = 43 ∨ s = 63) : (UInt8.ofNat s = 42 ∧ s = 42) ∨ (UInt8.ofNat s = 43 ∧ s = 43) ∨ (UInt8.ofNat s = 63 ∧ s = 63) := by
  rcases h with rfl | rfl | rfl
  · exact .inl ⟨rfl, rfl⟩
  · exact .inr (.inl ⟨rfl, rfl⟩)
  · exact .inr (.inr ⟨rfl, rfl⟩)

/-- An item of an atom. -/
theorem item_of {S : List UInt8} {d a : Nat} {p : Pt} {rest : List UInt8} (h : ∃ f, atomF S f d a = .ok p (a + p.txt.length)) (hd : S.drop a = p.txt ++ rest) (hn : noRep rest) : ∃ f, itemF S f d a = .ok p (a + p.txt.length) := by
  obtain ⟨f, hf⟩ := h
  have hat := at_drop hd
  exact ⟨f + 1, item_plain hf (by rw [hat]; exact hn.1) (by rw [hat]; exact hn.2.1) (by rw [hat]; exact hn.2.2)⟩
theorem chr_atom {S : List UInt8} {d a c : Nat} {rest : List UInt8} (hv : Vc c) (hd : S.drop a = chrT c ++ rest) : ∃ f, atomF S f d a = .ok (.chr c) (a + (chrT c).length) := by
  obtain ⟨x, t, h1, h2⟩ := chrT_sign hv
  have hat : S[a]? = some x := by rw [at_head hd, h1]; rfl
  refine ⟨1, ?_⟩
  rw [atomF, if_neg (by rw [hat]; exact fun e => h2 46 (by decide) (by decide) (by decide) (Option.some.inj e)), if_neg (by rw [hat]; exact fun e => h2 91 (by decide) (by decide) (by decide) (Option.some.inj e)), if_neg (by rw [hat]; exact fun e => h2 40 (by decide) (by decide) (by decide) (Option.some.inj e.2)), charF_txt hv hd]
theorem cls_atom {S : List UInt8} {d a : Nat} {neg : Bool} {l : Sn} {rest : List UInt8} (ht : Tidy l) (hne : l ≠ []) (hd : S.drop a = (Pt.cls neg l).txt ++ rest) : ∃ f, atomF S f d a = .ok (.cls neg l) (a + (Pt.cls neg l).txt.length) := by
  simp only [Pt.txt] at hd ⊢
  have h91 : S[a]? = some 91 := by rw [at_head hd]; rfl
  have hd1 : S.drop (a + 1) = (if neg then [94] else []) ++ l.flatMap spanT ++ 93 :: rest := by
    have := (drop_get (x := 91) (t := (if neg then [94] else []) ++ l.flatMap spanT ++ 93 :: rest) (by rw [hd]; simp)).2
    exact this
  have hlen : (l.flatMap spanT).length + 1 ≤ S.length + 2 := by
    have := congrArg List.length hd1
    simp only [List.length_drop, List.length_append, List.length_cons] at this
    omega
  refine ⟨1, ?_⟩
  rw [atomF, if_neg (by rw [h91]; decide), if_pos h91]
  cases neg with
  | true =>
    simp only [if_true, List.singleton_append, List.cons_append] at hd1
    obtain ⟨h94, hd2⟩ := drop_get hd1
    rw [if_pos h94, cls_read l (S.length + 2) (a + 1 + 1) [] rest ht (fun o ho => by cases ho) (.inr hne) hd2 hlen]
    simp only [decide_eq_true h94, List.nil_append, if_true, List.singleton_append, List.length_cons, List.length_append, List.length_nil]
    congr 1
    omega
  | false =>
    simp only [Bool.false_eq_true, if_false, List.nil_append] at hd1
    have h94 : ¬ S[a + 1]? = some 94 := fun e => by
      cases l with
      | nil => exact hne rfl
      | cons s t =>
        rw [Tidy] at ht
        obtain ⟨x, u, h1, h2⟩ := chrT_sign ht.2.1
        rw [at_head hd1, List.flatMap_cons] at e
        unfold spanT at e
        rw [h1] at e
        simp only [List.cons_append, List.head?_cons] at e
        exact h2 94 (by decide) (by decide) (by decide) (Option.some.inj e)
    rw [if_neg h94, cls_read l (S.length + 2) (a + 1) [] rest ht (fun o ho => by cases ho) (.inr hne) hd1 hlen]
    simp only [decide_eq_false h94, List.nil_append, Bool.false_eq_true, if_false, List.length_cons, List.length_append, List.length_nil]
    congr 1
    omega

end Go.Proofs.Ytndegcgcbhcokaa

/-
  What is printed is read again, purely: rows.
-/
namespace Go.Proofs.Ytndegcgcbhcokaa
open Go
set_option linter.unusedVariables false
set_option linter.unusedSimpArgs false

def AtomRd (p : Pt) : Prop := p.shp → p.isRep = false → ∀ (S : List UInt8) (d a : Nat) (rest : List UInt8), p.dep + d ≤ 16 → S.drop a = p.txt ++ rest → ∃ f, atomF S f d a = .ok p (a + p.txt.length)
def ItemRd (p : Pt) : Prop := p.shp → ∀ (S : List UInt8) (d a : Nat) (rest : List UInt8), p.dep + d ≤ 16 → S.drop a = p.txt ++ rest → noRep rest → ∃ f, itemF S f d a = .ok p (a + p.txt.length)
def RowRd (r : List Pt) : Prop := rowShp r → ∀ (S : List UInt8) (d a : Nat) (rest : List UInt8), rowDep r + d ≤ 16 → S.drop a = rowT r ++ rest → stopR rest → ∃ f, rowF S f d a = .ok r (a + (rowT r).length)
def RowsRd (l : List (List Pt)) : Prop := rowsShp l → l ≠ [] → ∀ (S : List UInt8) (d a : Nat) (rest : List UInt8), rowsDep l + d ≤ 16 → S.drop a = rowsT l ++ rest → (rest.head? = none ∨ rest.head? = some 41) → ∃ f, rowsF S f d a = .ok l (a + (rowsT l).length)

theorem item_rd {p : Pt} (h : AtomRd p) (hr : p.isRep = false) : ItemRd p := fun hs S d a rest hd hdr hn => item_of (h hs hr S d a rest hd hdr) hdr hn
theorem rep_rd {p : Pt} {s : Nat} (h : AtomRd p) : ItemRd (.rep p s) := by
  intro hs S d a rest hd hdr hn
  simp only [Pt.shp] at hs
  simp only [Pt.dep] at hd
  simp only [Pt.txt] at hdr ⊢
  rw [List.append_assoc] at hdr
  obtain ⟨f, hf⟩ := h hs.1 hs.2.1 S d a _ hd hdr
  have hat := at_drop hdr
  rw [List.length_append]
  rcases sg_nat hs.2.2 with ⟨e, rfl⟩ | ⟨e, rfl⟩ | ⟨e, rfl⟩
  · rw [e] at hat
    have h1 : S[a + p.txt.length]? = some 42 := by rw [hat]; simp
    exact ⟨f + 1, by rw [itemF, hf]; simp only; rw [if_pos h1]; rfl⟩
  · rw [e] at hat
    have h1 : ¬ S[a + p.txt.length]? = some 42 := by rw [hat]; simp
    have h2 : S[a + p.txt.length]? = some 43 := by rw [hat]; simp
    exact ⟨f + 1, by rw [itemF, hf]; simp only; rw [if_neg h1, if_pos h2]; rfl⟩
  · rw [e] at hat
    have h1 : ¬ S[a + p.txt.length]? = some 42 := by rw [hat]; simp
    have h2 : ¬ S[a + p.txt.length]? = some 43 := by rw [hat]; simp
    have h3 : S[a + p.txt.length]? = some 63 := by rw [hat]; simp
    exact ⟨f + 1, by rw [itemF, hf]; simp only; rw [if_neg h1, if_neg h2, if_pos h3]; rfl⟩
theorem row_rd : ∀ (r : List Pt), (∀ p ∈ r, ItemRd p) → RowRd r
  | [], hi => by
    intro hs S d a rest hd hdr hst
    rw [rowT, List.nil_append] at hdr
    refine ⟨1, ?_⟩
    rw [row_end (by rw [at_head hdr]; exact hst), rowT]
    simp
  | p :: t, hi => by
    intro hs S d a rest hd hdr hst
    simp only [rowShp] at hs
    simp only [rowDep] at hd
    rw [rowT, List.append_assoc] at hdr
    obtain ⟨f1, h1⟩ := hi p (by simp) hs.1 S d a _ (by omega) hdr (row_noRep hs.2 hst)
    obtain ⟨f2, h2⟩ := row_rd t (fun q hq => hi q (by simp [hq])) hs.2 S d (a + p.txt.length) rest (by omega) (drop_len hdr) hst
    obtain ⟨x, u, hx, h124, h41, _⟩ := Pt.txt_head p hs.1
    have hat : S[a]? = some x := by rw [at_head hdr, hx]; rfl
    have hns : ¬ (S[a]? = none ∨ S[a]? = some 124 ∨ S[a]? = some 41) := by
      rw [hat]
      rintro (h | h | h)
      · cases h
      · exact h124 (Option.some.inj h)
      · exact h41 (Option.some.inj h)
    refine ⟨max f1 f2 + 1, ?_⟩
    rw [row_cons hns (it_up h1 _ (Nat.le_max_left _ _)) (row_up h2 _ (Nat.le_max_right _ _)), rowT, List.length_append, Nat.add_assoc]
theorem rowsT_cons (r r2 : List Pt) (t : List (List Pt)) : rowsT (r :: r2 :: t) = rowT r ++ 124 :: rowsT (r2 :: t) := by
  rw [rowsT, rowsT1, rowsT, List.cons_append]
theorem rows_rd : ∀ (l : List (List Pt)), (∀ r ∈ l, RowRd r) → RowsRd l
  | [], hi => fun _ hne => absurd rfl hne
  | [r], hi => by
    intro hs _ S d a rest hd hdr hst
    simp only [rowsShp] at hs
    simp only [rowsDep] at hd
    have hT : rowsT [r] = rowT r := by rw [rowsT, rowsT1, List.append_nil]
    rw [hT] at hdr ⊢
    have hst2 : stopR rest := hst.elim .inl (fun h => .inr (.inr h))
    obtain ⟨f, h⟩ := hi r (by simp) hs.1 S d a rest (by omega) hdr hst2
    have hat := at_drop hdr
    refine ⟨f + 1, rows_one h ?_⟩
    rw [hat]
    rcases hst with e | e <;> rw [e] <;> decide
  | r :: r2 :: t, hi => by
    intro hs _ S d a rest hd hdr hst
    rw [rowsShp] at hs
    rw [rowsDep] at hd
    rw [rowsT_cons, List.append_assoc] at hdr
    obtain ⟨f1, h1⟩ := hi r (by simp) hs.1 S d a _ (by omega) hdr (.inr (.inl rfl))
    have hat := at_drop hdr
    have hd2 := drop_len hdr
    rw [List.cons_append] at hd2
    obtain ⟨h124, hd3⟩ := drop_get hd2
    obtain ⟨f2, h2⟩ := rows_rd (r2 :: t) (fun q hq => hi q (List.mem_cons.2 (.inr hq))) hs.2 (by simp) S d (a + (rowT r).length + 1) rest (by omega) hd3 hst
    refine ⟨max f1 f2 + 1, ?_⟩
    rw [rows_cons (row_up h1 _ (Nat.le_max_left _ _)) h124 (rows_up h2 _ (Nat.le_max_right _ _)), rowsT_cons, List.length_append, List.length_cons]
    congr 1
    omega
theorem grp_rd {l : List (List Pt)} (h : RowsRd l) : AtomRd (.grp l) := by
  intro hs _ S d a rest hd hdr
  simp only [Pt.shp] at hs
  simp only [Pt.dep] at hd
  simp only [Pt.txt] at hdr ⊢
  have h40 : S[a]? = some 40 := by rw [at_head hdr]; rfl
  have hd1 : S.drop (a + 1) = rowsT l ++ 41 :: rest := (drop_get (x := 40) (t := rowsT l ++ 41 :: rest) (by rw [hdr]; simp)).2
  obtain ⟨f, hf⟩ := h hs.1 hs.2 S (d + 1) (a + 1) (41 :: rest) (by omega) hd1 (.inr rfl)
  have hat : S[a + 1 + (rowsT l).length]? = some 41 := by rw [at_drop hd1]; rfl
  refine ⟨f + 1, ?_⟩
  rw [atomF, if_neg (by rw [h40]; decide), if_neg (by rw [h40]; decide), if_pos ⟨by omega, h40⟩, hf]
  simp only
  rw [if_pos hat]
  simp only [List.length_cons, List.length_append, List.length_nil]
  congr 1
  omega
theorem any_rd : AtomRd .any := by
  intro hs _ S d a rest hd hdr
  simp only [Pt.txt] at hdr ⊢
  have h46 : S[a]? = some 46 := by rw [at_head hdr]; rfl
  exact ⟨1, by rw [atomF, if_pos h46]; rfl⟩
theorem chr_rd (c : Nat) : AtomRd (.chr c) := by
  intro hs _ S d a rest hd hdr
  simp only [Pt.shp] at hs
  simp only [Pt.txt] at hdr ⊢
  exact chr_atom hs hdr
theorem cls_rd (neg : Bool) (l : Sn) : AtomRd (.cls neg l) := by
  intro hs _ S d a rest hd hdr
  simp only [Pt.shp] at hs
  exact cls_atom hs.1 hs.2 hdr
mutual
theorem atomRd : ∀ p : Pt, AtomRd p
  | .chr c => chr_rd c
  | .any => any_rd
  | .cls neg l => cls_rd neg l
  | .grp l => grp_rd (rows_rd l (fun r hr => row_rd r (rowsIt l r hr)))
  | .rep a s => fun _ h => by cases h
theorem itemRd : ∀ p : Pt, ItemRd p
  | .chr c => item_rd (chr_rd c) rfl
  | .any => item_rd any_rd rfl
  | .cls neg l => item_rd (cls_rd neg l) rfl
  | .grp l => item_rd (grp_rd (rows_rd l (fun r hr => row_rd r (rowsIt l r hr)))) rfl
  | .rep a s => rep_rd (atomRd a)
theorem rowIt : ∀ (r : List Pt) (p : Pt), p ∈ r → ItemRd p
  | [], p, h => by cases h
  | q :: t, p, h => by
    rcases List.mem_cons.1 h with e | h
    · rw [e]; exact itemRd q
    · exact rowIt t p h
theorem rowsIt : ∀ (l : List (List Pt)) (r : List Pt), r ∈ l → ∀ p ∈ r, ItemRd p
  | [], r, h => by cases h
  | q :: t, r, h => by
    rcases List.mem_cons.1 h with e | h
    · rw [e]; exact rowIt q
    · exact rowsIt t r h
end
/-- WHAT IS PRINTED IS READ AS THE SAME TREE. -/
theorem prs_txt {l : List (List Pt)} (hs : rowsShp l) (hne : l ≠ []) (hd : rowsDep l ≤ 16) (h64 : (rowsT l).length ≤ 64) : prs (rowsT l) = .ok l (rowsT l).length := by
  obtain ⟨f, hf⟩ := rows_rd l (fun r hr => row_rd r (rowsIt l r hr)) hs hne (rowsT l) 0 0 [] (by omega) (by simp) (.inl rfl)
  rw [Nat.zero_add] at hf
  have hno := (read_bd (rowsT l) (4 * (rowsT l).length + 4) 0 0 (Nat.zero_le _)).1.2 (by omega)
  have h1 := rows_up hf (max f (4 * (rowsT l).length + 4)) (Nat.le_max_left _ _)
  rw [(read_more _ _ _ (Nat.le_max_right f _) 0 0).1 hno] at h1
  exact prs_of h64 (Nat.le_refl _) h1

end Go.Proofs.Ytndegcgcbhcokaa

/-
  A tree that is read has its shape, purely.
-/
namespace Go.Proofs.Ytndegcgcbhcokaa
open Go
set_option linter.unusedVariables false
set_option linter.unusedSimpArgs false

theorem read_shp (S : List UInt8) : ∀ (f d a : Nat), a ≤ S.length → d ≤ 16 →
    (∀ l b, rowsF S f d a = .ok l b → rowsShp l ∧ l ≠ [] ∧ rowsDep l + d ≤ 16) ∧ (∀ l b, rowF S f d a = .ok l b → rowShp l ∧ rowDep l + d ≤ 16) ∧
    (∀ p b, itemF S f d a = .ok p b → p.shp ∧ p.dep + d ≤ 16) ∧ (∀ p b, atomF S f d a = .ok p b → p.shp ∧ p.isRep = false ∧ p.dep + d ≤ 16)
  | 0, d, a, ha, hd => by
    refine ⟨fun l b h => ?_, fun l b h => ?_, fun l b h => ?_, fun l b h => ?_⟩
    · rw [rowsF] at h; cases h
    · rw [rowF] at h; cases h
    · rw [itemF] at h; cases h
    · rw [atomF] at h; cases h
  | f + 1, d, a, ha, hd => by
    have ih := read_shp S f
    have bd := read_bd S f
    obtain ⟨_, r1, i1, t1⟩ := ih d a ha hd
    obtain ⟨_, ⟨R1, _⟩, ⟨I1, _⟩, ⟨T1, _⟩⟩ := bd d a ha
    refine ⟨fun l b h => ?_, fun l b h => ?_, fun p b h => ?_, fun p b h => ?_⟩
    · rw [rowsF] at h
      cases h1 : rowF S f d a with
      | bad k => rw [h1] at h; cases h
      | out => rw [h1] at h; cases h
      | ok r b1 =>
        rw [h1] at h
        simp only at h
        have k1 := r1 r b1 h1
        by_cases h124 : S[b1]? = some 124
        · rw [if_pos h124] at h
          have hl := (List.getElem?_eq_some_iff.1 h124).1
          cases h2 : rowsF S f d (b1 + 1) with
          | bad k => rw [h2] at h; cases h
          | out => rw [h2] at h; cases h
          | ok t b2 =>
            rw [h2] at h
            injection h with e1 e2
            subst e1 e2
            have k3 := (ih d (b1 + 1) hl hd).1 t b2 h2
            simp only [rowsShp, rowsDep]
            exact ⟨⟨k1.1, k3.1⟩, by simp, by omega⟩
        · rw [if_neg h124] at h
          injection h with e1 e2
          subst e1 e2
          simp only [rowsShp, rowsDep]
          exact ⟨⟨k1.1, trivial⟩, by simp, by omega⟩
    · rw [rowF] at h
      by_cases hst : S[a]? = none ∨ S[a]? = some 124 ∨ S[a]? = some 41
      · rw [if_pos hst] at h
        injection h with e1 e2
        subst e1 e2
        simp only [rowShp, rowDep]
        exact ⟨trivial, by omega⟩
      · rw [if_neg hst] at h
        cases h1 : itemF S f d a with
        | bad k => rw [h1] at h; cases h
        | out => rw [h1] at h; cases h
        | ok q b1 =>
          rw [h1] at h
          simp only at h
          have k1 := i1 q b1 h1
          have k2 := I1 q b1 h1
          cases h2 : rowF S f d b1 with
          | bad k => rw [h2] at h; cases h
          | out => rw [h2] at h; cases h
          | ok t b2 =>
            rw [h2] at h
            injection h with e1 e2
            subst e1 e2
            have k3 := (ih d b1 k2.2 hd).2.1 t b2 h2
            simp only [rowShp, rowDep]
            exact ⟨⟨k1.1, k3.1⟩, by omega⟩
    · rw [itemF] at h
      cases h1 : atomF S f d a with
      | bad k => rw [h1] at h; cases h
      | out => rw [h1] at h; cases h
      | ok q b1 =>
        rw [h1] at h
        simp only at h
        have k1 := t1 q b1 h1
        split at h
        · injection h with e1 e2
          subst e1 e2
          simp only [Pt.shp, Pt.dep]
          exact ⟨⟨k1.1, k1.2.1, by simp⟩, k1.2.2⟩
        · split at h
          · injection h with e1 e2
            subst e1 e2
            simp only [Pt.shp, Pt.dep]
            exact ⟨⟨k1.1, k1.2.1, by simp⟩, k1.2.2⟩
          · split at h
            · injection h with e1 e2
              subst e1 e2
              simp only [Pt.shp, Pt.dep]
              exact ⟨⟨k1.1, k1.2.1, by simp⟩, k1.2.2⟩
            · injection h with e1 e2
              subst e1 e2
              exact ⟨k1.1, k1.2.2⟩
    · rw [atomF] at h
      by_cases h46 : S[a]? = some 46
      · rw [if_pos h46] at h
        injection h with e1 e2
        subst e1 e2
        simp only [Pt.shp, Pt.dep]
        exact ⟨trivial, rfl, by omega⟩
      · rw [if_neg h46] at h
        by_cases h91 : S[a]? = some 91
        · rw [if_pos h91] at h
          have hl := (List.getElem?_eq_some_iff.1 h91).1
          have hle : (if S[a + 1]? = some 94 then a + 2 else a + 1) ≤ S.length := by
            split
            · rename_i h94; have := (List.getElem?_eq_some_iff.1 h94).1; omega
            · omega
          cases h2 : clsF S (S.length + 2) (if S[a + 1]? = some 94 then a + 2 else a + 1) [] with
          | bad k => rw [h2] at h; cases h
          | out => rw [h2] at h; cases h
          | ok t b2 =>
            rw [h2] at h
            injection h with e1 e2
            subst e1 e2
            have k2 := cls_cnt _ _ [] hle t b2 h2
            simp only [Pt.shp, Pt.dep]
            exact ⟨⟨cls_tidy _ _ [] t b2 (by rw [Tidy]; trivial) h2, k2.2⟩, rfl, by omega⟩
        · rw [if_neg h91] at h
          by_cases h40 : d < 16 ∧ S[a]? = some 40
          · rw [if_pos h40] at h
            have hl := (List.getElem?_eq_some_iff.1 h40.2).1
            cases h2 : rowsF S f (d + 1) (a + 1) with
            | bad k => rw [h2] at h; cases h
            | out => rw [h2] at h; cases h
            | ok t b2 =>
              rw [h2] at h
              simp only at h
              have k2 := (ih (d + 1) (a + 1) hl (by omega)).1 t b2 h2
              split at h
              · injection h with e1 e2
                subst e1 e2
                simp only [Pt.shp, Pt.dep]
                exact ⟨⟨k2.1, k2.2.1⟩, rfl, by omega⟩
              · cases h
          · rw [if_neg h40] at h
            cases h2 : charF S a with
            | bad k => rw [h2] at h; cases h
            | out => rw [h2] at h; cases h
            | ok c b2 =>
              rw [h2] at h
              injection h with e1 e2
              subst e1 e2
              simp only [Pt.shp, Pt.dep]
              exact ⟨char_vc h2, rfl, by omega⟩
theorem prs_shp {s : List UInt8} {l : List (List Pt)} {b : Nat} (h : prs s = .ok l b) : rowsShp l ∧ l ≠ [] ∧ rowsDep l ≤ 16 := by
  obtain ⟨h1, h2, h3⟩ := prs_ok h
  have k := (read_shp s (4 * s.length + 4) 0 0 (Nat.zero_le _) (by omega)).1 l _ (h3 _ (Nat.le_refl _))
  exact ⟨k.1, k.2.1, by have := k.2.2; omega⟩

end Go.Proofs.Ytndegcgcbhcokaa

/-
  What is printed is no longer than what was read, purely.
-/
namespace Go.Proofs.Ytndegcgcbhcokaa
open Go
set_option linter.unusedVariables false
set_option linter.unusedSimpArgs false

theorem chrT_pos {c : Nat} (hv : Vc c) : 1 ≤ (chrT c).length := by
  obtain ⟨x, t, h, _⟩ := chrT_head hv
  rw [h]; simp
/-- A span's text: its two ends, and a mark where they are far. -/
theorem spanT_len_eq {lo hi : Nat} (h : lo < hi) : (spanT (lo, hi)).length = (chrT lo).length + (chrT hi).length + (if lo + 1 < hi then 1 else 0) := by
  by_cases h2 : lo + 1 < hi
  · rw [spanT_far (by omega) h2, if_pos h2, List.length_append, List.length_cons]; omega
  · obtain rfl : hi = lo + 1 := by omega
    rw [spanT_two, if_neg h2, List.length_append]; omega
theorem join_len {o x : Nat × Nat} (ho : o.1 ≤ o.2) (hx : x.1 ≤ x.2) (v1 : Vc o.1) (v2 : Vc o.2) (v3 : Vc x.1) (v4 : Vc x.2) (c1 : ¬ o.2 + 1 < x.1) (c2 : ¬ x.2 + 1 < o.1) : (spanT (min o.1 x.1, max o.2 x.2)).length ≤ (spanT o).length + (spanT x).length := by
  obtain ⟨a, b⟩ := o
  obtain ⟨c, d⟩ := x
  simp only at ho hx v1 v2 v3 v4 c1 c2 ⊢
  have p1 := chrT_pos v1
  have p2 := chrT_pos v2
  have p3 := chrT_pos v3
  have p4 := chrT_pos v4
  have eab : (spanT (a, b)).length = if a = b then (chrT a).length else (chrT a).length + (chrT b).length + (if a + 1 < b then 1 else 0) := by
    by_cases h : a = b
    · subst h; rw [if_pos rfl, spanT_one]
    · rw [if_neg h]; exact spanT_len_eq (by omega)
  have ecd : (spanT (c, d)).length = if c = d then (chrT c).length else (chrT c).length + (chrT d).length + (if c + 1 < d then 1 else 0) := by
    by_cases h : c = d
    · subst h; rw [if_pos rfl, spanT_one]
    · rw [if_neg h]; exact spanT_len_eq (by omega)
  rcases Nat.le_total a c with hac | hac
  · rw [Nat.min_eq_left hac]
    rcases Nat.le_total b d with hbd | hbd
    · rw [Nat.max_eq_right hbd]
      by_cases had : a = d
      · subst had
        rw [spanT_one, eab]
        split <;> omega
      · rw [spanT_len_eq (by omega), eab, ecd]
        split <;> split <;> split <;> (try split) <;> (try subst_vars) <;> omega
    · rw [Nat.max_eq_left hbd]; omega
  · rw [Nat.min_eq_right hac]
    rcases Nat.le_total b d with hbd | hbd
    · rw [Nat.max_eq_right hbd]; omega
    · rw [Nat.max_eq_left hbd]
      by_cases hcb : c = b
      · subst hcb
        rw [spanT_one, ecd]
        split <;> omega
      · rw [spanT_len_eq (by omega), eab, ecd]
        split <;> split <;> split <;> (try split) <;> (try subst_vars) <;> omega
def flatL (l : Sn) : Nat := (l.flatMap spanT).length
theorem flatL_app (a b : Sn) : flatL (a ++ b) = flatL a + flatL b := by unfold flatL; rw [List.flatMap_append, List.length_append]
theorem flatL_cons (s : Nat × Nat) (t : Sn) : flatL (s :: t) = (spanT s).length + flatL t := by unfold flatL; rw [List.flatMap_cons, List.length_append]
theorem withF_len2 : ∀ (l : Sn) (x : Nat × Nat) (ah be : Sn), (∀ o ∈ l, o.1 ≤ o.2 ∧ Vc o.1 ∧ Vc o.2) → x.1 ≤ x.2 → Vc x.1 → Vc x.2 → flatL (withF l x ah be) ≤ flatL ah + flatL l + flatL be + (spanT x).length
  | [], x, ah, be, hl, hx, hv, hw => by
    rw [withF, flatL_app, flatL_app, flatL_cons]
    have : flatL [] = 0 := rfl
    omega
  | o :: t, x, ah, be, hl, hx, hv, hw => by
    have ho := hl o (List.mem_cons.2 (.inl rfl))
    have ht : ∀ p ∈ t, p.1 ≤ p.2 ∧ Vc p.1 ∧ Vc p.2 := fun p hp => hl p (List.mem_cons.2 (.inr hp))
    have h0 : flatL [] = 0 := rfl
    rw [withF, flatL_cons]
    split
    · have := withF_len2 t x (ah ++ [o]) be ht hx hv hw
      rw [flatL_app, flatL_cons] at this
      omega
    · split
      · have := withF_len2 t x ah (be ++ [o]) ht hx hv hw
        rw [flatL_app, flatL_cons] at this
        omega
      · rename_i c1 c2
        have hj := join_len ho.1 hx ho.2.1 ho.2.2 hv hw c1 c2
        have hmin : Vc (min o.1 x.1) := by rcases Nat.le_total o.1 x.1 with h | h
                                           · rw [Nat.min_eq_left h]; exact ho.2.1
                                           · rw [Nat.min_eq_right h]; exact hv
        have hmax : Vc (max o.2 x.2) := by rcases Nat.le_total o.2 x.2 with h | h
                                           · rw [Nat.max_eq_right h]; exact hw
                                           · rw [Nat.max_eq_left h]; exact ho.2.2
        have := withF_len2 t (min o.1 x.1, max o.2 x.2) ah be ht (by have := ho.1; show min o.1 x.1 ≤ max o.2 x.2; omega) hmin hmax
        omega

theorem str_len (c : Nat) : (bts (str c)).length = (enc c).length := rfl
theorem char_len {S : List UInt8} {a c b : Nat} (h : charF S a = .ok c b) : (chrT c).length + a = b := by
  unfold charF at h
  simp only at h
  generalize hesc : decide (S[a]? = some 92) = esc at h
  cases hf : fp (S.drop (if esc = true then a + 1 else a)) with
  | none => rw [hf] at h; cases h
  | some ck =>
    obtain ⟨c', k⟩ := ck
    rw [hf] at h
    simp only at h
    have hk := (fp_some.1 hf).2.1
    by_cases hs : isSg c' = esc
    · rw [if_pos hs] at h
      injection h with e1 e2
      subst e1
      have hl := str_len c'
      rw [← hk] at hl
      cases esc with
      | true =>
        rw [if_pos rfl] at e2
        rw [chrT_yes hs, List.length_cons, hl]
        omega
      | false =>
        rw [if_neg (by simp)] at e2
        rw [chrT_no hs, hl]
        omega
    · rw [if_neg hs] at h; cases h
theorem span_len {S : List UInt8} {a b : Nat} {x : Nat × Nat} (h : spanF S a = .ok x b) : (spanT x).length + a ≤ b := by
  unfold spanF at h
  cases h1 : charF S a with
  | bad k => rw [h1] at h; cases h
  | out => rw [h1] at h; cases h
  | ok lo b1 =>
    rw [h1] at h
    simp only at h
    have k1 := char_len h1
    split at h
    · cases h2 : charF S (b1 + 1) with
      | bad k => rw [h2] at h; cases h
      | out => rw [h2] at h; cases h
      | ok hi b2 =>
        rw [h2] at h
        simp only at h
        have k2 := char_len h2
        split at h
        · cases h
        · injection h with e1 e2
          subst e1 e2
          by_cases he : lo = hi
          · subst he; rw [spanT_one]; omega
          · rw [spanT_len_eq (by omega)]
            split <;> omega
    · injection h with e1 e2
      subst e1 e2
      rw [spanT_one]; omega
theorem cls_len {S : List UInt8} : ∀ (f a : Nat) (acc l : Sn) (b : Nat), Tidy acc → clsF S f a acc = .ok l b → flatL l + 1 + a ≤ flatL acc + b
  | 0, a, acc, l, b, ha, h => by rw [clsF] at h; cases h
  | f + 1, a, acc, l, b, ha, h => by
    rw [clsF] at h
    split at h
    · injection h with e1 e2
      subst e1 e2
      omega
    · cases h1 : spanF S a with
      | bad k => rw [h1] at h; cases h
      | out => rw [h1] at h; cases h
      | ok x b1 =>
        rw [h1] at h
        simp only at h
        obtain ⟨h2, h3, h4⟩ := span_vc h1
        have k1 := cls_len f b1 _ l b (withS_tidy ha h2 h3 h4) h
        have k2 := withF_len2 acc x [] [] (tidy_le ha) h2 h3 h4
        have k3 := span_len h1
        have h0 : flatL [] = 0 := rfl
        unfold withS at k1
        omega
theorem read_len (S : List UInt8) : ∀ (f d a : Nat),
    (∀ l b, rowsF S f d a = .ok l b → (rowsT l).length + a ≤ b) ∧ (∀ l b, rowF S f d a = .ok l b → (rowT l).length + a ≤ b) ∧
    (∀ p b, itemF S f d a = .ok p b → p.txt.length + a ≤ b) ∧ (∀ p b, atomF S f d a = .ok p b → p.txt.length + a ≤ b)
  | 0, d, a => by
    refine ⟨fun l b h => ?_, fun l b h => ?_, fun l b h => ?_, fun l b h => ?_⟩
    · rw [rowsF] at h; cases h
    · rw [rowF] at h; cases h
    · rw [itemF] at h; cases h
    · rw [atomF] at h; cases h
  | f + 1, d, a => by
    have ih := read_len S f
    obtain ⟨_, r1, i1, t1⟩ := ih d a
    refine ⟨fun l b h => ?_, fun l b h => ?_, fun p b h => ?_, fun p b h => ?_⟩
    · rw [rowsF] at h
      cases h1 : rowF S f d a with
      | bad k => rw [h1] at h; cases h
      | out => rw [h1] at h; cases h
      | ok r b1 =>
        rw [h1] at h
        simp only at h
        have k1 := r1 r b1 h1
        split at h
        · cases h2 : rowsF S f d (b1 + 1) with
          | bad k => rw [h2] at h; cases h
          | out => rw [h2] at h; cases h
          | ok t b2 =>
            rw [h2] at h
            injection h with e1 e2
            subst e1 e2
            have k3 := (ih d (b1 + 1)).1 t b2 h2
            cases t with
            | nil => rw [rowsT, rowsT1, List.append_nil]; rw [rowsT] at k3; simp at k3; omega
            | cons r2 t => rw [rowsT_cons, List.length_append, List.length_cons]; omega
        · injection h with e1 e2
          subst e1 e2
          rw [rowsT, rowsT1, List.append_nil]
          exact k1
    · rw [rowF] at h
      split at h
      · injection h with e1 e2
        subst e1 e2
        rw [rowT]; simp
      · cases h1 : itemF S f d a with
        | bad k => rw [h1] at h; cases h
        | out => rw [h1] at h; cases h
        | ok q b1 =>
          rw [h1] at h
          simp only at h
          have k1 := i1 q b1 h1
          cases h2 : rowF S f d b1 with
          | bad k => rw [h2] at h; cases h
          | out => rw [h2] at h; cases h
          | ok t b2 =>
            rw [h2] at h
            injection h with e1 e2
            subst e1 e2
            have k3 := (ih d b1).2.1 t b2 h2
            rw [rowT, List.length_append]
            omega
    · rw [itemF] at h
      cases h1 : atomF S f d a with
      | bad k => rw [h1] at h; cases h
      | out => rw [h1] at h; cases h
      | ok q b1 =>
        rw [h1] at h
        simp only at h
        have k1 := t1 q b1 h1
        have key : ∀ s : Nat, (Pt.rep q s).txt.length = q.txt.length + 1 := fun s => by simp only [Pt.txt, List.length_append, List.length_cons, List.length_nil]
        split at h
        · injection h with e1 e2
          subst e1 e2
          rw [key]; omega
        · split at h
          · injection h with e1 e2
            subst e1 e2
            rw [key]; omega
          · split at h
            · injection h with e1 e2
              subst e1 e2
              rw [key]; omega
            · injection h with e1 e2
              subst e1 e2
              exact k1
    · rw [atomF] at h
      split at h
      · injection h with e1 e2
        subst e1 e2
        simp only [Pt.txt, List.length_cons, List.length_nil]
        omega
      · split at h
        · cases h2 : clsF S (S.length + 2) (if S[a + 1]? = some 94 then a + 2 else a + 1) [] with
          | bad k => rw [h2] at h; cases h
          | out => rw [h2] at h; cases h
          | ok t b2 =>
            rw [h2] at h
            injection h with e1 e2
            subst e1 e2
            have k2 := cls_len _ _ [] t b2 (by rw [Tidy]; trivial) h2
            have h0 : flatL [] = 0 := rfl
            have h9 : flatL t = (t.flatMap spanT).length := rfl
            simp only [Pt.txt, List.length_append, List.length_cons, List.length_nil]
            by_cases h94 : S[a + 1]? = some 94
            · rw [if_pos h94] at k2
              simp only [decide_eq_true h94, if_true, List.length_cons, List.length_nil]
              omega
            · rw [if_neg h94] at k2
              simp only [decide_eq_false h94, Bool.false_eq_true, if_false, List.length_nil]
              omega
        · split at h
          · cases h2 : rowsF S f (d + 1) (a + 1) with
            | bad k => rw [h2] at h; cases h
            | out => rw [h2] at h; cases h
            | ok t b2 =>
              rw [h2] at h
              simp only at h
              have k2 := (ih (d + 1) (a + 1)).1 t b2 h2
              split at h
              · injection h with e1 e2
                subst e1 e2
                simp only [Pt.txt, List.length_append, List.length_cons, List.length_nil]
                omega
              · cases h
          · cases h2 : charF S a with
            | bad k => rw [h2] at h; cases h
            | out => rw [h2] at h; cases h
            | ok c b2 =>
              rw [h2] at h
              injection h with e1 e2
              subst e1 e2
              simp only [Pt.txt]
              exact Nat.le_of_eq (char_len h2)
/-- PRINT OF WHAT IS READ IS READ AS THE SAME, AND IS NO LONGER. -/
theorem prs_back {s : List UInt8} {l : List (List Pt)} {b : Nat} (h : prs s = .ok l b) : prs (rowsT l) = .ok l (rowsT l).length ∧ (rowsT l).length ≤ s.length := by
  obtain ⟨h1, h2, h3⟩ := prs_ok h
  have k := (read_len s (4 * s.length + 4) 0 0).1 l _ (h3 _ (Nat.le_refl _))
  obtain ⟨k1, k2, k3⟩ := prs_shp h
  exact ⟨prs_txt k1 k2 k3 (by omega), by omega⟩

end Go.Proofs.Ytndegcgcbhcokaa

/-
  Words, purely: they are just what is meant.
-/
namespace Go.Proofs.Ytndegcgcbhcokaa
open Go
set_option linter.unusedVariables false
set_option linter.unusedSimpArgs false

mutual
/-- Code points lie in their bounds. -/
def Pt.bd : Pt → Prop
  | .chr c => c ≤ 1114111
  | .any => True
  | .cls _ l => Bd l
  | .grp l => rowsBd l
  | .rep a _ => a.bd
def rowBd : List Pt → Prop
  | [] => True
  | p :: t => p.bd ∧ rowBd t
def rowsBd : List (List Pt) → Prop
  | [] => True
  | r :: t => rowBd r ∧ rowsBd t
end
mutual
theorem PtV.bd {F : Nat → Prop} {w : World} : ∀ (p : Pt) (v : Value), PtV F w p v → p.bd
  | .chr c, v, h => by simp only [PtV] at h; simp only [Pt.bd]; exact h.2
  | .any, v, h => by simp only [Pt.bd]
  | .cls neg l, v, h => by simp only [PtV] at h; simp only [Pt.bd]; obtain ⟨ad, c, e, h1, h2, h3⟩ := h; exact h2
  | .grp l, v, h => by simp only [PtV] at h; simp only [Pt.bd]; obtain ⟨ad, c, b, off, e, h1, h2⟩ := h; exact RowsV.bd l b off h2
  | .rep a s, v, h => by simp only [PtV] at h; simp only [Pt.bd]; obtain ⟨u, e, h1⟩ := h; exact PtV.bd a u h1
theorem RowV.bd {F : Nat → Prop} {w : World} : ∀ (l : List Pt) (b off : Nat), RowV F w l b off → rowBd l
  | [], b, off, h => by simp only [rowBd]
  | p :: t, b, off, h => by simp only [RowV] at h; simp only [rowBd]; obtain ⟨⟨v, _, h2⟩, h3⟩ := h; exact ⟨PtV.bd p v h2, RowV.bd t b (off + 1) h3⟩
theorem RowsV.bd {F : Nat → Prop} {w : World} : ∀ (l : List (List Pt)) (b off : Nat), RowsV F w l b off → rowsBd l
  | [], b, off, h => by simp only [rowsBd]
  | r :: t, b, off, h => by simp only [RowsV] at h; simp only [rowsBd]; obtain ⟨⟨ad, c, b', off', _, _, h3⟩, h4⟩ := h; exact ⟨RowV.bd r b' off' h3, RowsV.bd t b (off + 1) h4⟩
end

/-- Words that are just what P means. -/
structure Rp (w : Wl) (P : Tx → Prop) : Prop where
  val : ∀ x ∈ w, ∃ t, Rs (bts x) t ∧ P t
  all : ∀ t, (∀ c ∈ t, Vc c) → P t → ∃ x ∈ w, bts x = t.flatMap enc
theorem Rp.congr {w : Wl} {P Q : Tx → Prop} (h : Rp w P) (hPQ : ∀ t, P t ↔ Q t) : Rp w Q :=
  ⟨fun x hx => by obtain ⟨t, h1, h2⟩ := h.val x hx; exact ⟨t, h1, (hPQ t).1 h2⟩, fun t hv hq => h.all t hv ((hPQ t).2 hq)⟩
theorem bts_str (c : Nat) : bts (str c) = enc c := rfl
theorem hid_vc {c : Nat} (hc : c ≤ 1114111) (h : hidB c = false) : Vc c := by
  unfold hidB at h
  unfold Vc
  simp only [Bool.and_eq_false_imp, decide_eq_true_eq, decide_eq_false_iff_not] at h
  by_cases h1 : 55296 ≤ c
  · have := h h1; omega
  · omega
theorem vc_hid {c : Nat} (h : Vc c) : hidB c = false ∧ c ≤ 1114111 := by
  unfold hidB
  unfold Vc at h
  simp only [Bool.and_eq_false_imp, decide_eq_true_eq, decide_eq_false_iff_not]
  omega
theorem spC_mem : ∀ (k c : Nat) (out r : Wl), spC k c out = some r → ∀ y, y ∈ r ↔ y ∈ out ∨ ∃ d, c ≤ d ∧ d < c + k ∧ hidB d = false ∧ y = str d
  | 0, c, out, r, h, y => by
    rw [spC] at h; injection h with h; subst h
    exact ⟨.inl, fun h => h.elim id (fun ⟨d, h1, h2, _⟩ => by omega)⟩
  | k + 1, c, out, r, h, y => by
    rw [spC] at h
    split at h
    · rename_i hh
      rw [spC_mem k (c + 1) out r h y]
      constructor
      · rintro (h | ⟨d, h1, h2, h3⟩)
        · exact .inl h
        · exact .inr ⟨d, by omega, by omega, h3⟩
      · rintro (h | ⟨d, h1, h2, h3, h4⟩)
        · exact .inl h
        · refine .inr ⟨d, ?_, by omega, h3, h4⟩
          rcases Nat.lt_or_ge c d with hd | hd
          · omega
          · obtain rfl : d = c := by omega
            rw [hh] at h3; cases h3
    · rename_i hh
      split at h
      · cases h
      · rw [spC_mem k (c + 1) _ r h y]
        simp only [List.mem_append, List.mem_singleton]
        have hh2 : hidB c = false := by cases hb : hidB c <;> simp_all
        constructor
        · rintro ((h | h) | ⟨d, h1, h2, h3⟩)
          · exact .inl h
          · exact .inr ⟨c, Nat.le_refl _, by omega, hh2, h⟩
          · exact .inr ⟨d, by omega, by omega, h3⟩
        · rintro (h | ⟨d, h1, h2, h3, h4⟩)
          · exact .inl (.inl h)
          · rcases Nat.lt_or_ge c d with hd | hd
            · exact .inr ⟨d, by omega, by omega, h3, h4⟩
            · obtain rfl : d = c := by omega
              exact .inl (.inr h4)
theorem spF_mem : ∀ (l : Sn) (out r : Wl), spF l out = some r → ∀ y, y ∈ r ↔ y ∈ out ∨ ∃ d, inS l d = true ∧ hidB d = false ∧ y = str d
  | [], out, r, h, y => by
    rw [spF] at h; injection h with h; subst h
    exact ⟨.inl, fun h => h.elim id (fun ⟨d, h1, _⟩ => by simp [inS] at h1)⟩
  | s :: t, out, r, h, y => by
    rw [spF] at h
    cases h1 : spC (s.2 + 1 - s.1) s.1 out with
    | none => rw [h1] at h; cases h
    | some o =>
      rw [h1] at h
      rw [spF_mem t o r h y, spC_mem _ _ _ _ h1 y]
      have key : ∀ d, inS (s :: t) d = true ↔ (s.1 ≤ d ∧ d ≤ s.2) ∨ inS t d = true := fun d => by simp [inS]
      constructor
      · rintro ((h | ⟨d, h2, h3, h4⟩) | ⟨d, h2, h3⟩)
        · exact .inl h
        · exact .inr ⟨d, (key d).2 (.inl ⟨h2, by omega⟩), h4⟩
        · exact .inr ⟨d, (key d).2 (.inr h2), h3⟩
      · rintro (h | ⟨d, h2, h3⟩)
        · exact .inl (.inl h)
        · rcases (key d).1 h2 with ⟨h4, h5⟩ | h4
          · exact .inl (.inr ⟨d, h4, by omega, h3⟩)
          · exact .inr ⟨d, h4, h3⟩
theorem inS_bd {l : Sn} (h : Bd l) {d : Nat} (hd : inS l d = true) : d ≤ 1114111 := by
  unfold inS at hd
  obtain ⟨s, hs, h2⟩ := List.any_eq_true.1 hd
  simp only [Bool.and_eq_true, decide_eq_true_eq] at h2
  have := h s hs
  omega
theorem othS_bd : ∀ (l : Sn) (low : Nat), Bd l → Bd (othS low l)
  | [], low, h => by
    rw [othS]
    split
    · rename_i h1; intro x hx; rw [List.mem_singleton.1 hx]; exact ⟨h1, Nat.le_refl _⟩
    · intro x hx; cases hx
  | s :: t, low, h => by
    rw [othS]
    have hs := h s (by simp)
    have ih := othS_bd t (s.2 + 1) (fun x hx => h x (by simp [hx]))
    intro x hx
    rcases List.mem_append.1 hx with hx | hx
    · split at hx
      · rename_i h1
        rw [List.mem_singleton.1 hx]
        exact ⟨by show low ≤ _; omega, by show s.1 - 1 ≤ _; omega⟩
      · cases hx
    · exact ih x hx
theorem rp_leaf {l : Sn} (hb : Bd l) {w : Wl} (h : spF l [] = some w) : Rp w (fun t => ∃ x, t = [x] ∧ inS l x = true) := by
  refine ⟨fun x hx => ?_, ?_⟩
  · rcases (spF_mem l [] w h x).1 hx with hx | ⟨d, h1, h2, e⟩
    · cases hx
    · rw [e]
      refine ⟨[d], ⟨fun c hc => ?_, by rw [bts_str, List.flatMap_cons, List.flatMap_nil, List.append_nil]⟩, d, rfl, h1⟩
      rw [List.mem_singleton.1 hc]
      exact hid_vc (inS_bd hb h1) h2
  · rintro t hv ⟨x, rfl, hx⟩
    have hvx := vc_hid (hv x (by simp))
    exact ⟨str x, (spF_mem l [] w h _).2 (.inr ⟨x, hx, hvx.1, rfl⟩), by rw [bts_str, List.flatMap_cons, List.flatMap_nil, List.append_nil]⟩
theorem rp_tog {a b r : Wl} {P Q : Tx → Prop} (ha : Rp a P) (hb : Rp b Q) (h : togF a b = some r) : Rp r (fun t => P t ∨ Q t) := by
  refine ⟨fun x hx => ?_, fun t hv hp => ?_⟩
  · rcases (togF_mem _ _ _ h x).1 hx with hx | hx
    · obtain ⟨t, h1, h2⟩ := ha.val x hx; exact ⟨t, h1, .inl h2⟩
    · obtain ⟨t, h1, h2⟩ := hb.val x hx; exact ⟨t, h1, .inr h2⟩
  · rcases hp with hp | hp
    · obtain ⟨x, hx, e⟩ := ha.all t hv hp; exact ⟨x, (togF_mem _ _ _ h x).2 (.inl hx), e⟩
    · obtain ⟨x, hx, e⟩ := hb.all t hv hp; exact ⟨x, (togF_mem _ _ _ h x).2 (.inr hx), e⟩
theorem btsApp (a b : ByteArray) : bts (a ++ b) = bts a ++ bts b := by simp [bts]
theorem rp_ch {a b r : Wl} {P Q : Tx → Prop} (ha : Rp a P) (hb : Rp b Q) (h : chF [] a b = some r) : Rp r (Cat P Q) := by
  refine ⟨fun x hx => ?_, ?_⟩
  · rcases (chF_mem _ _ _ _ h x).1 hx with hx | ⟨u, hu, v, hv, rfl⟩
    · cases hx
    · obtain ⟨t, h1, h2⟩ := ha.val u hu
      obtain ⟨t', h3, h4⟩ := hb.val v hv
      refine ⟨t ++ t', ⟨fun c hc => ?_, by rw [btsApp, h1.2, h3.2, List.flatMap_append]⟩, t, t', rfl, h2, h4⟩
      rcases List.mem_append.1 hc with hc | hc
      · exact h1.1 c hc
      · exact h3.1 c hc
  · rintro t hv ⟨u, v, rfl, h1, h2⟩
    obtain ⟨x, hx, e⟩ := ha.all u (fun c hc => hv c (by simp [hc])) h1
    obtain ⟨y, hy, e'⟩ := hb.all v (fun c hc => hv c (by simp [hc])) h2
    exact ⟨x ++ y, (chF_mem _ _ _ _ h _).2 (.inr ⟨x, hx, y, hy, rfl⟩), by rw [btsApp, e, e', List.flatMap_append]⟩
theorem rp_nil {P : Tx → Prop} (h : ∀ t, (∀ c ∈ t, Vc c) → ¬ P t) : Rp [] P := ⟨(fun x hx => by cases hx), fun t hv hp => absurd hp (h t hv)⟩
theorem Rp.none {P : Tx → Prop} (h : Rp [] P) : ∀ t, (∀ c ∈ t, Vc c) → ¬ P t := fun t hv hp => by
  obtain ⟨x, hx, _⟩ := h.all t hv hp
  cases hx
theorem rp_empty : Rp [noText] (fun t => t = []) := by
  refine ⟨fun x hx => ?_, ?_⟩
  · rw [List.mem_singleton.1 hx]; exact ⟨[], Rs.nil, rfl⟩
  · rintro t hv rfl; exact ⟨noText, List.mem_singleton.2 rfl, rfl⟩
theorem flat_nil {t : Tx} (hv : ∀ c ∈ t, Vc c) (h : t.flatMap enc = []) : t = [] := rs_nil ⟨hv, h.symm⟩
theorem plus_vc {P : Tx → Prop} {t : Tx} (h : Plus P t) (hv : ∀ c ∈ t, Vc c) (hP : ∀ u, (∀ c ∈ u, Vc c) → P u → u = []) : t = [] ∧ P [] := by
  induction h with
  | one h => have e := hP _ hv h; subst e; exact ⟨rfl, h⟩
  | more h _ ih =>
    have e := hP _ (fun c hc => hv c (by simp [hc])) h
    subst e
    simp only [List.nil_append] at hv ⊢
    exact ⟨(ih hv).1, h⟩
theorem rp_rep {a r : Wl} {P : Tx → Prop} {s : Nat} (ha : Rp a P) (h : repW (some a) s = some r) : Rp r (fun v => (s ≠ 43 ∧ v = []) ∨ (s = 63 ∧ P v) ∨ (s ≠ 63 ∧ Plus P v)) := by
  unfold repW at h
  simp only at h
  by_cases h63 : s = 63
  · subst h63
    rw [if_neg (by simp), if_neg (by decide)] at h
    refine (rp_tog ha rp_empty h).congr (fun t => ?_)
    simp only [ne_eq, not_true, false_and, or_false, true_and]
    exact ⟨fun h => h.elim (fun h => .inr h) (fun h => .inl ⟨by decide, h⟩), fun h => h.elim (fun h => .inr h.2) (fun h => .inl h)⟩
  · by_cases hl : letters a = true
    · rw [if_pos ⟨hl, h63⟩] at h; cases h
    · rw [if_neg (fun x => hl x.1)] at h
      -- nothing but the empty text
      have hP : ∀ u, (∀ c ∈ u, Vc c) → P u → u = [] := fun u hv hu => by
        obtain ⟨x, hx, e⟩ := ha.all u hv hu
        refine flat_nil hv ?_
        rw [← e]
        cases a with
        | nil => cases hx
        | cons y l =>
          cases l with
          | nil =>
            obtain rfl := List.mem_singleton.1 hx
            have hem : x.toList.isEmpty = true := by
              cases hb : x.toList.isEmpty with
              | true => rfl
              | false => exact absurd (by simp [letters, hb]) hl
            rw [ByteArray.toList_eq] at hem
            exact List.isEmpty_iff.1 hem
          | cons z l => exact absurd (by simp [letters]) hl
      have hplus : ∀ t, (∀ c ∈ t, Vc c) → (Plus P t ↔ P t) := fun t hv => ⟨fun h => by obtain ⟨rfl, h2⟩ := plus_vc h hv hP; exact h2, fun h => .one h⟩
      by_cases h43 : s = 43
      · rw [if_pos h43] at h
        injection h with h
        subst h
        subst h43
        refine ⟨fun x hx => ?_, fun t hv hp => ?_⟩
        · obtain ⟨t, h1, h2⟩ := ha.val x hx
          exact ⟨t, h1, .inr (.inr ⟨by decide, .one h2⟩)⟩
        · rcases hp with hp | hp | hp
          · exact absurd rfl hp.1
          · exact absurd hp.1 (by decide)
          · exact ha.all t hv ((hplus t hv).1 hp.2)
      · rw [if_neg h43] at h
        have k := rp_tog ha rp_empty h
        refine ⟨fun x hx => ?_, fun t hv hp => ?_⟩
        · obtain ⟨t, h1, h2⟩ := k.val x hx
          rcases h2 with h2 | h2
          · exact ⟨t, h1, .inr (.inr ⟨h63, .one h2⟩)⟩
          · exact ⟨t, h1, .inl ⟨h43, h2⟩⟩
        · refine k.all t hv ?_
          rcases hp with hp | hp | hp
          · exact .inr hp.2
          · exact absurd hp.1 h63
          · exact .inl ((hplus t hv).1 hp.2)

mutual
/-- WORDS ARE JUST WHAT IS MEANT. -/
theorem Pt.wds_rp : ∀ (p : Pt) (w : Wl), p.bd → p.wds = some w → Rp w p.has
  | .chr c, w, hb, h => by
    rw [Pt.wds] at h
    exact (rp_leaf (fun x hx => by rw [List.mem_singleton.1 hx]; simp only [Pt.bd] at hb; exact ⟨hb, hb⟩) h).congr (fun t => by simp only [Pt.has])
  | .any, w, hb, h => by
    rw [Pt.wds] at h
    exact (rp_leaf (othS_bd [] 0 (fun x hx => by cases hx)) h).congr (fun t => by simp only [Pt.has])
  | .cls neg l, w, hb, h => by
    rw [Pt.wds] at h
    simp only [Pt.bd] at hb
    exact (rp_leaf (by split; exact othS_bd l 0 hb; exact hb) h).congr (fun t => by simp only [Pt.has])
  | .grp l, w, hb, h => by
    rw [Pt.wds] at h
    simp only [Pt.bd] at hb
    have := rowsW_rp l [] w (fun _ => False) hb (rp_nil (fun _ _ h => h)) h
    exact this.congr (fun t => by simp [Pt.has])
  | .rep a s, w, hb, h => by
    rw [Pt.wds] at h
    simp only [Pt.bd] at hb
    cases h1 : a.wds with
    | none => rw [h1] at h; cases h
    | some m =>
      rw [h1] at h
      exact (rp_rep (Pt.wds_rp a m hb h1) h).congr (fun t => by simp only [Pt.has])
theorem rowN_rp : ∀ (r : List Pt) (w : Wl), rowBd r → rowN r = some w → w = [] ∧ ∀ t, (∀ c ∈ t, Vc c) → ¬ rowHas r t
  | [], w, hb, h => by rw [rowN] at h; cases h
  | p :: t, w, hb, h => by
    rw [rowN] at h
    simp only [rowBd] at hb
    have key : (∀ u, (∀ c ∈ u, Vc c) → ¬ p.has u) ∨ (∀ u, (∀ c ∈ u, Vc c) → ¬ rowHas t u) → ∀ u, (∀ c ∈ u, Vc c) → ¬ rowHas (p :: t) u := fun hk u hv hu => by
      rw [rowHas] at hu
      obtain ⟨a, b, rfl, h1, h2⟩ := hu
      rcases hk with hk | hk
      · exact hk a (fun c hc => hv c (by simp [hc])) h1
      · exact hk b (fun c hc => hv c (by simp [hc])) h2
    split at h
    · rename_i h1
      injection h with h
      exact ⟨h.symm, key (.inl (Pt.wds_rp p [] hb.1 h1).none)⟩
    · obtain ⟨h1, h2⟩ := rowN_rp t w hb.2 h
      exact ⟨h1, key (.inr h2)⟩
theorem rowW_rp : ∀ (r : List Pt) (out w : Wl) (P : Tx → Prop), rowBd r → Rp out P → rowW r out = some w → Rp w (Cat P (rowHas r))
  | [], out, w, P, hb, ho, h => by
    rw [rowW] at h; injection h with h; subst h
    have e : rowHas [] = fun v => v = [] := by funext v; simp [rowHas]
    exact ho.congr (fun t => by rw [e, cat_nil])
  | p :: t, out, w, P, hb, ho, h => by
    rw [rowW] at h
    simp only [rowBd] at hb
    have none_of : (∀ u, (∀ c ∈ u, Vc c) → ¬ rowHas (p :: t) u) → Rp [] (Cat P (rowHas (p :: t))) := fun hk => rp_nil (fun u hv hu => by
      obtain ⟨a, b, rfl, _, h2⟩ := hu
      exact hk b (fun c hc => hv c (by simp [hc])) h2)
    have none_t : (∀ u, (∀ c ∈ u, Vc c) → ¬ rowHas t u) → ∀ u, (∀ c ∈ u, Vc c) → ¬ rowHas (p :: t) u := fun hk u hv hu => by
      rw [rowHas] at hu
      obtain ⟨a, b, rfl, _, h2⟩ := hu
      exact hk b (fun c hc => hv c (by simp [hc])) h2
    cases h1 : p.wds with
    | none =>
      rw [h1] at h
      simp only at h
      obtain ⟨rfl, h2⟩ := rowN_rp t w hb.2 h
      exact none_of (none_t h2)
    | some m =>
      rw [h1] at h
      have hm := Pt.wds_rp p m hb.1 h1
      cases m with
      | nil =>
        simp only at h
        injection h with h
        subst h
        exact none_of (fun u hv hu => by
          rw [rowHas] at hu
          obtain ⟨a, b, rfl, h2, _⟩ := hu
          exact hm.none a (fun c hc => hv c (by simp [hc])) h2)
      | cons y m =>
        simp only at h
        cases h2 : chF [] out (y :: m) with
        | none =>
          rw [h2] at h
          simp only at h
          obtain ⟨rfl, h3⟩ := rowN_rp t w hb.2 h
          exact none_of (none_t h3)
        | some o =>
          rw [h2] at h
          simp only at h
          have k := rowW_rp t o w _ hb.2 (rp_ch ho hm h2) h
          refine k.congr (fun u => ?_)
          rw [cat_assoc]
          have e : rowHas (p :: t) = Cat p.has (rowHas t) := by funext v; simp [rowHas]
          rw [e]
theorem rowsW_rp : ∀ (l : List (List Pt)) (out w : Wl) (P : Tx → Prop), rowsBd l → Rp out P → rowsW l out = some w → Rp w (fun t => P t ∨ rowsHas l t)
  | [], out, w, P, hb, ho, h => by
    rw [rowsW] at h; injection h with h; subst h
    exact ho.congr (fun t => by simp [rowsHas])
  | r :: t, out, w, P, hb, ho, h => by
    rw [rowsW] at h
    simp only [rowsBd] at hb
    cases h1 : rowW r [noText] with
    | none => rw [h1] at h; cases h
    | some m =>
      rw [h1] at h
      simp only at h
      have hm := (rowW_rp r [noText] m _ hb.1 rp_empty h1).congr (fun u => nil_cat (rowHas r) u)
      cases h2 : togF out m with
      | none => rw [h2] at h; cases h
      | some o =>
        rw [h2] at h
        simp only at h
        have k := rowsW_rp t o w _ hb.2 (rp_tog ho hm h2) h
        exact k.congr (fun u => by simp only [rowsHas, or_assoc])
end
theorem words_mean {l : List (List Pt)} {w : Wl} (hb : rowsBd l) (h : rowsW l [] = some w) (L : List UInt8) : Means l L ↔ ∃ x ∈ w, bts x = L := by
  have k := (rowsW_rp l [] w (fun _ => False) hb (rp_nil (fun _ _ h => h)) h).congr (Q := rowsHas l) (fun t => by simp)
  constructor
  · rintro ⟨t, h1, h2⟩
    obtain ⟨x, hx, e⟩ := k.all t h1.1 h2
    exact ⟨x, hx, by rw [e, h1.2]⟩
  · rintro ⟨x, hx, rfl⟩
    exact k.val x hx

end Go.Proofs.Ytndegcgcbhcokaa
