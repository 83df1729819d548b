import Derived.Test.YtndegcgcbhcokaaDoorPvF
import Derived.Test.YtndegcgcbhcokaaDoorPuS
import Derived.Test.YtndegcgcbhcokaaDoorPtR
import Derived.Test.YtndegcgcbhcokaaDoorPtH
import Derived.BigQuiet
/-
  The document's tidy, purely: put in their order, laid together: the same ranges as the program's.
-/
namespace Go.Proofs.YtndegcgcbhcokaaDoor
open Go
set_option linter.unusedVariables false
set_option linter.unusedSimpArgs false

/-- How many at the head begin at x or ahead of it. -/
def insK : Sn → Nat → Nat
  | [], _ => 0
  | o :: t, a => if o.1 ≤ a then insK t a + 1 else 0
theorem insK_le : ∀ (l : Sn) (a : Nat), insK l a ≤ l.length
  | [], _ => Nat.le_refl _
  | o :: t, a => by
    rw [insK]
    split
    · have := insK_le t a; simp; omega
    · simp
def insF (l : Sn) (x : Nat × Nat) : Sn := l.take (insK l x.1) ++ [x] ++ l.drop (insK l x.1)
/-- What is laid together so far, and one more. -/
def mrgF (l : Sn) (x : Nat × Nat) : Sn := match l.getLast? with
  | none => [x]
  | some o => if x.1 ≤ o.2 + 1 then l.dropLast ++ [(o.1, max o.2 x.2)] else l ++ [x]
def tdyF (raw : Sn) : Sn := (raw.foldl insF []).foldl mrgF []

def Srt : Sn → Prop
  | [] => True
  | s :: t => (∀ o ∈ t, s.1 ≤ o.1) ∧ Srt t
theorem srt_app : ∀ (a b : Sn), Srt (a ++ b) ↔ Srt a ∧ Srt b ∧ ∀ o ∈ a, ∀ s ∈ b, o.1 ≤ s.1
  | [], b => by simp [Srt]
  | x :: a, b => by
    simp only [List.cons_append, Srt, srt_app a b, List.mem_append, List.mem_cons]
    constructor
    · rintro ⟨h1, h2, h3, h4⟩
      exact ⟨⟨fun o ho => h1 o (.inl ho), h2⟩, h3, fun o ho s hs => by
        rcases ho with e | ho
        · rw [e]; exact h1 s (.inr hs)
        · exact h4 o ho s hs⟩
    · rintro ⟨⟨h1, h2⟩, h3, h4⟩
      exact ⟨fun o ho => by
        rcases ho with ho | ho
        · exact h1 o ho
        · exact h4 x (.inl rfl) o ho, h2, h3, fun o ho s hs => h4 o (.inr ho) s hs⟩
theorem insK_take : ∀ (l : Sn) (a : Nat), ∀ o ∈ l.take (insK l a), o.1 ≤ a
  | [], a, o, h => by simp at h
  | x :: t, a, o, h => by
    rw [insK] at h
    split at h
    · rename_i hx
      rw [List.take_succ_cons] at h
      rcases List.mem_cons.1 h with e | h
      · rw [e]; exact hx
      · exact insK_take t a o h
    · simp at h
theorem insK_drop : ∀ (l : Sn) (a : Nat), Srt l → ∀ o ∈ l.drop (insK l a), a ≤ o.1
  | [], a, _, o, h => by simp at h
  | x :: t, a, hs, o, h => by
    rw [insK] at h
    split at h
    · rw [List.drop_succ_cons] at h
      exact insK_drop t a hs.2 o h
    · rename_i hx
      rw [List.drop_zero] at h
      rcases List.mem_cons.1 h with e | h
      · rw [e]; omega
      · have := hs.1 o h; omega
theorem insF_mem (l : Sn) (x o : Nat × Nat) : o ∈ insF l x ↔ o ∈ l ∨ o = x := by
  unfold insF
  rw [List.mem_append, List.mem_append, List.mem_singleton]
  have : o ∈ l ↔ o ∈ l.take (insK l x.1) ∨ o ∈ l.drop (insK l x.1) := by
    rw [← List.mem_append, List.take_append_drop]
  rw [this]
  constructor
  · rintro ((h | h) | h)
    · exact .inl (.inl h)
    · exact .inr h
    · exact .inl (.inr h)
  · rintro ((h | h) | h)
    · exact .inl (.inl h)
    · exact .inr h
    · exact .inl (.inr h)
theorem insF_srt {l : Sn} (h : Srt l) (x : Nat × Nat) : Srt (insF l x) := by
  unfold insF
  have hl : Srt (l.take (insK l x.1) ++ l.drop (insK l x.1)) := by rw [List.take_append_drop]; exact h
  obtain ⟨h1, h2, h3⟩ := (srt_app _ _).1 hl
  refine (srt_app _ _).2 ⟨(srt_app _ _).2 ⟨h1, ⟨(fun o ho => by cases ho), trivial⟩, fun o ho s hs => ?_⟩, h2, fun o ho s hs => ?_⟩
  · simp at hs; rw [hs]; exact insK_take l x.1 o ho
  · rcases List.mem_append.1 ho with ho | ho
    · exact h3 o ho s hs
    · simp at ho; rw [ho]; exact insK_drop l x.1 h s hs
theorem inS_iff (l : Sn) (c : Nat) : inS l c = true ↔ ∃ o ∈ l, o.1 ≤ c ∧ c ≤ o.2 := by
  unfold inS
  rw [List.any_eq_true]
  constructor
  · rintro ⟨o, h1, h2⟩; simp at h2; exact ⟨o, h1, h2⟩
  · rintro ⟨o, h1, h2⟩; exact ⟨o, h1, by simp [h2]⟩
theorem fold_srt : ∀ (raw acc : Sn), Srt acc → RgOk acc → RgOk raw → Srt (raw.foldl insF acc) ∧ RgOk (raw.foldl insF acc) ∧ ∀ c, inS (raw.foldl insF acc) c = true ↔ inS acc c = true ∨ inS raw c = true
  | [], acc, h1, h2, h3 => ⟨h1, h2, fun c => by simp [inS_nil]⟩
  | x :: t, acc, h1, h2, h3 => by
    rw [List.foldl_cons]
    obtain ⟨q1, q2, q3⟩ := fold_srt t (insF acc x) (insF_srt h1 x) (fun o ho => by
      rcases (insF_mem acc x o).1 ho with h | h
      · exact h2 o h
      · rw [h]; exact h3 x (by simp)) (fun o ho => h3 o (by simp [ho]))
    refine ⟨q1, q2, fun c => ?_⟩
    rw [q3 c, inS_iff (insF acc x), inS_iff acc, inS_iff (x :: t), inS_iff t]
    constructor
    · rintro (⟨o, h, hh⟩ | ⟨o, h, hh⟩)
      · rcases (insF_mem acc x o).1 h with h | h
        · exact .inl ⟨o, h, hh⟩
        · exact .inr ⟨o, by simp [h], hh⟩
      · exact .inr ⟨o, by simp [h], hh⟩
    · rintro (⟨o, h, hh⟩ | ⟨o, h, hh⟩)
      · exact .inl ⟨o, (insF_mem acc x o).2 (.inl h), hh⟩
      · rcases List.mem_cons.1 h with e | h
        · exact .inl ⟨o, (insF_mem acc x o).2 (.inr e), hh⟩
        · exact .inr ⟨o, h, hh⟩
theorem tidy_snoc {l : Sn} {x : Nat × Nat} (h : Tidy l) (hx : x.1 ≤ x.2) (h1 : Vc x.1) (h2 : Vc x.2) (h3 : ∀ o ∈ l, o.2 + 1 < x.1) : Tidy (l ++ [x]) :=
  (tidy_app _ _).2 ⟨h, tidy_one hx h1 h2, fun o ho s hs => by simp at hs; rw [hs]; exact h3 o ho⟩
theorem mrg_step {l : Sn} {x : Nat × Nat} (h : Tidy l) (hx : x.1 ≤ x.2) (h1 : Vc x.1) (h2 : Vc x.2) (h3 : ∀ o ∈ l, o.1 ≤ x.1) : Tidy (mrgF l x) ∧ (∀ o ∈ mrgF l x, o.1 ≤ x.1) ∧ ∀ c, inS (mrgF l x) c = true ↔ inS l c = true ∨ (x.1 ≤ c ∧ c ≤ x.2) := by
  rcases List.eq_nil_or_concat l with e | ⟨t, o, e⟩
  · subst e
    refine ⟨tidy_one hx h1 h2, fun o ho => by simp [mrgF] at ho; rw [ho]; exact Nat.le_refl _, fun c => ?_⟩
    simp only [mrgF, List.getLast?_nil, inS_cons, inS_nil, Bool.or_false, Bool.and_eq_true, decide_eq_true_eq, Bool.false_eq_true, false_or]
  · rw [List.concat_eq_append] at e
    subst e
    obtain ⟨q1, q2, q3⟩ := (tidy_app t [o]).1 h
    have ho := tidy_le q2 o (by simp)
    have ho3 := h3 o (by simp)
    have e1 : (t ++ [o]).getLast? = some o := by simp
    have e2 : (t ++ [o]).dropLast = t := by simp
    unfold mrgF
    rw [e1]
    simp only
    split
    · rename_i hle
      rw [e2]
      have hmax : Vc (max o.2 x.2) := by
        rcases Nat.le_total o.2 x.2 with h | h
        · rw [Nat.max_eq_right h]; exact h2
        · rw [Nat.max_eq_left h]; exact ho.2.2
      refine ⟨(tidy_app t _).2 ⟨q1, tidy_one (show o.1 ≤ max o.2 x.2 by omega) ho.2.1 hmax, fun s hs y hy => ?_⟩, fun y hy => ?_, fun c => ?_⟩
      · simp at hy; rw [hy]; exact q3 s hs o (by simp)
      · rcases List.mem_append.1 hy with hy | hy
        · exact h3 y (by simp [hy])
        · simp at hy; rw [hy]; exact ho3
      · rw [inS_app, inS_app, inS_cons, inS_nil, inS_cons, inS_nil]
        simp only [Bool.or_false, Bool.or_eq_true, Bool.and_eq_true, decide_eq_true_eq]
        constructor
        · rintro (h | h)
          · exact .inl (.inl h)
          · by_cases hc : c ≤ o.2
            · exact .inl (.inr ⟨h.1, hc⟩)
            · exact .inr (by omega)
        · rintro ((h | h) | h)
          · exact .inl h
          · exact .inr (by omega)
          · exact .inr (by omega)
    · rename_i hgt
      refine ⟨tidy_snoc h hx h1 h2 (fun y hy => ?_), fun y hy => ?_, fun c => ?_⟩
      · rcases List.mem_append.1 hy with hy | hy
        · have := q3 y hy o (by simp); omega
        · simp at hy; rw [hy]; omega
      · rcases List.mem_append.1 hy with hy | hy
        · exact h3 y hy
        · simp at hy; rw [hy]; exact Nat.le_refl _
      · rw [inS_app _ [x], inS_cons, inS_nil]
        simp only [Bool.or_false, Bool.or_eq_true, Bool.and_eq_true, decide_eq_true_eq]
theorem fold_mrg : ∀ (l acc : Sn), Srt l → RgOk l → Tidy acc → (∀ o ∈ acc, ∀ s ∈ l, o.1 ≤ s.1) → Tidy (l.foldl mrgF acc) ∧ ∀ c, inS (l.foldl mrgF acc) c = true ↔ inS acc c = true ∨ inS l c = true
  | [], acc, _, _, h, _ => ⟨h, fun c => by simp [inS_nil]⟩
  | x :: t, acc, hs, hok, h, hlt => by
    rw [List.foldl_cons]
    have hx := hok x (by simp)
    obtain ⟨q1, q2, q3⟩ := mrg_step h hx.1 hx.2.1 hx.2.2 (fun o ho => hlt o ho x (by simp))
    obtain ⟨r1, r2⟩ := fold_mrg t (mrgF acc x) hs.2 (fun o ho => hok o (by simp [ho])) q1 (fun o ho s hs' => by
      have a1 := q2 o ho
      have a2 := hs.1 s hs'
      omega)
    refine ⟨r1, fun c => ?_⟩
    rw [r2 c, q3 c, inS_cons]
    simp only [Bool.or_eq_true, Bool.and_eq_true, decide_eq_true_eq, or_assoc]
theorem tidy_unique : ∀ (a b : Sn), Tidy a → Tidy b → (∀ c, inS a c = true ↔ inS b c = true) → a = b
  | [], [], _, _, _ => rfl
  | [], s :: t, _, hb, h => by
    have := (h s.1).2 (by rw [inS_cons]; simp [hb.1])
    simp [inS_nil] at this
  | s :: t, [], ha, _, h => by
    have := (h s.1).1 (by rw [inS_cons]; simp [ha.1])
    simp [inS_nil] at this
  | s :: t, x :: y, ha, hb, h => by
    have low : ∀ (s : Nat × Nat) (t : Sn), Tidy (s :: t) → ∀ c, inS (s :: t) c = true → s.1 ≤ c := fun s t hT c hc => by
      obtain ⟨o, ho, h1, h2⟩ := (inS_iff _ _).1 hc
      rcases List.mem_cons.1 ho with e | ho
      · rw [← e]; exact h1
      · have := hT.2.2.2.1 o ho
        have := hT.1
        omega
    have gap : ∀ (s : Nat × Nat) (t : Sn), Tidy (s :: t) → ¬ inS (s :: t) (s.2 + 1) = true := fun s t hT hc => by
      obtain ⟨o, ho, h1, h2⟩ := (inS_iff _ _).1 hc
      rcases List.mem_cons.1 ho with e | ho
      · rw [e] at h2; omega
      · have := hT.2.2.2.1 o ho; omega
    have e1 : s.1 = x.1 := by
      have p := low s t ha x.1 ((h x.1).2 (by rw [inS_cons]; simp [hb.1]))
      have q := low x y hb s.1 ((h s.1).1 (by rw [inS_cons]; simp [ha.1]))
      omega
    have e2 : s.2 = x.2 := by
      rcases Nat.lt_trichotomy s.2 x.2 with hlt | heq | hlt
      · exfalso
        exact gap s t ha ((h (s.2 + 1)).2 (by rw [inS_cons]; have := ha.1; simp; left; omega))
      · exact heq
      · exfalso
        exact gap x y hb ((h (x.2 + 1)).1 (by rw [inS_cons]; have := hb.1; simp; left; omega))
    have e3 : s = x := Prod.ext e1 e2
    subst e3
    rw [tidy_unique t y ha.2.2.2.2 hb.2.2.2.2 (fun c => ?_)]
    have hn : ∀ (t : Sn), (∀ o ∈ t, s.2 + 1 < o.1) → inS t c = true → s.2 < c := fun t ht hc => by
      obtain ⟨o, ho, h1, h2⟩ := (inS_iff _ _).1 hc
      have := ht o ho
      omega
    have hc := h c
    rw [inS_cons, inS_cons] at hc
    simp only [Bool.or_eq_true, Bool.and_eq_true, decide_eq_true_eq] at hc
    constructor
    · intro hh
      have := hn t ha.2.2.2.1 hh
      rcases hc.1 (.inr hh) with h' | h'
      · omega
      · exact h'
    · intro hh
      have := hn y hb.2.2.2.1 hh
      rcases hc.2 (.inr hh) with h' | h'
      · omega
      · exact h'
/-- THE DOCUMENT'S TIDY RANGES ARE THE PROGRAM'S. -/
theorem tdy_eq {raw : Sn} (h : RgOk raw) : tdyF raw = raw.foldl withS [] := by
  obtain ⟨q1, q2, q3⟩ := fold_srt raw [] trivial (fun o ho => by cases ho) h
  obtain ⟨r1, r2⟩ := fold_mrg (raw.foldl insF []) [] q1 q2 trivial (fun o ho => by cases ho)
  obtain ⟨p1, p2⟩ := fold_tidy raw.length raw rfl h
  refine tidy_unique _ _ r1 p1 (fun c => ?_)
  unfold tdyF at *
  rw [r2 c, q3 c, p2 c]
  simp [inS_nil]

end Go.Proofs.YtndegcgcbhcokaaDoor

/-
  Words of a class, purely: code points one by one, as the document goes.
-/
namespace Go.Proofs.YtndegcgcbhcokaaDoor
open Go
set_option linter.unusedVariables false
set_option linter.unusedSimpArgs false

/-- Hidden ones are passed over. -/
theorem spC_skip : ∀ (k c : Nat) (out : Wl), 55296 ≤ c → c ≤ 57344 → spC k c out = if 57344 ≤ c + k then spC (c + k - 57344) 57344 out else some out
  | 0, c, out, h1, h2 => by
    split
    · obtain rfl : c = 57344 := by omega
      rfl
    · rfl
  | k + 1, c, out, h1, h2 => by
    by_cases h : c = 57344
    · subst h
      rw [if_pos (by omega), show 57344 + (k + 1) - 57344 = k + 1 by omega]
    · have hh : hidB c = true := by simp [hidB]; omega
      rw [spC, if_pos hh, spC_skip k (c + 1) out (by omega) (by omega), show c + 1 + k = c + (k + 1) by omega]
theorem spC_jump {c B : Nat} (hc : c = 55296) (h : 57344 ≤ B) (out : Wl) : spC (B + 1 - c) c out = spC (B + 1 - 57344) 57344 out := by
  rw [spC_skip (B + 1 - c) c out (by omega) (by omega), if_pos (by omega), show c + (B + 1 - c) - 57344 = B + 1 - 57344 by omega]
theorem spC_past {c B : Nat} (hc : c = 55296) (h1 : c ≤ B) (h : ¬ 57344 ≤ B) (out : Wl) : spC (B + 1 - c) c out = some out := by
  rw [spC_skip (B + 1 - c) c out (by omega) (by omega)]
  by_cases h2 : 57344 ≤ c + (B + 1 - c)
  · rw [if_pos h2, show c + (B + 1 - c) - 57344 = 0 by omega, spC]
  · rw [if_neg h2]
def OkC (c : Nat) : Prop := c ≤ 55296 ∨ 57344 ≤ c
/-- Ranges that rise. -/
def RwS (l : Sn) : Prop := l.Pairwise (fun o s => o.2 < s.1) ∧ ∀ o ∈ l, o.1 ≤ o.2 ∧ OkC o.1 ∧ o.2 ≤ 1114111
theorem vc_ok {c : Nat} (h : Vc c) : OkC c ∧ c ≤ 1114111 := by unfold Vc at h; unfold OkC; omega
theorem tidy_rws : ∀ {l : Sn}, Tidy l → RwS l
  | [], _ => ⟨List.Pairwise.nil, fun o ho => by cases ho⟩
  | s :: t, h => by
    rw [Tidy] at h
    obtain ⟨h1, h2, h3, h4, h5⟩ := h
    obtain ⟨q1, q2⟩ := tidy_rws h5
    refine ⟨List.pairwise_cons.2 ⟨fun o ho => by have := h4 o ho; omega, q1⟩, fun o ho => ?_⟩
    rcases List.mem_cons.1 ho with e | ho
    · rw [e]; exact ⟨h1, (vc_ok h2).1, (vc_ok h3).2⟩
    · exact q2 o ho
theorem oth_rws : ∀ (l : Sn) (low : Nat), Tidy l → OkC low → (∀ o ∈ l, low ≤ o.1) → RwS (othS low l) ∧ ∀ o ∈ othS low l, low ≤ o.1
  | [], low, _, h2, _ => by
    rw [othS]
    split
    · exact ⟨⟨List.pairwise_singleton _ _, fun o ho => by rw [List.mem_singleton.1 ho]; exact ⟨by assumption, h2, Nat.le_refl _⟩⟩, fun o ho => by rw [List.mem_singleton.1 ho]; exact Nat.le_refl _⟩
    · exact ⟨⟨List.Pairwise.nil, fun o ho => by cases ho⟩, fun o ho => by cases ho⟩
  | s :: t, low, h1, h2, h3 => by
    rw [Tidy] at h1
    obtain ⟨a1, a2, a3, a4, a5⟩ := h1
    have hv3 := vc_ok a3
    have ok : OkC (s.2 + 1) := by unfold OkC; unfold Vc at a3; omega
    obtain ⟨⟨q1, q2⟩, q3⟩ := oth_rws t (s.2 + 1) a5 ok (fun o ho => by have := a4 o ho; omega)
    have hs := h3 s (by simp)
    have hv2 := vc_ok a2
    rw [othS]
    split
    · rename_i hl
      refine ⟨⟨List.pairwise_append.2 ⟨List.pairwise_singleton _ _, q1, fun o ho p hp => ?_⟩, fun o ho => ?_⟩, fun o ho => ?_⟩
      · rw [List.mem_singleton.1 ho]; have := q3 p hp; simp only; omega
      · rcases List.mem_append.1 ho with ho | ho
        · rw [List.mem_singleton.1 ho]; exact ⟨by simp only; omega, h2, by simp only; omega⟩
        · exact q2 o ho
      · rcases List.mem_append.1 ho with ho | ho
        · rw [List.mem_singleton.1 ho]; exact Nat.le_refl _
        · have := q3 o ho; omega
    · rw [List.nil_append]
      exact ⟨⟨q1, q2⟩, fun o ho => by have := q3 o ho; omega⟩
theorem oth0_rws {l : Sn} (h : Tidy l) : RwS (othS 0 l) := (oth_rws l 0 h (.inl (by omega)) (fun _ _ => Nat.zero_le _)).1

def cont (t : Sn) : Option Wl → Option Wl
  | some o => spF t o
  | none => none
theorem spF_cons (s : Nat × Nat) (t : Sn) (out : Wl) : spF (s :: t) out = cont t (spC (s.2 + 1 - s.1) s.1 out) := by
  rw [spF, cont.eq_def]
  cases spC (s.2 + 1 - s.1) s.1 out <;> rfl
/-- What is held between two ranges. -/
def CIx (l : Sn) (R : Option Wl) (i : Nat) (out : Wl) : Prop := (out.length = 17 ∧ R = none) ∨ (out.length ≤ 16 ∧ spF (l.drop i) out = R ∧ Rise out ∧ ∀ x ∈ out, ∃ d, Vc d ∧ x = str d ∧ ∀ o ∈ l.drop i, d < o.1)
/-- What is held within a range. -/
def CJx (o : Nat × Nat) (t : Sn) (R : Option Wl) (c : Nat) (out : Wl) : Prop := (out.length = 17 ∧ R = none) ∨ (out.length ≤ 16 ∧ cont t (spC (o.2 + 1 - c) c out) = R ∧ Rise out ∧ (∀ x ∈ out, ∃ d, Vc d ∧ x = str d ∧ d < c ∧ d ≤ o.2) ∧ OkC c)
theorem CIx.start {l : Sn} {R : Option Wl} (h : spF l [] = R) : CIx l R 0 [] := .inr ⟨by simp, by rw [List.drop_zero]; exact h, List.Pairwise.nil, fun x hx => by cases hx⟩
theorem CIx.len {l : Sn} {R : Option Wl} {i : Nat} {out : Wl} (h : CIx l R i out) : out.length ≤ 17 := by rcases h with h | h <;> omega
theorem CJx.len {o : Nat × Nat} {t : Sn} {R : Option Wl} {c : Nat} {out : Wl} (h : CJx o t R c out) : out.length ≤ 17 := by rcases h with h | h <;> omega
theorem drop_cons {l : Sn} {i : Nat} {o : Nat × Nat} (h : l[i]? = some o) : l.drop i = o :: l.drop (i + 1) := by
  have hl := (List.getElem?_eq_some_iff.1 h).1
  rw [List.drop_eq_getElem_cons hl]
  rw [List.getElem?_eq_getElem hl] at h
  injection h with h
  rw [h]
theorem CIx.go {l : Sn} {R : Option Wl} {i : Nat} {out : Wl} {o : Nat × Nat} (h : CIx l R i out) (ho : l[i]? = some o) (hr : RwS l) : CJx o (l.drop (i + 1)) R o.1 out := by
  rcases h with h | ⟨h1, h2, h3, h4⟩
  · exact .inl h
  · rw [drop_cons ho, spF_cons] at h2
    obtain ⟨z1, z2, z3⟩ := hr.2 o (List.mem_of_getElem? ho)
    refine .inr ⟨h1, h2, h3, fun x hx => ?_, z2⟩
    obtain ⟨d, d1, d2, d3⟩ := h4 x hx
    have := d3 o (by rw [drop_cons ho]; simp)
    exact ⟨d, d1, d2, this, by omega⟩
theorem CJx.fin {l : Sn} {R : Option Wl} {i c : Nat} {out : Wl} {o : Nat × Nat} (h : CJx o (l.drop (i + 1)) R c out) (ho : l[i]? = some o) (hr : RwS l) (he : o.2 < c ∨ 16 < out.length) : CIx l R (i + 1) out := by
  rcases h with h | ⟨h1, h2, h3, h4, h5⟩
  · exact .inl h
  · have hc : o.2 < c := by omega
    rw [show o.2 + 1 - c = 0 by omega, spC, cont] at h2
    refine .inr ⟨h1, h2, h3, fun x hx => ?_⟩
    obtain ⟨d, d1, d2, d3, d4⟩ := h4 x hx
    refine ⟨d, d1, d2, fun s hs => ?_⟩
    have hp := hr.1.sublist (List.drop_sublist i l)
    rw [drop_cons ho] at hp
    have := (List.pairwise_cons.1 hp).1 s hs
    omega
theorem CJx.put {o : Nat × Nat} {t : Sn} {R : Option Wl} {c c' : Nat} {out : Wl} (h : CJx o t R c out) (hl : out.length ≤ 16) (hc : c ≤ o.2) (hz : o.2 ≤ 1114111) (he : c' = if c = 55296 then 57344 else c) (hc' : c' ≤ o.2) : CJx o t R (c' + 1) (putF out (str c')) ∧ Rise out := by
  rcases h with h | ⟨h1, h2, h3, h4, h5⟩
  · omega
  · have hv : Vc c' := by
      unfold OkC at h5; unfold Vc
      split at he <;> omega
    have hle : c ≤ c' := by split at he <;> omega
    have hput : putF out (str c') = out ++ [str c'] := putF_end (fun y hy => by
      obtain ⟨d, d1, d2, d3, d4⟩ := h4 y hy
      rw [d2]
      exact str_ls (by omega) d1 hv)
    have hsp : spC (o.2 + 1 - c) c out = spC (o.2 + 1 - c') c' out := by
      by_cases hcc : c = 55296
      · rw [if_pos hcc] at he
        rw [he]
        exact spC_jump hcc (by omega) out
      · rw [if_neg hcc] at he; rw [he]
    have hh : hidB c' = false := by unfold Vc at hv; simp [hidB]; omega
    rw [hsp, spC_at hc', if_neg (by rw [hh]; simp)] at h2
    refine ⟨?_, h3⟩
    rw [hput]
    by_cases h16 : out.length = 16
    · rw [if_pos h16, cont] at h2
      exact .inl ⟨by simp [h16], h2.symm⟩
    · rw [if_neg h16] at h2
      refine .inr ⟨by simp; omega, h2, ?_, fun x hx => ?_, ?_⟩
      · rw [← hput]; exact putF_rise h3 _
      · rcases List.mem_append.1 hx with hx | hx
        · obtain ⟨d, d1, d2, d3, d4⟩ := h4 x hx
          exact ⟨d, d1, d2, by omega, d4⟩
        · rw [List.mem_singleton.1 hx]; exact ⟨c', hv, rfl, by omega, hc'⟩
      · unfold Vc at hv; unfold OkC; omega
theorem CJx.pass {o : Nat × Nat} {t : Sn} {R : Option Wl} {c : Nat} {out : Wl} (h : CJx o t R c out) (hcc : c = 55296) (hc : c ≤ o.2) (hc' : ¬ 57344 ≤ o.2) : CJx o t R (57344 + 1) out := by
  rcases h with h | ⟨h1, h2, h3, h4, h5⟩
  · exact .inl h
  · rw [spC_past hcc hc hc'] at h2
    refine .inr ⟨h1, ?_, h3, fun x hx => ?_, .inr (by omega)⟩
    · rw [show o.2 + 1 - (57344 + 1) = 0 by omega, spC]; exact h2
    · obtain ⟨d, d1, d2, d3, d4⟩ := h4 x hx
      exact ⟨d, d1, d2, by omega, d4⟩
theorem CIx.done {l : Sn} {R : Option Wl} {out : Wl} (h : CIx l R l.length out) : (out.length ≤ 16 ∧ R = some out ∧ Rise out) ∨ (16 < out.length ∧ R = none) := by
  rcases h with h | ⟨h1, h2, h3, h4⟩
  · exact .inr ⟨by omega, h.2⟩
  · rw [List.drop_length, spF] at h2
    exact .inl ⟨h1, h2.symm, h3⟩
theorem spF_any : spF (othS 0 []) [] = none := by
  rw [show othS 0 [] = [(0, 1114111)] from rfl, spF_cons]
  rw [show (1114111 + 1 - 0) = 1114095 + 17 from rfl]
  rfl
theorem spF_chr {c : Nat} (h : Vc c) : spF [(c, c)] [] = some [str c] := by
  have hh : hidB c = false := by unfold Vc at h; simp [hidB]; omega
  rw [spF_cons]
  simp only
  rw [spC_at (Nat.le_refl c), if_neg (by rw [hh]; simp), if_neg (by simp), show c + 1 - (c + 1) = 0 by omega, spC, cont, spF]
  rfl

end Go.Proofs.YtndegcgcbhcokaaDoor

/-
  The document's reader, purely: code points with their places, and how they stand to the bytes.
-/
namespace Go.Proofs.YtndegcgcbhcokaaDoor
open Go
set_option linter.unusedVariables false
set_option linter.unusedSimpArgs false

/-- From a place on: the code points (-2: no UTF-8, and the last one), and the places, of the end too. -/
inductive Rn (S : List UInt8) : Nat → List Int → List Nat → Prop
  | fin : Rn S S.length [] [S.length]
  | bad (a : Nat) (h : a < S.length) (hf : fp (S.drop a) = none) : Rn S a [-2] [a, a]
  | step (a c k : Nat) (cs : List Int) (ps : List Nat) (hf : fp (S.drop a) = some (c, k)) (h : Rn S (a + k) cs ps) : Rn S a ((c : Int) :: cs) (a :: ps)

theorem fp_ascii {S : List UInt8} {a : Nat} {x : UInt8} (hx : x.toNat < 128) (h : S[a]? = some x) : fp (S.drop a) = some (x.toNat, 1) := by
  have hl := (List.getElem?_eq_some_iff.1 h).1
  have hd : S.drop a = x :: S.drop (a + 1) := by
    rw [List.drop_eq_getElem_cons hl]
    rw [List.getElem?_eq_getElem hl] at h
    injection h with h
    rw [h]
  have hv : Vc x.toNat := by unfold Vc; omega
  have he : enc x.toNat = [x] := by
    rw [enc_eq hv, if_pos hx]
    unfold b8
    simp
  exact fp_some.2 ⟨hv, by rw [he]; rfl, S.drop (a + 1), by rw [he, hd]; rfl⟩
theorem fp_ascii' {S : List UInt8} {a k : Nat} {x : UInt8} (hx : x.toNat < 128) (h : fp (S.drop a) = some (x.toNat, k)) : S[a]? = some x ∧ k = 1 := by
  obtain ⟨hv, hk, t, ht⟩ := fp_some.1 h
  have he : enc x.toNat = [x] := by
    rw [enc_eq hv, if_pos hx]
    unfold b8
    simp
  rw [he] at ht hk
  have h0 : (S.drop a)[0]? = some x := by rw [ht]; rfl
  rw [List.getElem?_drop] at h0
  exact ⟨by simpa using h0, hk⟩
theorem Rn.len {S : List UInt8} {a : Nat} {cs : List Int} {ps : List Nat} (h : Rn S a cs ps) : ps.length = cs.length + 1 ∧ ps[0]? = some a ∧ a ≤ S.length := by
  induction h with
  | fin => exact ⟨rfl, rfl, Nat.le_refl _⟩
  | bad a h hf => exact ⟨rfl, rfl, Nat.le_of_lt h⟩
  | step a c k cs ps hf h ih =>
    refine ⟨by simp [ih.1], rfl, ?_⟩
    have := ih.2.2
    omega
/-- The code point that stands here. -/
def hd (cs : List Int) : Int := cs.head?.getD (-1)
theorem Rn.hd_eq {S : List UInt8} {a : Nat} {cs : List Int} {ps : List Nat} (h : Rn S a cs ps) (x : UInt8) (hx : x.toNat < 128) : hd cs = (x.toNat : Int) ↔ S[a]? = some x := by
  cases h with
  | fin =>
    rw [List.getElem?_eq_none (Nat.le_refl _)]
    simp [hd]
  | bad a h hf =>
    constructor
    · intro e; simp [hd] at e
    · intro e; rw [fp_ascii hx e] at hf; cases hf
  | step a c k cs ps hf h =>
    constructor
    · intro e
      have e' : c = x.toNat := by simp [hd] at e; omega
      rw [e'] at hf
      exact (fp_ascii' hx hf).1
    · intro e
      rw [fp_ascii hx e] at hf
      injection hf with hf
      injection hf with e1 e2
      simp [hd, e1]
theorem Rn.hd_none {S : List UInt8} {a : Nat} {cs : List Int} {ps : List Nat} (h : Rn S a cs ps) : hd cs = -1 ↔ S[a]? = none := by
  cases h with
  | fin => simp [hd]
  | bad a h hf => simp [hd, h]
  | step a c k cs ps hf h =>
    have := fp_len hf
    rw [List.length_drop] at this
    have h1 : a < S.length := by omega
    simp [hd, h1]
/-- An ASCII letter that stands here: the next place. -/
theorem Rn.next {S : List UInt8} {a : Nat} {cs : List Int} {ps : List Nat} (h : Rn S a cs ps) (x : UInt8) (hx : x.toNat < 128) (e : S[a]? = some x) : Rn S (a + 1) (cs.drop 1) (ps.drop 1) := by
  cases h with
  | fin => rw [List.getElem?_eq_none (Nat.le_refl _)] at e; cases e
  | bad a h hf => rw [fp_ascii hx e] at hf; cases hf
  | step a c k cs ps hf h =>
    rw [fp_ascii hx e] at hf
    injection hf with hf
    injection hf with e1 e2
    subst e2
    exact h
/-- What stands here: a code point, or none. -/
theorem Rn.fp {S : List UInt8} {a : Nat} {cs : List Int} {ps : List Nat} (h : Rn S a cs ps) : (∃ c k, fp (S.drop a) = some (c, k) ∧ hd cs = (c : Int) ∧ Vc c ∧ Rn S (a + k) (cs.drop 1) (ps.drop 1)) ∨ (fp (S.drop a) = none ∧ (hd cs = -1 ∨ hd cs = -2)) := by
  cases h with
  | fin =>
    right
    refine ⟨?_, .inl rfl⟩
    rw [List.drop_length]
    unfold Go.Proofs.YtndegcgcbhcokaaDoor.fp fpG
    rw [if_pos rfl]
  | bad a h hf => exact .inr ⟨hf, .inr rfl⟩
  | step a c k cs ps hf h => exact .inl ⟨c, k, hf, by simp [hd], (fp_some.1 hf).1, h⟩
theorem Rn.last {S : List UInt8} {a : Nat} {cs : List Int} {ps : List Nat} (h : Rn S a cs ps) : cs = [] ↔ a = S.length := by
  cases h with
  | fin => simp
  | bad a h hf => simp; omega
  | step a c k cs ps hf h =>
    have := fp_len hf
    rw [List.length_drop] at this
    simp
    omega

end Go.Proofs.YtndegcgcbhcokaaDoor

/-
  The document's reader in memory: place, fail, peek, sign.
-/
namespace Go.Proofs.YtndegcgcbhcokaaDoor
open Go.RowKit
set_option linter.unusedVariables false
set_option linter.unusedSimpArgs false

/-- What the reader reads: code points and places, where they lie. -/
structure Rx where
  ra : Option Addr
  rc : Nat
  ac : Nat
  rb : Nat
  ab : Nat
  rl : List Int
  al : List Nat
/-- The reader: where it stands, how many brackets are open, the fault's place. -/
structure Rr (w : World) (g : Nat) (X : Rx) (i d : Nat) (bad : Int) : Prop where
  blk : Blk w g 64 [.slice X.ra X.rl.length X.rc, .slice (some ⟨X.ab, 0, none⟩) X.al.length X.ac, .int .i64 (i : Int), .int .i64 (d : Int), .int .i64 bad]
  rs : ∀ (j : Nat) (c : Int), X.rl[j]? = some c → X.ra = some ⟨X.rb, 0, none⟩ ∧ w.cell? ⟨X.rb, j, none⟩ = some (.int .i32 c)
  asx : ∀ (j a : Nat), X.al[j]? = some a → w.cell? ⟨X.ab, j, none⟩ = some (.int .i64 (a : Int))
  nr : X.rb ≠ g ∧ X.ab ≠ g
  sz : X.rl.length ≤ 1000 ∧ X.al.length ≤ 1001 ∧ i ≤ 1001 ∧ d ≤ 1000
theorem Rr.chg {F : Nat → Prop} {w w' : World} {g : Nat} {X : Rx} {i d : Nat} {bad : Int} (h : Rr w g X i d bad) (hc : Chg F w w') (hg : ¬ F g) (hr : ¬ F X.rb) (ha : ¬ F X.ab) : Rr w' g X i d bad := by
  refine ⟨hc.blk h.blk hg, fun j c hj => ⟨(h.rs j c hj).1, ?_⟩, fun j a hj => ?_, h.nr, h.sz⟩
  · have := (h.rs j c hj).2
    rw [World.cell?_of_block (hc.block _ (cell_lt this) hr)]
    exact this
  · have := h.asx j a hj
    rw [World.cell?_of_block (hc.block _ (cell_lt this) ha)]
    exact this
theorem Rr.later {w w' : World} {g : Nat} {X : Rx} {i d : Nat} {bad : Int} (h : Rr w g X i d bad) (hb : Below w.heap.size w w') : Rr w' g X i d bad :=
  h.chg (Chg.of_below (F := fun _ => False) hb) (fun h => h) (fun h => h) (fun h => h)
theorem Rr.set {w : World} {g : Nat} {X : Rx} {i d : Nat} {bad : Int} (h : Rr w g X i d bad) (k : Nat) (v : Value) {i' d' : Nat} {bad' : Int} (hl : [.slice X.ra X.rl.length X.rc, .slice (some ⟨X.ab, 0, none⟩) X.al.length X.ac, .int .i64 (i : Int), .int .i64 (d : Int), .int .i64 bad].set k v = [.slice X.ra X.rl.length X.rc, .slice (some ⟨X.ab, 0, none⟩) X.al.length X.ac, .int .i64 (i' : Int), .int .i64 (d' : Int), .int .i64 bad']) (hi : i' ≤ 1001 ∧ d' ≤ 1000) :
    Rr (w.setCell ⟨g, k, none⟩ v) g X i' d' bad' := by
  refine ⟨by rw [← hl]; exact h.blk.set k v, fun j c hj => ⟨(h.rs j c hj).1, ?_⟩, fun j a hj => ?_, h.nr, ⟨h.sz.1, h.sz.2.1, hi.1, hi.2⟩⟩
  · have := (h.rs j c hj).2
    rw [World.cell?_of_block ((Chg.set ⟨g, k, none⟩ v w).block _ (cell_lt this) h.nr.1)]
    exact this
  · have := h.asx j a hj
    rw [World.cell?_of_block ((Chg.set ⟨g, k, none⟩ v w).block _ (cell_lt this) h.nr.2)]
    exact this
theorem Rr.setI {w : World} {g : Nat} {X : Rx} {i d : Nat} {bad : Int} (h : Rr w g X i d bad) (j : Nat) (hj : j ≤ 1001) : Rr (w.setCell ⟨g, 2, none⟩ (.int .i64 (j : Int))) g X j d bad := h.set 2 _ rfl ⟨hj, h.sz.2.2.2⟩
theorem Rr.setD {w : World} {g : Nat} {X : Rx} {i d : Nat} {bad : Int} (h : Rr w g X i d bad) (j : Nat) (hj : j ≤ 1000) : Rr (w.setCell ⟨g, 3, none⟩ (.int .i64 (j : Int))) g X i j bad := h.set 3 _ rfl ⟨h.sz.2.2.1, hj⟩
theorem Rr.setB {w : World} {g : Nat} {X : Rx} {i d : Nat} {bad : Int} (h : Rr w g X i d bad) (j : Int) : Rr (w.setCell ⟨g, 4, none⟩ (.int .i64 j)) g X i d j := h.set 4 _ rfl ⟨h.sz.2.2.1, h.sz.2.2.2⟩

set_option maxRecDepth 100000 in
set_option maxHeartbeats 4000000 in
theorem placeR {g : Nat} {X : Rx} {i d : Nat} {bad : Int} (a : Nat) (w : World) (h : Rr w g X i d bad) (ha : X.al[i]? = some a) :
    Calls Tryd.prog 17 #[.pointer (some ⟨g, 0, none⟩)] w fun e w' => e = .returned (.int .i64 (a : Int)) ∧ Below w.heap.size w w' := by
  have c1 : w.cell? ⟨g, 1, none⟩ = some (.slice (some ⟨X.ab, 0, none⟩) X.al.length X.ac) := h.blk.cell 1
  have c2 : w.cell? ⟨g, 2, none⟩ = some (.int .i64 (i : Int)) := h.blk.cell 2
  have c3 := h.asx i a ha
  have hl : i < X.al.length := (List.getElem?_eq_some_iff.1 ha).1
  generalize X.al.length = n at c1 hl
  have hlz : (i : Int) < (n : Int) := by omega
  have c3' : w.cell? ⟨X.ab, 0 + i, none⟩ = some (.int .i64 (a : Int)) := by rw [Nat.zero_add]; exact c3
  clear h ha
  go_enter Tryd.func17, Tryd.ntmps17
  go_wp2_with fail
  go_quiet (fail)
  go_wp2
  go_ret
  exact ⟨rfl, below_drewN (Below.refl _ _) _⟩

set_option maxRecDepth 100000 in
set_option maxHeartbeats 4000000 in
theorem failR {g : Nat} {X : Rx} {i d : Nat} {bad : Int} (k : Int) (w : World) (h : Rr w g X i d bad) :
    Calls Tryd.prog 16 #[.pointer (some ⟨g, 0, none⟩), .int .i64 k] w fun e w' => e = .returned (.tuple #[]) ∧ Rr w' g X i d (if bad < 0 then k else bad) ∧ Chg (fun b => b = g) w w' := by
  have c4 : w.cell? ⟨g, 4, none⟩ = some (.int .i64 bad) := h.blk.cell 4
  have f4 := h.blk.frozen 4
  have HH := hidden h
  clear h
  by_cases hb : bad < 0
  · rw [if_pos hb]
    go_enter Tryd.func16, Tryd.ntmps16
    go_wp2
    go_end0
    exact ⟨rfl, HH.out.setB k, Chg.set ⟨g, 4, none⟩ _ _⟩
  · rw [if_neg hb]
    go_enter Tryd.func16, Tryd.ntmps16
    go_wp2
    go_end0
    exact ⟨rfl, HH.out, Chg.refl _ _⟩

/-- What peek tells. -/
def pk (X : Rx) (i : Nat) (bad : Int) : Int := if 0 ≤ bad then -1 else X.rl[i]?.getD (-1)
set_option maxRecDepth 100000 in
set_option maxHeartbeats 4000000 in
theorem peekR {g : Nat} {X : Rx} {i d : Nat} {bad : Int} (w : World) (h : Rr w g X i d bad) (c : Int) (hc : pk X i bad = c) :
    Calls Tryd.prog 30 #[.pointer (some ⟨g, 0, none⟩)] w fun e w' => e = .returned (.int .i32 c) ∧ Below w.heap.size w w' := by
  subst hc
  unfold pk
  have c0 : w.cell? ⟨g, 0, none⟩ = some (.slice X.ra X.rl.length X.rc) := h.blk.cell 0
  have c2 : w.cell? ⟨g, 2, none⟩ = some (.int .i64 (i : Int)) := h.blk.cell 2
  have c4 : w.cell? ⟨g, 4, none⟩ = some (.int .i64 bad) := h.blk.cell 4
  by_cases hb : 0 ≤ bad
  · rw [if_pos hb]
    have hd : decide (0 ≤ bad) = true := decide_eq_true hb
    clear h c0 c2
    go_enter Tryd.func30, Tryd.ntmps30
    go_wp2_with fail
    go_quiet (fail)
    go_wp2
    go_ret
    exact ⟨rfl, below_drewN (Below.refl _ _) _⟩
  · rw [if_neg hb]
    have hd : decide (0 ≤ bad) = false := decide_eq_false hb
    obtain ⟨n, hn⟩ : ∃ n, X.rl.length = n := ⟨_, rfl⟩
    rw [hn] at c0
    by_cases hi : i < n
    · have hiz : ¬ (n : Int) ≤ (i : Int) := by omega
      have hiy : (i : Int) < (n : Int) := by omega
      have hdz : decide (n ≤ i) = false := decide_eq_false (by omega)
      obtain ⟨c, hc⟩ : ∃ c, X.rl[i]? = some c := ⟨_, List.getElem?_eq_getElem (by omega)⟩
      obtain ⟨e0, c3⟩ := h.rs i c hc
      rw [e0] at c0
      have c3' : w.cell? ⟨X.rb, 0 + i, none⟩ = some (.int .i32 c) := by rw [Nat.zero_add]; exact c3
      rw [hc, Option.getD_some]
      clear h hn hc e0
      go_enter Tryd.func30, Tryd.ntmps30
      go_wp2_with fail
      go_quiet (fail)
      rename_i nq
      have HB : Hid (Below w.heap.size w (w.drewN nq)) := hidden (below_drewN (Below.refl _ _) _)
      have c0' : (w.drewN nq).cell? ⟨g, 0, none⟩ = _ := c0
      have c2' : (w.drewN nq).cell? ⟨g, 2, none⟩ = _ := c2
      have c4' : (w.drewN nq).cell? ⟨X.rb, 0 + i, none⟩ = _ := c3'
      have c5' : (w.drewN nq).cell? ⟨X.rb, i, none⟩ = _ := c3
      generalize w.drewN nq = w1 at *
      go_wp2_with fail
      go_quiet (fail)
      go_wp2
      go_ret
      exact ⟨rfl, below_drewN HB.out _⟩
    · have hiz : (n : Int) ≤ (i : Int) := by omega
      have hdz : decide (n ≤ i) = true := decide_eq_true (by omega)
      rw [List.getElem?_eq_none (by omega), Option.getD_none]
      clear h hn
      go_enter Tryd.func30, Tryd.ntmps30
      go_wp2_with fail
      go_quiet (fail)
      go_wp2
      go_ret
      exact ⟨rfl, below_drewN (Below.refl _ _) _⟩

def sgL : List UInt8 := [92, 46, 91, 93, 40, 41, 124, 42, 43, 63, 94, 45]
/-- Is a code point (or -1, -2) a sign? -/
def sgZ (c : Int) : Bool := sgL.any (fun x => (x.toNat : Int) == c)
theorem sgZ_nat (c : Nat) : sgZ (c : Int) = isSg c := by
  unfold sgZ sgL isSg
  simp only [List.any_cons, List.any_nil, Bool.or_false, Bool.or_assoc]
  have key : ∀ n : Nat, ((n : Int) == (c : Int)) = (c == n) := fun n => by
    rw [Bool.eq_iff_iff]; simp; omega
  simp only [key]
  rfl
theorem sgZ_neg {c : Int} (h : c = -1 ∨ c = -2) : sgZ c = false := by
  rcases h with rfl | rfl <;> decide

set_option maxRecDepth 100000 in
set_option maxHeartbeats 4000000 in
theorem signR (c : Int) (w : World) (R : Bool) (hR : sgZ c = R) : Calls Tryd.prog 66 #[.int .i32 c] w fun e w' => e = .returned (.bool R) ∧ Below w.heap.size w w' := by
  obtain ⟨s, hs⟩ : ∃ s : ByteArray, s = { data := #[92, 46, 91, 93, 40, 41, 124, 42, 43, 63, 94, 45] } := ⟨_, rfl⟩
  have hb : bts s = sgL := by rw [hs]; rfl
  have hz : s.size = 12 := by rw [hs]; rfl
  have HR : Hid ((sgL.drop 0).any (fun x => (x.toNat : Int) == c) = R) := hidden hR
  clear hR
  go_enter Tryd.func66, Tryd.ntmps66
  go_wp2_with fail
  rw [← hs]
  have HB := hidden hb
  have HZ := hidden hz
  clear hs hb
  go_loopw [4] (fun s4 wx => ∃ i : Nat, s4 = .int .i64 (i : Int) ∧ i ≤ 12 ∧ Hid ((sgL.drop i).any (fun x => (x.toNat : Int) == c) = R) ∧ wx = w) (fun s4 _ => 12 - (intOf s4).toNat)
  case atStart => exact ⟨0, rfl, by omega, HR, rfl⟩
  case round =>
    rename World => wr
    obtain ⟨i, rfl, hi, hrel, rfl⟩ := hrel
    by_cases hlt : i < 12
    · have hls : i < s.size := by omega
      have hltz : (i : Int) < (s.size : Int) := by omega
      obtain ⟨x, hx, hx2⟩ := byte_at s hls
      have hd : Hid (sgL.drop i = x :: sgL.drop (i + 1)) := hidden (by
        rw [HB.out] at hx2
        obtain ⟨hl, e⟩ := List.getElem?_eq_some_iff.1 hx2
        rw [← e]; exact List.drop_eq_getElem_cons hl)
      have hx8 := x.toNat_lt
      clear hx2
      by_cases hc : (x.toNat : Int) = c
      · have hE : Hid (R = true) := hidden (by rw [← hrel.out, hd.out, List.any_cons]; simp [hc])
        clear hrel hd
        go_wp2
        go_ret
        exact ⟨by rw [hE.out]; rfl, Below.refl _ _⟩
      · have hE : Hid ((sgL.drop (i + 1)).any (fun x => (x.toNat : Int) == c) = R) := hidden (by rw [← hrel.out, hd.out, List.any_cons]; simp [hc])
        clear hrel hd
        go_wp2
        refine ⟨⟨i + 1, by first | rfl | simp, by omega, hE, by first | rfl | trivial⟩, ?_⟩
        simp [intOf]
        omega
    · have hltz : ¬ (i : Int) < (s.size : Int) := by omega
      have hE : Hid (R = false) := hidden (by rw [← hrel.out, List.drop_of_length_le (by simp [sgL]; omega)]; rfl)
      clear hrel
      go_wp2
      go_ret
      exact ⟨by rw [hE.out]; rfl, Below.refl _ _⟩

end Go.Proofs.YtndegcgcbhcokaaDoor
