/-
  Reading a text, purely: a machine of ten states, one byte a step; what it says of a fault's place; what is printed is read.
-/
import Derived.Test.YtpdffdoogobhfaaDoorLbM
namespace Go.Proofs.YtpdffdoogobhfaaDoor
open Go

/-- What the labels so far tell: those ahead of the first wrong one, and that one's place. -/
structure Jd where
  ls : List Lb
  bad : Option Nat

/-- May x not stand behind l? -/
def wrongL (l : List Lb) (x : Lb) : Bool := decide (l.length = 8) || l.any (fun y => decide (bts y.n = bts x.n)) || !x.fits
def Jd.add (J : Jd) (x : Lb) (p : Nat) : Jd :=
  match J.bad with
  | some _ => J
  | none => if wrongL J.ls x then ⟨J.ls, some p⟩ else ⟨J.ls ++ [x], none⟩

inductive St where
  | s0
  | s1
  | s2 (J : Jd)
  | wd (J : Jd) (p : Nat) (a : List UInt8)
  | s3 (J : Jd) (p : Nat) (a : List UInt8)
  | s4 (J : Jd) (p : Nat) (a : List UInt8)
  | qt (J : Jd) (p : Nat) (a b : List UInt8)
  | es (J : Jd) (p : Nat) (a b : List UInt8)
  | s5 (J : Jd)
  | s6 (J : Jd)

def step (i : Nat) (c : UInt8) : St → Option St
  | .s0 => if c = 32 then some .s0 else if c = 123 then some .s1 else none
  | .s1 => if c = 32 then some .s1 else if c = 125 then some (.s6 ⟨[], some i⟩) else if lett c then some (.wd ⟨[], none⟩ i [c]) else none
  | .s2 J => if c = 32 then some (.s2 J) else if lett c then some (.wd J i [c]) else none
  | .wd J p a => if lead false c then some (.wd J p (a ++ [c])) else if c = 32 then some (.s3 J p a) else if c = 61 then some (.s4 J p a) else none
  | .s3 J p a => if c = 32 then some (.s3 J p a) else if c = 61 then some (.s4 J p a) else none
  | .s4 J p a => if c = 32 then some (.s4 J p a) else if c = 34 then some (.qt J p a []) else none
  | .qt J p a b => if c = 34 then some (.s5 (J.add ⟨oft a, oft b⟩ p)) else if c = 10 then none else if c = 92 then some (.es J p a b) else some (.qt J p a (b ++ [c]))
  | .es J p a b => if c = 92 ∨ c = 34 then some (.qt J p a (b ++ [c])) else if c = 110 then some (.qt J p a (b ++ [10])) else none
  | .s5 J => if c = 32 then some (.s5 J) else if c = 125 then some (.s6 J) else if c = 44 then some (.s2 J) else none
  | .s6 J => if c = 32 then some (.s6 J) else none

inductive Rs where
  | fault (i : Nat)
  | done (J : Jd)

def St.end (i : Nat) : St → Rs
  | .s6 J => .done J
  | _ => .fault i
def run : List UInt8 → Nat → St → Rs
  | [], i, st => st.end i
  | c :: t, i, st => match step i c st with
    | none => .fault i
    | some st' => run t (i + 1) st'
theorem run_nil (i : Nat) (st : St) : run [] i st = st.end i := rfl
theorem run_none {c : UInt8} {t : List UInt8} {i : Nat} {st : St} (h : step i c st = none) : run (c :: t) i st = .fault i := by simp [run, h]
theorem run_some {c : UInt8} {t : List UInt8} {i : Nat} {st st' : St} (h : step i c st = some st') : run (c :: t) i st = run t (i + 1) st' := by simp [run, h]

/-- What Parse answers: the labels, or a fault's place. -/
def Rs.told : Rs → Nat ⊕ List Lb
  | .fault i => .inl i
  | .done J => match J.bad with
    | some p => .inl p
    | none => .inr (srt J.ls)
def parseL (s : List UInt8) : Nat ⊕ List Lb := (run s 0 .s0).told

/-! ### a fault's place hangs on what stands ahead of it -/
theorem run_fault : ∀ (s : List UInt8) (i : Nat) (st : St) (k : Nat), run s i st = .fault (i + k) → k < s.length → ∀ s', (∀ j, j ≤ k → s'[j]? = s[j]?) → run s' i st = .fault (i + k)
  | [], _, _, k, _, hk, _, _ => by simp at hk
  | c :: t, i, st, k, h, hk, s', ha => by
    have h0 := ha 0 (Nat.zero_le _)
    obtain ⟨t', rfl⟩ : ∃ t', s' = c :: t' := by
      cases s' with
      | nil => simp at h0
      | cons d u => simp at h0; exact ⟨u, by rw [h0]⟩
    cases hs : step i c st with
    | none =>
      rw [run_none hs] at h ⊢; exact h
    | some st' =>
      rw [run_some hs] at h ⊢
      cases k with
      | zero =>
        exfalso
        have key : ∀ (u : List UInt8) (m : Nat) (q : St), run u m q = .fault i → m ≤ i := by
          intro u
          induction u with
          | nil => intro m q hq; cases q <;> simp [run_nil, St.end] at hq <;> omega
          | cons d u ih =>
            intro m q hq
            cases hq' : step m d q with
            | none => rw [run_none hq'] at hq; injection hq with hq; omega
            | some q' => rw [run_some hq'] at hq; have := ih _ _ hq; omega
        have := key _ _ _ h
        omega
      | succ k =>
        rw [show i + (k + 1) = (i + 1) + k by omega] at h ⊢
        refine run_fault t (i + 1) st' k h (by simpa using hk) t' fun j hj => ?_
        have := ha (j + 1) (by omega)
        simpa using this

def Jd.pl (J : Jd) (p : Nat) : Prop := J.bad = some p
def St.pl (q : Nat) : St → Prop
  | .s0 => False
  | .s1 => False
  | .s2 J => J.bad = some q
  | .wd J p _ => J.bad = some q ∨ p = q
  | .s3 J p _ => J.bad = some q ∨ p = q
  | .s4 J p _ => J.bad = some q ∨ p = q
  | .qt J p _ _ => J.bad = some q ∨ p = q
  | .es J p _ _ => J.bad = some q ∨ p = q
  | .s5 J => J.bad = some q
  | .s6 J => J.bad = some q
theorem Jd.add_bad {J : Jd} {x : Lb} {p q : Nat} (h : (J.add x p).bad = some q) : J.bad = some q ∨ p = q := by
  unfold Jd.add at h
  split at h
  · exact Or.inl h
  · split at h
    · exact Or.inr (by simpa using h)
    · simp at h
/-- A new place is that of a letter, or of the '}' of a text without labels. -/
theorem step_pl {i : Nat} {c : UInt8} {st st' : St} {q : Nat} (h : step i c st = some st') (hq : st'.pl q) : st.pl q ∨ (q = i ∧ (lett c = true ∨ (c = 125 ∧ st' = .s6 ⟨[], some i⟩))) := by
  cases st <;> simp only [step] at h <;> (repeat' split at h) <;> first | (cases h; done) | skip
  all_goals (injection h with h; subst h; simp only [St.pl] at hq ⊢)
  all_goals first
    | exact Or.inl hq
    | (rename_i hl; simp only [reduceCtorEq, false_or] at hq; exact Or.inr ⟨hq.symm, Or.inl hl⟩)
    | (simp only [Option.some.injEq] at hq; exact Or.inr ⟨hq.symm, Or.inr ⟨by assumption, trivial⟩⟩)
    | (rename_i hl; rcases hq with hq | hq
       · exact Or.inl hq
       · exact Or.inr ⟨hq.symm, Or.inl hl⟩)
    | exact Or.inl (Jd.add_bad hq)
    | exact Or.inl (Or.inl hq)
    | skip

theorem run_s6 : ∀ (s : List UInt8) (i : Nat) (J : Jd) (p : Nat), J.bad = some p → ∃ q, (run s i (.s6 J)).told = .inl q
  | [], i, J, p, h => ⟨p, by simp [run_nil, St.end, Rs.told, h]⟩
  | c :: t, i, J, p, h => by
    by_cases hc : c = 32
    · rw [run_some (st' := .s6 J) (by simp [step, hc])]; exact run_s6 t _ J p h
    · rw [run_none (by simp [step, hc])]; exact ⟨i, rfl⟩

theorem run_bad : ∀ (s : List UInt8) (i : Nat) (st : St) (J : Jd) (p : Nat), run s i st = .done J → J.bad = some p →
    st.pl p ∨ (i ≤ p ∧ ∃ c, s[p - i]? = some c ∧ (lett c = true ∨ (c = 125 ∧ ∀ s', (∀ j, j ≤ p - i → s'[j]? = s[j]?) → ∃ q, (run s' i st).told = .inl q)))
  | [], i, st, J, p, h, hb => by
    left
    cases st <;> simp [run_nil, St.end] at h
    subst h; exact hb
  | c :: t, i, st, J, p, h, hb => by
    cases hs : step i c st with
    | none => rw [run_none hs] at h; cases h
    | some st' =>
      rw [run_some hs] at h
      rcases run_bad t (i + 1) st' J p h hb with hp | ⟨hi, d, hd, hD⟩
      · rcases step_pl hs hp with hp | ⟨rfl, hl | ⟨h125, rfl⟩⟩
        · exact Or.inl hp
        · exact Or.inr ⟨Nat.le_refl _, c, by simp, Or.inl hl⟩
        · refine Or.inr ⟨Nat.le_refl _, c, by simp, Or.inr ⟨h125, fun s' ha => ?_⟩⟩
          have h0 := ha 0 (Nat.zero_le _)
          obtain ⟨t', rfl⟩ : ∃ t', s' = c :: t' := by
            cases s' with
            | nil => simp at h0
            | cons d u => simp at h0; exact ⟨u, by rw [h0]⟩
          rw [run_some hs]
          exact run_s6 t' _ _ _ rfl
      · refine Or.inr ⟨by omega, d, ?_, ?_⟩
        · rw [show p - i = (p - (i + 1)) + 1 by omega, List.getElem?_cons_succ]; exact hd
        · rcases hD with hD | hD
          · exact Or.inl hD
          · refine Or.inr ⟨hD.1, ?_⟩
            intro s' ha
            have h0 := ha 0 (Nat.zero_le _)
            obtain ⟨t', rfl⟩ : ∃ t', s' = c :: t' := by
              cases s' with
              | nil => simp at h0
              | cons d u => simp at h0; exact ⟨u, by rw [h0]⟩
            rw [run_some hs]
            refine hD.2 t' fun j hj => ?_
            have := ha (j + 1) (by omega)
            simpa using this

/-- A fault's place lies within the text. -/
theorem run_place : ∀ (s : List UInt8) (i : Nat) (st : St) (k : Nat), run s i st = .fault k → i ≤ k ∧ k ≤ i + s.length
  | [], i, st, k, h => by
    cases st <;> simp [run_nil, St.end] at h <;> simp <;> omega
  | c :: t, i, st, k, h => by
    cases hs : step i c st with
    | none => rw [run_none hs] at h; injection h with h; simp; omega
    | some st' => rw [run_some hs] at h; have := run_place t _ _ _ h; simp; omega

/-- THE THREE WAYS of a fault within a text. -/
theorem parse_fault (s : List UInt8) (p : Nat) (h : parseL s = .inl p) : p ≤ s.length ∧ (p < s.length → ∃ c, s[p]? = some c ∧
    (lett c = true ∨ (∀ s', (∀ j, j ≤ p → s'[j]? = s[j]?) → ∃ q, parseL s' = .inl q ∧ (c ≠ 125 → q = p)))) := by
  unfold parseL at h
  cases hr : run s 0 .s0 with
  | fault k =>
    rw [hr] at h; simp only [Rs.told, Sum.inl.injEq] at h; subst h
    refine ⟨by have := (run_place s 0 _ k hr).2; omega, fun hk => ⟨s[k], by simp [hk], Or.inr fun s' ha => ⟨k, ?_, fun _ => rfl⟩⟩⟩
    have := run_fault s 0 .s0 k (by simpa using hr) hk s' ha
    unfold parseL; rw [this]; simp [Rs.told]
  | done J =>
    rw [hr] at h
    cases hb : J.bad with
    | none => simp [Rs.told, hb] at h
    | some k =>
      simp only [Rs.told, hb, Sum.inl.injEq] at h; subst h
      rcases run_bad s 0 .s0 J k hr hb with hp | ⟨_, c, hc, hC⟩
      · exact absurd hp (by simp [St.pl])
      · have hk : k < s.length := by
          rw [Nat.sub_zero] at hc
          rcases Nat.lt_or_ge k s.length with h | h
          · exact h
          · rw [List.getElem?_eq_none h] at hc; cases hc
        refine ⟨by omega, fun _ => ⟨c, by simpa using hc, ?_⟩⟩
        rcases hC with hC | hC
        · exact Or.inl hC
        · right
          intro s' ha
          obtain ⟨q, hq⟩ := hC.2 s' (by simpa using ha)
          exact ⟨q, hq, fun h => absurd hC.1 h⟩

/-! ### what is read is right -/
/-- Labels as they may stand behind one another. -/
def Gd (l : List Lb) : Prop := l.length ≤ 8 ∧ (∀ x ∈ l, x.fits = true) ∧ l.Pairwise (fun a b => bts a.n ≠ bts b.n)
def Jd.gd (J : Jd) : Prop := Gd J.ls
theorem Jd.add_gd {J : Jd} (x : Lb) (p : Nat) (h : J.gd) : (J.add x p).gd := by
  unfold Jd.add
  split
  · exact h
  · split
    · exact h
    · rename_i hw
      simp only [wrongL, Bool.or_eq_true, decide_eq_true_eq, List.any_eq_true, Bool.not_eq_true', not_or, Bool.not_eq_false, not_exists, not_and] at hw
      obtain ⟨⟨h1, h2⟩, h3⟩ := hw
      obtain ⟨g1, g2, g3⟩ := h
      refine ⟨by simp only [List.length_append, List.length_singleton]; omega, fun y hy => ?_, ?_⟩
      · rcases List.mem_append.1 hy with hy | hy
        · exact g2 y hy
        · rw [List.mem_singleton.1 hy]; exact h3
      · refine List.pairwise_append.2 ⟨g3, by simp, fun a ha b hb => ?_⟩
        rw [List.mem_singleton.1 hb]; exact h2 a ha
theorem Jd.add_some {J : Jd} (x : Lb) (p : Nat) : (J.add x p).ls ≠ [] ∨ (J.add x p).bad ≠ none := by
  unfold Jd.add
  split
  · rename_i h; right; rw [h]; simp
  · split
    · right; simp
    · left; simp
def St.gd : St → Prop
  | .s0 => True
  | .s1 => True
  | .s2 J => J.gd
  | .wd J _ _ => J.gd
  | .s3 J _ _ => J.gd
  | .s4 J _ _ => J.gd
  | .qt J _ _ _ => J.gd
  | .es J _ _ _ => J.gd
  | .s5 J => J.gd ∧ (J.ls ≠ [] ∨ J.bad ≠ none)
  | .s6 J => J.gd ∧ (J.ls ≠ [] ∨ J.bad ≠ none)
theorem gd_nil : Gd [] := ⟨by simp, by simp, by simp⟩
theorem step_gd {i : Nat} {c : UInt8} {st st' : St} (h : step i c st = some st') (hg : st.gd) : st'.gd := by
  cases st <;> simp only [step] at h <;> (repeat' split at h) <;> first | (cases h; done) | skip
  all_goals (injection h with h; subst h; simp only [St.gd] at hg ⊢)
  all_goals first
    | exact hg
    | exact gd_nil
    | exact hg.1
    | exact ⟨gd_nil, Or.inr (by simp)⟩
    | exact ⟨Jd.add_gd _ _ hg, Jd.add_some _ _⟩
    | skip
theorem run_gd : ∀ (s : List UInt8) (i : Nat) (st : St) (J : Jd), st.gd → run s i st = .done J → J.gd ∧ (J.ls ≠ [] ∨ J.bad ≠ none)
  | [], i, st, J, hg, h => by
    cases st <;> simp [run_nil, St.end] at h
    subst h; exact hg
  | c :: t, i, st, J, hg, h => by
    cases hs : step i c st with
    | none => rw [run_none hs] at h; cases h
    | some st' => rw [run_some hs] at h; exact run_gd t _ st' J (step_gd hs hg) h
theorem Gd.right {l : List Lb} (h : Gd l) (h0 : l ≠ []) : right (srt l) = true := by
  obtain ⟨h1, h2, h3⟩ := h
  have hp := srt_perm l
  rw [right_iff, hp.length_eq]
  refine ⟨List.length_pos_iff.2 h0, h1, fun x hx => h2 x (hp.mem_iff.1 hx), ?_⟩
  have hd : (srt l).Pairwise (fun a b => bts a.n ≠ bts b.n) := hp.symm.pairwise h3 (fun h => fun e => h e.symm)
  refine (srt_srt l).imp₂ ?_ hd
  intro a b e1 e2
  cases h : ltN a b
  · exact absurd (lss_tri h e1) e2
  · rfl
theorem parse_right {s : List UInt8} {l : List Lb} (h : parseL s = .inr l) : right l = true := by
  unfold parseL at h
  cases hr : run s 0 .s0 with
  | fault k => rw [hr] at h; simp [Rs.told] at h
  | done J =>
    rw [hr] at h
    cases hb : J.bad with
    | some k => simp [Rs.told, hb] at h
    | none =>
      simp only [Rs.told, hb, Sum.inr.injEq] at h
      obtain ⟨hg, hn⟩ := run_gd s 0 .s0 J trivial hr
      rw [← h]
      exact Gd.right hg (by rcases hn with h | h; exact h; exact absurd hb h)

/-! ### what is printed is read -/
theorem run_word (J : Jd) (p : Nat) : ∀ (w : List UInt8) (i : Nat) (a : List UInt8) (r : List UInt8), wsz false w = w.length → run (w ++ r) i (.wd J p a) = run r (i + w.length) (.wd J p (a ++ w))
  | [], i, a, r, _ => by simp
  | c :: t, i, a, r, h => by
    have hl : lead false c = true := by
      unfold wsz at h
      split at h
      · assumption
      · simp at h
    have ht : wsz false t = t.length := by
      rw [wsz, if_pos hl] at h; simpa using h
    rw [List.cons_append, run_some (st' := .wd J p (a ++ [c])) (by simp [step, hl]), run_word J p t (i + 1) (a ++ [c]) r ht]
    simp only [List.length_cons, List.append_assoc, List.singleton_append]
    congr 1; omega
theorem run_quoted (J : Jd) (p : Nat) (a : List UInt8) : ∀ (v : List UInt8) (i : Nat) (b : List UInt8) (r : List UInt8), run (qtL v ++ r) i (.qt J p a b) = run r (i + (qtL v).length) (.qt J p a (b ++ v))
  | [], i, b, r => by simp [qtL]
  | c :: t, i, b, r => by
    have e : qtL (c :: t) = qt1 c ++ qtL t := by simp [qtL]
    rw [e, List.append_assoc]
    have key : run (qt1 c ++ (qtL t ++ r)) i (.qt J p a b) = run (qtL t ++ r) (i + (qt1 c).length) (.qt J p a (b ++ [c])) := by
      unfold qt1
      by_cases h1 : c = 92
      · subst h1
        simp only [if_true, List.cons_append, List.nil_append]
        rw [run_some (st' := .es J p a b) (by simp [step]), run_some (st' := .qt J p a (b ++ [92])) (by simp [step])]
        rfl
      · by_cases h2 : c = 34
        · subst h2
          simp only [h1, if_false, if_true, List.cons_append, List.nil_append]
          rw [run_some (st' := .es J p a b) (by simp [step]), run_some (st' := .qt J p a (b ++ [34])) (by simp [step])]
          rfl
        · by_cases h3 : c = 10
          · subst h3
            simp only [h1, h2, if_false, if_true, List.cons_append, List.nil_append]
            rw [run_some (st' := .es J p a b) (by simp [step]), run_some (st' := .qt J p a (b ++ [10])) (by simp [step])]
            rfl
          · simp only [h1, h2, h3, if_false, List.cons_append, List.nil_append]
            rw [run_some (st' := .qt J p a (b ++ [c])) (by simp [step, h1, h2, h3])]
            rfl
    rw [key, run_quoted J p a t]
    simp only [List.length_append, List.append_assoc, List.singleton_append]
    congr 1; omega
theorem lett_not {c : UInt8} (h : lett c = true) : c ≠ 32 ∧ c ≠ 125 ∧ c ≠ 123 := by
  refine ⟨?_, ?_, ?_⟩ <;> rintro rfl <;> revert h <;> decide
theorem name_head {n : List UInt8} (h : isName n = true) : ∃ c t, n = c :: t ∧ lett c = true ∧ wsz false t = t.length := by
  simp only [isName, Bool.and_eq_true, decide_eq_true_eq] at h
  obtain ⟨⟨h1, h2⟩, h3⟩ := h
  cases n with
  | nil => exact absurd rfl h3
  | cons c t =>
    by_cases hl : lead true c = true
    · rw [wsz, if_pos hl] at h2
      exact ⟨c, t, rfl, by simpa [lead] using hl, by simpa using h2⟩
    · rw [wsz, if_neg hl] at h2; simp at h2
/-- One label, printed, at a state that waits for one. -/
theorem run_text (J : Jd) (x : Lb) (hx : x.fits = true) (i : Nat) (st : St) (r : List UInt8) (hst : ∀ c : UInt8, lett c = true → step i c st = some (.wd J i [c])) :
    run (x.text ++ r) i st = run r (i + x.text.length) (.s5 (J.add x i)) := by
  simp only [Lb.fits, Bool.and_eq_true] at hx
  obtain ⟨c, t, hn, hc, ht⟩ := name_head hx.1
  have e : x.text ++ r = c :: (t ++ (61 :: 34 :: (qtL (bts x.v) ++ (34 :: r)))) := by simp [Lb.text, hn]
  have el : x.text.length = 1 + t.length + 2 + (qtL (bts x.v)).length + 1 := by simp [Lb.text, hn]; omega
  rw [e, run_some (hst c hc), run_word J i t (i + 1) [c] _ ht, List.singleton_append, ← hn]
  rw [run_some (st' := .s4 J i (bts x.n)) (by simp [step, lead, show lett 61 = false by decide, show digi 61 = false by decide]), run_some (st' := .qt J i (bts x.n) []) (by simp [step]), run_quoted, List.nil_append, run_some (st' := .s5 (J.add x i)) (by simp [step, oft_bts])]
  congr 1; omega
theorem add_ok {J : Jd} {x : Lb} (hb : J.bad = none) (h8 : J.ls.length < 8) (hn : ∀ y ∈ J.ls, ltN y x = true) (hx : x.fits = true) (p : Nat) : J.add x p = ⟨J.ls ++ [x], none⟩ := by
  have : wrongL J.ls x = false := by
    simp only [wrongL, Bool.or_eq_false_iff, decide_eq_false_iff_not, List.any_eq_false, decide_eq_true_eq, hx, Bool.not_true, and_true]
    refine ⟨by omega, fun y hy e => ?_⟩
    have := hn y hy
    rw [ltN, e, lss_irr] at this; cases this
  simp [Jd.add, hb, this]
theorem run_prF : ∀ (t : List Lb) (l : List Lb) (i : Nat), l ≠ [] → right (l ++ t) = true → run (prF false t) i (.s5 ⟨l, none⟩) = .done ⟨l ++ t, none⟩
  | [], l, i, _, _ => by
    rw [prF, run_some (st' := .s6 ⟨l, none⟩) (by simp [step])]
    simp [run_nil, St.end]
  | x :: t, l, i, h0, hr => by
    obtain ⟨h1, h2, h3, h4⟩ := (right_iff _).1 hr
    rw [prF, run_some (st' := .s2 ⟨l, none⟩) (by simp [step]), run_some (st' := .s2 ⟨l, none⟩) (by simp [step])]
    rw [run_text ⟨l, none⟩ x (h3 x (by simp)) _ _ _ (fun c hc => by simp [step, (lett_not hc).1, hc])]
    rw [add_ok rfl (by simp at h2; simp; omega) (fun y hy => (List.pairwise_append.1 h4).2.2 y hy x (by simp)) (h3 x (by simp))]
    rw [run_prF t (l ++ [x]) _ (by simp) (by simpa using hr)]
    simp
theorem parse_print {l : List Lb} (h : right l = true) : parseL (printL l) = .inr l := by
  obtain ⟨h1, h2, h3, h4⟩ := (right_iff _).1 h
  have : run (printL l) 0 .s0 = .done ⟨l, none⟩ := by
    rw [printL, if_pos h]
    cases l with
    | nil => simp at h1
    | cons x t =>
      rw [prF, run_some (st' := .s1) (by simp [step])]
      rw [run_text ⟨[], none⟩ x (h3 x (by simp)) _ _ _ (fun c hc => by simp [step, (lett_not hc).1, (lett_not hc).2.1, hc])]
      rw [add_ok rfl (by simp) (by simp) (h3 x (by simp))]
      exact run_prF t [x] _ (by simp) h
  rw [parseL, this]
  simp [Rs.told, srt_of_right h]

end Go.Proofs.YtpdffdoogobhfaaDoor
