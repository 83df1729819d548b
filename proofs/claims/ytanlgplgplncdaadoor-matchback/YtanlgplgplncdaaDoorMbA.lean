import Derived.Test.YtanlgplgplncdaaDoorMtM
import Derived.Test.YtanlgplgplncdaaDoorMtD
import Derived.Test.YtanlgplgplncdaaDoorMrX
import Derived.Laws.StructEq
import Derived.BigQuiet
import Derived.Test.YtanlgplgplncdaaDoorAny
import Derived.Test.YtanlgplgplncdaaDoorAnyW
import Derived.Test.YtanlgplgplncdaaDoorMtC
/-
  What is printed is read, with blanks and without; a text that is cut falls short at its end. Purely.
-/
namespace Go.Proofs.YtanlgplgplncdaaDoor
open Go

theorem runM_word (J : Jm) (p : Nat) : ∀ (w : List UInt8) (i : Nat) (a : List UInt8) (r : List UInt8), L.wsz false w = w.length → runM (w ++ r) i (.wd J p a) = runM r (i + w.length) (.wd J p (a ++ w))
  | [], i, a, r, _ => by simp
  | c :: t, i, a, r, h => by
    have hl : L.lead false c = true := by
      unfold L.wsz at h
      split at h
      · assumption
      · simp at h
    have ht : L.wsz false t = t.length := by
      rw [L.wsz, if_pos hl] at h; simpa using h
    rw [List.cons_append, runM_some (st' := .wd J p (a ++ [c])) (by simp [stepM, hl]), runM_word J p t (i + 1) (a ++ [c]) r ht]
    simp only [List.length_cons, List.append_assoc, List.singleton_append]
    congr 1; omega
theorem runM_quoted (J : Jm) (p : Nat) (a : List UInt8) (o : Int) : ∀ (v : List UInt8) (i : Nat) (b : List UInt8) (r : List UInt8), runM (L.qtL v ++ r) i (.qt J p a o b) = runM r (i + (L.qtL v).length) (.qt J p a o (b ++ v))
  | [], i, b, r => by simp [L.qtL]
  | c :: t, i, b, r => by
    have e : L.qtL (c :: t) = L.qt1 c ++ L.qtL t := by simp [L.qtL]
    rw [e, List.append_assoc]
    have key : runM (L.qt1 c ++ (L.qtL t ++ r)) i (.qt J p a o b) = runM (L.qtL t ++ r) (i + (L.qt1 c).length) (.qt J p a o (b ++ [c])) := by
      unfold L.qt1
      by_cases h1 : c = 92
      · subst h1
        simp only [if_true, List.cons_append, List.nil_append]
        rw [runM_some (st' := .es J p a o b) (by simp [stepM]), runM_some (st' := .qt J p a o (b ++ [92])) (by simp [stepM])]
        rfl
      · by_cases h2 : c = 34
        · subst h2
          simp only [h1, if_false, if_true, List.cons_append, List.nil_append]
          rw [runM_some (st' := .es J p a o b) (by simp [stepM]), runM_some (st' := .qt J p a o (b ++ [34])) (by simp [stepM])]
          rfl
        · by_cases h3 : c = 10
          · subst h3
            simp only [h1, h2, if_false, if_true, List.cons_append, List.nil_append]
            rw [runM_some (st' := .es J p a o b) (by simp [stepM]), runM_some (st' := .qt J p a o (b ++ [10])) (by simp [stepM])]
            rfl
          · simp only [h1, h2, h3, if_false, List.cons_append, List.nil_append]
            rw [runM_some (st' := .qt J p a o (b ++ [c])) (by simp [stepM, h1, h2, h3])]
            rfl
    rw [key, runM_quoted J p a o t]
    simp only [List.length_append, List.append_assoc, List.singleton_append]
    congr 1; omega
theorem lettM_not {c : UInt8} (h : L.lett c = true) : c ≠ 32 ∧ c ≠ 125 ∧ c ≠ 123 := by
  refine ⟨?_, ?_, ?_⟩ <;> rintro rfl <;> revert h <;> decide
theorem nameM_head {n : List UInt8} (h : L.isName n = true) : ∃ c t, n = c :: t ∧ L.lett c = true ∧ L.wsz false t = t.length := by
  simp only [L.isName, Bool.and_eq_true, decide_eq_true_eq] at h
  obtain ⟨⟨h1, h2⟩, h3⟩ := h
  cases n with
  | nil => exact absurd rfl h3
  | cons c t =>
    by_cases hl : L.lead true c = true
    · rw [L.wsz, if_pos hl] at h2
      exact ⟨c, t, rfl, by simpa [L.lead] using hl, by simpa using h2⟩
    · rw [L.wsz, if_neg hl] at h2; simp at h2
/-- Blanks. -/
def sp (k : Nat) : List UInt8 := List.replicate k 32
theorem sp_succ (k : Nat) : sp (k + 1) = 32 :: sp k := by simp [sp, List.replicate_succ]
theorem sp_length (k : Nat) : (sp k).length = k := by simp [sp]
theorem runM_sp {st : Sm} (h : ∀ i, stepM i 32 st = some st) : ∀ (k i : Nat) (r : List UInt8), runM (sp k ++ r) i st = runM r (i + k) st
  | 0, i, r => by simp [sp]
  | k + 1, i, r => by
    rw [sp_succ, List.cons_append, runM_some (h i), runM_sp h k]
    congr 1; omega
/-- A matcher's text with blanks: a behind its name, b ahead of its quoted text. -/
def Mt.textB (x : Mt) (a b : Nat) : List UInt8 := bts x.n ++ sp a ++ opT x.op ++ sp b ++ [34] ++ L.qtL (bts x.t) ++ [34]
theorem textB_zero (x : Mt) : x.textB 0 0 = x.text := by simp [Mt.textB, Mt.text, sp]
/-- From the operator on. -/
theorem runM_op (J : Jm) (p : Nat) (n : List UInt8) (o : Int) (ho : o = 1 ∨ o = 2 ∨ o = 3 ∨ o = 4) (st : Sm) (hst : st = .wd J p n ∨ st = .s3 J p n) (b i : Nat) (r : List UInt8) :
    runM (opT o ++ (sp b ++ (34 :: r))) i st = runM r (i + (opT o).length + b + 1) (.qt J p n o []) := by
  have l61 : L.lead false 61 = false := by decide
  have l33 : L.lead false 33 = false := by decide
  have e1 : ∀ i, stepM i 61 st = some (.eq J p n) := fun i => by rcases hst with rfl | rfl <;> simp [stepM, l61]
  have e2 : ∀ i, stepM i 33 st = some (.ba J p n) := fun i => by rcases hst with rfl | rfl <;> simp [stepM, l33]
  have q : ∀ (o : Int) (i : Nat), runM (sp b ++ (34 :: r)) i (.s4 J p n o) = runM r (i + b + 1) (.qt J p n o []) := fun o i => by
    rw [runM_sp (by intro i; simp [stepM]), runM_some (st' := .qt J p n o []) (by simp [stepM])]
  rcases ho with rfl | rfl | rfl | rfl
  · show runM (61 :: (sp b ++ (34 :: r))) i st = _
    rw [runM_some (e1 i)]
    cases b with
    | zero =>
      show runM (34 :: r) (i + 1) _ = _
      rw [runM_some (st' := .qt J p n 1 []) (by simp [stepM])]
      rfl
    | succ b =>
      rw [sp_succ, List.cons_append, runM_some (st' := .s4 J p n 1) (by simp [stepM]), runM_sp (by intro i; simp [stepM]), runM_some (st' := .qt J p n 1 []) (by simp [stepM])]
      show runM r _ _ = runM r (i + 1 + (b + 1) + 1) _
      congr 1; omega
  · show runM (33 :: 61 :: (sp b ++ (34 :: r))) i st = _
    rw [runM_some (e2 i), runM_some (st' := .s4 J p n 2) (by simp [stepM]), q]
    rfl
  · show runM (61 :: 126 :: (sp b ++ (34 :: r))) i st = _
    rw [runM_some (e1 i), runM_some (st' := .s4 J p n 3) (by simp [stepM]), q]
    rfl
  · show runM (33 :: 126 :: (sp b ++ (34 :: r))) i st = _
    rw [runM_some (e2 i), runM_some (st' := .s4 J p n 4) (by simp [stepM]), q]
    rfl
theorem mayM_op {x : Mt} (h : x.may = true) : x.op = 1 ∨ x.op = 2 ∨ x.op = 3 ∨ x.op = 4 := by
  unfold Mt.may txtOk at h
  by_cases h1 : x.op = 1
  · exact .inl h1
  · by_cases h2 : x.op = 2
    · exact .inr (.inl h2)
    · by_cases h3 : x.op = 3
      · exact .inr (.inr (.inl h3))
      · by_cases h4 : x.op = 4
        · exact .inr (.inr (.inr h4))
        · rw [if_neg h1, if_neg h2, if_neg h3, if_neg h4] at h; cases h
/-- One matcher, printed, at a state that waits for one. -/
theorem runM_text (J : Jm) (x : Mt) (hx : x.may = true) (a b i : Nat) (st : Sm) (r : List UInt8) (hst : ∀ c : UInt8, L.lett c = true → stepM i c st = some (.wd J i [c])) :
    runM (x.textB a b ++ r) i st = runM r (i + (x.textB a b).length) (.s5 (J.add x i)) := by
  have ho := mayM_op hx
  have hn' : L.isName (bts x.n) = true := by unfold Mt.may at hx; rw [Bool.and_eq_true] at hx; exact hx.2
  obtain ⟨c, t, hn, hc, ht⟩ := nameM_head hn'
  have e : x.textB a b ++ r = c :: (t ++ (sp a ++ (opT x.op ++ (sp b ++ (34 :: (L.qtL (bts x.t) ++ (34 :: r))))))) := by simp [Mt.textB, hn]
  have el : (x.textB a b).length = 1 + t.length + a + (opT x.op).length + b + 1 + (L.qtL (bts x.t)).length + 1 := by simp [Mt.textB, hn, sp_length]; omega
  rw [e, runM_some (hst c hc), runM_word J i t (i + 1) [c] _ ht, List.singleton_append, ← hn]
  have key : ∀ s i0, runM (sp a ++ (opT x.op ++ (sp b ++ (34 :: s)))) i0 (.wd J i (bts x.n)) = runM s (i0 + a + (opT x.op).length + b + 1) (.qt J i (bts x.n) x.op []) := fun s i0 => by
    cases a with
    | zero =>
      show runM (opT x.op ++ (sp b ++ (34 :: s))) i0 _ = _
      rw [runM_op J i (bts x.n) x.op ho _ (.inl rfl)]
      rfl
    | succ a =>
      rw [sp_succ, List.cons_append, runM_some (st' := .s3 J i (bts x.n)) (by simp [stepM, show L.lead false 32 = false by decide]), runM_sp (by intro i; simp [stepM]), runM_op J i (bts x.n) x.op ho _ (.inr rfl)]
      congr 1; omega
  rw [key, runM_quoted, List.nil_append, runM_some (st' := .s5 (J.add x i)) (by
    have e1 : L.oft (bts x.n) = x.n := L.oft_bts x.n
    have e2 : L.oft (bts x.t) = x.t := L.oft_bts x.t
    simp [stepM, e1, e2])]
  congr 1; omega
theorem addM_ok {J : Jm} {x : Mt} (hb : J.bad = none) (h8 : J.ls.length < 8) (hx : x.may = true) (p : Nat) : J.add x p = ⟨J.ls ++ [x], none⟩ := by
  have : wrongM J.ls x = false := by
    unfold wrongM
    rw [hx, Bool.not_true, Bool.false_or, decide_eq_false_iff_not]
    omega
  simp [Jm.add, hb, this]
theorem newOk_at {l t : List Mt} {x : Mt} (h : newOk (l ++ x :: t) = true) : x.may = true ∧ l.length < 8 := by
  unfold newOk at h
  rw [Bool.and_eq_true] at h
  refine ⟨List.all_eq_true.1 h.2 x (by simp), ?_⟩
  have := of_decide_eq_true h.1
  simp at this
  omega

/-- What a set prints, with blanks: c ahead of a comma, d behind it, e ahead of the end. -/
def prB (a b c d e : Nat) : Bool → List Mt → List UInt8
  | _, [] => sp e ++ [125]
  | true, x :: t => x.textB a b ++ prB a b c d e false t
  | false, x :: t => sp c ++ (44 :: (sp d ++ (x.textB a b ++ prB a b c d e false t)))
theorem runM_prB (a b c d e f : Nat) : ∀ (t l : List Mt) (i : Nat), newOk (l ++ t) = true → runM (prB a b c d e false t ++ sp f) i (.s5 ⟨l, none⟩) = .done ⟨l ++ t, none⟩
  | [], l, i, _ => by
    rw [prB, List.append_assoc, runM_sp (by intro i; simp [stepM]), List.singleton_append, runM_some (st' := .s6 ⟨l, none⟩) (by simp [stepM])]
    have := runM_sp (st := .s6 ⟨l, none⟩) (by intro i; simp [stepM]) f (i + e + 1) []
    rw [List.append_nil] at this
    rw [this]
    simp [runM_nil, Sm.end]
  | x :: t, l, i, h => by
    obtain ⟨hx, h8⟩ := newOk_at h
    rw [prB, List.append_assoc, runM_sp (by intro i; simp [stepM]), List.cons_append, runM_some (st' := .s2 ⟨l, none⟩) (by simp [stepM]), List.append_assoc, runM_sp (by intro i; simp [stepM]), List.append_assoc]
    rw [runM_text ⟨l, none⟩ x hx a b _ _ _ (fun c hc => by simp [stepM, (lettM_not hc).1, hc])]
    rw [addM_ok rfl h8 hx]
    rw [runM_prB a b c d e f t (l ++ [x]) _ (by simpa using h)]
    simp
/-- What is printed with blanks is read. -/
theorem parse_printB (g h a b c d e f : Nat) (l : List Mt) (hl : newOk l = true) : parseM (sp g ++ (123 :: (sp h ++ (prB a b c d e true l ++ sp f)))) = .inr l := by
  have : runM (sp g ++ (123 :: (sp h ++ (prB a b c d e true l ++ sp f)))) 0 .s0 = .done ⟨l, none⟩ := by
    rw [runM_sp (by intro i; simp [stepM]), runM_some (st' := .s1) (by simp [stepM]), runM_sp (by intro i; simp [stepM])]
    cases l with
    | nil =>
      rw [prB, List.append_assoc, runM_sp (by intro i; simp [stepM]), List.singleton_append, runM_some (st' := .s6 ⟨[], none⟩) (by simp [stepM])]
      have := runM_sp (st := .s6 ⟨[], none⟩) (by intro i; simp [stepM]) f (0 + g + 1 + h + e + 1) []
      rw [List.append_nil] at this
      rw [this]
      simp [runM_nil, Sm.end]
    | cons x t =>
      obtain ⟨hx, _⟩ := newOk_at (l := []) (by simpa using hl)
      rw [prB, List.append_assoc, runM_text ⟨[], none⟩ x hx a b _ _ _ (fun c hc => by simp [stepM, (lettM_not hc).1, (lettM_not hc).2.1, hc])]
      rw [addM_ok rfl (by simp) hx]
      rw [runM_prB a b c d e f t ([] ++ [x]) _ (by simpa using hl)]
      simp
  rw [parseM, this]
  rfl
theorem prB_zero : ∀ (l : List Mt) (f : Bool), prB 0 0 0 1 0 f l = prM f l
  | [], f => by cases f <;> simp [prB, prM, sp]
  | x :: t, true => by rw [prB, prM, prB_zero t, textB_zero]
  | x :: t, false => by rw [prB, prM, prB_zero t, textB_zero]; simp [sp, List.replicate]
/-- What is printed is read. -/
theorem parse_printM {l : List Mt} (h : newOk l = true) : parseM (printM l) = .inr l := by
  have := parse_printB 0 0 0 0 0 1 0 0 l h
  rw [prB_zero] at this
  rw [printM, if_pos h]
  simpa [sp] using this

/-! ### a text that is cut -/
theorem run6M : ∀ (s : List UInt8) (i : Nat) (J J' : Jm), runM s i (.s6 J) = .done J' → ∀ c ∈ s, c = 32
  | [], _, _, _, _ => by simp
  | c :: t, i, J, J', h => by
    by_cases hc : c = 32
    · rw [runM_some (st' := .s6 J) (by simp [stepM, hc])] at h
      intro d hd
      rcases List.mem_cons.1 hd with rfl | hd
      · exact hc
      · exact run6M t _ J J' h d hd
    · rw [runM_none (by simp [stepM, hc])] at h; cases h
theorem runM_take : ∀ (s : List UInt8) (i : Nat) (st : Sm) (J : Jm), runM s i st = .done J → s.getLast? = some 125 → ∀ k, k < s.length → runM (s.take k) i st = .fault (i + k)
  | [], _, _, _, _, h, _, _ => by simp at h
  | c :: t, i, st, J, h, hl, 0, _ => by
    rw [List.take_zero, runM_nil, Nat.add_zero]
    cases st with
    | s6 J0 =>
      exfalso
      have := run6M _ _ _ _ h 125 (List.mem_of_getLast? hl)
      exact absurd this (by decide)
    | _ => rfl
  | c :: t, i, st, J, h, hl, k + 1, hk => by
    cases hs : stepM i c st with
    | none => rw [runM_none hs] at h; cases h
    | some st' =>
      rw [runM_some hs] at h
      have hk' : k < t.length := by simpa using hk
      have hl' : t.getLast? = some 125 := by
        cases t with
        | nil => simp at hk'
        | cons d u => simpa using hl
      rw [List.take_succ_cons, runM_some hs, runM_take t (i + 1) st' J h hl' k hk']
      congr 1; omega
theorem prM_last : ∀ (l : List Mt) (f : Bool), (prM f l).getLast? = some 125
  | [], f => by cases f <;> rfl
  | x :: t, true => by rw [prM, List.getLast?_append, prM_last t]; rfl
  | x :: t, false => by rw [prM, List.getLast?_append, prM_last t]; rfl
/-- A text that is cut falls short at its end. -/
theorem parse_cutM {l : List Mt} (h : newOk l = true) (k : Nat) (hk : k < (printM l).length) : parseM ((printM l).take k) = .inl k := by
  have hp := parse_printM h
  unfold parseM at hp ⊢
  cases hr : runM (printM l) 0 .s0 with
  | fault j => rw [hr] at hp; cases hp
  | done J =>
    have hlast : (printM l).getLast? = some 125 := by
      rw [printM, if_pos h, List.getLast?_cons, prM_last]; rfl
    rw [runM_take _ 0 .s0 J hr hlast k hk]
    simp [Rm.told]
theorem printM_ne {l : List Mt} : (printM l = []) ↔ newOk l = false := by
  unfold printM
  split
  · rename_i h; simp [h]
  · rename_i h; simp [h]

end Go.Proofs.YtanlgplgplncdaaDoor

/-
  The document's Quote; the statements' own 'same'.
-/
namespace Go.Proofs.YtanlgplgplncdaaDoor.L
open Go.RowKit
set_option linter.unusedVariables false
set_option linter.unusedSimpArgs false

theorem btsx (s : ByteArray) (i j : Nat) : bts (s.extract i j) = ((bts s).drop i).take (j - i) := bts_extract s i j
theorem dropM {l : List Mt} {i : Nat} {x : Mt} (h : l[i]? = some x) : l.drop i = x :: l.drop (i + 1) := by
  obtain ⟨hi, he⟩ := List.getElem?_eq_some_iff.1 h
  rw [← he]
  exact List.drop_eq_getElem_cons _
theorem bts_app (a b : ByteArray) : bts (a ++ b) = bts a ++ bts b := by simp [bts]
theorem size_app (a b : ByteArray) : (a ++ b).size = a.size + b.size := by rw [size_bts, bts_app, List.length_append, ← size_bts, ← size_bts]
theorem qtL_snoc (l : List UInt8) (x : UInt8) : qtL (l ++ [x]) = qtL l ++ qt1 x := by simp [qtL]
theorem takeB {l : List UInt8} {i : Nat} {x : UInt8} (h : l[i]? = some x) : l.take (i + 1) = l.take i ++ [x] := by
  rw [List.take_add_one, h]; rfl

set_option maxRecDepth 100000 in
set_option maxHeartbeats 4000000 in
theorem rquoteP (s : ByteArray) (w : World) (hs : s.size ≤ 1000) : Calls Tryd.prog 12 #[.string s] w fun e w' => e = .returned (.string (oft (34 :: (qtL (bts s) ++ [34])))) ∧ w' = w := by
  obtain ⟨R, hR⟩ : ∃ R, oft (34 :: (qtL (bts s) ++ [34])) = R := ⟨_, rfl⟩
  have HR := hidden hR
  rw [hR]
  clear hR
  go_enter Tryd.func12, Tryd.ntmps12
  go_wp2
  go_loopw [3, 4] (fun s0 s1 wx => ∃ (i : Nat) (acc : ByteArray), s0 = .string acc ∧ s1 = .int .i64 (i : Int) ∧ i ≤ s.size ∧ acc.size ≤ 1 + 2 * i ∧ Hid (bts acc = 34 :: qtL ((bts s).take i)) ∧ wx = w) (fun _ s1 _ => s.size - (intOf s1).toNat)
  case atStart => exact ⟨0, ⟨#[34]⟩, rfl, rfl, by omega, by decide, hidden (by simp [qtL, bts]), rfl⟩
  case round =>
    obtain ⟨i, acc, rfl, rfl, hi, hsz, hrel, rfl⟩ := hrel
    by_cases hlt : i < s.size
    · have hltz : (i : Int) < (s.size : Int) := by omega
      obtain ⟨x, hx, hx2, hdr⟩ := byte_at s hlt
      have e92 := beq92 x
      have e34 := beq34 x
      have e10 := beq10 x
      have hq : Hid (∀ p, qt1 x = bts p → bts (acc ++ p) = 34 :: qtL ((bts s).take (i + 1))) := hidden (fun p hp => by rw [takeB hx2, qtL_snoc, bts_app, hrel.out, hp, List.cons_append])
      have HDR := hidden hdr
      clear hdr hrel hx2
      by_cases h92 : x = 92
      · subst h92
        have hsz2 : acc.size + 2 ≤ 9223372036854775807 := by omega
        have HN := hidden (hq.out ⟨#[92, 92]⟩ (by decide))
        have HZ : Hid ((acc ++ ⟨#[92, 92]⟩ : ByteArray).size ≤ 1 + 2 * (i + 1)) := hidden (by rw [size_app, show (⟨#[92, 92]⟩ : ByteArray).size = 2 from rfl]; omega)
        have f1 : ((92 : UInt8).toNat : Int) = 92 := rfl
        clear hq e92 e34 e10
        go_wp2
        refine ⟨⟨i + 1, _, rfl, by first | rfl | simp, by omega, HZ.out, HN, by first | rfl | trivial⟩, ?_⟩
        simp [intOf]
        omega
      · rw [decide_eq_false h92] at e92
        by_cases h34 : x = 34
        · subst h34
          have hsz2 : acc.size + 2 ≤ 9223372036854775807 := by omega
          have HN := hidden (hq.out ⟨#[92, 34]⟩ (by decide))
          have HZ : Hid ((acc ++ ⟨#[92, 34]⟩ : ByteArray).size ≤ 1 + 2 * (i + 1)) := hidden (by rw [size_app, show (⟨#[92, 34]⟩ : ByteArray).size = 2 from rfl]; omega)
          have f1 : ((34 : UInt8).toNat : Int) = 34 := rfl
          clear hq e92 e34 e10
          go_wp2
          refine ⟨⟨i + 1, _, rfl, by first | rfl | simp, by omega, HZ.out, HN, by first | rfl | trivial⟩, ?_⟩
          simp [intOf]
          omega
        · rw [decide_eq_false h34] at e34
          by_cases h10 : x = 10
          · subst h10
            have hsz2 : acc.size + 2 ≤ 9223372036854775807 := by omega
            have HN := hidden (hq.out ⟨#[92, 110]⟩ (by decide))
            have HZ : Hid ((acc ++ ⟨#[92, 110]⟩ : ByteArray).size ≤ 1 + 2 * (i + 1)) := hidden (by rw [size_app, show (⟨#[92, 110]⟩ : ByteArray).size = 2 from rfl]; omega)
            have f1 : ((10 : UInt8).toNat : Int) = 10 := rfl
            clear hq e92 e34 e10
            go_wp2
            refine ⟨⟨i + 1, _, rfl, by first | rfl | simp, by omega, HZ.out, HN, by first | rfl | trivial⟩, ?_⟩
            simp [intOf]
            omega
          · rw [decide_eq_false h10] at e10
            have hex : bts (s.extract i (i + 1)) = [x] := by
              rw [btsx, HDR.out, show i + 1 - i = 1 by omega]
              rfl
            have hes : (s.extract i (i + 1)).size = 1 := by rw [size_bts, hex]; rfl
            have hsz2 : acc.size + (s.extract i (i + 1)).size ≤ 9223372036854775807 := by omega
            have hz3 : (i : Int) + 1 ≤ (s.size : Int) := by omega
            have HN := hidden (hq.out (s.extract i (i + 1)) (by rw [hex, qt1, if_neg h92, if_neg h34, if_neg h10]))
            have HZ : Hid ((acc ++ s.extract i (i + 1) : ByteArray).size ≤ 1 + 2 * (i + 1)) := hidden (by rw [size_app, hes]; omega)
            clear hq hex hes h92 h34 h10
            go_wp2
            refine ⟨⟨i + 1, _, rfl, by first | rfl | simp, by omega, HZ.out, HN, by first | rfl | trivial⟩, ?_⟩
            simp [intOf]
            omega
    · have hltz : ¬ (i : Int) < (s.size : Int) := by omega
      have hsz2 : acc.size + 1 ≤ 9223372036854775807 := by omega
      have HE : Hid (acc ++ ⟨#[34]⟩ = R) := hidden (bts_inj (by rw [← HR.out, bts_oft, bts_app, hrel.out, List.take_of_length_le (by rw [← size_bts]; omega)]; rfl))
      clear hrel
      go_wp2
      go_ret
      exact ⟨by rw [← HE.out]; rfl, rfl⟩


set_option maxRecDepth 100000 in
theorem neq31 (x y : Mt) (w : World) : (binOp .neq 31 (.agg #[.string x.n, .int .i64 x.op, .string x.t]) (.agg #[.string y.n, .int .i64 y.op, .string y.t])).run Tryd.prog w = .ok (.bool !(decide (x = y))) w := by
  have h : (Op.equalIn 10000 31 (.agg #[.string x.n, .int .i64 x.op, .string x.t]) (.agg #[.string y.n, .int .i64 y.op, .string y.t])).run Tryd.prog w = .ok (x.n.toList == y.n.toList && (x.op == y.op && x.t.toList == y.t.toList)) w := by
    rw [run_equalIn_struct w 9999 31 _ _ (by kernel_rfl) (by kernel_rfl)]
    simp [Op.eqFields, Program.fieldsOf, go_sem, part]
    by_cases h1 : x.n.toList = y.n.toList <;> by_cases h2 : x.op = y.op <;> by_cases h3 : x.t.toList = y.t.toList <;> simp [h1, h2, h3]
  rw [run_neq_struct, h]
  simp only [Result.andThen]
  congr 3
  rw [Bool.eq_iff_iff]
  simp only [Bool.and_eq_true, beq_iff_eq, decide_eq_true_eq, toList_bts]
  refine ⟨fun h => ?_, fun h => by rw [h]; exact ⟨rfl, rfl, rfl⟩⟩
  obtain ⟨a, b, c⟩ := x
  obtain ⟨a', b', c'⟩ := y
  simp only at h
  rw [bts_inj h.1, h.2.1, bts_inj h.2.2]

set_option maxRecDepth 100000 in
set_option maxHeartbeats 4000000 in
theorem sameMP (ad bd : Option Addr) (c d : Nat) (l m : List Mt) (w : World) (hL : Ms w ad l) (hM : Ms w bd m) (hl : l.length ≤ 9223372036854775807) (hm : m.length ≤ 9223372036854775807) :
    Calls Tryd.prog 13 #[.slice ad l.length c, .slice bd m.length d] w fun e w' => e = .returned (.bool (decide (l = m))) ∧ Below w.heap.size w w' := by
  obtain ⟨n, hn⟩ : ∃ n, l.length = n := ⟨_, rfl⟩
  obtain ⟨k, hk⟩ : ∃ k, m.length = k := ⟨_, rfl⟩
  rw [hn] at hl ⊢
  rw [hk] at hm ⊢
  by_cases hnk : n = k
  · subst hnk
    obtain ⟨R, hR⟩ : ∃ R, decide (l = m) = R := ⟨_, rfl⟩
    have HR := hidden hR
    have HL := hidden hL
    have HM := hidden hM
    have HN := hidden hn
    have HK := hidden hk
    rw [hR]
    clear hR hL hM hn hk
    go_enter Tryd.func13, Tryd.ntmps13
    go_wp2
    go_loopw [5] (fun s0 wx => ∃ i : Nat, s0 = .int .i64 (i : Int) ∧ i ≤ n ∧ Hid (decide (l.drop i = m.drop i) = R) ∧ Hid (Below w.heap.size w wx)) (fun s0 _ => n - (intOf s0).toNat)
    case atStart => exact ⟨0, rfl, by omega, hidden (by simpa using HR.out), hidden (Below.refl _ _)⟩
    case round =>
      rename World => wr
      obtain ⟨i, rfl, hi, hrel, hbel⟩ := hrel
      by_cases hlt : i < n
      · have hltz : (i : Int) < (n : Int) := by omega
        obtain ⟨b, off, x, rfl, hb, hx, c0, c1, c2, hox⟩ := (HL.out.later hbel.out).get (i := i) (by rw [HN.out]; exact hlt)
        obtain ⟨b', off', y, rfl, hb', hy, d0, d1, d2, hoy⟩ := (HM.out.later hbel.out).get (i := i) (by rw [HK.out]; exact hlt)
        have hdx : l.drop i = x :: l.drop (i + 1) := dropM hx
        have hdy : m.drop i = y :: m.drop (i + 1) := dropM hy
        have hR1 : Hid (decide (x = y ∧ l.drop (i + 1) = m.drop (i + 1)) = R) := hidden (by have := hrel.out; rw [hdx, hdy] at this; rw [← this]; congr 1; simp)
        have hq := fun w => neq31 x y w
        clear hx hy hdx hdy hrel hox hoy
        by_cases hxy : x = y
        · have hd : decide (x = y) = true := decide_eq_true hxy
          rw [hd] at hq
          have hR2 : Hid (decide (l.drop (i + 1) = m.drop (i + 1)) = R) := hidden (by have := hR1.out; rw [← this]; congr 1; simp [hxy])
          clear hxy hd hR1
          go_wp2
          go_quiet (fail)
          go_wp2
          refine ⟨⟨i + 1, by first | rfl | simp, by omega, hR2, hidden (below_drewN hbel.out _)⟩, ?_⟩
          simp [intOf]
          omega
        · have hd : decide (x = y) = false := decide_eq_false hxy
          rw [hd] at hq
          have hR2 : Hid (R = false) := hidden (by have := hR1.out; rw [← this]; exact decide_eq_false (fun h => hxy h.1))
          clear hxy hd hR1
          go_wp2
          go_quiet (fail)
          go_wp2
          go_ret
          exact ⟨by rw [hR2.out]; rfl, below_drewN hbel.out _⟩
      · have hltz : ¬ (i : Int) < (n : Int) := by omega
        have hR2 : Hid (R = true) := hidden (by have := hrel.out; rw [← this, List.drop_of_length_le (by rw [HN.out]; omega), List.drop_of_length_le (by rw [HK.out]; omega)]; simp)
        go_wp2
        go_ret
        exact ⟨by rw [hR2.out]; rfl, hbel.out⟩
  · have hR : decide (l = m) = false := decide_eq_false (fun e => hnk (by rw [← hn, ← hk, e]))
    rw [hR]
    have z : ((n : Int) == (k : Int)) = false := by simp; omega
    clear hL hM hn hk hR
    go_enter Tryd.func13, Tryd.ntmps13
    go_wp2
    go_ret
    exact ⟨rfl, Below.refl _ _⟩


end Go.Proofs.YtanlgplgplncdaaDoor.L

/-
  The rule of ..Any for a region whose last operation waits for all others and may write over a place that others read. Nothing of the program.
-/
namespace Go.Proofs.YtanlgplgplncdaaDoor
open Go.RowKit
set_option linter.unusedVariables false

/-- All places that the region writes but the last operation's. -/
def dstsP (ops : Array Oper) (L : Nat) : List Tmp := (ops.toList.take L).filterMap (fun o => o.dst)
/-- What the rest of the frame is, ahead of the last operation. -/
structure SameP (ops : Array Oper) (L : Nat) (a0 a : Act) : Prop where
  size : a.tmps.size = a0.tmps.size
  defers : a.defers = a0.defers
  slot : ∀ t, (dstsP ops L).contains t = false → a.tmps.getD t undef = a0.tmps.getD t undef
def StepOkP (P : Program) (ops : Array Oper) (L : Nat) (Q : Exit → Act → World → Prop) (Later : World → World → Prop) (T : Nat → Value → World → Prop) (a0 : Act) (w0 : World) (i : Nat) (o : Oper) : Prop :=
  ∀ (a : Act) (w : World), Later w0 w → SameP ops L a0 a →
    (∀ e ∈ o.after, Region.binds .any e = true → ∀ oj, ops[e.on]? = some oj → T e.on (valOf a oj) w) →
    if Region.wanted o (yielded ops a.tmps) = true then o.wp P a w (fun a' w' => ∃ v, a' = a.put o.dst v ∧ Later w w' ∧ T i v w') Q else T i undef w

section
variable {P : Program} {ops : Array Oper} {Q : Exit → Act → World → Prop} {Later : World → World → Prop} {T : Nat → Value → World → Prop} {a0 : Act} {w0 : World}

theorem same_putP {a : Act} {i L : Nat} {o : Oper} {v : Value} (hL : i < L) (hi : ops[i]? = some o) (h : SameP ops L a0 a) : SameP ops L a0 (a.put o.dst v) := by
  cases hd : o.dst with
  | none => exact h
  | some d =>
    refine ⟨?_, h.defers, fun t ht => ?_⟩
    · have : (a.put (some d) v).tmps = a.tmps.setIfInBounds d v := rfl
      rw [this, Array.size_setIfInBounds]; exact h.size
    · rw [put_slot a d t v ?_]
      · exact h.slot t ht
      · intro e
        subst e
        have : t ∈ dstsP ops L := List.mem_filterMap.2 ⟨o, by
          refine List.mem_of_getElem? (i := i) ?_
          rw [List.getElem?_take, if_pos hL]
          simpa using hi, hd⟩
        simp [this] at ht

theorem wpAny_invP (L : Nat) (hap : apartAll ops = true) (hf : forward ops = true) (hsz : within ops a0.tmps.size = true) (hwt : waitsAll ops L = true) (hall : allBut ops L = true)
    (hrf : ∀ a, Later a a) (htr : ∀ a b c, Later a b → Later b c → Later a c) (hst : ∀ i v w w', T i v w → Later w w' → T i v w')
    (hop : ∀ i o, i < L → ops[i]? = some o → StepOkP P ops L Q Later T a0 w0 i o)
    (hlast : ∀ o a w, ops[L]? = some o → Later w0 w → SameP ops L a0 a → (∀ i oi, i < L → ops[i]? = some oi → T i (valOf a oi) w) → o.wp P a w (fun a' w' => Q .normal a' w') Q) :
    ∀ (fuel : Nat) (listed : Array Bool) (a : Act) (w : World), listed.size = ops.size → listed.toList.countP id + fuel = ops.size → listed.getD L true = false → (∀ k o, ops[k]? = some o → listed.getD k true = true → ∀ e ∈ o.after, Region.binds .any e = true → ∀ oj, ops[e.on]? = some oj → listed.getD e.on true = true) → Later w0 w → SameP ops L a0 a →
      (∀ i o, ops[i]? = some o → listed.getD i true = true → T i (valOf a o) w) → wpAny P .any ops Q fuel listed a w := by
  simp only [waitsAll, Bool.and_eq_true, decide_eq_true_eq] at hwt
  obtain ⟨hLs, hwt⟩ := hwt
  intro fuel
  induction fuel with
  | zero =>
    intro listed a w hl hc hnot hcl hw hs hT
    exfalso
    have := List.countP_eq_length.1 (show listed.toList.countP id = listed.toList.length by rw [Array.length_toList]; omega) (listed[L]'(by omega)) (by simp)
    rw [Array.getD_eq_getD_getElem?] at hnot
    simp [show L < listed.size by omega] at hnot
    simp [hnot] at this
  | succ fuel ih =>
    intro listed a w hl hc hnot hcl hw hs hT
    refine ⟨fun hr => ?_, fun i hi => ?_⟩
    · exfalso
      have := not_ready hf hl hr L (by omega)
      rw [this] at hnot
      cases hnot
    rw [mem_ready] at hi
    obtain ⟨h0, o, ho, hdeps⟩ := hi
    have hlt := (Array.getElem?_eq_some_iff.1 ho).1
    have hdone : ∀ e ∈ o.after, Region.binds .any e = true → ∀ oj, ops[e.on]? = some oj → listed.getD e.on true = true := by
      intro e he hb oj hoj
      have := hdeps e he hb
      have hlt2 := (Array.getElem?_eq_some_iff.1 hoj).1
      rw [Array.getD_eq_getD_getElem?] at this ⊢
      have hb2 : e.on < listed.size := by omega
      simpa [hb2] using this
    by_cases hiL : i = L
    · subst hiL
      rw [ho] at hwt
      simp only [Bool.and_eq_true] at hwt
      obtain ⟨hg, hwt⟩ := hwt
      have hprev : ∀ j, j < i → listed.getD j true = true := by
        intro j hj
        exact waitsOn_listed hcl 12 i o ho hdone j (by omega) (List.all_eq_true.1 hwt j (List.mem_range.2 hj))
      have step := hlast o a w ho hw hs (fun j oj hj hoj => hT j oj hoj (hprev j hj))
      have hcount : listed.toList.countP id = i := by
        have h1 : listed.toList = listed.toList.take i ++ [false] := by
          have hlen : listed.toList.length = i + 1 := by rw [Array.length_toList]; omega
          rw [Array.getD_eq_getD_getElem?] at hnot
          simp [show i < listed.size by omega] at hnot
          apply List.ext_getElem?
          intro k
          rcases Nat.lt_trichotomy k i with h | h | h
          · rw [List.getElem?_append_left (by simp; omega)]
            simp [h]
          · subst h
            rw [List.getElem?_append_right (by simp; omega)]
            simp [show min k listed.size = k by omega, show k < listed.size by omega, hnot]
          · rw [List.getElem?_eq_none (by omega), List.getElem?_eq_none (by simp; omega)]
        rw [h1, List.countP_append]
        have h2 : (listed.toList.take i).countP id = (listed.toList.take i).length := by
          rw [List.countP_eq_length]
          intro b hb
          obtain ⟨k, hk, rfl⟩ := List.getElem_of_mem hb
          simp only [List.length_take, Array.length_toList] at hk
          have := hprev k (by omega)
          rw [Array.getD_eq_getD_getElem?] at this
          simpa [show k < listed.size by omega] using this
        rw [h2]
        simp
        omega
      have hfuel : fuel = 0 := by omega
      subst hfuel
      have next : ∀ a' w', Q .normal a' w' → wpAny P .any ops Q 0 (listed.setIfInBounds i true) a' w' := by
        intro a' w' hq
        refine ⟨?_, hq⟩
        cases hr : Region.ready .any ops (listed.setIfInBounds i true) with
        | nil => rfl
        | cons j t =>
          exfalso
          have hj : j ∈ Region.ready .any ops (listed.setIfInBounds i true) := by rw [hr]; simp
          rw [mem_ready] at hj
          obtain ⟨hj0, oj, hoj, _⟩ := hj
          have hjs := (Array.getElem?_eq_some_iff.1 hoj).1
          rw [Array.getD_eq_getD_getElem?, Array.getElem?_setIfInBounds] at hj0
          by_cases hij : i = j
          · simp [hij, show j < listed.size by omega] at hj0
          · rw [if_neg hij] at hj0
            have := hprev j (by omega)
            rw [Array.getD_eq_getD_getElem?] at this
            rw [this] at hj0
            cases hj0
      unfold wpOp
      simp only [ho]
      have hwant : Region.wanted o (yielded ops a.tmps) = true := by
        cases hgg : o.guard with
        | none => simp [Region.wanted, hgg]
        | some x => rw [hgg] at hg; cases hg
      rw [if_pos hwant]
      left
      exact Oper.wp_mono (fun a' w' h' => next a' w' h') step
    · have hiL2 : i < L := by omega
      have step := hop i o hiL2 ho a w hw hs (fun e he hb oj hoj => hT e.on oj hoj (hdone e he hb oj hoj))
      have hsome : o.dst.isSome = true := by
        have := List.all_eq_true.1 hall i (List.mem_range.2 hiL2)
        rw [ho] at this
        exact this
      have next : ∀ v w', Later w w' → T i v w' → wpAny P .any ops Q fuel (listed.setIfInBounds i true) (a.put o.dst v) w' := by
        intro v w' hl2 hT2
        refine ih _ _ _ (by rw [Array.size_setIfInBounds]; exact hl) ?_ ?_ ?_ (htr _ _ _ hw hl2) (same_putP hiL2 ho hs) ?_
        · rw [Array.toList_setIfInBounds, List.countP_set (by rw [Array.length_toList]; omega)]
          have hf0 : listed.toList[i]'(by rw [Array.length_toList]; omega) = false := by
            rw [Array.getD_eq_getD_getElem?] at h0
            simpa [show i < listed.size by omega] using h0
          rw [hf0]
          show listed.toList.countP id - 0 + 1 + fuel = ops.size
          omega
        · rw [Array.getD_eq_getD_getElem?, Array.getElem?_setIfInBounds, if_neg hiL, ← Array.getD_eq_getD_getElem?]
          exact hnot
        · intro k ok hk hkl e he hb oj hoj
          rw [Array.getD_eq_getD_getElem?, Array.getElem?_setIfInBounds]
          by_cases hie : i = e.on
          · rw [if_pos hie]
            split <;> rfl
          · rw [if_neg hie, ← Array.getD_eq_getD_getElem?]
            by_cases hik : i = k
            · subst hik
              rw [ho] at hk
              obtain rfl := Option.some.inj hk
              exact hdone e he hb oj hoj
            · rw [Array.getD_eq_getD_getElem?, Array.getElem?_setIfInBounds, if_neg hik, ← Array.getD_eq_getD_getElem?] at hkl
              exact hcl k ok hk hkl e he hb oj hoj
        · intro j oj hj hjl
          by_cases hij : i = j
          · subst hij
            rw [ho] at hj
            obtain rfl := Option.some.inj hj
            rw [valOf_put_same (by rw [hs.size]; exact hsz) ho hsome]
            exact hT2
          · rw [valOf_put hap ho hj hij]
            refine hst _ _ _ _ (hT j oj hj ?_) hl2
            rw [Array.getD_eq_getD_getElem?, Array.getElem?_setIfInBounds, if_neg hij] at hjl
            rw [Array.getD_eq_getD_getElem?]
            exact hjl
      unfold wpOp
      simp only [ho]
      split
      · rename_i hwant
        rw [if_pos hwant] at step
        left
        refine Oper.wp_mono (fun a' w' h' => ?_) step
        obtain ⟨v, rfl, h1, h2⟩ := h'
        exact next v w' h1 h2
      · rename_i hwant
        rw [if_neg hwant] at step
        exact next undef w (hrf w) step

/-- A region that draws its order, whose last operation waits for all others. -/
theorem wp_region_lastP (L : Nat) (Later : World → World → Prop) (T : Nat → Value → World → Prop) {id : Nat} {a : Act} {w : World} (hm : P.follows .mixedOrders = true)
    (hap : apartAll ops = true) (hf : forward ops = true) (hsz : within ops a.tmps.size = true) (hwt : waitsAll ops L = true) (hall : allBut ops L = true)
    (hrf : ∀ a, Later a a) (htr : ∀ a b c, Later a b → Later b c → Later a c) (hst : ∀ i v w w', T i v w → Later w w' → T i v w')
    (hdr : Later w { w with drawn := w.drawn + 1 })
    (hop : ∀ i o, i < L → ops[i]? = some o → StepOkP P ops L Q Later T a w i o)
    (hlast : ∀ o a' w', ops[L]? = some o → Later w w' → SameP ops L a a' → (∀ i oi, i < L → ops[i]? = some oi → T i (valOf a' oi) w') → o.wp P a' w' (fun a'' w'' => Q .normal a'' w'') Q) : (Code.region id ops true).wp P Q a w := by
  have hLs : L + 1 = ops.size := by
    simp only [waitsAll, Bool.and_eq_true, decide_eq_true_eq] at hwt
    exact hwt.1
  exact wp_region_any hm (wpAny_invP L (a0 := a) (w0 := w) hap hf hsz hwt hall hrf htr hst hop hlast ops.size (Array.replicate ops.size false) a _ (by simp) (by simp) (by rw [Array.getD_eq_getD_getElem?]; simp [show L < ops.size by omega]) (fun k o hk hl => by
    have := (Array.getElem?_eq_some_iff.1 hk).1
    rw [Array.getD_eq_getD_getElem?] at hl
    simp [this] at hl) hdr ⟨rfl, rfl, fun _ _ => rfl⟩ (fun i o hi hl => by
    have := (Array.getElem?_eq_some_iff.1 hi).1
    rw [Array.getD_eq_getD_getElem?] at hl
    simp [this] at hl))

end

theorem same_putsP {ops : Array Oper} {L : Nat} {a0 a : Act} (h : SameP ops L a0 a) : a = (dstsP ops L).foldl (fun b d => b.put (some d) (a.tmps.getD d undef)) a0 := by
  have key : ∀ (l : List Tmp) (b : Act), b.tmps.size = a.tmps.size → b.defers = a.defers → (∀ t, l.contains t = false → b.tmps.getD t undef = a.tmps.getD t undef) → l.foldl (fun b d => b.put (some d) (a.tmps.getD d undef)) b = a := by
    intro l
    induction l with
    | nil => intro b h1 h2 h3; exact frame_eq h1 h2 (fun t => h3 t (by simp))
    | cons d l ih =>
      intro b h1 h2 h3
      rw [List.foldl_cons]
      refine ih _ ?_ h2 (fun t ht => ?_)
      · have e : (b.put (some d) (a.tmps.getD d undef)).tmps = b.tmps.setIfInBounds d (a.tmps.getD d undef) := rfl
        rw [e, Array.size_setIfInBounds]; exact h1
      · rw [getD_put b d t _ (fun hge => by simp [Array.getD_eq_getD_getElem?, show a.tmps.size ≤ d by omega])]
        by_cases e : t = d
        · rw [if_pos e, e]
        · rw [if_neg e]
          exact h3 t (by
            have : ¬ t ∈ l := by simpa using ht
            simp [e, this])
  exact (key (dstsP ops L) a0 h.size.symm h.defers.symm (fun t ht => (h.slot t ht).symm)).symm



end Go.Proofs.YtanlgplgplncdaaDoor

/-
  MatchBack: its region that draws its order.
-/
namespace Go.Proofs.YtanlgplgplncdaaDoor
open Go Go.RowKit
set_option linter.unusedVariables false
set_option linter.unusedSimpArgs false

def opsL : List Value := [.string ⟨#[]⟩, .string ⟨#[61]⟩, .string ⟨#[33, 61]⟩, .string ⟨#[61, 126]⟩, .string ⟨#[33, 126]⟩]
theorem build41 (w1 : World) : (Instr.buildSlice 41 5 #[(0, .string ⟨#[]⟩), (1, .string ⟨#[61]⟩), (2, .string ⟨#[33, 61]⟩), (3, .string ⟨#[61, 126]⟩), (4, .string ⟨#[33, 126]⟩)]).run Tryd.prog w1 = .ok (.slice (some ⟨w1.heap.size, 0, none⟩) 5 5) (w1.alloc (.cells opsL.toArray 9)) := by
  simp [go_sem, opsL]
theorem wp_valP {P : Program} {Q : Exit → Act → World → Prop} {K : Act → World → Prop} {o : Oper} {a : Act} {w w' : World} (v : Value) (h : (execOp a.eval o).run P w = .ok (.value v) w') (hk : K (a.put o.dst v) w') : o.wp P a w K Q := by
  unfold Oper.wp
  rw [h]
  exact hk

set_option maxRecDepth 100000 in
set_option maxHeartbeats 2000000 in
theorem back_r16 (bb off n c0 i o : Nat) (xn xt ot acc r1 r2 r3 r4 q R : ByteArray) (w : World) (a0 : Act) (Q : Exit → Act → World → Prop) (hsz : a0.tmps.size = 147)
    (s0 : a0.tmps.getD 0 undef = .slice (some ⟨bb, off, none⟩) n c0)
    (s11 : a0.tmps.getD 11 undef = .string acc)
    (s12 : a0.tmps.getD 12 undef = .int .i64 (i : Int))
    (hin : (i : Int) < (n : Int)) (hinN : i < n) (ho1 : (o : Int) < 5) (ho2 : o < 5) (hot : opsL[o]? = some (.string ot))
    (hc0 : ∀ w1, Lat w w1 → w1.cell? ⟨bb, off + i * 3, none⟩ = some (.string xn)) (hc1 : ∀ w1, Lat w w1 → w1.cell? ⟨bb, off + i * 3 + 1, none⟩ = some (.int .i64 (o : Int))) (hc2 : ∀ w1, Lat w w1 → w1.cell? ⟨bb, off + i * 3 + 2, none⟩ = some (.string xt))
    (h62 : ∀ w1, (binOp .add 9 (.string acc) (.string xn)).run Tryd.prog w1 = .ok (.string r1) w1)
    (h63 : ∀ w1, (binOp .add 9 (.string r1) (.string ⟨#[32, 32]⟩)).run Tryd.prog w1 = .ok (.string r2) w1)
    (h72 : ∀ w1, (binOp .add 9 (.string r2) (.string ot)).run Tryd.prog w1 = .ok (.string r3) w1)
    (h73 : ∀ w1, (binOp .add 9 (.string r3) (.string ⟨#[32, 32, 32]⟩)).run Tryd.prog w1 = .ok (.string r4) w1)
    (h80 : ∀ w1, (binOp .add 9 (.string r4) (.string q)).run Tryd.prog w1 = .ok (.string R) w1)
    (hq : ∀ wx, Calls Tryd.prog 12 #[.string xt] wx fun e w' => e = .returned (.string q) ∧ w' = wx)
    (hQ : ∀ (v56 v57 v58 v59 v60 v61 v62 v63 v64 v65 v66 v67 v68 v69 v70 v71 v72 v73 v74 v75 v76 v77 v78 v79 v80 : Value) (w1 : World), Lat w w1 → Q .normal ((((((((((((((((((((((((((a0.put (some 56) v56).put (some 57) v57).put (some 58) v58).put (some 59) v59).put (some 60) v60).put (some 61) v61).put (some 62) v62).put (some 63) v63).put (some 64) v64).put (some 65) v65).put (some 66) v66).put (some 67) v67).put (some 68) v68).put (some 69) v69).put (some 70) v70).put (some 71) v71).put (some 72) v72).put (some 73) v73).put (some 74) v74).put (some 75) v75).put (some 76) v76).put (some 77) v77).put (some 78) v78).put (some 79) v79).put (some 80) v80).put (some 11) (.string R)) w1) :
    Code.wp Tryd.prog ((Tryd.f4.body.bind (findRegion 16)).getD .skip) Q a0 w := by
  conv => arg 2; whnf
  refine wp_region_lastP 25 Lat (TE [Ent.val (.string acc), Ent.val (.slice (some ⟨bb, off, none⟩) n c0), Ent.val (.int .i64 (i : Int)), Ent.val (.pointer (some ⟨bb, off + i * 3, none⟩)), Ent.val (.pointer (some ⟨bb, off + i * 3, none⟩)), Ent.val (.string xn), Ent.val (.string r1), Ent.val (.string r2), (⟨fun v w1 => ∃ g, v = .slice (some ⟨g, 0, none⟩) 5 5 ∧ Blk w1 g 9 opsL, fun v x y h hl => by obtain ⟨g, h1, h2⟩ := h; exact ⟨g, h1, h2.later hl⟩⟩ : Ent Lat), Ent.val (.slice (some ⟨bb, off, none⟩) n c0), Ent.val (.int .i64 (i : Int)), Ent.val (.pointer (some ⟨bb, off + i * 3, none⟩)), Ent.val (.pointer (some ⟨bb, off + i * 3 + 1, none⟩)), Ent.val (.int .i64 (o : Int)), (⟨fun v w1 => ∃ g, v = .pointer (some ⟨g, o, none⟩) ∧ Blk w1 g 9 opsL, fun v x y h hl => by obtain ⟨g, h1, h2⟩ := h; exact ⟨g, h1, h2.later hl⟩⟩ : Ent Lat), Ent.val (.string ot), Ent.val (.string r3), Ent.val (.string r4), Ent.val (.slice (some ⟨bb, off, none⟩) n c0), Ent.val (.int .i64 (i : Int)), Ent.val (.pointer (some ⟨bb, off + i * 3, none⟩)), Ent.val (.pointer (some ⟨bb, off + i * 3 + 2, none⟩)), Ent.val (.string xt), Ent.val (.string q), Ent.val (.string R)]) (by kernel_rfl) (by kernel_rfl) (by kernel_rfl) (by rw [hsz]; kernel_rfl) (by kernel_rfl) (by kernel_rfl) Lat.refl Lat.trans (TE_stable _) (Lat.draw w) ?hop ?hlast
  case hlast =>
    intro o a w1 ho hL hS hT
    obtain rfl := Option.some.inj ho
    have he := same_putsP hS
    have dl : a.tmps.getD 80 undef = .string R := hT 24 _ (by omega) rfl
    have hQ2 := hQ (a.tmps.getD 56 undef) (a.tmps.getD 57 undef) (a.tmps.getD 58 undef) (a.tmps.getD 59 undef) (a.tmps.getD 60 undef) (a.tmps.getD 61 undef) (a.tmps.getD 62 undef) (a.tmps.getD 63 undef) (a.tmps.getD 64 undef) (a.tmps.getD 65 undef) (a.tmps.getD 66 undef) (a.tmps.getD 67 undef) (a.tmps.getD 68 undef) (a.tmps.getD 69 undef) (a.tmps.getD 70 undef) (a.tmps.getD 71 undef) (a.tmps.getD 72 undef) (a.tmps.getD 73 undef) (a.tmps.getD 74 undef) (a.tmps.getD 75 undef) (a.tmps.getD 76 undef) (a.tmps.getD 77 undef) (a.tmps.getD 78 undef) (a.tmps.getD 79 undef) (a.tmps.getD 80 undef) w1 hL
    refine wp_valP (.string R) (w' := w1) (by simp only [Array.getD_eq_getD_getElem?] at dl; simp [execOp, Act.eval, dl, go_sem]) ?_
    show Q .normal (a.put (some 11) (.string R)) w1
    rw [he]
    exact hQ2
  case hop =>
    intro i o hlt hi
    rcases (show i = 0 ∨ i = 1 ∨ i = 2 ∨ i = 3 ∨ i = 4 ∨ i = 5 ∨ i = 6 ∨ i = 7 ∨ i = 8 ∨ i = 9 ∨ i = 10 ∨ i = 11 ∨ i = 12 ∨ i = 13 ∨ i = 14 ∨ i = 15 ∨ i = 16 ∨ i = 17 ∨ i = 18 ∨ i = 19 ∨ i = 20 ∨ i = 21 ∨ i = 22 ∨ i = 23 ∨ i = 24 by omega) with rfl | rfl | rfl | rfl | rfl | rfl | rfl | rfl | rfl | rfl | rfl | rfl | rfl | rfl | rfl | rfl | rfl | rfl | rfl | rfl | rfl | rfl | rfl | rfl | rfl
    · obtain rfl := Option.some.inj hi
      clear hi hlt
      intro a w1 hL hS hD
      have e11 : a.tmps.getD 11 undef = .string acc := (hS.slot 11 (by kernel_rfl)).trans s11
      refine step_yes rfl ?_
      exact ok_value Lat.refl (.string acc) (by simp [execOp, Act.eval, e11, go_sem]) rfl
    · obtain rfl := Option.some.inj hi
      clear hi hlt
      intro a w1 hL hS hD
      have e0 : a.tmps.getD 0 undef = .slice (some ⟨bb, off, none⟩) n c0 := (hS.slot 0 (by kernel_rfl)).trans s0
      refine step_yes rfl ?_
      exact ok_value Lat.refl (.slice (some ⟨bb, off, none⟩) n c0) (by simp [execOp, Act.eval, e0, go_sem]) rfl
    · obtain rfl := Option.some.inj hi
      clear hi hlt
      intro a w1 hL hS hD
      have e12 : a.tmps.getD 12 undef = .int .i64 (i : Int) := (hS.slot 12 (by kernel_rfl)).trans s12
      refine step_yes rfl ?_
      exact ok_value Lat.refl (.int .i64 (i : Int)) (by simp [execOp, Act.eval, e12, go_sem]) rfl
    · obtain rfl := Option.some.inj hi
      clear hi hlt
      intro a w1 hL hS hD
      have d1 : a.tmps.getD 57 undef = .slice (some ⟨bb, off, none⟩) n c0 := hD ⟨1, .data⟩ (by simp) rfl _ rfl
      have d2 : a.tmps.getD 58 undef = .int .i64 (i : Int) := hD ⟨2, .data⟩ (by simp) rfl _ rfl
      refine step_yes rfl ?_
      exact ok_value Lat.refl (.pointer (some ⟨bb, off + i * 3, none⟩)) (by simp [execOp, Act.eval, d1, d2, hin, hinN, go_sem]) rfl
    · obtain rfl := Option.some.inj hi
      clear hi hlt
      intro a w1 hL hS hD
      have d3 : a.tmps.getD 59 undef = .pointer (some ⟨bb, off + i * 3, none⟩) := hD ⟨3, .data⟩ (by simp) rfl _ rfl
      refine step_yes rfl ?_
      exact ok_value Lat.refl (.pointer (some ⟨bb, off + i * 3, none⟩)) (by simp [execOp, Act.eval, d3, go_sem]) rfl
    · obtain rfl := Option.some.inj hi
      clear hi hlt
      intro a w1 hL hS hD
      have d4 : a.tmps.getD 60 undef = .pointer (some ⟨bb, off + i * 3, none⟩) := hD ⟨4, .data⟩ (by simp) rfl _ rfl
      refine step_yes rfl ?_
      exact ok_value Lat.refl (.string xn) (by simp [execOp, Act.eval, d4, hc0 w1 hL, go_sem]) rfl
    · obtain rfl := Option.some.inj hi
      clear hi hlt
      intro a w1 hL hS hD
      have d0 : a.tmps.getD 56 undef = .string acc := hD ⟨0, .data⟩ (by simp) rfl _ rfl
      have d5 : a.tmps.getD 61 undef = .string xn := hD ⟨5, .data⟩ (by simp) rfl _ rfl
      refine step_yes rfl ?_
      exact ok_value Lat.refl (.string r1) (by simp only [Array.getD_eq_getD_getElem?] at d0 d5; simp [execOp, Act.eval, d0, d5, h62, Result.andThen]; simp [eqGuard, go_sem]) rfl
    · obtain rfl := Option.some.inj hi
      clear hi hlt
      intro a w1 hL hS hD
      have d6 : a.tmps.getD 62 undef = .string r1 := hD ⟨6, .data⟩ (by simp) rfl _ rfl
      refine step_yes rfl ?_
      exact ok_value Lat.refl (.string r2) (by simp only [Array.getD_eq_getD_getElem?] at d6; simp [execOp, Act.eval, d6, h63, Result.andThen]; simp [eqGuard, go_sem]) rfl
    · obtain rfl := Option.some.inj hi
      clear hi hlt
      intro a w1 hL hS hD
      refine step_yes rfl ?_
      have hbs := build41 w1
      refine wp_valP (.slice (some ⟨w1.heap.size, 0, none⟩) 5 5) (w' := w1.alloc (.cells opsL.toArray 9)) (by simp [execOp, Act.eval, hbs, Result.andThen]) ?_
      exact ⟨_, rfl, (Below.refl _ _).alloc (Nat.le_refl _) _, ⟨w1.heap.size, rfl, Blk.new w1 9 opsL⟩⟩
    · obtain rfl := Option.some.inj hi
      clear hi hlt
      intro a w1 hL hS hD
      have e0 : a.tmps.getD 0 undef = .slice (some ⟨bb, off, none⟩) n c0 := (hS.slot 0 (by kernel_rfl)).trans s0
      refine step_yes rfl ?_
      exact ok_value Lat.refl (.slice (some ⟨bb, off, none⟩) n c0) (by simp [execOp, Act.eval, e0, go_sem]) rfl
    · obtain rfl := Option.some.inj hi
      clear hi hlt
      intro a w1 hL hS hD
      have e12 : a.tmps.getD 12 undef = .int .i64 (i : Int) := (hS.slot 12 (by kernel_rfl)).trans s12
      refine step_yes rfl ?_
      exact ok_value Lat.refl (.int .i64 (i : Int)) (by simp [execOp, Act.eval, e12, go_sem]) rfl
    · obtain rfl := Option.some.inj hi
      clear hi hlt
      intro a w1 hL hS hD
      have d9 : a.tmps.getD 65 undef = .slice (some ⟨bb, off, none⟩) n c0 := hD ⟨9, .data⟩ (by simp) rfl _ rfl
      have d10 : a.tmps.getD 66 undef = .int .i64 (i : Int) := hD ⟨10, .data⟩ (by simp) rfl _ rfl
      refine step_yes rfl ?_
      exact ok_value Lat.refl (.pointer (some ⟨bb, off + i * 3, none⟩)) (by simp [execOp, Act.eval, d9, d10, hin, hinN, go_sem]) rfl
    · obtain rfl := Option.some.inj hi
      clear hi hlt
      intro a w1 hL hS hD
      have d11 : a.tmps.getD 67 undef = .pointer (some ⟨bb, off + i * 3, none⟩) := hD ⟨11, .data⟩ (by simp) rfl _ rfl
      refine step_yes rfl ?_
      exact ok_value Lat.refl (.pointer (some ⟨bb, off + i * 3 + 1, none⟩)) (by simp [execOp, Act.eval, d11, go_sem]) rfl
    · obtain rfl := Option.some.inj hi
      clear hi hlt
      intro a w1 hL hS hD
      have d12 : a.tmps.getD 68 undef = .pointer (some ⟨bb, off + i * 3 + 1, none⟩) := hD ⟨12, .data⟩ (by simp) rfl _ rfl
      refine step_yes rfl ?_
      exact ok_value Lat.refl (.int .i64 (o : Int)) (by simp [execOp, Act.eval, d12, hc1 w1 hL, go_sem]) rfl
    · obtain rfl := Option.some.inj hi
      clear hi hlt
      intro a w1 hL hS hD
      have d8 := hD ⟨8, .data⟩ (by simp) rfl _ rfl
      have d13 : a.tmps.getD 69 undef = .int .i64 (o : Int) := hD ⟨13, .data⟩ (by simp) rfl _ rfl
      refine step_yes rfl ?_
      obtain ⟨g, dq, hB⟩ := d8
      have d64 : a.tmps.getD 64 undef = .slice (some ⟨g, 0, none⟩) 5 5 := dq
      refine wp_valP (.pointer (some ⟨g, o, none⟩)) (w' := w1) (by simp only [Array.getD_eq_getD_getElem?] at d64 d13; simp [execOp, Act.eval, d64, d13, ho1, ho2, go_sem]) ?_
      exact ⟨_, rfl, Lat.refl _, ⟨g, rfl, hB⟩⟩
    · obtain rfl := Option.some.inj hi
      clear hi hlt
      intro a w1 hL hS hD
      have d14 := hD ⟨14, .data⟩ (by simp) rfl _ rfl
      refine step_yes rfl ?_
      obtain ⟨g, dq, hB⟩ := d14
      have d70 : a.tmps.getD 70 undef = .pointer (some ⟨g, o, none⟩) := dq
      have hc : w1.cell? ⟨g, o, none⟩ = some (.string ot) := (hB.cell o).trans hot
      exact ok_value Lat.refl (.string ot) (by simp only [Array.getD_eq_getD_getElem?] at d70; simp [execOp, Act.eval, d70, hc, go_sem]) rfl
    · obtain rfl := Option.some.inj hi
      clear hi hlt
      intro a w1 hL hS hD
      have d7 : a.tmps.getD 63 undef = .string r2 := hD ⟨7, .data⟩ (by simp) rfl _ rfl
      have d15 : a.tmps.getD 71 undef = .string ot := hD ⟨15, .data⟩ (by simp) rfl _ rfl
      refine step_yes rfl ?_
      exact ok_value Lat.refl (.string r3) (by simp only [Array.getD_eq_getD_getElem?] at d7 d15; simp [execOp, Act.eval, d7, d15, h72, Result.andThen]; simp [eqGuard, go_sem]) rfl
    · obtain rfl := Option.some.inj hi
      clear hi hlt
      intro a w1 hL hS hD
      have d16 : a.tmps.getD 72 undef = .string r3 := hD ⟨16, .data⟩ (by simp) rfl _ rfl
      refine step_yes rfl ?_
      exact ok_value Lat.refl (.string r4) (by simp only [Array.getD_eq_getD_getElem?] at d16; simp [execOp, Act.eval, d16, h73, Result.andThen]; simp [eqGuard, go_sem]) rfl
    · obtain rfl := Option.some.inj hi
      clear hi hlt
      intro a w1 hL hS hD
      have e0 : a.tmps.getD 0 undef = .slice (some ⟨bb, off, none⟩) n c0 := (hS.slot 0 (by kernel_rfl)).trans s0
      refine step_yes rfl ?_
      exact ok_value Lat.refl (.slice (some ⟨bb, off, none⟩) n c0) (by simp [execOp, Act.eval, e0, go_sem]) rfl
    · obtain rfl := Option.some.inj hi
      clear hi hlt
      intro a w1 hL hS hD
      have e12 : a.tmps.getD 12 undef = .int .i64 (i : Int) := (hS.slot 12 (by kernel_rfl)).trans s12
      refine step_yes rfl ?_
      exact ok_value Lat.refl (.int .i64 (i : Int)) (by simp [execOp, Act.eval, e12, go_sem]) rfl
    · obtain rfl := Option.some.inj hi
      clear hi hlt
      intro a w1 hL hS hD
      have d18 : a.tmps.getD 74 undef = .slice (some ⟨bb, off, none⟩) n c0 := hD ⟨18, .data⟩ (by simp) rfl _ rfl
      have d19 : a.tmps.getD 75 undef = .int .i64 (i : Int) := hD ⟨19, .data⟩ (by simp) rfl _ rfl
      refine step_yes rfl ?_
      exact ok_value Lat.refl (.pointer (some ⟨bb, off + i * 3, none⟩)) (by simp [execOp, Act.eval, d18, d19, hin, hinN, go_sem]) rfl
    · obtain rfl := Option.some.inj hi
      clear hi hlt
      intro a w1 hL hS hD
      have d20 : a.tmps.getD 76 undef = .pointer (some ⟨bb, off + i * 3, none⟩) := hD ⟨20, .data⟩ (by simp) rfl _ rfl
      refine step_yes rfl ?_
      exact ok_value Lat.refl (.pointer (some ⟨bb, off + i * 3 + 2, none⟩)) (by simp [execOp, Act.eval, d20, go_sem]) rfl
    · obtain rfl := Option.some.inj hi
      clear hi hlt
      intro a w1 hL hS hD
      have d21 : a.tmps.getD 77 undef = .pointer (some ⟨bb, off + i * 3 + 2, none⟩) := hD ⟨21, .data⟩ (by simp) rfl _ rfl
      refine step_yes rfl ?_
      exact ok_value Lat.refl (.string xt) (by simp [execOp, Act.eval, d21, hc2 w1 hL, go_sem]) rfl
    · obtain rfl := Option.some.inj hi
      clear hi hlt
      intro a w1 hL hS hD
      have d22 : a.tmps.getD 78 undef = .string xt := hD ⟨22, .data⟩ (by simp) rfl _ rfl
      refine step_yes rfl ?_
      refine ok_call (f := 12) (args := #[.string xt]) (by simp [execOp, resolve, Act.eval, d22, go_sem]) ?_
      refine (hq w1).mono ?_
      rintro e w' ⟨rfl, rfl⟩
      exact ⟨_, rfl, Lat.refl _, rfl⟩
    · obtain rfl := Option.some.inj hi
      clear hi hlt
      intro a w1 hL hS hD
      have d17 : a.tmps.getD 73 undef = .string r4 := hD ⟨17, .data⟩ (by simp) rfl _ rfl
      have d23 : a.tmps.getD 79 undef = .string q := hD ⟨23, .data⟩ (by simp) rfl _ rfl
      refine step_yes rfl ?_
      exact ok_value Lat.refl (.string R) (by simp only [Array.getD_eq_getD_getElem?] at d17 d23; simp [execOp, Act.eval, d17, d23, h80, Result.andThen]; simp [eqGuard, go_sem]) rfl

end Go.Proofs.YtanlgplgplncdaaDoor
