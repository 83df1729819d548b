/-
  Runs of samples, purely: one sample more.
-/
import Derived.Test.YtcgjmioncbihhaaDoorChS
namespace Go.Proofs.YtcgjmioncbihhaaDoor
open Go.RowKit
set_option linter.unusedVariables false
set_option linter.unusedSimpArgs false

/-- What the next one is told by. -/
def tl : List Sm → Tr
  | [] => ⟨0, 0, 0⟩
  | s :: t => trE (tr0 s) t
theorem rowB_on (l : List Sm) (s : Sm) : rowB (l ++ [s]) = rowB l ++ onB l.length (tl l) s := by
  cases l with
  | nil => simp [rowB, onB, moB]
  | cons x t => rw [rowB_more]; unfold onB tl; rw [if_neg (by simp)]
theorem tl_on (l : List Sm) (s : Sm) : tl (l ++ [s]) = onT l.length (tl l) s := by
  cases l with
  | nil => simp [tl, onT, trE]
  | cons x t =>
    unfold onT
    rw [if_neg (by simp)]
    show trE (tr0 x) (t ++ [s]) = _
    rw [trE_append]
    rfl
theorem trE_ok : ∀ (l : List Sm) (a : Tr), Ok a → (∀ x ∈ l, OkS x) → Ok (trE a l)
  | [], a, ha, _ => ha
  | s :: t, a, ha, h => trE_ok t _ (next_ok (h s (by simp))) (fun x hx => h x (by simp [hx]))
theorem tl_ok {l : List Sm} (h : ∀ x ∈ l, OkS x) : Ok (tl l) := by
  cases l with
  | nil => exact ⟨by show I64 0; unfold I64; omega, by show (0 : Nat) < _; omega, by show I64 0; unfold I64; omega⟩
  | cons s t => exact trE_ok t _ (tr0_ok (h s (by simp))) (fun x hx => h x (by simp [hx]))
theorem encC_len {l : List Sm} (h : l ≠ []) : (encC l).length = Q.grp l.length + 1 + ((rowB l).length + 7) / 8 := by
  unfold encC
  rw [if_neg h, List.length_append, Q.enc_length, pk_len]
theorem room_enc {l : List Sm} (h : l ≠ []) (most : Int) : room most l.length (rowB l) ↔ ((encC l).length : Int) ≤ most := by
  unfold room
  rw [encC_len h]
theorem room_on (l : List Sm) (s : Sm) (most : Int) : room most (l.length + 1) (rowB l ++ onB l.length (tl l) s) ↔ ((encC (l ++ [s])).length : Int) ≤ most := by
  rw [← room_enc (by simp), rowB_on]
  simp
theorem grpF_mono : ∀ f m n, m ≤ n → Q.grpF f m ≤ Q.grpF f n
  | 0, m, n, h => Nat.le_refl _
  | f + 1, m, n, h => by
    rw [Q.grpF, Q.grpF]
    have := grpF_mono f (m / 128) (n / 128) (by omega)
    split <;> split <;> omega
theorem grpF_one : ∀ f n, n < 128 → Q.grpF f n = 0
  | 0, _, _ => rfl
  | f + 1, n, h => by rw [Q.grpF, if_pos h]
theorem grpF_next : ∀ f n, Q.grpF f (n + 1) ≤ Q.grpF f n + 1
  | 0, n => by simp [Q.grpF]
  | f + 1, n => by
    rw [Q.grpF, Q.grpF]
    have h1 := grpF_next f (n / 128)
    have h2 := grpF_mono f ((n + 1) / 128) (n / 128 + 1) (by omega)
    have h3 := grpF_one f ((n + 1) / 128)
    split <;> split
    · omega
    · omega
    · have := h3 (by omega); omega
    · omega
theorem encC_mono {l : List Sm} {s : Sm} (hl : ∀ x ∈ l, OkS x) (hs : OkS s) : (encC l).length ≤ (encC (l ++ [s])).length ∧ (encC (l ++ [s])).length ≤ (encC l).length + 20 := by
  have h2 := onB_len (n := l.length) (tl_ok hl) hs
  rw [encC_len (l := l ++ [s]) (by simp), rowB_on]
  simp only [List.length_append, List.length_cons, List.length_nil, Nat.zero_add]
  by_cases h : l = []
  · subst h
    have : (onB 0 (tl []) s).length = 128 := by simp [onB, fiB, low_len]
    simp only [rowB, List.length_nil, this, encC, if_pos]
    rw [Q.grp_small _ (by omega)]
    omega
  · rw [encC_len h]
    have h3 := grpF_next 9 l.length
    have h4 := grpF_mono 9 l.length (l.length + 1) (by omega)
    unfold Q.grp
    omega
theorem encC_one (s : Sm) : (encC [s]).length = 17 := by
  rw [encC_len (by simp)]
  have : (rowB [s]).length = 128 := by simp [rowB, moB, fiB, low_len]
  rw [this, List.length_singleton, Q.grp_small _ (by omega)]
theorem encC_pre {l m : List Sm} (h : ∀ x ∈ l ++ m, OkS x) : (encC l).length ≤ (encC (l ++ m)).length := by
  induction m generalizing l with
  | nil => simp
  | cons s t ih =>
    have h1 := encC_mono (l := l) (s := s) (fun x hx => h x (by simp [hx])) (h s (by simp))
    have h2 := ih (l := l ++ [s]) (fun x hx => h x (by simpa using hx))
    simp only [List.append_assoc, List.singleton_append] at h2
    omega
theorem rev_ind {P : List Sm → Prop} (h0 : P []) (h1 : ∀ l s, P l → P (l ++ [s])) (l : List Sm) : P l := by
  have h : ∀ l : List Sm, P l.reverse := by
    intro l
    induction l with
    | nil => exact h0
    | cons x t ih => rw [List.reverse_cons]; exact h1 _ _ ih
  have := h l.reverse
  rwa [List.reverse_reverse] at this
theorem encC_le : ∀ {l : List Sm}, (∀ x ∈ l, OkS x) → (encC l).length ≤ 20 * l.length := by
  intro l
  refine rev_ind (P := fun l => (∀ x ∈ l, OkS x) → (encC l).length ≤ 20 * l.length) ?_ ?_ l
  · intro _; simp [encC]
  · intro l s ih h
    have h1 := encC_mono (l := l) (s := s) (fun x hx => h x (by simp [hx])) (h s (by simp))
    have h2 := ih (fun x hx => h x (by simp [hx]))
    simp only [List.length_append, List.length_singleton]
    omega
theorem rowB_le : ∀ {l : List Sm}, (∀ x ∈ l, OkS x) → (rowB l).length ≤ 145 * l.length := by
  intro l
  refine rev_ind (P := fun l => (∀ x ∈ l, OkS x) → (rowB l).length ≤ 145 * l.length) ?_ ?_ l
  · intro _; simp [rowB]
  · intro l s ih h
    have h1 := onB_len (n := l.length) (tl_ok (l := l) (fun x hx => h x (by simp [hx]))) (h s (by simp))
    have h2 := ih (fun x hx => h x (by simp [hx]))
    rw [rowB_on]
    simp only [List.length_append, List.length_singleton]
    omega
theorem drB_ge (d : Int) : 1 ≤ (drB d).length := by
  unfold drB
  repeat' split
  all_goals simp
theorem flB_ge (x : Nat) : 1 ≤ (flB x).length := by
  unfold flB
  split <;> simp
theorem moB_ge : ∀ (l : List Sm) (a : Tr), 2 * l.length ≤ (moB a l).length
  | [], a => by simp
  | s :: t, a => by
    have h1 := moB_ge t (a.next s)
    have h2 := drB_ge (a.drift s)
    have h3 := flB_ge (a.flips s)
    rw [moB]
    simp only [List.length_append, List.length_cons]
    omega
theorem pow_lit : (2 : Nat) ^ 64 = 18446744073709551616 := by decide

end Go.Proofs.YtcgjmioncbihhaaDoor
