/-
  Walk, purely: runs of a sorted list; of lists that rise, joined, they are the union, each number with how many lists it is in.
-/
import Derived.Test.YtjpelnbffodaiaaPoS
namespace Go.Proofs.Ytjpelnbffodaiaa
open Go.RowKit
set_option linter.unusedVariables false
set_option linter.unusedSimpArgs false

/-- Equal numbers side by side, each with how many there are. -/
def runsF : List Nat → List (Nat × Nat)
  | [] => []
  | a :: l => match runsF l with
    | [] => [(a, 1)]
    | (b, k) :: r => if a = b then (b, k + 1) :: r else (a, 1) :: (b, k) :: r

theorem runsF_nil : runsF [] = [] := rfl
theorem runsF_head : ∀ (l : List Nat) (b k : Nat) (r : List (Nat × Nat)), runsF l = (b, k) :: r → l.head? = some b
  | [], b, k, r, h => by cases h
  | a :: l, b, k, r, h => by
    unfold runsF at h
    split at h
    · injection h with h1 h2
      injection h1 with h1 h3
      simp [h1]
    · split at h
      · rename_i e
        injection h with h1 h2
        injection h1 with h1 h3
        simp [e, h1]
      · injection h with h1 h2
        injection h1 with h1 h3
        simp [h1]
theorem runsF_one (a : Nat) (l : List Nat) (h : l.head? ≠ some a) : runsF (a :: l) = (a, 1) :: runsF l := by
  conv => lhs; unfold runsF
  split
  · rename_i e; rw [e]
  · rename_i b k r e
    have := runsF_head l b k r e
    rw [if_neg (fun e2 => h (by rw [this, e2])), e]
theorem runsF_more (a k : Nat) (l : List Nat) (r : List (Nat × Nat)) (h : runsF l = (a, k) :: r) : runsF (a :: l) = (a, k + 1) :: r := by
  conv => lhs; unfold runsF
  rw [h]
  simp
theorem runsF_rep (a : Nat) (l : List Nat) (h : l.head? ≠ some a) : ∀ k, runsF (List.replicate (k + 1) a ++ l) = (a, k + 1) :: runsF l
  | 0 => by simpa using runsF_one a l h
  | k + 1 => by
    rw [List.replicate_succ, List.cons_append]
    exact runsF_more a (k + 1) _ _ (runsF_rep a l h k)

/-- What a round of runs holds: from f to i all are one number. -/
def Alike (l : List Nat) (f i : Nat) : Prop := ∀ j, f ≤ j → j ≤ i → l.getD j 0 = l.getD i 0
theorem alike_self (l : List Nat) (i : Nat) : Alike l i i := fun j h1 h2 => by rw [show j = i by omega]
theorem alike_next {l : List Nat} {f i : Nat} (h : Alike l f i) (e : l.getD i 0 = l.getD (i + 1) 0) : Alike l f (i + 1) := by
  intro j h1 h2
  rcases Nat.lt_or_ge i j with hj | hj
  · rw [show j = i + 1 by omega]
  · rw [h j h1 hj, e]
theorem runs_step {l : List Nat} {f i : Nat} (hf : f ≤ i) (hi : i < l.length) (h : Alike l f i) (hn : i + 1 < l.length → l.getD i 0 ≠ l.getD (i + 1) 0) :
    runsF (l.drop f) = (l.getD i 0, i + 1 - f) :: runsF (l.drop (i + 1)) := by
  obtain ⟨k, rfl⟩ : ∃ k, i = f + k := ⟨i - f, by omega⟩
  have e : l.drop f = List.replicate (k + 1) (l.getD (f + k) 0) ++ l.drop (f + k + 1) := by
    rw [show l.drop (f + k + 1) = (l.drop f).drop (k + 1) by rw [List.drop_drop, Nat.add_assoc]]
    conv => lhs; rw [← List.take_append_drop (k + 1) (l.drop f)]
    congr 1
    rw [List.eq_replicate_iff]
    refine ⟨by simp; omega, fun b hb => ?_⟩
    obtain ⟨j, hj, rfl⟩ := List.mem_iff_getElem.1 hb
    simp only [List.length_take, List.length_drop] at hj
    have := h (f + j) (by omega) (by omega)
    rw [← this]
    simp [List.getD, show f + j < l.length by omega]
  rw [e, runsF_rep]
  · congr 2
    omega
  · intro hh
    rw [List.head?_drop, List.getElem?_eq_some_iff] at hh
    obtain ⟨h1, h2⟩ := hh
    refine hn h1 ?_
    rw [← h2]
    simp [List.getD, h1]

theorem head_le {l : List Nat} {a b : Nat} (h : (a :: l).Pairwise (· ≤ ·)) (hb : l.head? = some b) : a ≤ b := by
  cases l with
  | nil => cases hb
  | cons c r =>
    injection hb with hb
    subst hb
    exact (List.pairwise_cons.1 h).1 c (by simp)
/-- Runs of a sorted list: its numbers, rising, each as often as it stands there. -/
theorem runs_sorted : ∀ (l : List Nat), l.Pairwise (· ≤ ·) → Ris ((runsF l).map Prod.fst) ∧ (∀ x : Nat × Nat, x ∈ runsF l → x.1 ∈ l ∧ x.2 = l.count x.1) ∧ ∀ n ∈ l, n ∈ (runsF l).map Prod.fst
  | [], _ => ⟨ris_nil, fun x hx => by simp [runsF] at hx, fun n hn => by simp at hn⟩
  | a :: l, h => by
    obtain ⟨h1, h2, h3⟩ := runs_sorted l (List.pairwise_cons.1 h).2
    cases hr : runsF l with
    | nil =>
      have hl : l = [] := by
        cases l with
        | nil => rfl
        | cons b r => have := h3 b (by simp); rw [hr] at this; simp at this
      subst hl
      have : runsF [a] = [(a, 1)] := rfl
      rw [this]
      refine ⟨ris_one a, fun x hx => ?_, fun n hn => by simpa using hn⟩
      simp at hx
      subst hx
      simp
    | cons p r =>
      obtain ⟨b, k⟩ := p
      have hb := runsF_head l b k r hr
      have hab := head_le h hb
      rw [hr] at h1 h2 h3
      simp only [List.map_cons] at h1 h3
      rcases Nat.lt_or_ge a b with hlt | hge
      · have e : runsF (a :: l) = (a, 1) :: (b, k) :: r := by rw [← hr]; exact runsF_one a l (by rw [hb]; intro e; injection e with e; omega)
        have hbl : b ≤ b := Nat.le_refl _
        have hmin : ∀ x ∈ b :: r.map Prod.fst, b ≤ x := fun x hx => by
          rcases List.mem_cons.1 hx with rfl | hx
          · exact Nat.le_refl _
          · exact Nat.le_of_lt ((List.pairwise_cons.1 h1).1 x hx)
        rw [e]
        simp only [List.map_cons]
        refine ⟨List.pairwise_cons.2 ⟨fun x hx => Nat.lt_of_lt_of_le hlt (hmin x hx), h1⟩, fun x hx => ?_, fun n hn => ?_⟩
        · rcases List.mem_cons.1 hx with rfl | hx
          · refine ⟨by simp, ?_⟩
            have hna : a ∉ l := fun hm => by have := hmin a (h3 a hm); omega
            rw [List.count_cons_self, List.count_eq_zero.2 hna]
          · have hx1 := hmin x.1 (by
              have := List.mem_map_of_mem (f := Prod.fst) hx
              simpa using this)
            obtain ⟨q1, q2⟩ := h2 x hx
            refine ⟨by simp [q1], ?_⟩
            rw [List.count_cons_of_ne (by omega)]
            exact q2
        · rcases List.mem_cons.1 hn with rfl | hn
          · simp
          · exact List.mem_cons_of_mem _ (h3 n hn)
      · obtain rfl : a = b := by omega
        have e : runsF (a :: l) = (a, k + 1) :: r := runsF_more a k l r hr
        rw [e]
        simp only [List.map_cons]
        refine ⟨h1, fun x hx => ?_, fun n hn => ?_⟩
        · rcases List.mem_cons.1 hx with rfl | hx
          · refine ⟨by simp, ?_⟩
            have := (h2 (a, k) (by simp)).2
            dsimp only at this ⊢
            rw [List.count_cons_self, ← this]
          · obtain ⟨q1, q2⟩ := h2 x (by simp [hx])
            refine ⟨by simp [q1], ?_⟩
            have hx1 := (List.pairwise_cons.1 h1).1 x.1 (List.mem_map_of_mem (f := Prod.fst) hx)
            rw [List.count_cons_of_ne (by omega)]
            exact q2
        · rcases List.mem_cons.1 hn with rfl | hn
          · simp
          · exact h3 n hn

/-- How many of the lists have it. -/
def inMany (ls : List (List Nat)) (n : Nat) : Nat := (ls.filter (fun l => decide (n ∈ l))).length
theorem inMany_snoc (ls : List (List Nat)) (l : List Nat) (n : Nat) : inMany (ls ++ [l]) n = inMany ls n + (if n ∈ l then 1 else 0) := by
  unfold inMany
  rw [List.filter_append, List.length_append]
  by_cases h : n ∈ l <;> simp [h]
theorem ris_count {l : List Nat} (h : Ris l) (n : Nat) : l.count n = if n ∈ l then 1 else 0 := by
  by_cases hn : n ∈ l
  · rw [if_pos hn]
    have hnd : l.Nodup := List.Pairwise.imp (fun h => by omega) h
    exact Nat.le_antisymm (List.nodup_iff_count.1 hnd n) (List.count_pos_iff.2 hn)
  · rw [if_neg hn, List.count_eq_zero.2 hn]
theorem count_flat : ∀ (ls : List (List Nat)), (∀ l ∈ ls, Ris l) → ∀ n, ls.flatten.count n = inMany ls n
  | [], _, n => rfl
  | l :: ls, h, n => by
    rw [List.flatten_cons, List.count_append, count_flat ls (fun m hm => h m (by simp [hm])) n, ris_count (h l (by simp))]
    unfold inMany
    by_cases hn : n ∈ l <;> simp [hn]
    omega
/-- The union, list by list. -/
def unionF (ls : List (List Nat)) : List Nat := ls.foldl orF []
theorem unionF_snoc (ls : List (List Nat)) (l : List Nat) : unionF (ls ++ [l]) = orF (unionF ls) l := by simp [unionF]
theorem fold_orF : ∀ (ls : List (List Nat)) (A : List Nat), Ris A → (∀ l ∈ ls, Ris l) → Ris (ls.foldl orF A) ∧ ∀ x, x ∈ ls.foldl orF A ↔ x ∈ A ∨ ∃ l ∈ ls, x ∈ l
  | [], A, h, _ => ⟨h, fun x => by simp⟩
  | l :: ls, A, h, k => by
    obtain ⟨h1, h2⟩ := fold_orF ls (orF A l) (joF_ris _ _ _ _ _) (fun m hm => k m (by simp [hm]))
    refine ⟨h1, fun x => ?_⟩
    rw [List.foldl_cons, h2, orF_mem h (k l (by simp))]
    constructor
    · rintro ((hx | hx) | ⟨m, hm, hx⟩)
      · exact .inl hx
      · exact .inr ⟨l, by simp, hx⟩
      · exact .inr ⟨m, by simp [hm], hx⟩
    · rintro (hx | ⟨m, hm, hx⟩)
      · exact .inl (.inl hx)
      · rcases List.mem_cons.1 hm with rfl | hm
        · exact .inl (.inr hx)
        · exact .inr ⟨m, hm, hx⟩
theorem unionF_ris (ls : List (List Nat)) (h : ∀ l ∈ ls, Ris l) : Ris (unionF ls) := (fold_orF ls [] ris_nil h).1
theorem unionF_mem (ls : List (List Nat)) (h : ∀ l ∈ ls, Ris l) (x : Nat) : x ∈ unionF ls ↔ ∃ l ∈ ls, x ∈ l := by
  rw [show unionF ls = ls.foldl orF [] from rfl, (fold_orF ls [] ris_nil h).2]
  simp
/-- What Walk tells: the document's answer. -/
def walkF (ls : List (List Nat)) : List (Nat × Nat) := (unionF ls).map (fun n => (n, inMany ls n))
theorem walk_runs (ls : List (List Nat)) (h : ∀ l ∈ ls, Ris l) (m : List Nat) (hp : m.Perm ls.flatten) (hs : m.Pairwise (· ≤ ·)) : runsF m = walkF ls := by
  obtain ⟨h1, h2, h3⟩ := runs_sorted m hs
  have e : (runsF m).map Prod.fst = unionF ls := ris_ext h1 (unionF_ris ls h) (fun x => by
    rw [unionF_mem ls h, ← List.mem_flatten, ← hp.mem_iff]
    constructor
    · intro hx
      obtain ⟨y, hy, rfl⟩ := List.mem_map.1 hx
      exact (h2 y hy).1
    · exact h3 x)
  unfold walkF
  rw [← e, List.map_map]
  conv => lhs; rw [← List.map_id (runsF m)]
  refine List.map_congr_left fun x hx => ?_
  simp only [id, Function.comp]
  rw [← count_flat ls h, ← hp.count_eq, ← (h2 x hx).2]
theorem unionF_len : ∀ (ls : List (List Nat)) (A : List Nat), (ls.foldl orF A).length ≤ A.length + ls.flatten.length
  | [], A => by simp
  | l :: ls, A => by
    have h1 := unionF_len ls (orF A l)
    have h2 := joF_len true true true A l
    have h3 : (orF A l).length ≤ A.length + l.length := h2
    rw [List.foldl_cons, List.flatten_cons, List.length_append]
    omega
theorem unionF_wrd : ∀ (ls : List (List Nat)) (A : List Nat), Wrd A → (∀ l ∈ ls, Wrd l) → Wrd (ls.foldl orF A)
  | [], A, h, _ => h
  | l :: ls, A, h, k => unionF_wrd ls (orF A l) (wrd_joF h (k l (by simp))) (fun m hm => k m (by simp [hm]))
end Go.Proofs.Ytjpelnbffodaiaa
