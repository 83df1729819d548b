import Derived.Test.YtgmdpbahcbhfjaaGreatDoorIxB
import Derived.Test.YtgmdpbahcbhfjaaGreatDoorMtA
set_option linter.unusedSimpArgs false
set_option linter.unusedVariables false
set_option maxHeartbeats 40000000
set_option maxRecDepth 100000
/-
  Package index, purely: the series of a tenant, who has a label, and what a matcher leaves.
-/
namespace Go.Proofs.YtgmdpbahcbhfjaaGreatDoor
open Go.RowKit

/-- Whose series has a label. -/
def hasX (S : List (List L.Lb)) (x : L.Lb) : List Nat := (List.range S.length).filter fun i => decide (x ∈ S.getD i [])
theorem hasX_mem {S : List (List L.Lb)} {x : L.Lb} {i : Nat} : i ∈ hasX S x ↔ i < S.length ∧ x ∈ S.getD i [] := by simp [hasX]
theorem hasX_ris (S : List (List L.Lb)) (x : L.Lb) : (hasX S x).Pairwise (· < ·) := List.Pairwise.filter _ List.pairwise_lt_range
theorem hasX_more (S : List (List L.Lb)) (l : List L.Lb) (x : L.Lb) : hasX (S ++ [l]) x = hasX S x ++ (if x ∈ l then [S.length] else []) := by
  unfold hasX
  rw [List.length_append, List.length_singleton, List.range_succ, List.filter_append]
  congr 1
  · refine List.filter_congr fun i hi => ?_
    have hi' : i < S.length := by simpa using hi
    have : (S ++ [l]).getD i [] = S.getD i [] := by simp [List.getD, List.getElem?_append_left hi']
    rw [this]
  · by_cases h : x ∈ l <;> simp [List.getD, h]
/-- No name twice. -/
def OneN (l : List L.Lb) : Prop := l.Pairwise (fun a b => ¬ a.n = b.n)
theorem right_oneN {l : List L.Lb} (h : L.right l = true) : OneN l := by
  obtain ⟨_, _, _, hp⟩ := (L.right_iff l).1 h
  refine hp.imp fun {a b} h e => ?_
  unfold L.ltN at h
  rw [e, L.lss_irr] at h
  cases h
theorem got_mem {l : List L.Lb} (h : OneN l) {n v : ByteArray} (hm : (⟨n, v⟩ : L.Lb) ∈ l) : gotL l n = v := by
  have key : ∀ l : List L.Lb, OneN l → (⟨n, v⟩ : L.Lb) ∈ l → L.getL l (L.bts n) = L.bts v := by
    intro l
    induction l with
    | nil => intro _ h; cases h
    | cons x t ih =>
      intro hp hm
      unfold L.getL
      rcases List.mem_cons.1 hm with e | hm
      · subst e; rw [if_pos rfl]
      · have hne : ¬ x.n = n := (List.pairwise_cons.1 hp).1 _ hm
        rw [if_neg (fun e => hne (L.bts_inj e))]
        exact ih (List.pairwise_cons.1 hp).2 hm
  show L.oft (L.getL l (L.bts n)) = v
  rw [key l h hm]
  exact L.oft_bts _
theorem got_none {l : List L.Lb} {n : ByteArray} (h : ∀ x ∈ l, ¬ x.n = n) : gotL l n = em0 := by
  have key : ∀ l : List L.Lb, (∀ x ∈ l, ¬ x.n = n) → L.getL l (L.bts n) = [] := by
    intro l
    induction l with
    | nil => intro _; rfl
    | cons x t ih =>
      intro h
      unfold L.getL
      rw [if_neg (fun e => h x (by simp) (L.bts_inj e))]
      exact ih (fun y hy => h y (by simp [hy]))
  show L.oft (L.getL l (L.bts n)) = em0
  rw [key l h]
  rfl
/-- What a matcher leaves, by the values that may hold it otherwise than the empty one. -/
noncomputable def narF (S : List (List L.Lb)) (vals : List ByteArray) (m : Mt) (left : List Nat) : List Nat :=
  if m.hold em0 then left.filter (fun i => !decide (i ∈ (vals.filter fun v => m.hold v != m.hold em0).flatMap fun v => hasX S ⟨m.n, v⟩))
  else left.filter (fun i => decide (i ∈ (vals.filter fun v => m.hold v != m.hold em0).flatMap fun v => hasX S ⟨m.n, v⟩))
theorem narF_eq {S : List (List L.Lb)} {vals : List ByteArray} {m : Mt} {left : List Nat} (hS : ∀ i, i < S.length → OneN (S.getD i [])) (hl : ∀ i ∈ left, i < S.length)
    (hv : ∀ i v, (⟨m.n, v⟩ : L.Lb) ∈ S.getD i [] → v ∈ vals ∨ m.hold v = m.hold em0) (hw : ∀ v ∈ vals, True) :
    narF S vals m left = left.filter (fun i => m.hold (gotL (S.getD i []) m.n)) := by
  have hU : ∀ i, i ∈ left → ((i ∈ (vals.filter fun v => m.hold v != m.hold em0).flatMap fun v => hasX S ⟨m.n, v⟩) ↔ ¬ m.hold (gotL (S.getD i []) m.n) = m.hold em0) := by
    intro i hi
    have hil := hl i hi
    rw [List.mem_flatMap]
    constructor
    · rintro ⟨v, hv1, hv2⟩
      rw [List.mem_filter] at hv1
      rw [hasX_mem] at hv2
      rw [got_mem (hS i hil) hv2.2]
      simpa using hv1.2
    · intro hne
      by_cases hx : ∃ v, (⟨m.n, v⟩ : L.Lb) ∈ S.getD i []
      · obtain ⟨v, hx⟩ := hx
        rw [got_mem (hS i hil) hx] at hne
        refine ⟨v, List.mem_filter.2 ⟨?_, by simpa using hne⟩, hasX_mem.2 ⟨hil, hx⟩⟩
        rcases hv i v hx with h | h
        · exact h
        · exact absurd h hne
      · rw [got_none (n := m.n) (fun x hm e => hx ⟨x.v, by rw [← e]; exact hm⟩)] at hne
        exact absurd rfl hne
  unfold narF
  by_cases hb : m.hold em0 = true
  · rw [if_pos hb]
    refine List.filter_congr fun i hi => ?_
    have h9 := hU i hi
    generalize (vals.filter fun v => m.hold v != m.hold em0).flatMap (fun v => hasX S ⟨m.n, v⟩) = U at h9 ⊢
    rw [hb] at h9
    cases hg : m.hold (gotL (S.getD i []) m.n) with
    | true =>
      rw [hg] at h9
      simpa using fun h => (h9.1 h) rfl
    | false =>
      rw [hg] at h9
      simpa using h9.2 (by simp)
  · rw [if_neg hb]
    have hb' : m.hold em0 = false := by simpa using hb
    refine List.filter_congr fun i hi => ?_
    have h9 := hU i hi
    generalize (vals.filter fun v => m.hold v != m.hold em0).flatMap (fun v => hasX S ⟨m.n, v⟩) = U at h9 ⊢
    rw [hb'] at h9
    cases hg : m.hold (gotL (S.getD i []) m.n) with
    | true =>
      rw [hg] at h9
      simpa using h9.2 (by simp)
    | false =>
      rw [hg] at h9
      simpa using fun h => (h9.1 h) rfl
end Go.Proofs.YtgmdpbahcbhfjaaGreatDoor
