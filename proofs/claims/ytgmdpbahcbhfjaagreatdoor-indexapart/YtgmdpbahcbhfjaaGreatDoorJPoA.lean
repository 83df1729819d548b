set_option linter.unusedSimpArgs false
set_option linter.unusedVariables false
set_option maxHeartbeats 40000000
set_option maxRecDepth 100000
/-
  Rising lists of numbers, purely: what And, Or, Not, Add, Take are. Nothing of the program.
-/
namespace Go.Proofs.YtgmdpbahcbhfjaaGreatDoor.J

/-- It rises. -/
def Ris (l : List Nat) : Prop := l.Pairwise (· < ·)
instance (l : List Nat) : Decidable (Ris l) := by unfold Ris; infer_instance

theorem ris_ext : ∀ {l m : List Nat}, Ris l → Ris m → (∀ x, x ∈ l ↔ x ∈ m) → l = m
  | [], [], _, _, _ => rfl
  | [], b :: m, _, _, h => absurd ((h b).2 (by simp)) (by simp)
  | a :: l, [], _, _, h => absurd ((h a).1 (by simp)) (by simp)
  | a :: l, b :: m, h1, h2, h => by
    have k1 := List.pairwise_cons.1 h1
    have k2 := List.pairwise_cons.1 h2
    have hab : a = b := by
      have e1 := (h a).1 (by simp)
      have e2 := (h b).2 (by simp)
      rcases List.mem_cons.1 e1 with e | e
      · exact e
      · rcases List.mem_cons.1 e2 with f | f
        · exact f.symm
        · have := k2.1 a e
          have := k1.1 b f
          omega
    subst hab
    rw [ris_ext k1.2 k2.2 (fun x => ?_)]
    constructor
    · intro hx
      have := k1.1 x hx
      rcases List.mem_cons.1 ((h x).1 (by simp [hx])) with e | e
      · omega
      · exact e
    · intro hx
      have := k2.1 x hx
      rcases List.mem_cons.1 ((h x).2 (by simp [hx])) with e | e
      · omega
      · exact e

/-- Its neighbours rise, up to a place. -/
def Adj (l : List Nat) (i : Nat) : Prop := ∀ j, j + 1 < i → l.getD j 0 < l.getD (j + 1) 0
theorem adj_zero (l : List Nat) : Adj l 0 := fun j h => by omega
theorem adj_one (l : List Nat) : Adj l 1 := fun j h => by omega
theorem adj_step {l : List Nat} {i : Nat} (h : Adj l (i + 1)) (k : l.getD i 0 < l.getD (i + 1) 0) : Adj l (i + 2) := by
  intro j hj
  by_cases e : j = i
  · subst e; exact k
  · exact h j (by omega)
theorem ris_adj : ∀ (l : List Nat), Ris l ↔ Adj l l.length
  | [] => ⟨fun _ => adj_zero _, fun _ => List.Pairwise.nil⟩
  | [a] => ⟨fun _ => adj_one _, fun _ => by simp [Ris]⟩
  | a :: b :: l => by
    have ih := ris_adj (b :: l)
    constructor
    · intro h j hj
      have k := List.pairwise_cons.1 h
      cases j with
      | zero => exact k.1 b (by simp)
      | succ j => exact (ih.1 k.2) j (by simp at hj ⊢; omega)
    · intro h
      have h0 : a < b := h 0 (by simp)
      have hr := ih.2 (fun j hj => h (j + 1) (by simp at hj ⊢; omega))
      refine List.pairwise_cons.2 ⟨fun x hx => ?_, hr⟩
      rcases List.mem_cons.1 hx with e | e
      · omega
      · have := (List.pairwise_cons.1 hr).1 x e
        omega
theorem not_ris {l : List Nat} {i : Nat} (h : i + 1 < l.length) (k : l.getD (i + 1) 0 ≤ l.getD i 0) : ¬ Ris l := by
  intro hr
  have := (ris_adj l).1 hr i h
  omega
theorem ris_nil : Ris [] := List.Pairwise.nil
theorem ris_one (n : Nat) : Ris [n] := by simp [Ris]
theorem Ris.filter {l : List Nat} (h : Ris l) (p : Nat → Bool) : Ris (l.filter p) := List.Pairwise.filter p h
/-- Two lists gone through at once. -/
def jF (p q r : Bool) : List Nat → List Nat → List Nat
  | [], b => if r then b else []
  | a :: s, [] => if p then a :: s else []
  | a :: s, b :: t =>
    if a < b then (if p then [a] else []) ++ jF p q r s (b :: t)
    else if b < a then (if r then [b] else []) ++ jF p q r (a :: s) t
    else (if q then [a] else []) ++ jF p q r s t
termination_by a b => a.length + b.length

theorem jF_mem (p q r : Bool) (x : Nat) : ∀ (n : Nat) (a b : List Nat), a.length + b.length ≤ n → Ris a → Ris b →
    (x ∈ jF p q r a b ↔ (p = true ∧ x ∈ a ∧ x ∉ b) ∨ (q = true ∧ x ∈ a ∧ x ∈ b) ∨ (r = true ∧ x ∉ a ∧ x ∈ b)) := by
  intro n
  induction n with
  | zero =>
    intro a b hn
    have : a = [] := List.eq_nil_of_length_eq_zero (by omega)
    have : b = [] := List.eq_nil_of_length_eq_zero (by omega)
    subst a; subst b
    intro _ _
    simp [jF]
  | succ n ih =>
    intro a b hn ha hb
    cases a with
    | nil => cases r <;> simp [jF]
    | cons a s =>
      cases b with
      | nil => cases p <;> simp [jF]
      | cons b t =>
        have ka := List.pairwise_cons.1 ha
        have kb := List.pairwise_cons.1 hb
        simp only [List.length_cons] at hn
        rw [jF]
        split
        · rename_i hlt
          rw [List.mem_append, ih s (b :: t) (by simp; omega) ka.2 hb]
          have h1 : a ∉ b :: t := by
            intro h
            rcases List.mem_cons.1 h with e | e
            · omega
            · have := kb.1 a e; omega
          by_cases hx : x = a
          · subst hx
            have h2 : x ∉ s := fun h => by have := ka.1 x h; omega
            cases p <;> cases q <;> cases r <;> simp_all
          · cases p <;> cases q <;> cases r <;> simp [hx]
        · split
          · rename_i hnl hlt
            rw [List.mem_append, ih (a :: s) t (by simp; omega) ha kb.2]
            have h1 : b ∉ a :: s := by
              intro h
              rcases List.mem_cons.1 h with e | e
              · omega
              · have := ka.1 b e; omega
            by_cases hx : x = b
            · subst hx
              have h2 : x ∉ t := fun h => by have := kb.1 x h; omega
              cases p <;> cases q <;> cases r <;> simp_all
            · cases p <;> cases q <;> cases r <;> simp [hx]
          · have hab : a = b := by omega
            subst hab
            rw [List.mem_append, ih s t (by omega) ka.2 kb.2]
            by_cases hx : x = a
            · subst hx
              have h2 : x ∉ t := fun h => by have := kb.1 x h; omega
              have h3 : x ∉ s := fun h => by have := ka.1 x h; omega
              cases p <;> cases q <;> cases r <;> simp_all
            · cases p <;> cases q <;> cases r <;> simp [hx]

theorem jF_ris (p q r : Bool) : ∀ (n : Nat) (a b : List Nat), a.length + b.length ≤ n → Ris a → Ris b → Ris (jF p q r a b) := by
  intro n
  induction n with
  | zero =>
    intro a b hn
    have : a = [] := List.eq_nil_of_length_eq_zero (by omega)
    have : b = [] := List.eq_nil_of_length_eq_zero (by omega)
    subst a; subst b
    intro _ _
    cases r <;> simp [jF, Ris]
  | succ n ih =>
    intro a b hn ha hb
    cases a with
    | nil => cases r <;> simp [jF, hb, ris_nil]
    | cons a s =>
      cases b with
      | nil => cases p <;> simp [jF, ha, ris_nil]
      | cons b t =>
        have ka := List.pairwise_cons.1 ha
        have kb := List.pairwise_cons.1 hb
        simp only [List.length_cons] at hn
        have key : ∀ (c : Bool) (y : Nat) (u v : List Nat), u.length + v.length ≤ n → Ris u → Ris v → (∀ x ∈ u, y < x) → (∀ x ∈ v, y < x) → Ris ((if c then [y] else []) ++ jF p q r u v) := by
          intro c y u v h1 h2 h3 h4 h5
          have hr := ih u v h1 h2 h3
          cases c with
          | false => simpa using hr
          | true =>
            simp only [if_true, List.singleton_append]
            refine List.pairwise_cons.2 ⟨fun x hx => ?_, hr⟩
            rcases (jF_mem p q r x n u v h1 h2 h3).1 hx with e | e | e
            · exact h4 x e.2.1
            · exact h4 x e.2.1
            · exact h5 x e.2.2
        rw [jF]
        split
        · rename_i hlt
          refine key _ _ _ _ (by simp; omega) ka.2 hb ka.1 (fun x hx => ?_)
          rcases List.mem_cons.1 hx with e | e
          · omega
          · have := kb.1 x e; omega
        · split
          · rename_i hlt
            refine key _ _ _ _ (by simp; omega) ha kb.2 (fun x hx => ?_) kb.1
            rcases List.mem_cons.1 hx with e | e
            · omega
            · have := ka.1 x e; omega
          · refine key _ _ _ _ (by omega) ka.2 kb.2 ka.1 (fun x hx => ?_)
            have := kb.1 x hx
            omega

/-- What the calls answer. -/
def joF (p q r : Bool) (a b : List Nat) : List Nat := if Ris a ∧ Ris b then jF p q r a b else []
def andF (a b : List Nat) : List Nat := joF false true false a b
def orF (a b : List Nat) : List Nat := joF true true true a b
def notF (a b : List Nat) : List Nat := joF true false false a b
theorem joF_ris (p q r : Bool) (a b : List Nat) : Ris (joF p q r a b) := by
  unfold joF
  split
  · rename_i h; exact jF_ris p q r _ a b (Nat.le_refl _) h.1 h.2
  · exact ris_nil
theorem joF_mem {p q r : Bool} {a b : List Nat} (h1 : Ris a) (h2 : Ris b) (x : Nat) : x ∈ joF p q r a b ↔ (p = true ∧ x ∈ a ∧ x ∉ b) ∨ (q = true ∧ x ∈ a ∧ x ∈ b) ∨ (r = true ∧ x ∉ a ∧ x ∈ b) := by
  unfold joF
  rw [if_pos ⟨h1, h2⟩]
  exact jF_mem p q r x _ a b (Nat.le_refl _) h1 h2
theorem andF_mem {a b : List Nat} (h1 : Ris a) (h2 : Ris b) (x : Nat) : x ∈ andF a b ↔ x ∈ a ∧ x ∈ b := by unfold andF; rw [joF_mem h1 h2]; simp
theorem orF_mem {a b : List Nat} (h1 : Ris a) (h2 : Ris b) (x : Nat) : x ∈ orF a b ↔ x ∈ a ∨ x ∈ b := by
  unfold orF; rw [joF_mem h1 h2]
  by_cases h : x ∈ a <;> by_cases k : x ∈ b <;> simp [h, k]
theorem notF_mem {a b : List Nat} (h1 : Ris a) (h2 : Ris b) (x : Nat) : x ∈ notF a b ↔ x ∈ a ∧ x ∉ b := by unfold notF; rw [joF_mem h1 h2]; simp
theorem andF_filter {a b : List Nat} (h1 : Ris a) (h2 : Ris b) : andF a b = a.filter (fun x => decide (x ∈ b)) :=
  ris_ext (joF_ris _ _ _ _ _) (h1.filter _) (fun x => by rw [andF_mem h1 h2]; simp)
theorem notF_filter {a b : List Nat} (h1 : Ris a) (h2 : Ris b) : notF a b = a.filter (fun x => !decide (x ∈ b)) :=
  ris_ext (joF_ris _ _ _ _ _) (h1.filter _) (fun x => by rw [notF_mem h1 h2]; simp)

/-- Where a number belongs. -/
def spot (l : List Nat) (n : Nat) : Nat := (l.takeWhile (fun x => decide (x < n))).length

theorem joF_not {p q r : Bool} {a b : List Nat} (h : ¬ (Ris a ∧ Ris b)) : joF p q r a b = [] := by
  unfold joF; rw [if_neg h]
end Go.Proofs.YtgmdpbahcbhfjaaGreatDoor.J
