import Derived.Test.YtlppibigceeimaaDoorSeD
/-
  Package series, purely: samples in groups, a group a chunk.
-/
namespace Go.Proofs.YtlppibigceeimaaDoor
open Go.RowKit
set_option linter.unusedVariables false
set_option linter.unusedSimpArgs false

/-- Those of the full chunks, the open one's. -/
abbrev Gs := List (List Sm) × List Sm
def gS (s : Gs) (x : Sm) : Gs := if ((encC (s.2 ++ [x])).length : Int) ≤ 128 then (s.1, s.2 ++ [x]) else (s.1 ++ [s.2], [x])
def gF (l : List Sm) : Gs := l.foldl gS ([], [])
def gO (s : Gs) : List (List Sm) := if s.2 = [] then s.1 else s.1 ++ [s.2]
structure OkG (s : Gs) : Prop where
  ne : ∀ g ∈ s.1, g ≠ []
  full : s.2 = [] → s.1 = []
  fit : ∀ g ∈ s.1, (encC g).length ≤ 128
  fit2 : (encC s.2).length ≤ 128
  ok : ∀ g ∈ s.1, ∀ x ∈ g, OkS x
  ok2 : ∀ x ∈ s.2, OkS x
theorem OkG.nil : OkG ([], []) := ⟨by simp, fun _ => rfl, by simp, by simp [encC], by simp, by simp⟩
theorem gS_yes {s : Gs} {x : Sm} (h : ((encC (s.2 ++ [x])).length : Int) ≤ 128) : gS s x = (s.1, s.2 ++ [x]) := by unfold gS; rw [if_pos h]
theorem gS_no {s : Gs} {x : Sm} (h : ¬ ((encC (s.2 ++ [x])).length : Int) ≤ 128) : gS s x = (s.1 ++ [s.2], [x]) := by unfold gS; rw [if_neg h]
theorem OkG.step {s : Gs} {x : Sm} (h : OkG s) (hx : OkS x) : OkG (gS s x) := by
  by_cases hf : ((encC (s.2 ++ [x])).length : Int) ≤ 128
  · rw [gS_yes hf]
    refine ⟨h.ne, fun e => by simp at e, h.fit, (by show (encC (s.2 ++ [x])).length ≤ 128; omega), h.ok, fun y hy => ?_⟩
    rcases List.mem_append.1 hy with hy | hy
    · exact h.ok2 y hy
    · simp at hy; subst hy; exact hx
  · rw [gS_no hf]
    have h2 : s.2 ≠ [] := by
      intro e
      rw [e] at hf
      have := encC_one x
      simp only [List.nil_append] at hf
      omega
    refine ⟨fun g hg => ?_, (fun e => by simp at e), fun g hg => ?_, by have := encC_one x; simp only; omega, fun g hg => ?_, fun y hy => by simp at hy; subst hy; exact hx⟩
    all_goals
      rcases List.mem_append.1 hg with hg | hg
    · exact h.ne g hg
    · simp at hg; subst hg; exact h2
    · exact h.fit g hg
    · simp at hg; subst hg; exact h.fit2
    · exact h.ok g hg
    · simp at hg; subst hg; exact h.ok2
theorem OkG.fold : ∀ {l : List Sm} {s : Gs}, OkG s → (∀ x ∈ l, OkS x) → OkG (l.foldl gS s)
  | [], _, h, _ => h
  | x :: l, s, h, hl => OkG.fold (l := l) (s := gS s x) (h.step (hl x (by simp))) (fun y hy => hl y (by simp [hy]))
theorem okG {l : List Sm} (h : ∀ x ∈ l, OkS x) : OkG (gF l) := OkG.nil.fold h
theorem gS_flat (s : Gs) (x : Sm) : (gS s x).1.flatten ++ (gS s x).2 = s.1.flatten ++ s.2 ++ [x] := by
  unfold gS
  split <;> simp
theorem fold_flat : ∀ (l : List Sm) (s : Gs), (l.foldl gS s).1.flatten ++ (l.foldl gS s).2 = s.1.flatten ++ s.2 ++ l
  | [], s => by simp
  | x :: l, s => by
    show (l.foldl gS (gS s x)).1.flatten ++ (l.foldl gS (gS s x)).2 = _
    rw [fold_flat l, gS_flat]
    simp
theorem gO_flat (s : Gs) : (gO s).flatten = s.1.flatten ++ s.2 := by
  unfold gO
  split
  · next h => rw [h]; simp
  · simp
theorem gF_flat (l : List Sm) : (gO (gF l)).flatten = l := by
  rw [gO_flat]
  unfold gF
  rw [fold_flat]
  simp
theorem gS_pre (G : List (List Sm)) (s : Gs) (x : Sm) : gS (G ++ s.1, s.2) x = (G ++ (gS s x).1, (gS s x).2) := by
  unfold gS
  simp only
  split <;> simp
theorem fold_pre (G : List (List Sm)) : ∀ (m : List Sm) (s : Gs), m.foldl gS (G ++ s.1, s.2) = (G ++ (m.foldl gS s).1, (m.foldl gS s).2)
  | [], s => rfl
  | x :: m, s => by
    show m.foldl gS (gS (G ++ s.1, s.2) x) = _
    rw [gS_pre]
    exact fold_pre G m (gS s x)
theorem fit_fold : ∀ (b a : List Sm) (G : List (List Sm)), (∀ x ∈ a ++ b, OkS x) → (encC (a ++ b)).length ≤ 128 → b.foldl gS (G, a) = (G, a ++ b)
  | [], a, G, _, _ => by simp
  | x :: b, a, G, h, hf => by
    have e : a ++ x :: b = (a ++ [x]) ++ b := by simp
    rw [e] at h hf ⊢
    have h1 := encC_pre h
    show b.foldl gS (gS (G, a) x) = _
    rw [gS_yes (by simp only; omega)]
    exact fit_fold b (a ++ [x]) G h hf
theorem gF_open {l : List Sm} (h : ∀ x ∈ l, OkS x) : (gF l).2.foldl gS ([], []) = ([], (gF l).2) := by
  have k := okG h
  exact fit_fold _ [] [] (by simpa using k.ok2) (by simpa using k.fit2)
theorem gF_app (l m : List Sm) : gF (l ++ m) = m.foldl gS (gF l) := by unfold gF; rw [List.foldl_append]
/-- What `behind` packs: the open chunk's samples, then some more. -/
def gB (l m : List Sm) : Gs := m.foldl gS ([], (gF l).2)
theorem gF_behind (l m : List Sm) : gF (l ++ m) = ((gF l).1 ++ (gB l m).1, (gB l m).2) := by
  rw [gF_app]
  have := fold_pre (gF l).1 m ([], (gF l).2)
  simp only [List.append_nil] at this
  exact this
theorem gO_behind (l m : List Sm) : gO (gF (l ++ m)) = (gF l).1 ++ gO (gB l m) := by
  rw [gF_behind]
  unfold gO
  simp only
  split <;> simp
theorem encC_few {l : List Sm} (h : (encC l).length ≤ 128) : l.length ≤ 1000 := by
  cases l with
  | nil => simp
  | cons s t =>
    rw [encC_len (by simp)] at h
    have h2 := moB_ge t (tr0 s)
    have e : (rowB (s :: t)).length = 128 + (moB (tr0 s) t).length := by simp [rowB, fiB, low_len]; omega
    rw [e] at h
    simp only [List.length_cons]
    omega
theorem gO_ne {s : Gs} (h : OkG s) : ∀ g ∈ gO s, g ≠ [] ∧ (encC g).length ≤ 128 ∧ ∀ x ∈ g, OkS x := by
  intro g hg
  unfold gO at hg
  split at hg
  · exact ⟨h.ne g hg, h.fit g hg, h.ok g hg⟩
  · next e =>
    rcases List.mem_append.1 hg with hg | hg
    · exact ⟨h.ne g hg, h.fit g hg, h.ok g hg⟩
    · simp at hg; subst hg; exact ⟨e, h.fit2, h.ok2⟩
theorem gO_len {s : Gs} (h : OkG s) : (gO s).length ≤ (gO s).flatten.length := by
  have hk : ∀ G : List (List Sm), (∀ g ∈ G, g ≠ []) → G.length ≤ G.flatten.length := by
    intro G
    induction G with
    | nil => intro _; simp
    | cons g G ih =>
      intro hG
      have h1 := ih (fun x hx => hG x (by simp [hx]))
      have h2 := List.length_pos_iff.2 (hG g (by simp))
      simp only [List.length_cons, List.flatten_cons, List.length_append]
      omega
  exact hk _ (fun g hg => (gO_ne h g hg).1)
theorem gO_nil {s : Gs} (h : OkG s) : gO s = [] ↔ s.2 = [] := by
  unfold gO
  constructor
  · intro e
    split at e
    · assumption
    · simp at e
  · intro e; rw [if_pos e, h.full e]
theorem gF_nil {l : List Sm} (h : ∀ x ∈ l, OkS x) : (gF l).2 = [] ↔ l = [] := by
  constructor
  · intro e
    have := gF_flat l
    rw [(gO_nil (okG h)).2 e] at this
    simpa using this.symm
  · rintro rfl; rfl
/-- The last group is the open one. -/
theorem gO_last {s : Gs} (h : s.2 ≠ []) : gO s = s.1 ++ [s.2] := by unfold gO; rw [if_neg h]

end Go.Proofs.YtlppibigceeimaaDoor

/-
  Package series, purely: times that rise.
-/
namespace Go.Proofs.YtlppibigceeimaaDoor
open Go.RowKit
set_option linter.unusedVariables false
set_option linter.unusedSimpArgs false

def LtT (a b : Sm) : Prop := a.t < b.t
instance (a b : Sm) : Decidable (LtT a b) := by unfold LtT; infer_instance
def Ris (l : List Sm) : Prop := l.Pairwise LtT
instance (l : List Sm) : Decidable (Ris l) := by unfold Ris; infer_instance
/-- rise.take. -/
def riS (s : Sm × Bool) (x : Sm) : Bool × (Sm × Bool) := if s.2 = true ∧ x.t ≤ s.1.t then (false, s) else (true, (x, true))
theorem ri_true (s : Sm) : ∀ (l : List Sm), (foldE riS l (s, true)).1 = decide (Ris (s :: l)) ∧ ((foldE riS l (s, true)).1 = true → (foldE riS l (s, true)).2 = (l.getLast?.getD s, true)) := by
  intro l
  induction l generalizing s with
  | nil => exact ⟨by simp [foldE, Ris], fun _ => rfl⟩
  | cons x l ih =>
    by_cases h : x.t ≤ s.t
    · have e : riS (s, true) x = (false, (s, true)) := by unfold riS; rw [if_pos ⟨rfl, h⟩]
      have e2 : foldE riS (x :: l) (s, true) = (false, (s, true)) := by
        show (if (riS (s, true) x).1 then _ else _) = _
        rw [e]; rfl
      rw [e2]
      refine ⟨?_, fun e => by cases e⟩
      symm
      rw [decide_eq_false_iff_not]
      intro hr
      have := (List.pairwise_cons.1 hr).1 x (by simp)
      unfold LtT at this
      omega
    · have e : riS (s, true) x = (true, (x, true)) := by unfold riS; rw [if_neg (by simp; omega)]
      have e2 : foldE riS (x :: l) (s, true) = foldE riS l (x, true) := by
        show (if (riS (s, true) x).1 then foldE riS l (riS (s, true) x).2 else _) = _
        rw [e]; rfl
      rw [e2]
      obtain ⟨i1, i2⟩ := ih x
      refine ⟨?_, fun h1 => ?_⟩
      · rw [i1]
        refine decide_eq_decide.2 ⟨fun hr => ?_, fun hr => (List.pairwise_cons.1 hr).2⟩
        refine List.pairwise_cons.2 ⟨fun y hy => ?_, hr⟩
        rcases List.mem_cons.1 hy with rfl | hy
        · unfold LtT; omega
        · have := (List.pairwise_cons.1 hr).1 y hy
          unfold LtT at *
          omega
      · rw [i2 h1]
        cases l with
        | nil => rfl
        | cons y l => rw [List.getLast?_cons_cons]; simp [List.getLast?_cons]
def z0 : Sm := ⟨0, 0⟩
theorem ri_false (l : List Sm) : (foldE riS l (z0, false)).1 = decide (Ris l) ∧ ((foldE riS l (z0, false)).1 = true → (foldE riS l (z0, false)).2 = (l.getLast?.getD z0, !l.isEmpty)) := by
  cases l with
  | nil => exact ⟨by simp [foldE, Ris], fun _ => rfl⟩
  | cons x l =>
    have e : riS (z0, false) x = (true, (x, true)) := by unfold riS; rw [if_neg (by simp)]
    have e2 : foldE riS (x :: l) (z0, false) = foldE riS l (x, true) := by
      show (if (riS (z0, false) x).1 then foldE riS l (riS (z0, false) x).2 else _) = _
      rw [e]; rfl
    rw [e2]
    obtain ⟨i1, i2⟩ := ri_true x l
    refine ⟨i1, fun h1 => ?_⟩
    rw [i2 h1]
    cases l with
    | nil => rfl
    | cons y l => rw [List.getLast?_cons_cons]; simp [List.getLast?_cons]
/-- Some samples, behind those of an open chunk. -/
theorem ri_two {o l : List Sm} (h : Ris o) : (foldE riS l (foldE riS o (z0, false)).2).1 = decide (Ris (o ++ l)) := by
  have h1 := (ri_false o).1
  rw [decide_eq_true h] at h1
  rw [(ri_false o).2 h1]
  rcases List.eq_nil_or_concat o with rfl | ⟨o', x, rfl⟩
  · simpa using (ri_false l).1
  · rw [List.concat_eq_append] at *
    have e : ((o' ++ [x]).getLast?.getD z0, !(o' ++ [x]).isEmpty) = (x, true) := by simp
    rw [e, (ri_true x l).1]
    refine decide_eq_decide.2 ⟨fun hr => ?_, fun hr => ?_⟩
    · rw [List.append_assoc]
      unfold Ris at *
      rw [List.pairwise_append] at h ⊢
      refine ⟨h.1, hr, fun a ha b hb => ?_⟩
      rcases List.mem_cons.1 hb with rfl | hb
      · exact h.2.2 a ha b (by simp)
      · have h1 := h.2.2 a ha x (by simp)
        have h2 := (List.pairwise_cons.1 hr).1 b hb
        unfold LtT at *
        omega
    · rw [List.append_assoc] at hr
      exact (List.pairwise_append.1 hr).2.1
/-- Behind the last group is behind all. -/
theorem ris_open {A l : List Sm} (hA : ∀ x ∈ A, OkS x) (h : Ris A) : Ris (gF A).2 ∧ (Ris ((gF A).2 ++ l) ↔ Ris (A ++ l)) := by
  have e : (gF A).1.flatten ++ (gF A).2 = A := by rw [← gO_flat]; exact gF_flat A
  have hn := gF_nil hA
  generalize (gF A).1.flatten = a at e
  generalize (gF A).2 = b at e hn
  subst e
  unfold Ris at *
  have hs := List.pairwise_append.1 h
  refine ⟨hs.2.1, ?_, ?_⟩
  · intro h2
    rw [List.append_assoc, List.pairwise_append]
    refine ⟨hs.1, h2, fun x hx y hy => ?_⟩
    rcases List.mem_append.1 hy with hy1 | hy2
    · exact hs.2.2 x hx y hy1
    · have hb : b ≠ [] := by
        intro e
        have := hn.1 e
        rw [e] at this
        simp at this
        subst this
        simp at hx
      have hyl := hy2
      obtain ⟨z, t, rfl⟩ := List.exists_cons_of_ne_nil hb
      have h3 := hs.2.2 x hx z (by simp)
      have h4 := (List.pairwise_append.1 h2).2.2 z (by simp) y hyl
      unfold LtT at *
      omega
  · intro h2
    rw [List.append_assoc] at h2
    exact (List.pairwise_append.1 h2).2.1

end Go.Proofs.YtlppibigceeimaaDoor

/-
  Package series, purely: who has which slots, and what lies there; what keep makes of it.
-/
namespace Go.Proofs.YtlppibigceeimaaDoor
open Go.RowKit
set_option linter.unusedVariables false
set_option linter.unusedSimpArgs false

theorem bts_str (l : List Int) (h : Byte l) : K.bts (strOfNums l) = l := by
  unfold K.bts strOfNums
  simp only [List.map_map]
  apply List.ext_getElem?
  intro j
  rw [List.getElem?_map]
  cases e : l[j]? with
  | none => rfl
  | some x =>
    have := h x (List.mem_of_getElem? e)
    simp
    omega
theorem encQ_byte (n : Nat) (h : n < 18446744073709551616) : Byte (Q.enc n) := by
  rw [Q.enc_pre]
  intro x hx
  rcases List.mem_append.1 hx with hx | hx
  · have := Q.pre_byte _ _ x hx
    omega
  · rw [List.mem_singleton.1 hx]
    have := Q.last_lt n h
    generalize n / 128 ^ Q.grp n = q at *
    omega
theorem encC_byte (l : List Sm) (h : l.length < 18446744073709551616) : Byte (encC l) := by
  unfold encC
  split
  · intro x hx; exact absurd hx (by simp)
  · intro x hx
    rcases List.mem_append.1 hx with hx | hx
    · exact encQ_byte _ h x hx
    · exact pk_byte _ x hx
theorem lst_no {S : Nat → Bool} : ∀ {n i : Nat}, K.lst S n i = none → ∀ j, i ≤ j → j < i + n → S j = false := by
  intro n
  induction n with
  | zero => intro i _ j h1 h2; omega
  | succ n ih =>
    intro i h j h1 h2
    unfold K.lst at h
    split at h
    · cases h
    · rename_i hS
      by_cases e : j = i
      · subst e; simpa using hS
      · exact ih h j (by omega) (by omega)
theorem full_len {st : K.Sx} {n : Nat} (h : K.fst1 st n = none) : (K.tkL st n).length = n := by
  have h1 : ∀ j, j < n → ∃ x, st j = some x := by
    intro j hj
    have := lst_no h j (by omega) (by omega)
    simp [hj] at this
    cases e : st j with
    | none => rw [e] at this; simp at this
    | some x => exact ⟨x, rfl⟩
  unfold K.tkL
  have key : ∀ l : List Nat, (∀ j ∈ l, j < n) → (l.filterMap fun i => (st i).map fun x => ((i : Int), K.leV x.1 x.2)).length = l.length := by
    intro l
    induction l with
    | nil => intro _; rfl
    | cons i l ih =>
      intro hl
      obtain ⟨x, hx⟩ := h1 i (hl i (List.mem_cons_self ..))
      simp only [List.filterMap_cons, hx, Option.map_some, List.length_cons]
      rw [ih (fun j hj => hl j (List.mem_cons_of_mem _ hj))]
  rw [key _ (fun j hj => List.mem_range.1 hj), List.length_range]
theorem tk_new {st : K.Sx} {n i : Nat} (hi : i < n) (hs : st i = none) (x : ByteArray × ByteArray) : (K.tkL (K.upS st i (some x)) n).length = (K.tkL st n).length + 1 := by
  have h1 := (K.tk_add st n i x.1 x.2 hi).length_eq
  have h3 : rm (K.tkL st n) (i : Int) = K.tkL st n := by
    unfold rm
    rw [List.filter_eq_self]
    rintro ⟨k, v⟩ hp
    obtain ⟨j, _, x, hx, e, _⟩ := K.mem_tkL.1 hp
    simp only [decide_eq_true_eq]
    intro e2
    rw [e] at e2
    have : j = i := by omega
    rw [this, hs] at hx
    cases hx
  rw [h3, List.length_cons] at h1
  exact h1.symm
theorem tk_same {st : K.Sx} {n i : Nat} (hi : i < n) {y : ByteArray × ByteArray} (hs : st i = some y) (x : ByteArray × ByteArray) : (K.tkL (K.upS st i (some x)) n).length = (K.tkL st n).length := by
  have e : K.upS (K.upS st i none) i (some y) = st := by
    funext j
    unfold K.upS
    by_cases h : j = i
    · rw [if_pos h, h, hs]
    · rw [if_neg h, if_neg h]
  have e2 : K.upS (K.upS st i none) i (some x) = K.upS st i (some x) := by
    funext j
    unfold K.upS
    split <;> rfl
  have h1 := tk_new (st := K.upS st i none) (n := n) hi (by simp [K.upS]) x
  have h2 := tk_new (st := K.upS st i none) (n := n) hi (by simp [K.upS]) y
  rw [e] at h2
  rw [e2] at h1
  omega
theorem upS_self (st : K.Sx) (i : Nat) (x : Option (ByteArray × ByteArray)) : K.upS st i x i = x := by simp [K.upS]
theorem upS_off {st : K.Sx} {i j : Nat} (h : j ≠ i) (x : Option (ByteArray × ByteArray)) : K.upS st i x j = st j := by simp [K.upS, h]

/-- A series: its number, its slots, its samples. -/
abbrev En := Int × (List Nat × List Sm)
/-- In some slots of an owner some groups lie. -/
def Lies (st : K.Sx) (o : ByteArray) (sl : List Nat) (G : List (List Sm)) : Prop := sl.length = G.length ∧ ∀ (i s : Nat) (g : List Sm), sl[i]? = some s → G[i]? = some g → ∃ d, st s = some (o, d) ∧ K.bts d = encC g
structure OkE (st : K.Sx) (o : ByteArray) (e : En) : Prop where
  key : 0 ≤ e.1
  ne : e.2.2 ≠ []
  ris : Ris e.2.2
  ok : ∀ x ∈ e.2.2, OkS x
  lies : Lies st o e.2.1 (gO (gF e.2.2))
/-- All series of all tenants, in the slots of a pool. -/
structure SZ (n : Nat) (st : K.Sx) (Z : ByteArray → List En) : Prop where
  key : ∀ o, (Z o).Pairwise (fun p q => ¬ p.1 = q.1)
  each : ∀ o e, e ∈ Z o → OkE st o e
  nd : ∀ o, ((Z o).flatMap fun e => e.2.1).Nodup
  mem : ∀ o i, (i ∈ (Z o).flatMap fun e => e.2.1) ↔ i < n ∧ ∃ d, st i = some (o, d)
  small : ∀ i o d, st i = some (o, d) → d.size ≤ 128
/-- What is known of a number. -/
def enL (l : List En) (k : Int) : List Nat × List Sm := ((l.find? (fun p => decide (p.1 = k))).map (·.2)).getD ([], [])
theorem enL_mem {l : List En} {k : Int} : ((k, enL l k) ∈ l) ∨ (enL l k = ([], []) ∧ ∀ p ∈ l, ¬ p.1 = k) := by
  unfold enL
  cases e : l.find? (fun p => decide (p.1 = k)) with
  | none => exact .inr ⟨rfl, fun p hp => by simpa using List.find?_eq_none.1 e p hp⟩
  | some p =>
    refine .inl ?_
    have h1 := List.find?_some e
    have h2 := List.mem_of_find?_eq_some e
    simp only [decide_eq_true_eq] at h1
    show (k, p.2) ∈ l
    rw [← h1]
    exact h2
theorem SZ.samV {n : Nat} {st : K.Sx} {Z : ByteArray → List En} (h : SZ n st Z) {o : ByteArray} {e : En} (he : e ∈ Z o) {i s : Nat} {g : List Sm} (hs : e.2.1[i]? = some s) (hg : (gO (gF e.2.2))[i]? = some g) : samV st n (s : Int) = g ∧ s < n := by
  have k := h.each o e he
  obtain ⟨d, h1, h2⟩ := k.lies.2 i s g hs hg
  have hn : s < n := ((h.mem o s).1 (List.mem_flatMap.2 ⟨e, he, List.mem_of_getElem? hs⟩)).1
  refine ⟨?_, hn⟩
  have hk := gO_ne (okG k.ok) g (List.mem_of_getElem? hg)
  unfold Go.Proofs.YtlppibigceeimaaDoor.samV K.atS
  rw [if_pos ⟨by omega, by omega⟩, Int.toNat_natCast, h1]
  simp only [Option.map_some]
  rw [h2, rd_enc hk.2.2 (by have := encC_few hk.2.1; omega)]
  rfl

def hadL (sl : List Nat) : Nat := min sl.length 1
/-- keep, behind so many chunks. -/
structure KI (n : Nat) (o : ByteArray) (st : K.Sx) (sl : List Nat) (C : List (List Sm)) (i : Nat) (news : List Nat) (sti : K.Sx) : Prop where
  len : news.length = i - hadL sl
  new : ∀ s ∈ news, s < n ∧ st s = none
  nd : news.Nodup
  off : ∀ s, s ∉ news → (i = 0 ∨ sl.getLast? ≠ some s) → sti s = st s
  put : ∀ (j s : Nat) (g : List Sm), j < i → (sl ++ news)[sl.length - hadL sl + j]? = some s → C[j]? = some g → ∃ d, sti s = some (o, d) ∧ K.bts d = encC g
  cnt : (K.tkL sti n).length = (K.tkL st n).length + news.length
  small : ∀ i o d, sti i = some (o, d) → d.size ≤ 128
theorem KI.start {n : Nat} {o : ByteArray} {st : K.Sx} {sl : List Nat} {C : List (List Sm)} (h : ∀ i o d, st i = some (o, d) → d.size ≤ 128) : KI n o st sl C 0 [] st :=
  ⟨by simp, by simp, List.nodup_nil, fun _ _ _ => rfl, fun j s g hj => by omega, by simp, h⟩
theorem getLast_idx {sl : List Nat} (h : sl ≠ []) : sl.getLast? = sl[sl.length - 1]? := by rw [List.getLast?_eq_getElem?]
theorem KI.has {n : Nat} {o : ByteArray} {st : K.Sx} {sl : List Nat} {C : List (List Sm)} {i : Nat} {news : List Nat} {sti : K.Sx} (h : KI n o st sl C i news sti) (hi : i ≤ C.length) {s : Nat} (hs : s ∈ news ∨ (0 < i ∧ sl.getLast? = some s)) : ∃ d, sti s = some (o, d) := by
  have hl := h.len
  unfold hadL at *
  have key : ∃ j, j < i ∧ (sl ++ news)[sl.length - hadL sl + j]? = some s := by
    unfold hadL
    rcases hs with hs | ⟨h0, hs⟩
    · obtain ⟨m, hm⟩ := List.mem_iff_getElem?.1 hs
      have hml := (List.getElem?_eq_some_iff.1 hm).1
      refine ⟨m + min sl.length 1, by omega, ?_⟩
      rw [List.getElem?_append_right (by omega), ← hm]
      congr 1
      omega
    · have hne : sl ≠ [] := by rintro rfl; simp at hs
      have hp := List.length_pos_iff.2 hne
      refine ⟨0, h0, ?_⟩
      rw [List.getElem?_append_left (by omega)]
      rw [getLast_idx hne] at hs
      rw [← hs]
      congr 1
      omega
  obtain ⟨j, hj, e⟩ := key
  obtain ⟨d, h1, _⟩ := h.put j s (C[j]'(by omega)) hj e (by simp)
  exact ⟨d, h1⟩
theorem KI.take {n : Nat} {o : ByteArray} {st : K.Sx} {sl : List Nat} {C : List (List Sm)} {i : Nat} {news : List Nat} {sti : K.Sx} (h : KI n o st sl C i news sti) {g : List Sm} (hg : C[i]? = some g) (hw : 0 < i ∨ sl = []) {j : Nat} (hf : K.fst1 sti n = some j) (d : ByteArray) (hd : K.bts d = encC g) (hd1 : d.size ≤ 128) :
    KI n o st sl C (i + 1) (news ++ [j]) (K.upS sti j (some (o, d))) ∧ (sl ++ news ++ [j]).getLast? = some j := by
  obtain ⟨h1, h2⟩ := K.fst_spec hf
  have hic := (List.getElem?_eq_some_iff.1 hg).1
  have hjn : j ∉ news := by
    intro hm
    obtain ⟨d', e⟩ := h.has (by omega) (.inl hm)
    rw [h2] at e
    cases e
  have hjl : i = 0 ∨ sl.getLast? ≠ some j := by
    by_cases h0 : i = 0
    · exact .inl h0
    · refine .inr (fun e => ?_)
      obtain ⟨d', e⟩ := h.has (by omega) (.inr ⟨by omega, e⟩)
      rw [h2] at e
      cases e
  have hst : st j = none := by rw [← h.off j hjn hjl]; exact h2
  have hl := h.len
  refine ⟨⟨?_, ?_, ?_, ?_, ?_, ?_, ?_⟩, by simp⟩
  · rw [List.length_append, hl]
    unfold hadL
    rcases hw with hw | rfl
    · simp only [List.length_cons, List.length_nil]; omega
    · simp
  · intro s hs
    rcases List.mem_append.1 hs with hs | hs
    · exact h.new s hs
    · simp at hs; subst hs; exact ⟨h1, hst⟩
  · rw [List.nodup_append]
    exact ⟨h.nd, by simp, fun a ha b hb e => by simp at hb; subst hb; subst e; exact hjn ha⟩
  · intro s hs ho
    have hs1 : s ∉ news := fun e => hs (List.mem_append.2 (.inl e))
    have hs2 : s ≠ j := fun e => hs (by simp [e])
    rw [upS_off hs2]
    refine h.off s hs1 ?_
    by_cases h0 : i = 0
    · exact .inl h0
    · rcases ho with ho | ho
      · omega
      · exact .inr ho
  · intro q s g' hq hs hg'
    rw [← List.append_assoc] at hs
    by_cases hqi : q < i
    · have hidx : sl.length - hadL sl + q < (sl ++ news).length := by
        rw [List.length_append, hl]
        unfold hadL
        rcases hw with hw | rfl
        · omega
        · simp; omega
      rw [List.getElem?_append_left hidx] at hs
      have hsj : s ≠ j := by
        rintro rfl
        obtain ⟨d', e, _⟩ := h.put q s g' hqi hs hg'
        rw [h2] at e
        cases e
      rw [upS_off hsj]
      exact h.put q s g' hqi hs hg'
    · have hqe : q = i := by omega
      subst hqe
      have hidx : sl.length - hadL sl + q = (sl ++ news).length := by
        rw [List.length_append, hl]
        unfold hadL
        rcases hw with hw | rfl
        · by_cases h9 : sl.length = 0
          · rw [h9]; simp
          · omega
        · simp
      rw [hidx, List.getElem?_append_right (Nat.le_refl _)] at hs
      simp at hs
      subst hs
      rw [upS_self]
      rw [hg] at hg'
      cases hg'
      exact ⟨d, rfl, hd⟩
  · rw [tk_new h1 h2, h.cnt]
    simp
    omega
  · intro q o' d' e
    by_cases hq : q = j
    · subst hq
      rw [upS_self] at e
      cases e
      exact hd1
    · rw [upS_off hq] at e
      exact h.small q o' d' e
theorem KI.put0 {n : Nat} {o : ByteArray} {st : K.Sx} {sl : List Nat} {C : List (List Sm)} (hsm : ∀ i o d, st i = some (o, d) → d.size ≤ 128) {g : List Sm} (hg : C[0]? = some g) {s : Nat} (hs : sl.getLast? = some s) (hn : s < n) {d0 : ByteArray} (hst : st s = some (o, d0)) (d : ByteArray) (hd : K.bts d = encC g) (hd1 : d.size ≤ 128) :
    KI n o st sl C 1 [] (K.upS st s (some (o, d))) := by
  have hne : sl ≠ [] := by rintro rfl; simp at hs
  have hp := List.length_pos_iff.2 hne
  refine ⟨?_, by simp, List.nodup_nil, ?_, ?_, ?_, ?_⟩
  · unfold hadL; simp; omega
  · intro s' _ h
    rcases h with h | h
    · omega
    · rw [upS_off (fun e => h (by rw [e]; exact hs))]
  · intro j s' g' hj hs' hg'
    have : j = 0 := by omega
    subst this
    rw [hg] at hg'
    cases hg'
    rw [getLast_idx hne] at hs
    rw [List.append_nil] at hs'
    have e : sl.length - hadL sl + 0 = sl.length - 1 := by unfold hadL; omega
    rw [e, hs] at hs'
    cases hs'
    rw [upS_self]
    exact ⟨d, rfl, hd⟩
  · rw [tk_same hn hst]
    simp
  · intro q o' d' e
    by_cases hq : q = s
    · subst hq
      rw [upS_self] at e
      cases e
      exact hd1
    · rw [upS_off hq] at e
      exact hsm q o' d' e

end Go.Proofs.YtlppibigceeimaaDoor

/-
  Package series, purely: what keep leaves.
-/
namespace Go.Proofs.YtlppibigceeimaaDoor
open Go.RowKit
set_option linter.unusedVariables false
set_option linter.unusedSimpArgs false

def slF (e : En) : List Nat := e.2.1
def rmE (l : List En) (k : Int) : List En := l.filter (fun p => decide (¬ p.1 = k))
def setZ (Z : ByteArray → List En) (o : ByteArray) (k : Int) (x : List Nat × List Sm) : ByteArray → List En := fun o' => if o' = o then (k, x) :: rmE (Z o) k else Z o'
theorem mem_rmE {l : List En} {k : Int} {e : En} : e ∈ rmE l k ↔ e ∈ l ∧ ¬ e.1 = k := by unfold rmE; simp
theorem rmE_no : ∀ {l : List En} {k : Int}, (∀ p ∈ l, ¬ p.1 = k) → rmE l k = l := by
  intro l k h
  unfold rmE
  rw [List.filter_eq_self]
  intro a ha
  simpa using h a ha
theorem perm_en : ∀ {l : List En} (k : Int), l.Pairwise (fun p q => ¬ p.1 = q.1) → (l.flatMap slF).Perm ((enL l k).1 ++ (rmE l k).flatMap slF)
  | [], k, _ => by simp [enL, rmE]
  | e :: l, k, h => by
    have h2 := List.pairwise_cons.1 h
    by_cases hk : e.1 = k
    · have e1 : enL (e :: l) k = e.2 := by unfold enL; rw [List.find?_cons_of_pos (by simpa using hk)]; rfl
      have e2 : rmE (e :: l) k = l := by
        unfold rmE
        rw [List.filter_cons_of_neg (by simp [hk])]
        exact rmE_no (fun p hp e => h2.1 p hp (by rw [hk, e]))
      rw [e1, e2, List.flatMap_cons]
      exact List.Perm.refl _
    · have e1 : enL (e :: l) k = enL l k := by unfold enL; rw [List.find?_cons_of_neg (by simpa using hk)]
      have e2 : rmE (e :: l) k = e :: rmE l k := by
        unfold rmE
        rw [List.filter_cons_of_pos (by simp [hk])]
      rw [e1, e2, List.flatMap_cons, List.flatMap_cons]
      refine ((perm_en k h2.2).append_left (slF e)).trans ?_
      rw [← List.append_assoc, ← List.append_assoc]
      exact List.Perm.append_right _ List.perm_append_comm
theorem OkE.same {st st' : K.Sx} {o : ByteArray} {e : En} (h : OkE st o e) (hs : ∀ s ∈ e.2.1, st' s = st s) : OkE st' o e :=
  ⟨h.key, h.ne, h.ris, h.ok, h.lies.1, fun i s g hi hg => by rw [hs s (List.mem_of_getElem? hi)]; exact h.lies.2 i s g hi hg⟩
/-- A series that is not there yet has no slots. -/
theorem SZ.en {n : Nat} {st : K.Sx} {Z : ByteArray → List En} (h : SZ n st Z) (o : ByteArray) (k : Int) : Lies st o (enL (Z o) k).1 (gO (gF (enL (Z o) k).2)) ∧ Ris (enL (Z o) k).2 ∧ (∀ x ∈ (enL (Z o) k).2, OkS x) ∧ ((enL (Z o) k).1 = [] ↔ (enL (Z o) k).2 = []) := by
  rcases enL_mem (l := Z o) (k := k) with hm | ⟨he, _⟩
  · have := h.each o _ hm
    refine ⟨this.lies, this.ris, this.ok, fun e => ?_, fun e => absurd e this.ne⟩
    have hl := this.lies.1
    simp only at hl
    rw [e] at hl
    have h0 : gO (gF (enL (Z o) k).2) = [] := List.length_eq_zero_iff.1 hl.symm
    exact (gF_nil this.ok).1 ((gO_nil (okG this.ok)).1 h0)
  · rw [he]
    exact ⟨⟨rfl, fun i s g hi => by simp at hi⟩, List.Pairwise.nil, by simp, by simp⟩
theorem SZ.keep {n : Nat} {st st' : K.Sx} {Z : ByteArray → List En} (h : SZ n st Z) {o : ByteArray} {k : Int} (hk : 0 ≤ k) {m : List Sm} (hm : m ≠ []) (hr : Ris ((enL (Z o) k).2 ++ m)) (hok : ∀ x ∈ m, OkS x) {news : List Nat}
    (hK : KI n o st (enL (Z o) k).1 (gO (gB (enL (Z o) k).2 m)) (gO (gB (enL (Z o) k).2 m)).length news st') : SZ n st' (setZ Z o k ((enL (Z o) k).1 ++ news, (enL (Z o) k).2 ++ m)) := by
  obtain ⟨hL, hR, hO, hE⟩ := h.en o k
  have hp := perm_en k (h.key o)
  have hnd : ((enL (Z o) k).1 ++ (rmE (Z o) k).flatMap slF).Nodup := hp.nodup_iff.1 (h.nd o)
  have hmem : ∀ i, i ∈ (enL (Z o) k).1 ++ (rmE (Z o) k).flatMap slF ↔ i < n ∧ ∃ d, st i = some (o, d) := fun i => hp.mem_iff.symm.trans (h.mem o i)
  have hgo := gO_behind (enL (Z o) k).2 m
  generalize hsl : (enL (Z o) k).1 = sl at *
  generalize hA : (enL (Z o) k).2 = A at *
  generalize hC : gO (gB A m) = C at *
  have hC0 : C ≠ [] := by
    intro e
    have h1 : gO (gF (A ++ m)) ≠ [] := by
      intro e2
      have := gF_flat (A ++ m)
      rw [e2] at this
      simp at this
      exact hm this.2
    have hokm : ∀ x ∈ A ++ m, OkS x := fun x hx => by rcases List.mem_append.1 hx with hx | hx; exact hO x hx; exact hok x hx
    have hg2 : (gF (A ++ m)).2 ≠ [] := fun e => h1 ((gO_nil (okG hokm)).2 e)
    rw [← hC] at e
    have h3 : (gB A m).2 = [] := by
      unfold gO at e
      split at e
      · assumption
      · simp at e
    rw [gF_behind] at hg2
    exact hg2 h3
  have hC1 := List.length_pos_iff.2 hC0
  have hlen : sl.length = (gF A).1.length + hadL sl := by
    rw [hL.1]
    unfold hadL
    by_cases h0 : A = []
    · subst h0
      have : sl = [] := hE.2 rfl
      subst this
      rfl
    · have h2 : (gF A).2 ≠ [] := fun e => h0 ((gF_nil hO).1 e)
      have h3 : sl ≠ [] := fun e => h0 (hE.1 e)
      have h4 := List.length_pos_iff.2 h3
      rw [gO_last h2]
      simp
      omega
  have hsome : ∀ s, s ∈ news ∨ sl.getLast? = some s → ∃ d, st' s = some (o, d) := fun s hs => hK.has (Nat.le_refl _) (hs.imp id (fun e => ⟨hC1, e⟩))
  have hoff : ∀ s, s ∉ news → sl.getLast? ≠ some s → st' s = st s := fun s h1 h2 => hK.off s h1 (.inr h2)
  have hlast : ∀ s, sl.getLast? = some s → s ∈ sl := fun s hs => List.mem_of_getLast? hs
  have hother : ∀ o', ¬ o' = o → ∀ i d, st' i = some (o', d) ↔ st i = some (o', d) := by
    intro o' ho i d
    by_cases h1 : i ∈ news
    · obtain ⟨d', e⟩ := hsome i (.inl h1)
      rw [e, (hK.new i h1).2]
      constructor
      · intro e2; cases e2; exact absurd rfl ho
      · intro e2; cases e2
    · by_cases h2 : sl.getLast? = some i
      · obtain ⟨d', e⟩ := hsome i (.inr h2)
        obtain ⟨_, d2, e2⟩ := (hmem i).1 (List.mem_append.2 (.inl (hlast i h2)))
        rw [e, e2]
        constructor
        · intro e3; cases e3; exact absurd rfl ho
        · intro e3; cases e3; exact absurd rfl ho
      · rw [hoff i h1 h2]
  have hnew2 : ∀ s ∈ news, s ∉ sl ++ (rmE (Z o) k).flatMap slF := by
    intro s hs hm2
    obtain ⟨_, d, e⟩ := (hmem s).1 hm2
    rw [(hK.new s hs).2] at e
    cases e
  refine ⟨?_, ?_, ?_, ?_, hK.small⟩
  · intro o'
    unfold setZ
    split
    · exact List.pairwise_cons.2 ⟨fun p hp e => (mem_rmE.1 hp).2 e.symm, (h.key o).filter _⟩
    · exact h.key o'
  · intro o' e he
    unfold setZ at he
    split at he
    · next ho =>
      subst ho
      rcases List.mem_cons.1 he with rfl | he
      · refine ⟨hk, by simp [hm], hr, fun x hx => ?_, ?_, ?_⟩
        · rcases List.mem_append.1 hx with hx | hx
          · exact hO x hx
          · exact hok x hx
        · simp only
          rw [hgo, List.length_append, List.length_append, hK.len, hlen]
          unfold hadL
          omega
        · simp only
          intro i s g hi hg
          rw [hgo] at hg
          by_cases hig : i < (gF A).1.length
          · rw [List.getElem?_append_left (by omega)] at hi
            have hs0 := List.mem_of_getElem? hi
            have h1 : s ∉ news := fun e => hnew2 s e (List.mem_append.2 (.inl hs0))
            have h2 : sl.getLast? ≠ some s := by
              intro e
              rw [List.getLast?_eq_getElem?] at e
              have hne : sl ≠ [] := by rintro rfl; simp at e
              have hpos := List.length_pos_iff.2 hne
              have hh : hadL sl = 1 := by unfold hadL; omega
              have := (List.nodup_append.1 hnd).1
              have hi1 := (List.getElem?_eq_some_iff.1 hi)
              have e1 := (List.getElem?_eq_some_iff.1 e)
              obtain ⟨a1, a2⟩ := hi1
              obtain ⟨b1, b2⟩ := e1
              exact (List.pairwise_iff_getElem.1 this) i (sl.length - 1) a1 b1 (by omega) (a2.trans b2.symm)
            rw [hoff s h1 h2]
            refine hL.2 i s g hi ?_
            rw [List.getElem?_append_left hig] at hg
            have h4 : (gF A).2 ≠ [] := by
              intro e
              have : A = [] := (gF_nil hO).1 e
              subst this
              simp [gF] at hig
            rw [gO_last h4, List.getElem?_append_left hig]
            exact hg
          · rw [List.getElem?_append_right (by omega)] at hg
            have hj := (List.getElem?_eq_some_iff.1 hg).1
            refine hK.put (i - (gF A).1.length) s g hj ?_ hg
            rw [← hi]
            congr 1
            omega
      · obtain ⟨he1, he2⟩ := mem_rmE.1 he
        refine (h.each o' e he1).same (fun s hs => ?_)
        have hsr : s ∈ (rmE (Z o') k).flatMap slF := List.mem_flatMap.2 ⟨e, he, hs⟩
        refine hoff s (fun e => hnew2 s e (List.mem_append.2 (.inr hsr))) (fun e => ?_)
        exact (List.nodup_append.1 hnd).2.2 s (hlast s e) s hsr rfl
    · next ho =>
      have k9 := h.each o' e he
      refine k9.same (fun s hs => ?_)
      obtain ⟨_, d, e2⟩ := (h.mem o' s).1 (List.mem_flatMap.2 ⟨e, he, hs⟩)
      rw [e2]
      exact (hother o' ho s d).2 e2
  · intro o'
    unfold setZ
    split
    · show ((k, (sl ++ news, A ++ m)) :: rmE (Z o) k |>.flatMap slF).Nodup
      rw [List.flatMap_cons]
      show ((sl ++ news) ++ (rmE (Z o) k).flatMap slF).Nodup
      have hp2 : ((sl ++ news) ++ (rmE (Z o) k).flatMap slF).Perm (news ++ (sl ++ (rmE (Z o) k).flatMap slF)) := by
        rw [← List.append_assoc]
        exact List.Perm.append_right _ List.perm_append_comm
      rw [hp2.nodup_iff, List.nodup_append]
      exact ⟨hK.nd, hnd, fun a ha b hb e => hnew2 a ha (by rw [e]; exact hb)⟩
    · exact h.nd o'
  · intro o' i
    unfold setZ
    split
    · next ho =>
      subst ho
      show i ∈ (((k, (sl ++ news, A ++ m)) :: rmE (Z o') k).flatMap slF) ↔ _
      rw [List.flatMap_cons]
      show i ∈ (sl ++ news) ++ (rmE (Z o') k).flatMap slF ↔ _
      have e1 : (i ∈ (sl ++ news) ++ (rmE (Z o') k).flatMap slF) ↔ (i ∈ news ∨ i ∈ sl ++ (rmE (Z o') k).flatMap slF) := by
        simp only [List.mem_append]
        constructor
        · rintro ((a | a) | a)
          · exact .inr (.inl a)
          · exact .inl a
          · exact .inr (.inr a)
        · rintro (a | a | a)
          · exact .inl (.inr a)
          · exact .inl (.inl a)
          · exact .inr a
      rw [e1]
      constructor
      · rintro (h1 | h1)
        · exact ⟨(hK.new i h1).1, hsome i (.inl h1)⟩
        · obtain ⟨h2, d, h3⟩ := (hmem i).1 h1
          refine ⟨h2, ?_⟩
          by_cases h4 : i ∈ news
          · exact hsome i (.inl h4)
          · by_cases h5 : sl.getLast? = some i
            · exact hsome i (.inr h5)
            · exact ⟨d, by rw [hoff i h4 h5]; exact h3⟩
      · rintro ⟨h1, d, h2⟩
        by_cases h4 : i ∈ news
        · exact .inl h4
        · by_cases h5 : sl.getLast? = some i
          · exact .inr (List.mem_append.2 (.inl (hlast i h5)))
          · rw [hoff i h4 h5] at h2
            exact .inr ((hmem i).2 ⟨h1, d, h2⟩)
    · next ho =>
      rw [h.mem o' i]
      constructor
      · rintro ⟨h1, d, h2⟩
        exact ⟨h1, d, (hother o' ho i d).2 h2⟩
      · rintro ⟨h1, d, h2⟩
        exact ⟨h1, d, (hother o' ho i d).1 h2⟩
/-- How many slots a tenant has. -/
theorem SZ.used {n : Nat} {st : K.Sx} {Z : ByteArray → List En} (h : SZ n st Z) (o : ByteArray) : (K.setL st n o).length = ((Z o).flatMap slF).length := by
  have h1 : ((K.setL st n o).map (·.1)).Perm (((Z o).flatMap slF).map (fun (i : Nat) => (i : Int))) := by
    rw [List.perm_ext_iff_of_nodup]
    · intro x
      rw [List.mem_map, List.mem_map]
      constructor
      · rintro ⟨⟨a, v⟩, ha, rfl⟩
        obtain ⟨i, h1, h2, h3, _⟩ := K.mem_setL.1 ha
        exact ⟨i, (h.mem o i).2 ⟨h1, h2⟩, h3.symm⟩
      · rintro ⟨i, hi, rfl⟩
        obtain ⟨h1, h2⟩ := (h.mem o i).1 hi
        exact ⟨(_, K.uV), K.mem_setL.2 ⟨i, h1, h2, rfl, rfl⟩, rfl⟩
    · rw [List.Nodup, List.pairwise_map]
      exact (K.set_pw st n o).imp (fun h => h)
    · rw [List.Nodup, List.pairwise_map]
      exact (h.nd o).imp (fun h e => h (by omega))
  have := h1.length_eq
  simpa using this

end Go.Proofs.YtlppibigceeimaaDoor
