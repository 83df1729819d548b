/-
  PoolShares, purely: three owners' lists beside a pool.
-/
import Derived.Test.YtjlpkgepiajapaaDoorPlK
namespace Go.Proofs.YtjlpkgepiajapaaDoor
open Go.RowKit
set_option linter.unusedVariables false
set_option linter.unusedSimpArgs false

def Own : Nat → ByteArray
  | 0 => ⟨#[]⟩
  | 1 => ⟨#[97]⟩
  | _ => ⟨#[98]⟩
theorem three {o : Nat} (h : o < 3) : o = 0 ∨ o = 1 ∨ o = 2 := by omega
theorem Own_inj {a b : Nat} (ha : a < 3) (hb : b < 3) (h : Own a = Own b) : a = b := by
  rcases three ha with rfl | rfl | rfl <;> rcases three hb with rfl | rfl | rfl <;> first | rfl | exact absurd h (by decide)
def upH (H : Nat → List Int) (o : Nat) (l : List Int) : Nat → List Int := fun j => if j = o then l else H j
def upW (W : Nat → Int) (i : Nat) (b : Int) : Nat → Int := fun j => if j = i then b else W j
structure Iv (st : Sx) (n : Nat) (H : Nat → List Int) (W : Nat → Int) : Prop where
  perm : ∀ o, o < 3 → (H o).Perm (slL st n (Own o))
  own : ∀ i x, st i = some x → i < n ∧ ∃ o, o < 3 ∧ x = (Own o, strOfNums [W i, 7])
theorem mem_slL {st : Sx} {n : Nat} {o : ByteArray} {k : Int} : k ∈ slL st n o ↔ ∃ i, i < n ∧ (∃ d, st i = some (o, d)) ∧ k = (i : Int) := by
  unfold slL
  rw [List.mem_map]
  constructor
  · rintro ⟨⟨a, v⟩, h, rfl⟩
    obtain ⟨i, h1, h2, h3, _⟩ := mem_setL.1 h
    exact ⟨i, h1, h2, h3⟩
  · rintro ⟨i, h1, h2, rfl⟩
    exact ⟨((i : Int), uV), mem_setL.2 ⟨i, h1, h2, rfl, rfl⟩, rfl⟩
theorem slL_nodup (st : Sx) (n : Nat) (o : ByteArray) : (slL st n o).Nodup := by
  unfold slL
  rw [List.Nodup, List.pairwise_map]
  exact (set_pw st n o).imp (fun h => h)
theorem slL_ext {st : Sx} {n : Nat} {o : ByteArray} {l : List Int} (hn : l.Nodup) (hm : ∀ k, k ∈ l ↔ ∃ i, i < n ∧ (∃ d, st i = some (o, d)) ∧ k = (i : Int)) : l.Perm (slL st n o) :=
  (List.perm_ext_iff_of_nodup hn (slL_nodup st n o)).2 (fun k => (hm k).trans mem_slL.symm)
theorem Iv.nodup {st : Sx} {n : Nat} {H : Nat → List Int} {W : Nat → Int} (h : Iv st n H W) {o : Nat} (ho : o < 3) : (H o).Nodup := (h.perm o ho).nodup_iff.2 (slL_nodup _ _ _)
theorem Iv.mem {st : Sx} {n : Nat} {H : Nat → List Int} {W : Nat → Int} (h : Iv st n H W) {o : Nat} (ho : o < 3) {k : Int} : k ∈ H o ↔ ∃ i, i < n ∧ (∃ d, st i = some (Own o, d)) ∧ k = (i : Int) := (h.perm o ho).mem_iff.trans mem_slL
theorem Iv.at {st : Sx} {n : Nat} {H : Nat → List Int} {W : Nat → Int} (h : Iv st n H W) {o : Nat} (ho : o < 3) {k : Int} (hk : k ∈ H o) : ∃ i, k = ((i : Nat) : Int) ∧ i < n ∧ st i = some (Own o, strOfNums [W i, 7]) := by
  obtain ⟨i, h1, ⟨d, h2⟩, h3⟩ := (h.mem ho).1 hk
  obtain ⟨_, o', _, e⟩ := h.own i _ h2
  refine ⟨i, h3, h1, ?_⟩
  rw [h2]
  rw [(Prod.mk.inj e).2]
theorem Iv.len {st : Sx} {n : Nat} {H : Nat → List Int} {W : Nat → Int} (h : Iv st n H W) {o : Nat} (ho : o < 3) : (H o).length = (setL st n (Own o)).length := by rw [(h.perm o ho).length_eq, slL_len]
theorem sum_len (st : Sx) (hs : ∀ i x, st i = some x → ∃ o, o < 3 ∧ x.1 = Own o) (l : List Nat) :
    (l.filterMap fun i => (st i).map fun x => ((i : Int), leV x.1 x.2)).length =
    (l.filterMap fun i => match st i with | some x => if x.1 = Own 0 then some ((i : Int), uV) else none | none => none).length +
    (l.filterMap fun i => match st i with | some x => if x.1 = Own 1 then some ((i : Int), uV) else none | none => none).length +
    (l.filterMap fun i => match st i with | some x => if x.1 = Own 2 then some ((i : Int), uV) else none | none => none).length := by
  have n01 : ¬ Own 0 = Own 1 := by decide
  have n02 : ¬ Own 0 = Own 2 := by decide
  have n12 : ¬ Own 1 = Own 2 := by decide
  have n10 : ¬ Own 1 = Own 0 := by decide
  have n20 : ¬ Own 2 = Own 0 := by decide
  have n21 : ¬ Own 2 = Own 1 := by decide
  induction l with
  | nil => rfl
  | cons i l ih =>
    cases e : st i with
    | none => simp only [List.filterMap_cons, e, Option.map_none]; exact ih
    | some x =>
      obtain ⟨o, ho, hx⟩ := hs i x e
      rcases three ho with rfl | rfl | rfl
      · simp only [List.filterMap_cons, e, Option.map_some, hx, if_true, n01, n02, if_false, List.length_cons, ih]; omega
      · simp only [List.filterMap_cons, e, Option.map_some, hx, if_true, n10, n12, if_false, List.length_cons, ih]; omega
      · simp only [List.filterMap_cons, e, Option.map_some, hx, if_true, n20, n21, if_false, List.length_cons, ih]; omega
theorem Iv.sum {st : Sx} {n : Nat} {H : Nat → List Int} {W : Nat → Int} (h : Iv st n H W) : (H 0).length + (H 1).length + (H 2).length = (tkL st n).length := by
  rw [h.len (o := 0) (by omega), h.len (o := 1) (by omega), h.len (o := 2) (by omega)]
  exact (sum_len st (fun i x hx => by obtain ⟨_, o, ho, e⟩ := h.own i x hx; exact ⟨o, ho, by rw [e]⟩) (List.range n)).symm
theorem lst_no {S : Nat → Bool} : ∀ {n i : Nat}, lst S n i = none → ∀ j, i ≤ j → j < i + n → S j = false := by
  intro n
  induction n with
  | zero => intro i _ j h1 h2; omega
  | succ n ih =>
    intro i h j h1 h2
    unfold lst at h
    split at h
    · cases h
    · rename_i hS
      by_cases e : j = i
      · subst e; simpa using hS
      · exact ih h j (by omega) (by omega)
theorem full_len {st : Sx} {n : Nat} (h : fst1 st n = none) : (tkL st n).length = n := by
  have h1 : ∀ j, j < n → ∃ x, st j = some x := by
    intro j hj
    have := lst_no h j (by omega) (by omega)
    simp [hj] at this
    cases e : st j with
    | none => rw [e] at this; simp at this
    | some x => exact ⟨x, rfl⟩
  unfold tkL
  have key : ∀ l : List Nat, (∀ j ∈ l, j < n) → (l.filterMap fun i => (st i).map fun x => ((i : Int), leV x.1 x.2)).length = l.length := by
    intro l
    induction l with
    | nil => intro _; rfl
    | cons i l ih =>
      intro hl
      obtain ⟨x, hx⟩ := h1 i (hl i (List.mem_cons_self ..))
      simp only [List.filterMap_cons, hx, Option.map_some, List.length_cons]
      rw [ih (fun j hj => hl j (List.mem_cons_of_mem _ hj))]
  rw [key _ (fun j hj => List.mem_range.1 hj), List.length_range]
theorem room_len {st : Sx} {n i : Nat} (h : fst1 st n = some i) : (tkL st n).length < n := by
  obtain ⟨hi, hs⟩ := fst_spec h
  have h1 := (tk_add st n i emp emp hi).length_eq
  have h2 := tkL_len (upS st i (some (emp, emp))) n
  have h3 : rm (tkL st n) (i : Int) = tkL st n := by
    unfold rm
    rw [List.filter_eq_self]
    rintro ⟨k, v⟩ hp
    obtain ⟨j, _, x, hx, e, _⟩ := mem_tkL.1 hp
    simp only [decide_eq_true_eq]
    intro e2
    rw [e] at e2
    have : j = i := by omega
    rw [this, hs] at hx
    cases hx
  rw [h3, List.length_cons] at h1
  omega
theorem upS_twice (st : Sx) (i : Nat) (x y : Option (ByteArray × ByteArray)) : upS (upS st i x) i y = upS st i y := by
  funext j
  unfold upS
  split <;> rfl
theorem Iv.take {st : Sx} {n : Nat} {H : Nat → List Int} {W : Nat → Int} (h : Iv st n H W) {o i : Nat} (ho : o < 3) (hf : fst1 st n = some i) (b : Int) : Iv (upS st i (some (Own o, strOfNums [b, 7]))) n (upH H o (H o ++ [(i : Int)])) (upW W i b) := by
  obtain ⟨hi, hs⟩ := fst_spec hf
  have hni : ∀ o', o' < 3 → (i : Int) ∉ H o' := by
    intro o' ho' hm
    obtain ⟨j, _, ⟨d, hd⟩, e⟩ := (h.mem ho').1 hm
    have : j = i := by omega
    rw [this, hs] at hd
    cases hd
  refine ⟨fun o' ho' => ?_, fun j x hx => ?_⟩
  · unfold upH
    by_cases e : o' = o
    · subst e
      rw [if_pos rfl]
      refine slL_ext (List.nodup_append.2 ⟨h.nodup ho', by simp, fun a ha b hb => by simp at hb; subst hb; exact fun e => hni o' ho' (e ▸ ha)⟩) fun k => ?_
      rw [List.mem_append, h.mem ho', List.mem_singleton]
      unfold upS
      constructor
      · rintro (⟨j, h1, ⟨d, hd⟩, h3⟩ | rfl)
        · refine ⟨j, h1, ⟨d, ?_⟩, h3⟩
          rw [if_neg (by rintro rfl; rw [hs] at hd; cases hd)]
          exact hd
        · exact ⟨i, hi, ⟨_, if_pos rfl⟩, rfl⟩
      · rintro ⟨j, h1, ⟨d, hd⟩, h3⟩
        by_cases e : j = i
        · subst e; exact .inr h3
        · rw [if_neg e] at hd; exact .inl ⟨j, h1, ⟨d, hd⟩, h3⟩
    · rw [if_neg e]
      refine (h.perm o' ho').trans ((set_other st n i (Own o) (Own o') _ (fun e2 => e (Own_inj ho' ho e2)) hs).map _)
  · unfold upS at hx
    unfold upW
    by_cases e : j = i
    · subst e
      rw [if_pos rfl] at hx ⊢
      injection hx with hx
      exact ⟨hi, o, ho, hx.symm⟩
    · rw [if_neg e] at hx ⊢
      exact h.own j x hx
theorem Iv.drop {st : Sx} {n : Nat} {H : Nat → List Int} {W : Nat → Int} (h : Iv st n H W) {o : Nat} (ho : o < 3) : Iv (drpS st (Own o)) n (upH H o []) W := by
  refine ⟨fun o' ho' => ?_, fun j x hx => ?_⟩
  · unfold upH
    by_cases e : o' = o
    · subst e
      rw [if_pos rfl]
      unfold slL
      rw [set_drop_same]
      exact List.Perm.refl _
    · rw [if_neg e]
      exact (h.perm o' ho').trans ((set_drop_off st n (Own o) (Own o') (fun e2 => e (Own_inj ho' ho e2))).map _)
  · unfold drpS at hx
    cases e : st j with
    | none => rw [e] at hx; cases hx
    | some z =>
      rw [e] at hx
      simp only at hx
      split at hx
      · cases hx
      · injection hx with hx
        subst hx
        exact h.own j z e
/-- One is taken out: the last comes in its place. -/
theorem swap_perm : ∀ (l : List Int) (k : Nat) (x y : Int), l[k]? = some x → l[l.length - 1]? = some y → (x :: (l.set k y).take (l.length - 1)).Perm l
  | [], k, x, y, hk, _ => by simp at hk
  | [z], k, x, y, hk, _ => by
    cases k with
    | zero => simp at hk; subst hk; simp
    | succ k => simp at hk
  | z :: z' :: t, k, x, y, hk, hy => by
    have hy' : (z' :: t)[(z' :: t).length - 1]? = some y := by simpa using hy
    cases k with
    | zero =>
      simp only [List.getElem?_cons_zero, Option.some.injEq] at hk
      subst hk
      have e : (z' :: t).take t.length ++ [y] = z' :: t := by
        have h1 := List.take_append_drop t.length (z' :: t)
        have h2 : (z' :: t).drop t.length = [y] := by
          have h3 : (z' :: t)[t.length]? = some y := by simpa using hy'
          rw [List.getElem?_eq_some_iff] at h3
          obtain ⟨h4, h5⟩ := h3
          rw [List.drop_eq_getElem_cons h4, h5, List.drop_eq_nil_of_le (by simp)]
        rw [h2] at h1
        exact h1
      show (z :: (y :: z' :: t).take (t.length + 1)).Perm _
      rw [List.take_succ_cons]
      refine List.Perm.cons _ ?_
      have hp : (y :: (z' :: t).take t.length).Perm ((z' :: t).take t.length ++ [y]) := (List.perm_append_singleton y _).symm
      rw [e] at hp
      exact hp
    | succ k =>
      have ih := swap_perm (z' :: t) k x y (by simpa using hk) hy'
      show (x :: (z :: (z' :: t).set k y).take (t.length + 1)).Perm _
      rw [List.take_succ_cons]
      exact (List.Perm.swap _ _ _).trans (List.Perm.cons _ ih)
theorem Iv.give {st : Sx} {n : Nat} {H : Nat → List Int} {W : Nat → Int} (h : Iv st n H W) {o i k : Nat} {y : Int} (ho : o < 3) (hk : (H o)[k]? = some (i : Int)) (hy : (H o)[(H o).length - 1]? = some y) : Iv (upS st i none) n (upH H o (((H o).set k y).take ((H o).length - 1))) W := by
  have hp := swap_perm (H o) k (i : Int) y hk hy
  generalize hl : ((H o).set k y).take ((H o).length - 1) = l' at hp ⊢
  have hn := hp.nodup_iff.2 (h.nodup ho)
  rw [List.nodup_cons] at hn
  obtain ⟨j0, hj0, hjn, hst⟩ := h.at ho (List.mem_of_getElem? hk)
  have hji : j0 = i := by omega
  subst hji
  refine ⟨fun o' ho' => ?_, fun j x hx => ?_⟩
  · unfold upH
    by_cases e : o' = o
    · subst e
      rw [if_pos rfl]
      refine slL_ext hn.2 fun z => ?_
      have hm : z ∈ H o' ↔ z = (j0 : Int) ∨ z ∈ l' := by rw [← hp.mem_iff, List.mem_cons]
      rw [h.mem ho'] at hm
      unfold upS
      constructor
      · intro hz
        obtain ⟨j, h1, ⟨d, hd⟩, h3⟩ := hm.2 (.inr hz)
        refine ⟨j, h1, ⟨d, ?_⟩, h3⟩
        rw [if_neg (by rintro rfl; exact hn.1 (h3 ▸ hz))]
        exact hd
      · rintro ⟨j, h1, ⟨d, hd⟩, h3⟩
        by_cases e : j = j0
        · rw [if_pos e] at hd; cases hd
        · rw [if_neg e] at hd
          rcases hm.1 ⟨j, h1, ⟨d, hd⟩, h3⟩ with h4 | h4
          · exfalso; omega
          · exact h4
    · rw [if_neg e]
      exact (h.perm o' ho').trans ((set_off st n j0 (Own o) (Own o') _ (fun e2 => e (Own_inj ho' ho e2)) hst).map _)
  · unfold upS at hx
    by_cases e : j = j0
    · rw [if_pos e] at hx; cases hx
    · rw [if_neg e] at hx; exact h.own j x hx
theorem Iv.new (n : Nat) (W : Nat → Int) : Iv t0 n (fun _ => []) W := by
  refine ⟨fun o _ => ?_, fun i x hx => by cases hx⟩
  refine slL_ext List.nodup_nil fun k => ?_
  constructor
  · intro h; cases h
  · rintro ⟨i, _, ⟨d, hd⟩, _⟩; cases hd

end Go.Proofs.YtjlpkgepiajapaaDoor
