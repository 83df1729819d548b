import Derived.Test.YtgmdpbahcbhfjaaGreatDoorIxA
import Derived.Test.YtgmdpbahcbhfjaaGreatDoorLbS
import Derived.Laws.ResultCell
set_option linter.unusedSimpArgs false
set_option linter.unusedVariables false
set_option maxHeartbeats 40000000
set_option maxRecDepth 100000
/-
  Package index: sets of labels as keys; setOf, Clone.
-/
namespace Go.Proofs.YtgmdpbahcbhfjaaGreatDoor
open Go.RowKit

def em0 : ByteArray := ⟨#[]⟩
/-- Eight labels, empty ones behind those that there are. -/
def pad : Nat → List L.Lb → List L.Lb
  | 0, _ => []
  | m + 1, [] => ⟨em0, em0⟩ :: pad m []
  | m + 1, x :: t => x :: pad m t
def lbV (x : L.Lb) : List Value := [.string x.n, .string x.v]
theorem pad_len : ∀ (m : Nat) (l : List L.Lb), (pad m l).length = m
  | 0, _ => rfl
  | m + 1, [] => by simp [pad, pad_len m []]
  | m + 1, x :: t => by simp [pad, pad_len m t]
theorem pad_inj : ∀ {m : Nat} {a b : List L.Lb}, a.length ≤ m → b.length ≤ m → (∀ x ∈ a, ¬ x.n = em0) → (∀ x ∈ b, ¬ x.n = em0) → pad m a = pad m b → a = b
  | 0, a, b, ha, hb, _, _, _ => by rw [List.eq_nil_of_length_eq_zero (by omega : a.length = 0), List.eq_nil_of_length_eq_zero (by omega : b.length = 0)]
  | m + 1, [], [], _, _, _, _, _ => rfl
  | m + 1, [], y :: t, _, _, _, hb, h => by
    simp only [pad, List.cons.injEq] at h
    exact absurd (by rw [← h.1] : y.n = em0) (hb y (by simp))
  | m + 1, x :: t, [], _, _, ha, _, h => by
    simp only [pad, List.cons.injEq] at h
    exact absurd (by rw [h.1] : x.n = em0) (ha x (by simp))
  | m + 1, x :: t, y :: u, ha, hb, h1, h2, h => by
    simp only [pad, List.cons.injEq] at h
    rw [h.1, pad_inj (by simpa using ha) (by simpa using hb) (fun z hz => h1 z (by simp [hz])) (fun z hz => h2 z (by simp [hz])) h.2]
/-- A set of labels as a key. -/
structure St where
  l : List L.Lb
  len : l.length ≤ 8
  nem : ∀ x ∈ l, ¬ x.n = em0
  fit : ∀ x ∈ l, x.n.size ≤ maxLen ∧ x.v.size ≤ maxLen
theorem St.ext' {a b : St} (h : a.l = b.l) : a = b := by
  obtain ⟨a1, _, _, _⟩ := a
  obtain ⟨b1, _, _, _⟩ := b
  simp only at h
  subst h
  rfl
instance : DecidableEq St := fun a b => decidable_of_iff (a.l = b.l) ⟨St.ext', fun h => by rw [h]⟩
def St.cells (s : St) : List Value := (pad 8 s.l).flatMap lbV
def St.val (s : St) : Value := .agg s.cells.toArray
theorem lbV_inj : ∀ {a b : List L.Lb}, a.flatMap lbV = b.flatMap lbV → a = b
  | [], [], _ => rfl
  | [], y :: t, h => by simp [lbV] at h
  | x :: t, [], h => by simp [lbV] at h
  | x :: t, y :: u, h => by
    simp only [List.flatMap_cons, lbV, List.cons_append, List.nil_append, List.cons.injEq, Value.string.injEq] at h
    obtain ⟨h1, h2, h3⟩ := h
    obtain ⟨xn, xv⟩ := x
    obtain ⟨yn, yv⟩ := y
    simp only at h1 h2
    rw [h1, h2, lbV_inj h3]
theorem St.inj {a b : St} (h : a.val = b.val) : a = b := by
  simp only [St.val, Value.agg.injEq] at h
  have h1 : a.cells = b.cells := by simpa using congrArg Array.toList h
  exact St.ext' (pad_inj a.len b.len a.nem b.nem (lbV_inj h1))
theorem pad_fit {m : Nat} {l : List L.Lb} (h : ∀ x ∈ l, x.n.size ≤ maxLen ∧ x.v.size ≤ maxLen) : ∀ x ∈ pad m l, x.n.size ≤ maxLen ∧ x.v.size ≤ maxLen := by
  induction m generalizing l with
  | zero => intro x hx; simp [pad] at hx
  | succ m ih =>
    intro x hx
    cases l with
    | nil =>
      simp only [pad, List.mem_cons] at hx
      rcases hx with rfl | hx
      · exact ⟨Nat.zero_le _, Nat.zero_le _⟩
      · exact ih (l := []) (by simp) x hx
    | cons y t =>
      simp only [pad, List.mem_cons] at hx
      rcases hx with rfl | hx
      · exact h _ (by simp)
      · exact ih (l := t) (fun z hz => h z (by simp [hz])) x hx
theorem lits_array (q : Nat) (l : List L.Lb) (h : ∀ x ∈ l, x.n.size ≤ maxLen ∧ x.v.size ≤ maxLen) : ∀ k i, l.length = i + k → ∃ r, ((List.range' i k).mapM fun j => Tryz.prog.keyLits (q + 2) 75 (((l.flatMap lbV).drop (j * 2)).take 2)) = some r := by
  intro k
  induction k with
  | zero => intro i _; exact ⟨[], rfl⟩
  | succ k ih =>
    intro i hi
    obtain ⟨r, hr⟩ := ih (i + 1) (by omega)
    obtain ⟨x, hx⟩ : ∃ x, l[i]? = some x := ⟨l[i]'(by omega), List.getElem?_eq_getElem _⟩
    have hd : ((l.flatMap lbV).drop (i * 2)).take 2 = [.string x.n, .string x.v] := by
      have key : ∀ (l : List L.Lb) (i : Nat), l[i]? = some x → ((l.flatMap lbV).drop (i * 2)).take 2 = [.string x.n, .string x.v] := by
        intro l
        induction l with
        | nil => intro i h; simp at h
        | cons y t iht =>
          intro i h
          cases i with
          | zero => simp at h; subst h; simp [lbV]
          | succ i =>
            rw [List.flatMap_cons, show (i + 1) * 2 = i * 2 + 2 by omega]
            simp only [lbV, List.cons_append, List.nil_append, List.drop_succ_cons]
            exact iht i (by simpa using h)
      exact key l i hx
    have hf := h x (List.mem_of_getElem? hx)
    rw [List.range'_succ, List.mapM_cons, hd, lits75 q x.n x.v hf.1 hf.2, hr]
    exact ⟨_, rfl⟩
theorem flat_len (l : List L.Lb) : (l.flatMap lbV).length = l.length * 2 := by
  induction l with
  | nil => rfl
  | cons x t ih => simp [lbV] at ih ⊢; omega
theorem lits_arr (d : Nat) (cs : List Value) (hl : cs.length = 16) : Tryz.prog.keyLits (d + 1) 110 cs = ((List.range 8).mapM fun i => Tryz.prog.keyLits d 75 ((cs.drop (i * 2)).take 2)).map List.flatten := by
  simp only [Program.keyLits, Tryz.underlying110, cof110, hl, if_true, cof75]
theorem key110 (s : St) : ∃ l, keyOf Tryz.prog 110 s.val = some l := by
  obtain ⟨q, hq⟩ := ix_types
  have hlen : s.cells.length = 16 := by unfold St.cells; rw [flat_len, pad_len]
  have hf : s.val.formed Tryz.prog 110 = true := by simp [St.val, Value.formed, Tryz.underlying110, cof110, hlen]
  obtain ⟨r, hr⟩ := lits_array (q + 1) (pad 8 s.l) (pad_fit s.fit) 8 0 (by rw [pad_len])
  have hl : Tryz.prog.keyLits (Tryz.prog.types.size + 1) 110 s.cells = some r.flatten := by
    rw [hq, lits_arr (q + 1 + 2) _ hlen, List.range_eq_range']
    have e : s.cells = (pad 8 s.l).flatMap lbV := rfl
    rw [e, hr]
    rfl
  unfold keyOf
  rw [Tryz.underlying110]
  simp only [kt110, hf, Bool.and_self, if_true]
  exact ⟨_, by rw [show s.val.cells.toList = s.cells by simp [St.val, Value.cells], hl]; rfl⟩
theorem ky110 : Ky Tryz.prog 110 St.val := ky_deep law110 key110 (fun h => St.inj h)
end Go.Proofs.YtgmdpbahcbhfjaaGreatDoor
