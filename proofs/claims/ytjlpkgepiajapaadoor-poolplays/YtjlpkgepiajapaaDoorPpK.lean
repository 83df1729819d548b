/-
  PoolPlays: what it holds in memory.
-/
import Derived.Test.YtjlpkgepiajapaaDoorPpI
namespace Go.Proofs.YtjlpkgepiajapaaDoor
open Go.RowKit
set_option linter.unusedVariables false
set_option linter.unusedSimpArgs false

/-- Blocks of lists that came out. -/
def OB (L : List Value) : Nat → Prop := fun g => ∃ v, v ∈ L ∧ v.ownBlock = some g
/-- Lists that came out, each as its owner wrote it. -/
structure Ot (base : Nat) (w : World) (t : TypeId) (mk : Nat → Value) (L : List Value) : Prop where
  row : ∀ (i : Nat) (v : Value), L[i]? = some v → ∃ k, k ≤ 65536 ∧ Rw w t v (List.replicate k (mk i))
  apart : ∀ (i j : Nat) (v v' : Value), i ≠ j → L[i]? = some v → L[j]? = some v' → ∀ g, v.ownBlock = some g → ¬ v'.ownBlock = some g
  lo : ∀ g, OB L g → base ≤ g
section
variable {base : Nat} {w w' : World} {t : TypeId} {mk : Nat → Value} {L : List Value}
theorem Ot.tg (h : Ot base w t mk L) {g : Nat} (hg : OB L g) : Tg w g t := by
  obtain ⟨v, hv, e⟩ := hg
  obtain ⟨i, hi⟩ := List.getElem?_of_mem hv
  obtain ⟨k, _, hr⟩ := h.row i v hi
  exact hr.tg e
theorem Ot.chg {F : Nat → Prop} (h : Ot base w t mk L) (k : Chg F w w') (hF : ∀ g, OB L g → ¬ F g) : Ot base w' t mk L :=
  ⟨fun i v hi => by
    obtain ⟨m, hm, hr⟩ := h.row i v hi
    exact ⟨m, hm, hr.chg k (fun g hg => hF g ⟨v, List.mem_of_getElem? hi, hg⟩)⟩, h.apart, h.lo⟩
theorem Ot.add {a : Value} {k : Nat} (h : Ot base w t mk L) (hk : k ≤ 65536) (hr : Rw w t a (List.replicate k (mk L.length))) (hn : ∀ g, a.ownBlock = some g → base ≤ g ∧ ¬ OB L g) : Ot base w t mk (L ++ [a]) := by
  have hat : ∀ i v, (L ++ [a])[i]? = some v → (L[i]? = some v) ∨ (i = L.length ∧ v = a) := by
    intro i v hi
    by_cases e : i < L.length
    · rw [List.getElem?_append_left e] at hi; exact .inl hi
    · rw [List.getElem?_append_right (by omega)] at hi
      have hi0 : i - L.length = 0 := by
        have := (List.getElem?_eq_some_iff.1 hi).1
        simpa using this
      rw [hi0] at hi
      simp at hi
      exact .inr ⟨by omega, hi.symm⟩
  refine ⟨fun i v hi => ?_, fun i j v v' hij hi hj g hg hg' => ?_, fun g hg => ?_⟩
  · rcases hat i v hi with h1 | ⟨rfl, rfl⟩
    · exact h.row i v h1
    · exact ⟨k, hk, hr⟩
  · rcases hat i v hi with h1 | ⟨rfl, rfl⟩
    · rcases hat j v' hj with h2 | ⟨rfl, rfl⟩
      · exact h.apart i j v v' hij h1 h2 g hg hg'
      · exact (hn g hg').2 ⟨v, List.mem_of_getElem? h1, hg⟩
    · rcases hat j v' hj with h2 | ⟨rfl, rfl⟩
      · exact (hn g hg).2 ⟨v', List.mem_of_getElem? h2, hg'⟩
      · exact hij rfl
  · obtain ⟨v, hv, e⟩ := hg
    rcases List.mem_append.1 hv with h1 | h1
    · exact h.lo g ⟨v, h1, e⟩
    · simp at h1; subst h1; exact (hn g e).1
end
def upF {α : Type} (f : Nat → α) (k : Nat) (x : α) : Nat → α := fun j => if j = k then x else f j
theorem upF_at {α : Type} (f : Nat → α) (k : Nat) (x : α) : upF f k x k = x := if_pos rfl
theorem upF_off {α : Type} (f : Nat → α) {k j : Nat} (x : α) (h : ¬ j = k) : upF f k x j = f j := if_neg h
def wlC (p r : Nat → Nat) (vb vn : Value) : List Value := [.pointer (some ⟨p 0, 0, none⟩), .pointer (some ⟨p 1, 0, none⟩), .pointer (some ⟨p 2, 0, none⟩), .pointer (some ⟨r 0, 0, none⟩), .pointer (some ⟨r 1, 0, none⟩), .pointer (some ⟨r 2, 0, none⟩), vb, vn]
/-- Three pools and the document's, and what came out. -/
structure PS (w0 w : World) (v : Nat) (p r q n : Nat → Nat) (st sr : Nat → Sx) (F : Nat → Nat → Prop) (B : Nat → Nat → Value) (vb vn : Value) (Lb Ln : List Value) : Prop where
  bel : Below w0.heap.size w0 w
  gv : Gv w
  pos : 0 < w0.heap.size
  blk : Blk w v 33 (wlC p r vb vn)
  pq : ∀ k, k < 3 → PQ (F k) w (p k) (n k) (st k)
  rp : ∀ k, k < 3 → RP w (r k) (q k) (n k) (sr k) (B k)
  ob : w.ownsRow w0.heap.size 40 1 vb Lb.length Lb
  on : w.ownsRow w0.heap.size 22 1 vn Ln.length Ln
  tb : Ot w0.heap.size w 5 mkB Lb
  tn : Ot w0.heap.size w 3 mkI Ln
  len : Lb.length ≤ 60 ∧ Ln.length ≤ 60
  lo : w0.heap.size ≤ v ∧ (∀ k, k < 3 → w0.heap.size ≤ q k) ∧ (∀ k i, k < 3 → F k i → w0.heap.size ≤ i)
  fF : ∀ k j, k < 3 → j < 3 → k ≠ j → ∀ i, F k i → ¬ F j i
  qq : ∀ k j, k < 3 → j < 3 → k ≠ j → ¬ q k = q j
  gO : ∀ k, k < 3 → ∀ i, RG (sr k) (B k) i → ¬ OB Lb i
section
variable {w0 w w' : World} {v : Nat} {p r q n : Nat → Nat} {st sr : Nat → Sx} {F : Nat → Nat → Prop} {B : Nat → Nat → Value} {vb vn : Value} {Lb Ln : List Value}
theorem PS.notF (h : PS w0 w v p r q n st sr F B vb vn Lb Ln) {k i : Nat} (hk : k < 3) {t : TypeId} (ht : Tg w i t) (hne : t ≠ 87) : ¬ F k i := fun hF => hne ((h.pq k hk).tag hF t ht)
/-- What changes is none of it. -/
theorem PS.chg {G : Nat → Prop} (h : PS w0 w v p r q n st sr F B vb vn Lb Ln) (k : Chg G w w') (hlo : ∀ i, G i → w0.heap.size ≤ i) (hG : ∀ i, G i → i < w.heap.size → Tg w i 5 ∧ (∀ k, k < 3 → ¬ RG (sr k) (B k) i) ∧ ¬ OB Lb i) : PS w0 w' v p r q n st sr F B vb vn Lb Ln := by
  have hT : ∀ i t, Tg w i t → t ≠ 5 → ¬ G i := fun i t ht hne hg => hne (ht.one (hG i hg ht.lt).1)
  refine ⟨h.bel.trans (k.below h.bel.size hlo), h.gv.chg k (fun e => by have := hlo 0 e; have := h.pos; omega), h.pos, k.blk h.blk (hT v 33 h.blk.tg (by decide)), fun j hj => ?_, fun j hj => ?_, ?_, ?_, ?_, ?_, h.len, h.lo, h.fF, h.qq, h.gO⟩
  · refine (h.pq j hj).chg k (fun i hi hg => ?_) (hT _ 63 (h.pq j hj).own (by decide))
    have := (h.pq j hj).tag hi 5 (hG i hg ((h.pq j hj).lt hi)).1
    exact absurd this (by decide)
  · exact (h.rp j hj).chg k (hT _ 66 (h.rp j hj).blk.tg (by decide)) (hT _ 85 (h.rp j hj).row.tg (by decide)) (fun i hi hg => (hG i hg (RG.lt (h.rp j hj) hi)).2.1 j hj hi)
  · exact k.owns h.ob (fun g hg => hT g 40 (owns_tg h.ob g hg) (by decide))
  · exact k.owns h.on (fun g hg => hT g 22 (owns_tg h.on g hg) (by decide))
  · exact h.tb.chg k (fun g hg e => (hG g e (h.tb.tg hg).lt).2.2 hg)
  · exact h.tn.chg k (fun g hg => hT g 3 (h.tn.tg hg) (by decide))
theorem PS.later (h : PS w0 w v p r q n st sr F B vb vn Lb Ln) (b : Below w.heap.size w w') : PS w0 w' v p r q n st sr F B vb vn Lb Ln :=
  h.chg (G := fun _ => False) (Chg.of_below b) (fun _ e => e.elim) (fun _ e => e.elim)
/-- A call of one of the pools. -/
theorem PS.pcall {k : Nat} {F' : Nat → Prop} {s' : Sx} (h : PS w0 w v p r q n st sr F B vb vn Lb Ln) (hk : k < 3) (hp : PQ F' w' (p k) (n k) s') (c : Chg (F k) w w') (hn : Nw w (F k) F') : PS w0 w' v p r q n (upF st k s') sr (upF F k F') B vb vn Lb Ln := by
  have hT : ∀ i t, Tg w i t → t ≠ 87 → ¬ F k i := fun i t ht hne => h.notF hk ht hne
  have hl := h.bel.size
  refine ⟨h.bel.trans (c.below h.bel.size (fun i hi => h.lo.2.2 k i hk hi)), h.gv.chg c (fun e => by have := h.lo.2.2 k 0 hk e; have := h.pos; omega), h.pos, c.blk h.blk (hT v 33 h.blk.tg (by decide)), fun j hj => ?_, fun j hj => ?_, ?_, ?_, ?_, ?_, h.len, ⟨h.lo.1, h.lo.2.1, fun j i hj hi => ?_⟩, fun j j' hj hj' hne i hi hi' => ?_, h.qq, h.gO⟩
  · by_cases e : j = k
    · subst e; rw [upF_at, upF_at]; exact hp
    · rw [upF_off _ _ e, upF_off _ _ e]
      exact (h.pq j hj).chg c (fun i hi hi' => h.fF j k hj hk e i hi hi') (hT _ 63 (h.pq j hj).own (by decide))
  · exact (h.rp j hj).chg c (hT _ 66 (h.rp j hj).blk.tg (by decide)) (hT _ 85 (h.rp j hj).row.tg (by decide)) (fun i hi => hT i 5 (RG.tg (h.rp j hj) hi) (by decide))
  · exact c.owns h.ob (fun g hg => hT g 40 (owns_tg h.ob g hg) (by decide))
  · exact c.owns h.on (fun g hg => hT g 22 (owns_tg h.on g hg) (by decide))
  · exact h.tb.chg c (fun g hg => hT g 5 (h.tb.tg hg) (by decide))
  · exact h.tn.chg c (fun g hg => hT g 3 (h.tn.tg hg) (by decide))
  · by_cases e : j = k
    · subst e; rw [upF_at] at hi
      rcases hn i hi with h1 | h1
      · exact h.lo.2.2 j i hj h1
      · omega
    · rw [upF_off _ _ e] at hi; exact h.lo.2.2 j i hj hi
  · by_cases e : j = k
    · subst e
      rw [upF_at] at hi
      rw [upF_off _ _ (fun e => hne e.symm)] at hi'
      rcases hn i hi with h1 | h1
      · exact h.fF j j' hj hj' hne i h1 hi'
      · have := (h.pq j' hj').lt hi'; omega
    · rw [upF_off _ _ e] at hi
      by_cases e' : j' = k
      · subst e'
        rw [upF_at] at hi'
        rcases hn i hi' with h1 | h1
        · exact h.fF j j' hj hj' hne i hi h1
        · have := (h.pq j hj).lt hi; omega
      · rw [upF_off _ _ e'] at hi'
        exact h.fF j j' hj hj' hne i hi hi'
/-- A call of one of the document's pools. -/
theorem PS.rcall {k : Nat} {s' : Sx} (h : PS w0 w v p r q n st sr F B vb vn Lb Ln) (hk : k < 3) (hp : RPo w w' (r k) (q k) (n k) (sr k) (B k) s') : ∃ B', PS w0 w' v p r q n st (upF sr k s') F (upF B k B') vb vn Lb Ln ∧ Nw w (RG (sr k) (B k)) (RG s' B') := by
  obtain ⟨B', h1, c, hn⟩ := hp
  have hq := (h.rp k hk).row.tg
  have hT : ∀ i t, Tg w i t → t ≠ 85 → ¬ i = q k := fun i t ht hne => ht.ne hq hne
  have hl := h.bel.size
  refine ⟨B', ⟨h.bel.trans (c.below h.bel.size (fun i hi => by rw [hi]; exact h.lo.2.1 k hk)), h.gv.chg c (fun e => by have := h.lo.2.1 k hk; have := h.pos; omega), h.pos, c.blk h.blk (hT v 33 h.blk.tg (by decide)), fun j hj => ?_, fun j hj => ?_, ?_, ?_, ?_, ?_, h.len, h.lo, h.fF, h.qq, fun j hj i hi => ?_⟩, hn⟩
  · refine (h.pq j hj).chg c (fun i hi e => ?_) (hT _ 63 (h.pq j hj).own (by decide))
    have := (h.pq j hj).tag hi 85 (by rw [e]; exact hq)
    exact absurd this (by decide)
  · by_cases e : j = k
    · subst e; rw [upF_at, upF_at]; exact h1
    · rw [upF_off _ _ e, upF_off _ _ e]
      exact (h.rp j hj).chg c (hT _ 66 (h.rp j hj).blk.tg (by decide)) (h.qq j k hj hk e) (fun i hi => hT i 5 (RG.tg (h.rp j hj) hi) (by decide))
  · exact c.owns h.ob (fun g hg => hT g 40 (owns_tg h.ob g hg) (by decide))
  · exact c.owns h.on (fun g hg => hT g 22 (owns_tg h.on g hg) (by decide))
  · exact h.tb.chg c (fun g hg => hT g 5 (h.tb.tg hg) (by decide))
  · exact h.tn.chg c (fun g hg => hT g 3 (h.tn.tg hg) (by decide))
  · by_cases e : j = k
    · subst e; rw [upF_at, upF_at] at hi
      rcases hn i hi with h2 | h2
      · exact h.gO j hj i h2
      · intro hO
        have := (h.tb.tg hO).lt
        omega
    · rw [upF_off _ _ e, upF_off _ _ e] at hi
      exact h.gO j hj i hi
theorem PS.cp (h : PS w0 w v p r q n st sr F B vb vn Lb Ln) {k : Nat} (hk : k < 3) : w.cell? ⟨v, k, none⟩ = some (.pointer (some ⟨p k, 0, none⟩)) := by
  rw [h.blk.cell]
  rcases three hk with rfl | rfl | rfl <;> rfl
theorem PS.cr (h : PS w0 w v p r q n st sr F B vb vn Lb Ln) {k : Nat} (hk : k < 3) : w.cell? ⟨v, 3 + k, none⟩ = some (.pointer (some ⟨r k, 0, none⟩)) := by
  rw [h.blk.cell]
  rcases three hk with rfl | rfl | rfl <;> rfl
theorem PS.c6 (h : PS w0 w v p r q n st sr F B vb vn Lb Ln) : w.cell? ⟨v, 6, none⟩ = some vb := h.blk.cell 6
theorem PS.c7 (h : PS w0 w v p r q n st sr F B vb vn Lb Ln) : w.cell? ⟨v, 7, none⟩ = some vn := h.blk.cell 7
theorem upF_same {α : Type} (f : Nat → α) (k : Nat) : upF f k (f k) = f := by
  funext j
  unfold upF
  split
  · rename_i e; rw [e]
  · rfl
end

end Go.Proofs.YtjlpkgepiajapaaDoor
