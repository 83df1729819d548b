/-
  The state of an owner of lists: its two fields, the row of lists, the row of marks, and rows of bytes that stand apart. Nothing of the program.
-/
import Derived.Test.YtfhhcpcedfgceaaPush
namespace Go.Proofs.Ytfhhcpcedfgceaa
open Go.RowKit
set_option linter.unusedVariables false

/-- w0: the world at the start; B: its size; p: the owner's block; tch: blocks of the start that may be written. -/
structure R (w0 : World) (B p M : Nat) (tch : Nat → Prop) (w : World) (a b vl : Value) (n1 : Nat) (xs : List Value) (vm : Value) (n2 : Nat) (ys : List Int) (D : Nat → Value) (N : Nat → Nat) (L : Nat → List Int) : Prop where
  os : w.os = w0.os
  tape : w.tape = w0.tape
  output : w.output = w0.output
  size : B ≤ w.heap.size
  pB : p < B
  keep : ∀ k, k < B → k ≠ p → ¬ tch k → w.heap[k]? = w0.heap[k]?
  own : w.heap[p]? = some (.cells #[a, b] 28 (0, 0))
  l : w.ownsRow B 22 1 vl n1 xs
  mm : w.ownsRow B 5 1 vm n2 (cells8 ys)
  row : ∀ k, k < M → w.ownsRow 0 5 1 (D k) (N k) (cells8 (L k))
  dom : ∀ k, k < M → ∀ x, (D k).ownBlock = some x → x ≠ p ∧ (tch x ∨ B ≤ x) ∧ vm.ownBlock ≠ some x
  pw : ∀ k j, k < M → j < M → k ≠ j → ∀ x, (D k).ownBlock = some x → (D j).ownBlock ≠ some x

section
variable {w0 w w' : World} {B p M : Nat} {tch : Nat → Prop} {a b vl : Value} {n1 : Nat} {xs : List Value} {vm : Value} {n2 : Nat} {ys : List Int} {D : Nat → Value} {N : Nat → Nat} {L : Nat → List Int}

/-- The block of a row that is owned has the row's type. -/
theorem owns_type {w : World} {base : Nat} {e : TypeId} {v : Value} {n : Nat} {xs : List Value} (h : w.ownsRow base e 1 v n xs) {x : Nat} (hx : v.ownBlock = some x) : ∃ cur, w.heap[x]? = some (.cells cur e (0, 0)) := by
  rcases h.2 with ⟨rfl, _⟩ | ⟨g, c, cur, rfl, _, hg, _⟩
  · simp [Value.ownBlock] at hx
  · simp [Value.ownBlock] at hx
    subst hx
    exact ⟨cur, hg⟩

theorem owns_apart {w : World} {base base' : Nat} {e e' : TypeId} {v v' : Value} {n n' : Nat} {xs xs' : List Value} (h : w.ownsRow base e 1 v n xs) (h' : w.ownsRow base' e' 1 v' n' xs') (he : e ≠ e') {x : Nat} (hx : v.ownBlock = some x) : v'.ownBlock ≠ some x := by
  intro hx'
  obtain ⟨c, hc⟩ := owns_type h hx
  obtain ⟨c', hc'⟩ := owns_type h' hx'
  rw [hc] at hc'
  simp at hc'
  exact he hc'.2

theorem grown_none (h : w.grownBy w' none) (row : Option Nat) : w.grownBy w' row := ⟨h.os, h.tape, h.output, h.size, fun k hk _ => h.block k hk (by simp)⟩


theorem own_lt {w : World} {base : Nat} {e : TypeId} {v : Value} {n : Nat} {xs : List Value} (h : w.ownsRow base e 1 v n xs) {x : Nat} (hx : v.ownBlock = some x) : base ≤ x ∧ x < w.heap.size := h.lt x hx

theorem kept' {w w' : World} {base : Nat} {e : TypeId} {v : Value} {n : Nat} {xs : List Value} {row : Option Nat} (h : w.ownsRow base e 1 v n xs) (hg : w.grownBy w' row) (hne : ∀ x, v.ownBlock = some x → row ≠ some x) : w'.ownsRow base e 1 v n xs := by
  refine h.kept hg ?_
  cases hv : v.ownBlock with
  | none => exact .inl rfl
  | some x => right; intro e; exact hne x hv e.symm

theorem heap_lt {w : World} {k : Nat} {o : Obj} (h : w.heap[k]? = some o) : k < w.heap.size := (Array.getElem?_eq_some_iff.1 h).1

/-- A step that writes one row of its own at most, from B on, which is no row of bytes but perhaps the marks'. -/
theorem R.step (h : R w0 B p M tch w a b vl n1 xs vm n2 ys D N L) {row : Option Nat} (hg : w.grownBy w' row) (hrow : ∀ x, row = some x → B ≤ x ∧ ∀ k, k < M → (D k).ownBlock ≠ some x)
    {vl' vm' : Value} {n1' n2' : Nat} {xs' : List Value} {ys' : List Int} (hl : w'.ownsRow B 22 1 vl' n1' xs') (hm : w'.ownsRow B 5 1 vm' n2' (cells8 ys'))
    (hap : ∀ k, k < M → ∀ x, (D k).ownBlock = some x → vm'.ownBlock ≠ some x) : R w0 B p M tch w' a b vl' n1' xs' vm' n2' ys' D N L := by
  refine ⟨hg.os.trans h.os, hg.tape.trans h.tape, hg.output.trans h.output, Nat.le_trans h.size hg.size, h.pB, fun k hk hp ht => ?_, ?_, hl, hm, fun k hk => ?_, fun k hk x hx => ⟨(h.dom k hk x hx).1, (h.dom k hk x hx).2.1, hap k hk x hx⟩, h.pw⟩
  · rw [hg.block k (by have := h.size; omega) (fun e => by have := (hrow k e.symm).1; omega)]
    exact h.keep k hk hp ht
  · rw [hg.block p (by have := h.size; have := h.pB; omega) (fun e => by have := (hrow p e.symm).1; have := h.pB; omega)]
    exact h.own
  · exact kept' (h.row k hk) hg (fun x hx e => (hrow x e).2 k hk hx)

theorem R.alloc (h : R w0 B p M tch w a b vl n1 xs vm n2 ys D N L) (o : Obj) : R w0 B p M tch (w.alloc o) a b vl n1 xs vm n2 ys D N L :=
  h.step (World.grownBy_alloc w o none) (fun x hx => by cases hx) (h.l.alloc o) (h.mm.alloc o) (fun k hk x hx => (h.dom k hk x hx).2.2)

theorem R.drewN (h : R w0 B p M tch w a b vl n1 xs vm n2 ys D N L) (n : Nat) : R w0 B p M tch (w.drewN n) a b vl n1 xs vm n2 ys D N L :=
  ⟨h.os, h.tape, h.output, h.size, h.pB, h.keep, h.own, h.l, h.mm, h.row, h.dom, h.pw⟩

theorem R.drew (h : R w0 B p M tch w a b vl n1 xs vm n2 ys D N L) : R w0 B p M tch w.drew a b vl n1 xs vm n2 ys D N L :=
  ⟨h.os, h.tape, h.output, h.size, h.pB, h.keep, h.own, h.l, h.mm, h.row, h.dom, h.pw⟩

theorem R.pushL (h : R w0 B p M tch w a b vl n1 xs vm n2 ys D N L) {g c n1' : Nat} {xs' : List Value} (hl : w'.ownsRow B 22 1 (.slice (some ⟨g, 0, none⟩) n1' c) n1' xs') (hp : Pushed w w' vl g) :
    R w0 B p M tch w' a b (.slice (some ⟨g, 0, none⟩) n1' c) n1' xs' vm n2 ys D N L := by
  rcases hp with ⟨hv, hg⟩ | ⟨hge, hg⟩
  · refine h.step hg (fun x hx => ?_) hl (kept' h.mm hg (fun x hx e => ?_)) (fun k hk x hx => (h.dom k hk x hx).2.2)
    · obtain rfl := Option.some.inj hx
      exact ⟨(own_lt h.l hv).1, fun k hk => owns_apart h.l (h.row k hk) (by decide) hv⟩
    · obtain rfl := Option.some.inj e
      exact owns_apart h.l h.mm (by decide) hv hx
  · exact h.step hg (fun x hx => by cases hx) hl (kept' h.mm hg (fun x hx e => by cases e)) (fun k hk x hx => (h.dom k hk x hx).2.2)

theorem R.pushM (h : R w0 B p M tch w a b vl n1 xs vm n2 ys D N L) {g c n2' : Nat} {ys' : List Int} (hm : w'.ownsRow B 5 1 (.slice (some ⟨g, 0, none⟩) n2' c) n2' (cells8 ys')) (hp : Pushed w w' vm g) :
    R w0 B p M tch w' a b vl n1 xs (.slice (some ⟨g, 0, none⟩) n2' c) n2' ys' D N L := by
  rcases hp with ⟨hv, hg⟩ | ⟨hge, hg⟩
  · refine h.step hg (fun x hx => ?_) (kept' h.l hg (fun x hx e => ?_)) hm (fun k hk x hx e => ?_)
    · obtain rfl := Option.some.inj hx
      exact ⟨(own_lt h.mm hv).1, fun k hk e => (h.dom k hk _ e).2.2 hv⟩
    · obtain rfl := Option.some.inj e
      exact owns_apart h.mm h.l (by decide) hv hx
    · simp [Value.ownBlock] at e
      subst e
      exact (h.dom k hk _ hx).2.2 hv
  · refine h.step hg (fun x hx => by cases hx) (kept' h.l hg (fun x hx e => by cases e)) hm (fun k hk x hx e => ?_)
    simp [Value.ownBlock] at e
    have := (own_lt (h.row k hk) hx).2
    omega

/-- A row of bytes that is written, or that has moved to a new one. -/
theorem R.change (h : R w0 B p M tch w a b vl n1 xs vm n2 ys D N L) (i : Nat) (hi : i < M) (hg : w.grownBy w' (D i).ownBlock) {v' : Value} {n' : Nat} {l' : List Int} (hr : w'.ownsRow 0 5 1 v' n' (cells8 l'))
    (hb : ∀ x, v'.ownBlock = some x → (D i).ownBlock = some x ∨ w.heap.size ≤ x) :
    R w0 B p M tch w' a b vl n1 xs vm n2 ys (fun k => if k = i then v' else D k) (fun k => if k = i then n' else N k) (fun k => if k = i then l' else L k) := by
  have hdi := fun x hx => h.dom i hi x hx
  refine ⟨hg.os.trans h.os, hg.tape.trans h.tape, hg.output.trans h.output, Nat.le_trans h.size hg.size, h.pB, fun k hk hp ht => ?_, ?_, ?_, ?_, fun k hk => ?_, fun k hk x hx => ?_, fun k j hk hj hkj x hx => ?_⟩
  · rw [hg.block k (by have := h.size; omega) (fun e => ?_)]
    · exact h.keep k hk hp ht
    · rcases (hdi k e.symm).2.1 with h1 | h1
      · exact ht h1
      · omega
  · rw [hg.block p (by have := h.size; have := h.pB; omega) (fun e => (hdi p e.symm).1 rfl)]
    exact h.own
  · exact kept' h.l hg (fun x hx e => owns_apart h.l (h.row i hi) (by decide) hx e)
  · exact kept' h.mm hg (fun x hx e => (hdi x e).2.2 hx)
  · by_cases hki : k = i
    · subst hki; simpa using hr
    · simp only [hki, if_false]
      exact kept' (h.row k hk) hg (fun x hx e => h.pw k i hk hi hki x hx e)
  · by_cases hki : k = i
    · subst hki
      simp only [if_true] at hx
      rcases hb x hx with h1 | h1
      · exact hdi x h1
      · have h2 := h.size
        have h3 := h.pB
        refine ⟨by omega, .inr (by omega), fun e => ?_⟩
        have := (own_lt h.mm e).2
        omega
    · simp only [hki, if_false] at hx
      exact h.dom k hk x hx
  · by_cases hki : k = i
    · subst hki
      have hjk : ¬ j = k := fun e => hkj e.symm
      simp only [if_true] at hx
      simp only [hjk, if_false]
      intro e
      rcases hb x hx with h1 | h1
      · exact h.pw k j hk hj hkj x h1 e
      · have := (own_lt (h.row j hj) e).2
        omega
    · simp only [hki, if_false] at hx
      by_cases hji : j = i
      · subst hji
        simp only [if_true]
        intro e
        rcases hb x e with h1 | h1
        · exact h.pw k j hk hj hkj x hx h1
        · have := (own_lt (h.row k hk) hx).2
          omega
      · simp only [hji, if_false]
        exact h.pw k j hk hj hkj x hx

theorem R.setP (h : R w0 B p M tch w a b vl n1 xs vm n2 ys D N L) (o : Nat) (u : Value) {a' b' : Value} (hab : (#[a, b] : Array Value).setIfInBounds o u = #[a', b']) : R w0 B p M tch (w.setCell ⟨p, o, none⟩ u) a' b' vl n1 xs vm n2 ys D N L := by
  have hg : w.grownBy (w.setCell ⟨p, o, none⟩ u) (some p) := ⟨rfl, rfl, rfl, by simp [World.setCell], fun k _ hk => heap_setCell_other w ⟨p, o, none⟩ k u (fun e => hk (by simp [e]))⟩
  refine ⟨h.os, h.tape, h.output, by simpa [World.setCell] using h.size, h.pB, fun k hk hp ht => ?_, ?_, ?_, ?_, fun k hk => ?_, h.dom, h.pw⟩
  · rw [heap_setCell_other w ⟨p, o, none⟩ k u hp]; exact h.keep k hk hp ht
  · rw [heap_setCell_same w p o #[a, b] 28 u h.own, hab]
  · exact kept' h.l hg (fun x hx e => by obtain rfl := Option.some.inj e; have := (own_lt h.l hx).1; have := h.pB; omega)
  · exact kept' h.mm hg (fun x hx e => by obtain rfl := Option.some.inj e; have := (own_lt h.mm hx).1; have := h.pB; omega)
  · exact kept' (h.row k hk) hg (fun x hx e => by obtain rfl := Option.some.inj e; exact (h.dom k hk _ hx).1 rfl)

end
end Go.Proofs.Ytfhhcpcedfgceaa
