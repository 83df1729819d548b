/-
  The owner's state, as the lists are gathered. Nothing of the program.
-/
import Derived.Test.YtfhhcpcedfgceaaFill
namespace Go.Proofs.Ytfhhcpcedfgceaa
open Go.RowKit
set_option linter.unusedVariables false

section
variable {w0 w w' : World} {B p M : Nat} {tch : Nat → Prop} {a b vl : Value} {n1 : Nat} {xs : List Value} {vm : Value} {n2 : Nat} {ys : List Int} {D : Nat → Value} {N : Nat → Nat} {L : Nat → List Int}

theorem grown_of_below (h : Below w.heap.size w w') : w.grownBy w' none := ⟨h.os, h.tape, h.output, h.size, fun k hk _ => h.block k hk⟩

theorem kept_later {w w' : World} {base : Nat} {e : TypeId} {v : Value} {n : Nat} {xs : List Value} (h : w.ownsRow base e 1 v n xs) (hb : Below w.heap.size w w') : w'.ownsRow base e 1 v n xs := kept' h (grown_of_below hb) (fun x hx e => by cases e)

theorem R.later (h : R w0 B p M tch w a b vl n1 xs vm n2 ys D N L) (hb : Below w.heap.size w w') : R w0 B p M tch w' a b vl n1 xs vm n2 ys D N L :=
  h.step (grown_of_below hb) (fun x e => by cases e) (kept_later h.l hb) (kept_later h.mm hb) (fun k hk x hx => (h.dom k hk x hx).2.2)


/-- One row more, new. -/
theorem R.add (h : R w0 B p M tch w a b vl n1 xs vm n2 ys D N L) {v : Value} {n : Nat} {l : List Int} (hv : w.ownsRow 0 5 1 v n (cells8 l)) (hnew : ∀ x, v.ownBlock = some x → B ≤ x ∧ vm.ownBlock ≠ some x ∧ ∀ k, k < M → (D k).ownBlock ≠ some x) :
    R w0 B p (M + 1) tch w a b vl n1 xs vm n2 ys (fun k => if k = M then v else D k) (fun k => if k = M then n else N k) (fun k => if k = M then l else L k) := by
  refine ⟨h.os, h.tape, h.output, h.size, h.pB, h.keep, h.own, h.l, h.mm, fun k hk => ?_, fun k hk x hx => ?_, fun k j hk hj hkj x hx => ?_⟩
  · by_cases hkM : k = M
    · subst hkM; simpa using hv
    · simp only [hkM, if_false]; exact h.row k (by omega)
  · by_cases hkM : k = M
    · simp only [hkM, if_true] at hx
      have := hnew x hx
      have := h.pB
      exact ⟨by omega, .inr (by omega), (hnew x hx).2.1⟩
    · simp only [hkM, if_false] at hx
      exact h.dom k (by omega) x hx
  · by_cases hkM : k = M
    · have hjM : ¬ j = M := by omega
      simp only [hkM, if_true] at hx
      simp only [hjM, if_false]
      exact (hnew x hx).2.2 j (by omega)
    · simp only [hkM, if_false] at hx
      by_cases hjM : j = M
      · simp only [hjM, if_true]
        intro e
        exact (hnew x e).2.2 k (by omega) hx
      · simp only [hjM, if_false]
        exact h.pw k j (by omega) (by omega) hkj x hx

/-- From here on, with the owner's fields as they are. -/
theorem R.restart (h : R w0 B p M tch w (.slice none 0 0) (.slice none 0 0) vl n1 xs vm n2 ys D N L) :
    R w w.heap.size p M (fun x => ∃ k, k < M ∧ (D k).ownBlock = some x) w (.slice none 0 0) (.slice none 0 0) (.slice none 0 0) 0 [] (.slice none 0 0) 0 [] D N L :=
  ⟨rfl, rfl, rfl, Nat.le_refl _, Nat.lt_of_lt_of_le h.pB h.size, fun _ _ _ _ => rfl, h.own, World.ownsRow_nil _ _ _ _, World.ownsRow_nil _ _ _ _, h.row,
    fun k hk x hx => ⟨(h.dom k hk x hx).1, .inl ⟨k, hk, hx⟩, by simp [Value.ownBlock]⟩, h.pw⟩

theorem R.below (h : R w0 B p M tch w a b vl n1 xs vm n2 ys D N L) (hB : B = w0.heap.size) {C : Nat} (hC : C ≤ p) (ht : ∀ x, tch x → C ≤ x) : Below C w0 w :=
  ⟨h.os, h.tape, h.output, by have := h.size; omega, fun k hk => h.keep k (by have := h.pB; omega) (by omega) (fun e => by have := ht k e; omega)⟩

/-- A row of another's, as it was. -/
theorem R.other (h : R w0 B p M tch w a b vl n1 xs vm n2 ys D N L) {base : Nat} {e : TypeId} {v : Value} {n : Nat} {zs : List Value} (hv : w0.ownsRow base e 1 v n zs) (ho : ∀ x, v.ownBlock = some x → x < B ∧ x ≠ p ∧ ¬ tch x) : w.ownsRow base e 1 v n zs := by
  refine ⟨hv.1, ?_⟩
  rcases hv.2 with h1 | ⟨g, c, cur, h1, h2, h3, h4⟩
  · exact .inl h1
  · refine .inr ⟨g, c, cur, h1, h2, ?_, h4⟩
    obtain ⟨q1, q2, q3⟩ := ho g (by rw [h1]; rfl)
    rw [h.keep g q1 q2 q3]
    exact h3

theorem r_start (w : World) (p B : Nat) (hB : B = w.heap.size) (hp : p < B) (ho : w.heap[p]? = some (.cells #[.slice none 0 0, .slice none 0 0] 28 (0, 0))) (D : Nat → Value) (N : Nat → Nat) (L : Nat → List Int) :
    R w B p 0 (fun _ => False) w (.slice none 0 0) (.slice none 0 0) (.slice none 0 0) 0 [] (.slice none 0 0) 0 [] D N L :=
  ⟨rfl, rfl, rfl, by omega, hp, fun _ _ _ _ => rfl, ho, World.ownsRow_nil _ _ _ _, World.ownsRow_nil _ _ _ _, fun k hk => by omega, fun k hk => by omega, fun k j hk => by omega⟩

end

theorem vv_add (ad : Nat → Option Addr) (nn cc : Nat → Nat) (t : Nat) (a' : Option Addr) (n' c' : Nat) :
    (fun k => if k = t then Value.slice a' n' c' else VV ad nn cc k) = VV (fun k => if k = t then a' else ad k) (fun k => if k = t then n' else nn k) (fun k => if k = t then c' else cc k) := by
  funext k
  unfold VV
  by_cases h : k = t <;> simp [h]

end Go.Proofs.Ytfhhcpcedfgceaa
