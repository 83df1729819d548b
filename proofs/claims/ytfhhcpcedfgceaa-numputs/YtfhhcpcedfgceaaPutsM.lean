/-
  What regions that draw their order leave of the world and of the frame. Nothing of the program but two facts on its types.
-/
import Derived.Test.YtfhhcpcedfgceaaAnyB
import Derived.Test.YtfhhcpcedfgceaaRefC
import Derived.Test.YtfhhcpcedfgceaaGetsM
import Derived.Great.BuildSlice
namespace Go.Proofs.Ytfhhcpcedfgceaa
open Go.RowKit
set_option linter.unusedVariables false

theorem getD_put (b : Act) (d t : Tmp) (v : Value) (hv : b.tmps.size ≤ d → v = undef) : (b.put (some d) v).tmps.getD t undef = if t = d then v else b.tmps.getD t undef := by
  by_cases h : t = d
  · subst h
    rw [if_pos rfl]
    by_cases h2 : t < b.tmps.size
    · exact put_same b t v h2
    · rw [hv (Nat.le_of_not_lt h2)]
      have e : (b.put (some t) undef).tmps = b.tmps.setIfInBounds t undef := rfl
      rw [e, Array.getD_eq_getD_getElem?, Array.getElem?_setIfInBounds]
      simp [h2]
  · rw [if_neg h]
    exact put_slot b d t v h

theorem frame_eq {a b : Act} (hs : b.tmps.size = a.tmps.size) (hd : b.defers = a.defers) (h : ∀ t, b.tmps.getD t undef = a.tmps.getD t undef) : b = a := by
  cases a with
  | mk ta da =>
    cases b with
    | mk tb db =>
      simp only at hs hd h
      subst hd
      congr 1
      refine Array.ext hs (fun i h1 h2 => ?_)
      have := h i
      simpa [Array.getD_eq_getD_getElem?, h1, h2] using this

/-- The frame behind a region, written out. -/
theorem same_puts {ops : Array Oper} {a0 a : Act} (h : Same ops a0 a) : a = (dsts ops).foldl (fun b d => b.put (some d) (a.tmps.getD d undef)) a0 := by
  have key : ∀ (l : List Tmp) (b : Act), b.tmps.size = a.tmps.size → b.defers = a.defers → (∀ t, l.contains t = false → b.tmps.getD t undef = a.tmps.getD t undef) → l.foldl (fun b d => b.put (some d) (a.tmps.getD d undef)) b = a := by
    intro l
    induction l with
    | nil => intro b h1 h2 h3; exact frame_eq h1 h2 (fun t => h3 t (by simp))
    | cons d l ih =>
      intro b h1 h2 h3
      rw [List.foldl_cons]
      refine ih _ ?_ h2 (fun t ht => ?_)
      · have e : (b.put (some d) (a.tmps.getD d undef)).tmps = b.tmps.setIfInBounds d (a.tmps.getD d undef) := rfl
        rw [e, Array.size_setIfInBounds]; exact h1
      · rw [getD_put b d t _ (fun hge => by simp [Array.getD_eq_getD_getElem?, show a.tmps.size ≤ d by omega])]
        by_cases e : t = d
        · rw [if_pos e, e]
        · rw [if_neg e]
          exact h3 t (by
            have : ¬ t ∈ l := by simpa using ht
            simp [e, this])
  exact (key (dsts ops) a0 h.size.symm h.defers.symm (fun t ht => (h.slot t ht).symm)).symm

/-- Nothing that was there has turned, but, from B on, what is o into o'. -/
structure LatS (B : Nat) (o o' : Obj) (u v : World) : Prop where
  os : v.os = u.os
  tape : v.tape = u.tape
  output : v.output = u.output
  size : u.heap.size ≤ v.heap.size
  block : ∀ k, k < u.heap.size → v.heap[k]? = u.heap[k]? ∨ (B ≤ k ∧ u.heap[k]? = some o ∧ v.heap[k]? = some o')
section
variable {B : Nat} {o o' : Obj} {u v : World}
theorem LatS.refl (B : Nat) (o o' : Obj) (u : World) : LatS B o o' u u := ⟨rfl, rfl, rfl, Nat.le_refl _, fun _ _ => .inl rfl⟩
theorem LatS.trans (u v x : World) (h : LatS B o o' u v) (k : LatS B o o' v x) : LatS B o o' u x := by
  refine ⟨k.os.trans h.os, k.tape.trans h.tape, k.output.trans h.output, Nat.le_trans h.size k.size, fun j hj => ?_⟩
  have hj2 := Nat.lt_of_lt_of_le hj h.size
  rcases h.block j hj with h1 | ⟨h1, h2, h3⟩
  · rcases k.block j hj2 with k1 | ⟨k1, k2, k3⟩
    · exact .inl (k1.trans h1)
    · exact .inr ⟨k1, by rw [← h1]; exact k2, k3⟩
  · rcases k.block j hj2 with k1 | ⟨k1, k2, k3⟩
    · exact .inr ⟨h1, h2, k1.trans h3⟩
    · exact .inr ⟨h1, h2, k3⟩
theorem LatS.of_below (h : Below u.heap.size u v) : LatS B o o' u v := ⟨h.os, h.tape, h.output, h.size, fun k hk => .inl (h.block k hk)⟩
theorem LatS.below (h : LatS B o o' u v) (hB : B ≤ u.heap.size) : Below B u v := by
  refine ⟨h.os, h.tape, h.output, h.size, fun k hk => ?_⟩
  rcases h.block k (by omega) with h1 | ⟨h1, _⟩
  · exact h1
  · omega
theorem LatS.keep (h : LatS B o o' u v) {k : Nat} {x : Obj} (hk : u.heap[k]? = some x) (hx : x ≠ o) : v.heap[k]? = some x := by
  rcases h.block k (Array.getElem?_eq_some_iff.1 hk).1 with h1 | ⟨_, h2, _⟩
  · rw [h1]; exact hk
  · rw [hk] at h2
    exact absurd (Option.some.inj h2) hx
theorem LatS.done (h : LatS B o o' u v) {k : Nat} (hk : u.heap[k]? = some o') : v.heap[k]? = some o' := by
  rcases h.block k (Array.getElem?_eq_some_iff.1 hk).1 with h1 | ⟨_, _, h3⟩
  · rw [h1]; exact hk
  · exact h3
theorem LatS.either (h : LatS B o o' u v) {k : Nat} (hk : u.heap[k]? = some o ∨ u.heap[k]? = some o') : v.heap[k]? = some o ∨ v.heap[k]? = some o' := by
  rcases hk with hk | hk
  · rcases h.block k (Array.getElem?_eq_some_iff.1 hk).1 with h1 | ⟨_, _, h3⟩
    · exact .inl (h1.trans hk)
    · exact .inr h3
  · exact .inr (h.done hk)
end
theorem owns_lats {B : Nat} {c : Array Value} {t : TypeId} {f : Nat × Nat} {o' : Obj} {u v : World} {base : Nat} {e : TypeId} {x : Value} {n : Nat} {xs : List Value} (h : u.ownsRow base e 1 x n xs) (hl : LatS B (.cells c t f) o' u v) (he : e ≠ t) : v.ownsRow base e 1 x n xs := by
  refine ⟨h.1, ?_⟩
  rcases h.2 with h1 | ⟨g, c, cur, h1, h2, h3, h4⟩
  · exact .inl h1
  · exact .inr ⟨g, c, cur, h1, h2, hl.keep h3 (fun e2 => by simp at e2; exact he e2.2.1), h4⟩
theorem owns_base {w : World} {base base' : Nat} {e : TypeId} {x : Value} {n : Nat} {xs : List Value} (h : w.ownsRow base e 1 x n xs) (hb : base' ≤ base) : w.ownsRow base' e 1 x n xs := by
  refine ⟨h.1, ?_⟩
  rcases h.2 with h1 | ⟨g, c, cur, h1, h2, h3⟩
  · exact .inl h1
  · exact .inr ⟨g, c, cur, h1, by omega, h3⟩

/-- A variable of three strings. -/
def arr3 (C : Array Value) : Obj := .cells C 33 (0, 0)
def zero3 : Array Value := #[.string ByteArray.empty, .string ByteArray.empty, .string ByteArray.empty]
/-- A row of bytes. -/
def EntRow (B n : Nat) (L : List Int) (X : Array Value) : Ent (LatS B (arr3 zero3) (arr3 X)) :=
  ⟨fun v w => ∃ ad c, v = .slice ad n c ∧ w.ownsRow B 5 1 v n (cells8 L), fun v w w' h hl => by
    obtain ⟨ad, c, h1, h2⟩ := h
    exact ⟨ad, c, h1, owns_lats h2 hl (by decide)⟩⟩
/-- A new variable of three strings. -/
def EntVar (B : Nat) (X : Array Value) : Ent (LatS B (arr3 zero3) (arr3 X)) :=
  ⟨fun v w => ∃ g, v = .pointer (some ⟨g, 0, none⟩) ∧ B ≤ g ∧ (w.heap[g]? = some (arr3 zero3) ∨ w.heap[g]? = some (arr3 X)), fun v w w' h hl => by
    obtain ⟨g, h1, h2, h3⟩ := h
    exact ⟨g, h1, h2, hl.either h3⟩⟩
/-- .. and written. -/
def EntSto (B : Nat) (X : Array Value) : Ent (LatS B (arr3 zero3) (arr3 X)) :=
  ⟨fun v w => ∃ g, v = .pointer (some ⟨g, 0, none⟩) ∧ B ≤ g ∧ w.heap[g]? = some (arr3 X), fun v w w' h hl => by
    obtain ⟨g, h1, h2, h3⟩ := h
    exact ⟨g, h1, h2, hl.done h3⟩⟩
theorem LatS.setRow {B : Nat} {X : Array Value} {w : World} {g : Nat} (hB : B ≤ g) (hg : w.heap[g]? = some (arr3 zero3) ∨ w.heap[g]? = some (arr3 X)) : LatS B (arr3 zero3) (arr3 X) w (w.setRow g X) := by
  refine ⟨rfl, rfl, rfl, by simp, fun k hk => ?_⟩
  by_cases h : k = g
  · subst h
    rcases hg with hg | hg
    · exact .inr ⟨hB, hg, setRow_heap w _ _ X 33 (0, 0) hg⟩
    · exact .inl ((setRow_heap w _ _ X 33 (0, 0) hg).trans hg.symm)
  · exact .inl (setRow_other w g k X h)

end Go.Proofs.Ytfhhcpcedfgceaa
