/-
  More on slices of bytes that a call owns: an append of whatever is read. Nothing of the program.
-/
import Derived.Test.YtjpelnbffodaiaaRow
namespace Go.Proofs.Ytjpelnbffodaiaa
open Go.RowKit
set_option linter.unusedVariables false

theorem owns_cap {w : World} {base : Nat} {e : TypeId} {ad : Option Addr} {n cap m : Nat} {xs : List Value} (h : w.ownsRow base e 1 (.slice ad n cap) m xs) : n = m ∧ m ≤ cap ∧ cap ≤ maxLen ∧ (ad = none → m = 0 ∧ cap = 0) := by
  rcases h.2 with ⟨h1, h2⟩ | ⟨g, c, cur, h1, _, _, h3, h4, _⟩
  · simp only [Value.slice.injEq] at h1
    obtain ⟨rfl, rfl, rfl⟩ := h1
    exact ⟨h2.symm, by omega, by unfold maxLen; omega, fun _ => ⟨h2, rfl⟩⟩
  · simp only [Value.slice.injEq] at h1
    obtain ⟨rfl, rfl, rfl⟩ := h1
    exact ⟨rfl, h3, h4, fun h => by cases h⟩

/-- What is owned, written out. -/
theorem owns_form {w : World} {base : Nat} {e : TypeId} {v : Value} {n : Nat} {xs : List Value} (h : w.ownsRow base e 1 v n xs) : ∃ ad c, v = .slice ad n c := by
  rcases h.2 with ⟨h1, h2⟩ | ⟨g, c, cur, h1, _⟩
  · subst h2; exact ⟨_, _, h1⟩
  · exact ⟨_, _, h1⟩

/-- 'append(v, s...)', v the call's own, s whatever is read. -/
theorem wpList_append_sl {P : Program} (w : World) {ops : Array Oper} {rest : List Oper} {o : Oper} {a : Act} {Q : Exit → Act → World → Prop} (hgd : o.guard = none) (s x : Operand) (t : TypeId)
    (ho : o.op = .call { callee := .builtin .append, args := #[s, x], argTypes := #[t, t] })
    (base : Nat) (e : TypeId) (i : TypeInfo) (z : Value) (ht : P.underlying t = some (.slice e)) (hi : P.info? e = some i) (hz : i.zero = some z)
    (hsize : i.size = 1) (hby : i.bytes = 1) (hzs : z.cells.size = 1)
    (v : Value) (n : Nat) (xs : List Int) (hs : a.eval s = v) (hown : w.ownsRow base e 1 v n (cells8 xs))
    (ad : Option Addr) (m c : Nat) (l : List Int) (hx : a.eval x = .slice ad m c) (hsl : Sl w ad m l) (hnone : ad = none → m = 0 ∧ c = 0)
    (hbytes : n + m ≤ 140737488355328) (hbase : base ≤ w.heap.size)
    (h : ∀ ad' c' w', w'.ownsRow base e 1 (.slice ad' (n + m) c') (n + m) (cells8 (xs ++ l)) → w.grownBy w' v.ownBlock → wpList P ops Q rest (a.put o.dst (.slice ad' (n + m) c')) w') : wpList P ops Q (o :: rest) a w := by
  cases ad with
  | none =>
    obtain ⟨rfl, rfl⟩ := hnone rfl
    have hl : l = [] := List.eq_nil_of_length_eq_zero hsl.len
    subst hl
    refine wpList_append_own_none hgd s x t ho base e i 1 ht hi v n _ hs hown hx ?_
    obtain ⟨ad', c', rfl⟩ := owns_form hown
    exact h ad' c' w (by simpa using hown) (World.grownBy.refl _ _)
  | some x' =>
    refine wpList_append_own w hgd s x t ho base e i z 1 1 ht hi hz hsize hby hzs (by omega) v n _ hs hown x' m c (cells8 l) hx (by rw [cells8_length, hsl.len]; omega) hsl.cells (cells8_one l) (by unfold maxLen; omega) (by omega) hbase ?_
    intro v' w' h1 h2 _
    obtain ⟨ad', c', rfl⟩ := owns_form h1
    rw [← cells8_append] at h1
    exact h ad' c' w' h1 h2

theorem grown_below {base : Nat} {w w' : World} {v : Value} {e : TypeId} {size n : Nat} {xs : List Value} (hg : w.grownBy w' v.ownBlock) (hown : w.ownsRow base e size v n xs) (hb : base ≤ w.heap.size) : Below base w w' :=
  (Below.refl _ _).grown hg hb (fun k hk => (hown.lt k hk).1)

theorem Sl.take {w : World} {ad : Option Addr} {len N : Nat} {l : List Int} (h : Sl w ad len l) (hk : N ≤ len) : Sl w ad N (l.take N) := by
  have hl := h.len
  refine ⟨by simp; omega, h.byte.take N, fun j hj => ?_⟩
  obtain ⟨x, hx, hc⟩ := h.cell j (by omega)
  refine ⟨x, hx, ?_⟩
  rw [hc]
  congr 2
  simp [List.getD, hj]

end Go.Proofs.Ytjpelnbffodaiaa
