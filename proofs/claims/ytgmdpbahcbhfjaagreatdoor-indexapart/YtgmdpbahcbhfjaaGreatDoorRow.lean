import Derived.WalkKit
import Derived.WalkSpells
import Derived.WalkLawsBesides
import Derived.Laws.CopyOwn
import Derived.Laws.AppendOwnNone
import Derived.Laws.BytesArg
import Derived.Lib.SlBytesConst
set_option linter.unusedSimpArgs false
set_option linter.unusedVariables false
set_option maxHeartbeats 40000000
set_option maxRecDepth 100000
/-
  Slices of bytes: what a slice reads as (Sl), what a call owns; 'make' with a length and a greater capacity. Nothing of the program.
-/
namespace Go.Proofs.YtgmdpbahcbhfjaaGreatDoor
open Go.RowKit

def Byte (l : List Int) : Prop := ∀ n ∈ l, 0 ≤ n ∧ n ≤ 255
/-- What a slice of bytes reads as. -/
structure Sl (w : World) (ad : Option Addr) (k : Nat) (l : List Int) : Prop where
  len : l.length = k
  byte : Byte l
  cell : ∀ j, j < k → ∃ x, ad = some x ∧ w.cell? (x.add j) = some (.int .u8 (l.getD j 0))

/-- What was read is read below. -/
theorem add_block (x : Addr) (j : Nat) : (x.add j).block = x.block := by
  unfold Addr.add
  split <;> rfl
end Go.Proofs.YtgmdpbahcbhfjaaGreatDoor

/-
  More on slices of bytes that a call owns: an append of whatever is read. Nothing of the program.
-/
namespace Go.Proofs.YtgmdpbahcbhfjaaGreatDoor
open Go.RowKit

theorem owns_cap {w : World} {base : Nat} {e : TypeId} {ad : Option Addr} {n cap m : Nat} {xs : List Value} (h : w.ownsRow base e 1 (.slice ad n cap) m xs) : n = m ∧ m ≤ cap ∧ cap ≤ maxLen ∧ (ad = none → m = 0 ∧ cap = 0) := by
  rcases h.2 with ⟨h1, h2⟩ | ⟨g, c, cur, h1, _, _, h3, h4, _⟩
  · simp only [Value.slice.injEq] at h1
    obtain ⟨rfl, rfl, rfl⟩ := h1
    exact ⟨h2.symm, by omega, by unfold maxLen; omega, fun _ => ⟨h2, rfl⟩⟩
  · simp only [Value.slice.injEq] at h1
    obtain ⟨rfl, rfl, rfl⟩ := h1
    exact ⟨rfl, h3, h4, fun h => by cases h⟩

/-- What is owned, written out. -/
theorem owns_form {w : World} {base : Nat} {e : TypeId} {v : Value} {n : Nat} {xs : List Value} (h : w.ownsRow base e 1 v n xs) : ∃ ad c, v = .slice ad n c := by
  rcases h.2 with ⟨h1, h2⟩ | ⟨g, c, cur, h1, _⟩
  · subst h2; exact ⟨_, _, h1⟩
  · exact ⟨_, _, h1⟩

theorem grown_below {base : Nat} {w w' : World} {v : Value} {e : TypeId} {size n : Nat} {xs : List Value} (hg : w.grownBy w' v.ownBlock) (hown : w.ownsRow base e size v n xs) (hb : base ≤ w.heap.size) : Below base w w' :=
  (Below.refl _ _).grown hg hb (fun k hk => (hown.lt k hk).1)

end Go.Proofs.YtgmdpbahcbhfjaaGreatDoor
/-
  Slices of bytes: what a slice reads as (Sl), what a call owns; 'make' with a length and a greater capacity. Nothing of the program.
-/
namespace Go.Proofs.YtgmdpbahcbhfjaaGreatDoor.J
open Go.RowKit

def Byte (l : List Int) : Prop := ∀ n ∈ l, 0 ≤ n ∧ n ≤ 255
/-- What a slice of bytes reads as. -/
structure Sl (w : World) (ad : Option Addr) (k : Nat) (l : List Int) : Prop where
  len : l.length = k
  byte : Byte l
  cell : ∀ j, j < k → ∃ x, ad = some x ∧ w.cell? (x.add j) = some (.int .u8 (l.getD j 0))

/-- What was read is read below. -/
theorem add_block (x : Addr) (j : Nat) : (x.add j).block = x.block := by
  unfold Addr.add
  split <;> rfl
end Go.Proofs.YtgmdpbahcbhfjaaGreatDoor.J
/-
  More on slices of bytes that a call owns: an append of whatever is read. Nothing of the program.
-/
namespace Go.Proofs.YtgmdpbahcbhfjaaGreatDoor.J
open Go.RowKit

theorem owns_cap {w : World} {base : Nat} {e : TypeId} {ad : Option Addr} {n cap m : Nat} {xs : List Value} (h : w.ownsRow base e 1 (.slice ad n cap) m xs) : n = m ∧ m ≤ cap ∧ cap ≤ maxLen ∧ (ad = none → m = 0 ∧ cap = 0) := by
  rcases h.2 with ⟨h1, h2⟩ | ⟨g, c, cur, h1, _, _, h3, h4, _⟩
  · simp only [Value.slice.injEq] at h1
    obtain ⟨rfl, rfl, rfl⟩ := h1
    exact ⟨h2.symm, by omega, by unfold maxLen; omega, fun _ => ⟨h2, rfl⟩⟩
  · simp only [Value.slice.injEq] at h1
    obtain ⟨rfl, rfl, rfl⟩ := h1
    exact ⟨rfl, h3, h4, fun h => by cases h⟩

/-- What is owned, written out. -/
theorem owns_form {w : World} {base : Nat} {e : TypeId} {v : Value} {n : Nat} {xs : List Value} (h : w.ownsRow base e 1 v n xs) : ∃ ad c, v = .slice ad n c := by
  rcases h.2 with ⟨h1, h2⟩ | ⟨g, c, cur, h1, _⟩
  · subst h2; exact ⟨_, _, h1⟩
  · exact ⟨_, _, h1⟩

theorem grown_below {base : Nat} {w w' : World} {v : Value} {e : TypeId} {size n : Nat} {xs : List Value} (hg : w.grownBy w' v.ownBlock) (hown : w.ownsRow base e size v n xs) (hb : base ≤ w.heap.size) : Below base w w' :=
  (Below.refl _ _).grown hg hb (fun k hk => (hown.lt k hk).1)

end Go.Proofs.YtgmdpbahcbhfjaaGreatDoor.J
