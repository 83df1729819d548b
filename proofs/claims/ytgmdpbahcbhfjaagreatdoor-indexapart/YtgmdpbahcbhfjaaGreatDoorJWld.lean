import Derived.Test.YtgmdpbahcbhfjaaGreatDoorJAnyM
import Derived.Test.YtgmdpbahcbhfjaaGreatDoorJPush
import Derived.Test.YtgmdpbahcbhfjaaGreatDoorJNumB
import Derived.OneCell
set_option linter.unusedSimpArgs false
set_option linter.unusedVariables false
set_option maxHeartbeats 40000000
set_option maxRecDepth 100000
/-
  Worlds of which some blocks may have changed. Nothing of the program.
-/
namespace Go.Proofs.YtgmdpbahcbhfjaaGreatDoor.J
open Go.RowKit


/-- All blocks but these are as they were. -/
structure Chg (F : Nat → Prop) (w w' : World) : Prop where
  os : w'.os = w.os
  tape : w'.tape = w.tape
  output : w'.output = w.output
  size : w.heap.size ≤ w'.heap.size
  block : ∀ k, k < w.heap.size → ¬ F k → w'.heap[k]? = w.heap[k]?

theorem Chg.refl (F : Nat → Prop) (w : World) : Chg F w w := ⟨rfl, rfl, rfl, Nat.le_refl _, fun _ _ _ => rfl⟩
theorem Chg.trans {F G : Nat → Prop} {a b c : World} (h : Chg F a b) (k : Chg G b c) (hs : ∀ i, i < a.heap.size → G i → F i) : Chg F a c :=
  ⟨k.os.trans h.os, k.tape.trans h.tape, k.output.trans h.output, Nat.le_trans h.size k.size, fun i hi hF => (k.block i (Nat.lt_of_lt_of_le hi h.size) (fun g => hF (hs i hi g))).trans (h.block i hi hF)⟩
theorem Chg.mono {F G : Nat → Prop} {a b : World} (h : Chg F a b) (hs : ∀ i, i < a.heap.size → F i → G i) : Chg G a b :=
  ⟨h.os, h.tape, h.output, h.size, fun i hi hG => h.block i hi (fun f => hG (hs i hi f))⟩
theorem Chg.below {F : Nat → Prop} {B : Nat} {a b : World} (h : Chg F a b) (hB : B ≤ a.heap.size) (hs : ∀ i, F i → B ≤ i) : Below B a b :=
  ⟨h.os, h.tape, h.output, h.size, fun i hi => h.block i (Nat.lt_of_lt_of_le hi hB) (fun f => by have := hs i f; omega)⟩
theorem Chg.of_below {F : Nat → Prop} {a b : World} (h : Below a.heap.size a b) : Chg F a b := ⟨h.os, h.tape, h.output, h.size, fun i hi _ => h.block i hi⟩
theorem Chg.of_grown {F : Nat → Prop} {a b : World} {row : Option Nat} (h : a.grownBy b row) (hs : ∀ i, row = some i → F i) : Chg F a b :=
  ⟨h.os, h.tape, h.output, h.size, fun i hi hF => h.block i hi (fun e => hF (hs i e.symm))⟩
theorem Chg.set (p : Addr) (v : Value) (w : World) : Chg (fun i => i = p.block) w (w.setCell p v) :=
  ⟨rfl, rfl, rfl, by simp [World.setCell], fun k _ hk => heap_setCell_other w p k v (fun e => hk (by simp [e]))⟩
theorem Chg.drew (F : Nat → Prop) (w : World) : Chg F w w.drew := ⟨rfl, rfl, rfl, Nat.le_refl _, fun _ _ _ => rfl⟩
theorem Chg.drewN (F : Nat → Prop) (w : World) (n : Nat) : Chg F w (w.drewN n) := Chg.of_below (below_drewN (Below.refl _ _) n)
theorem Chg.blk {F : Nat → Prop} {a b : World} {g : Nat} {ty : TypeId} {l : List Value} (h : Chg F a b) (hB : Blk a g ty l) (hF : ¬ F g) : Blk b g ty l := by
  unfold Blk at *
  rw [h.block g (Blk.lt hB) hF]
  exact hB
theorem Chg.owns {F : Nat → Prop} {a b : World} {base : Nat} {e : TypeId} {size : Nat} {v : Value} {n : Nat} {xs : List Value} (h : Chg F a b) (hO : a.ownsRow base e size v n xs) (hF : ∀ g, v.ownBlock = some g → ¬ F g) : b.ownsRow base e size v n xs := by
  refine ⟨hO.1, ?_⟩
  rcases hO.2 with h0 | ⟨g, cap, cur, rfl, hb, hh, r⟩
  · exact .inl h0
  · refine .inr ⟨g, cap, cur, rfl, hb, ?_, r⟩
    rw [h.block g (Array.getElem?_eq_some_iff.1 hh).1 (hF g rfl)]
    exact hh
theorem owns_lt {w : World} {base : Nat} {e : TypeId} {size : Nat} {v : Value} {n : Nat} {xs : List Value} (hO : w.ownsRow base e size v n xs) : ∀ g, v.ownBlock = some g → g < w.heap.size := by
  intro g hg
  rcases hO.2 with ⟨rfl, _⟩ | ⟨g', cap, cur, rfl, hb, hh, r⟩
  · cases hg
  · obtain rfl : g' = g := by simpa [Value.ownBlock] using hg
    exact (Array.getElem?_eq_some_iff.1 hh).1
/-- A new row's block is the old one or new. -/
def Moved (w : World) (rb rb' : Option Nat) : Prop := rb' = rb ∨ ∃ g, rb' = some g ∧ w.heap.size ≤ g
theorem Moved.trans {a b : World} {r s t : Option Nat} (h : Moved a r s) (k : Moved b s t) (hs : a.heap.size ≤ b.heap.size) : Moved a r t := by
  rcases k with rfl | ⟨g, rfl, hg⟩
  · exact h
  · exact .inr ⟨g, rfl, by omega⟩
theorem Chg.alloc (F : Nat → Prop) (w : World) (o : Obj) : Chg F w (w.alloc o) := Chg.of_below ((Below.refl _ _).alloc (Nat.le_refl _) _)
theorem Pushed.chg {w w6 : World} {v : Value} {g6 : Nat} {o : Obj} (hp : Pushed (w.alloc o) w6 v g6) : Chg (fun i => v.ownBlock = some i) w w6 ∧ Moved w v.ownBlock (some g6) := by
  rcases hp with ⟨h1, h2⟩ | ⟨h1, h2⟩
  · exact ⟨(Chg.alloc _ w o).trans (Chg.of_grown (F := fun i => v.ownBlock = some i) h2 (fun i hi => by rw [h1]; exact hi)) (fun i _ hi => hi), .inl h1.symm⟩
  · refine ⟨(Chg.alloc _ w o).trans (Chg.of_grown (F := fun i => v.ownBlock = some i) h2 (fun i hi => by cases hi)) (fun i _ hi => hi), .inr ⟨g6, rfl, ?_⟩⟩
    have : w.heap.size ≤ (w.alloc o).heap.size := by simp
    omega
/-- The type of a block's cells. -/
def Tg (w : World) (i : Nat) (t : TypeId) : Prop := ∃ cs fr, w.heap[i]? = some (.cells cs t fr)
theorem Tg.one {w : World} {i : Nat} {s t : TypeId} (h : Tg w i s) (k : Tg w i t) : s = t := by
  obtain ⟨c1, f1, h⟩ := h
  obtain ⟨c2, f2, k⟩ := k
  rw [h] at k
  cases k
  rfl
theorem Blk.tg {w : World} {i : Nat} {t : TypeId} {l : List Value} (h : Blk w i t l) : Tg w i t := ⟨_, _, h⟩
theorem owns_tg {w : World} {base : Nat} {e : TypeId} {size : Nat} {v : Value} {n : Nat} {xs : List Value} (h : w.ownsRow base e size v n xs) : ∀ i, v.ownBlock = some i → Tg w i e := by
  intro i hi
  rcases h.2 with ⟨rfl, _⟩ | ⟨g', cap, cur, rfl, hb, hh, r⟩
  · cases hi
  · obtain rfl : g' = i := by simpa [Value.ownBlock] using hi
    exact ⟨_, _, hh⟩

end Go.Proofs.YtgmdpbahcbhfjaaGreatDoor.J
