import Derived.Test.YtgmdpbahcbhfjaaGreatDoorJAny
import Derived.Test.YtgmdpbahcbhfjaaGreatDoorJBlk
set_option linter.unusedSimpArgs false
set_option linter.unusedVariables false
set_option maxHeartbeats 40000000
set_option maxRecDepth 100000
/-
  Regions that draw their order and whose operations leave plain values. Nothing of the program.
-/
namespace Go.Proofs.YtgmdpbahcbhfjaaGreatDoor.J
open Go.RowKit

theorem getD_put (b : Act) (d t : Tmp) (v : Value) (hv : b.tmps.size ≤ d → v = undef) : (b.put (some d) v).tmps.getD t undef = if t = d then v else b.tmps.getD t undef := by
  by_cases h : t = d
  · subst h
    rw [if_pos rfl]
    by_cases h2 : t < b.tmps.size
    · exact put_same b t v h2
    · rw [hv (Nat.le_of_not_lt h2)]
      have e : (b.put (some t) undef).tmps = b.tmps.setIfInBounds t undef := rfl
      rw [e, Array.getD_eq_getD_getElem?, Array.getElem?_setIfInBounds]
      simp [h2]
  · rw [if_neg h]
    exact put_slot b d t v h

theorem frame_eq {a b : Act} (hs : b.tmps.size = a.tmps.size) (hd : b.defers = a.defers) (h : ∀ t, b.tmps.getD t undef = a.tmps.getD t undef) : b = a := by
  cases a with
  | mk ta da =>
    cases b with
    | mk tb db =>
      simp only at hs hd h
      subst hd
      congr 1
      refine Array.ext hs (fun i h1 h2 => ?_)
      have := h i
      simpa [Array.getD_eq_getD_getElem?, h1, h2] using this

/-- The frame behind a region, written out. -/
theorem same_puts {ops : Array Oper} {a0 a : Act} (h : Same ops a0 a) : a = (dsts ops).foldl (fun b d => b.put (some d) (a.tmps.getD d undef)) a0 := by
  have key : ∀ (l : List Tmp) (b : Act), b.tmps.size = a.tmps.size → b.defers = a.defers → (∀ t, l.contains t = false → b.tmps.getD t undef = a.tmps.getD t undef) → l.foldl (fun b d => b.put (some d) (a.tmps.getD d undef)) b = a := by
    intro l
    induction l with
    | nil => intro b h1 h2 h3; exact frame_eq h1 h2 (fun t => h3 t (by simp))
    | cons d l ih =>
      intro b h1 h2 h3
      rw [List.foldl_cons]
      refine ih _ ?_ h2 (fun t ht => ?_)
      · have e : (b.put (some d) (a.tmps.getD d undef)).tmps = b.tmps.setIfInBounds d (a.tmps.getD d undef) := rfl
        rw [e, Array.size_setIfInBounds]; exact h1
      · rw [getD_put b d t _ (fun hge => by simp [Array.getD_eq_getD_getElem?, show a.tmps.size ≤ d by omega])]
        by_cases e : t = d
        · rw [if_pos e, e]
        · rw [if_neg e]
          exact h3 t (by
            have : ¬ t ∈ l := by simpa using ht
            simp [e, this])
  exact (key (dsts ops) a0 h.size.symm h.defers.symm (fun t ht => (h.slot t ht).symm)).symm


def findRegion (n : Nat) : Code → Option Code
  | .region id ops b => if id = n then some (.region id ops b) else none
  | .seq a b => match findRegion n a with
    | some c => some c
    | none => findRegion n b
  | .block _ c => findRegion n c
  | .scope c => findRegion n c
  | .loop c => findRegion n c
  | .cond _ a b => match findRegion n a with
    | some c => some c
    | none => findRegion n b
  | _ => none

/-- Nothing that was there has turned. -/
def Lat (u v : World) : Prop := Below u.heap.size u v
theorem Lat.refl (w : World) : Lat w w := Below.refl _ _
theorem Lat.trans (a b c : World) (h : Lat a b) (k : Lat b c) : Lat a c := Below.trans h (Below.mono k h.size)
theorem Lat.draw (w : World) : Lat w { w with drawn := w.drawn + 1 } := ⟨rfl, rfl, rfl, Nat.le_refl _, fun _ _ => rfl⟩
/-- What each operation leaves. -/
def TV (tab : List Value) (i : Nat) (v : Value) (w : World) : Prop := ∀ c, tab[i]? = some c → v = c
theorem TV.stable (tab : List Value) : ∀ i v w w', TV tab i v w → Lat w w' → TV tab i v w' := fun _ _ _ _ h _ => h
theorem TV.mk {tab : List Value} {i : Nat} {v : Value} {w : World} (h : tab[i]? = some v) : TV tab i v w := fun c hc => by rw [h] at hc; exact Option.some.inj hc

end Go.Proofs.YtgmdpbahcbhfjaaGreatDoor.J
