/-
  A label written into a row that is owned.
-/
import Derived.Test.YtpdffdoogobhfaaDoorLwI
import Derived.Test.YtpdffdoogobhfaaDoorLwJ
import Derived.Test.YtpdffdoogobhfaaDoorLwK
namespace Go.Proofs.YtpdffdoogobhfaaDoor
open Go.RowKit
set_option linter.unusedVariables false
set_option linter.unusedSimpArgs false

theorem owns_setV {w : World} {base : Nat} {e sz : Nat} {g n cap : Nat} {xs : List Value} (hO : w.ownsRow base e sz (.slice (some ⟨g, 0, none⟩) n cap) n xs) (q : Nat) (u : Value) (hq : q < xs.length) :
    (w.setCell ⟨g, q, none⟩ u).ownsRow base e sz (.slice (some ⟨g, 0, none⟩) n cap) n (xs.set q u) := by
  have hl := hO.1
  rcases hO.2 with ⟨h0, _⟩ | ⟨g', cap', cur, hv, hb, hh, hn, hc, hs, ht⟩
  · cases h0
  · simp only [Value.slice.injEq, Option.some.injEq, Addr.mk.injEq] at hv
    obtain ⟨⟨rfl, _⟩, _, rfl⟩ := hv
    refine ⟨by rw [List.length_set]; omega, .inr ⟨g, cap, cur.setIfInBounds q u, rfl, hb, ?_, hn, hc, by simpa using hs, ?_⟩⟩
    · simp [World.setCell, Array.getElem?_modify, hh]
    · rw [Array.toList_setIfInBounds, List.take_set, ht]
theorem cL_set : ∀ (l : List Lb) (k : Nat) (x : Lb), cL (l.set k x) = ((cL l).set (k * 2) (.string x.n)).set (k * 2 + 1) (.string x.v)
  | [], k, x => by simp [cL]
  | y :: t, 0, x => by simp [cL_cons]
  | y :: t, k + 1, x => by
    rw [List.set_cons_succ, cL_cons, cL_cons, cL_set t k x, show (k + 1) * 2 = k * 2 + 1 + 1 by omega, show k * 2 + 1 + 1 + 1 = (k * 2 + 1) + 1 + 1 by omega]
    simp
theorem owns_setL {w : World} {base g n cap k : Nat} {l : List Lb} {x : Lb} (hO : w.ownsRow base 35 2 (.slice (some ⟨g, 0, none⟩) n cap) n (cL l)) (hk : k < l.length) :
    ((w.setCell ⟨g, k * 2, none⟩ (.string x.n)).setCell ⟨g, k * 2 + 1, none⟩ (.string x.v)).ownsRow base 35 2 (.slice (some ⟨g, 0, none⟩) n cap) n (cL (l.set k x)) := by
  rw [cL_set]
  have h1 := owns_setV hO (k * 2) (.string x.n) (by rw [cL_length]; omega)
  exact owns_setV h1 (k * 2 + 1) (.string x.v) (by rw [List.length_set, cL_length]; omega)
theorem take_set_rep {l : List Lb} {k : Nat} {x : Lb} (hk : k < l.length) (h : l.take k = List.replicate k x) : (l.set k x).take (k + 1) = List.replicate (k + 1) x := by
  rw [List.take_add_one, List.take_set_of_le (Nat.le_refl _), h, List.getElem?_set_self hk]
  exact List.replicate_succ'.symm
/-- What a store of a label leaves. -/
theorem setL_chg (w : World) (g k : Nat) (x : Lb) : Chg (fun i => i = g) w ((w.setCell ⟨g, k * 2, none⟩ (.string x.n)).setCell ⟨g, k * 2 + 1, none⟩ (.string x.v)) :=
  (Chg.set ⟨g, k * 2, none⟩ _ w).trans (Chg.set ⟨g, k * 2 + 1, none⟩ _ _) (fun _ _ e => e)

end Go.Proofs.YtpdffdoogobhfaaDoor
