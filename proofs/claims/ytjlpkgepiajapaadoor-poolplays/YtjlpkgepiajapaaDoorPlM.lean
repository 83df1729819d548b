/-
  PoolShares in memory: the owners' names, their three lists, the bytes that were written.
-/
import Derived.Test.YtjlpkgepiajapaaDoorPlL
namespace Go.Proofs.YtjlpkgepiajapaaDoor
open Go.RowKit
set_option linter.unusedVariables false
set_option linter.unusedSimpArgs false

def upV (V : Nat → Value) (o : Nat) (v : Value) : Nat → Value := fun j => if j = o then v else V j
def wrL (n : Nat) (W : Nat → Int) : List Value := (List.range n).map fun i => Value.int .u8 (W i)
structure Hv (base : Nat) (w : World) (hb ob wb n : Nat) (V : Nat → Value) (H : Nat → List Int) (W : Nat → Int) : Prop where
  blk : Blk w hb 22 [V 0, V 1, V 2]
  own : Blk w ob 9 [.string (Own 0), .string (Own 1), .string (Own 2)]
  wr : Blk w wb 5 (wrL n W)
  row : ∀ o, o < 3 → w.ownsRow base 3 1 (V o) (H o).length ((H o).map encZ)
  apart : ∀ a b, a < 3 → b < 3 → a ≠ b → ∀ g, (V a).ownBlock = some g → ¬ (V b).ownBlock = some g
  lo : base ≤ hb ∧ base ≤ ob ∧ base ≤ wb
theorem Hv.chg {F : Nat → Prop} {base : Nat} {w w' : World} {hb ob wb n : Nat} {V : Nat → Value} {H : Nat → List Int} {W : Nat → Int} (h : Hv base w hb ob wb n V H W) (k : Chg F w w') (hF : ∀ i t, Tg w i t → (t = 22 ∨ t = 9 ∨ t = 5 ∨ t = 3) → ¬ F i) : Hv base w' hb ob wb n V H W :=
  ⟨k.blk h.blk (hF hb 22 h.blk.tg (by simp)), k.blk h.own (hF ob 9 h.own.tg (by simp)), k.blk h.wr (hF wb 5 h.wr.tg (by simp)), fun o ho => k.owns (h.row o ho) (fun g hg => hF g 3 (owns_tg (h.row o ho) g hg) (by simp)), h.apart, h.lo⟩
theorem Hv.kp {base bp : Nat} {w w' : World} {hb ob wb n : Nat} {V : Nat → Value} {H : Nat → List Int} {W : Nat → Int} (h : Hv base w hb ob wb n V H W) (k : Kp bp w w') : Hv base w' hb ob wb n V H W :=
  h.chg k (fun i t ht hc hF => by have := hF.2 t ht; subst this; simp at hc)
theorem Hv.later {base : Nat} {w w' : World} {hb ob wb n : Nat} {V : Nat → Value} {H : Nat → List Int} {W : Nat → Int} (h : Hv base w hb ob wb n V H W) (k : Below w.heap.size w w') : Hv base w' hb ob wb n V H W :=
  h.kp (bp := 0) (Chg.of_below k)
theorem Hv.cell {base : Nat} {w : World} {hb ob wb n : Nat} {V : Nat → Value} {H : Nat → List Int} {W : Nat → Int} (h : Hv base w hb ob wb n V H W) {o : Nat} (ho : o < 3) : w.cell? ⟨hb, o, none⟩ = some (V o) := by
  rw [h.blk.cell]
  rcases three ho with rfl | rfl | rfl <;> rfl
theorem Hv.name {base : Nat} {w : World} {hb ob wb n : Nat} {V : Nat → Value} {H : Nat → List Int} {W : Nat → Int} (h : Hv base w hb ob wb n V H W) {o : Nat} (ho : o < 3) : w.cell? ⟨ob, o, none⟩ = some (.string (Own o)) := by
  rw [h.own.cell]
  rcases three ho with rfl | rfl | rfl <;> rfl
theorem Hv.wrote {base : Nat} {w : World} {hb ob wb n : Nat} {V : Nat → Value} {H : Nat → List Int} {W : Nat → Int} (h : Hv base w hb ob wb n V H W) {i : Nat} (hi : i < n) : w.cell? ⟨wb, i, none⟩ = some (.int .u8 (W i)) := by
  rw [h.wr.cell]
  simp [wrL, hi]
theorem wrL_set (n : Nat) (W : Nat → Int) (i : Nat) (b : Int) : (wrL n W).set i (.int .u8 b) = wrL n (upW W i b) := by
  apply List.ext_getElem?
  intro j
  unfold wrL upW
  rw [List.getElem?_set]
  by_cases hj : j < n
  · by_cases e : i = j
    · subst e; simp [hj]
    · simp [hj, e, Ne.symm e, show ¬ j = i from fun h => e h.symm]
  · by_cases e : i = j
    · subst e; simp [hj]
    · simp [hj, e]
theorem Tg.ne {w : World} {i j : Nat} {s t : TypeId} (h : Tg w i s) (k : Tg w j t) (hst : ¬ s = t) : ¬ i = j := fun e => hst (h.one (e ▸ k))
/-- A byte is written. -/
theorem Hv.write {base : Nat} {w : World} {hb ob wb n : Nat} {V : Nat → Value} {H : Nat → List Int} {W : Nat → Int} (h : Hv base w hb ob wb n V H W) (i : Nat) (b : Int) : Hv base (w.setCell ⟨wb, i, none⟩ (.int .u8 b)) hb ob wb n V H (upW W i b) := by
  have k := Chg.set ⟨wb, i, none⟩ (.int .u8 b) w
  refine ⟨k.blk h.blk (h.blk.tg.ne h.wr.tg (by decide)), k.blk h.own (h.own.tg.ne h.wr.tg (by decide)), ?_, fun o ho => k.owns (h.row o ho) (fun g hg => (owns_tg (h.row o ho) g hg).ne h.wr.tg (by decide)), h.apart, h.lo⟩
  rw [← wrL_set]
  exact h.wr.set i _
/-- A list's new value is stored. -/
theorem Hv.store {base : Nat} {w w6 : World} {hb ob wb n : Nat} {V : Nat → Value} {H : Nat → List Int} {W : Nat → Int} (h : Hv base w hb ob wb n V H W) {o : Nat} (ho : o < 3) (v : Value) (l : List Int)
    (k : Chg (fun i => (V o).ownBlock = some i) w w6) (m : v.ownBlock = none ∨ Moved w (V o).ownBlock v.ownBlock) (r : w6.ownsRow base 3 1 v l.length (l.map encZ)) : Hv base (w6.setCell ⟨hb, o, none⟩ v) hb ob wb n (upV V o v) (upH H o l) W := by
  have hB : Blk w6 hb 22 [V 0, V 1, V 2] := k.blk h.blk (fun e => (owns_tg (h.row o ho) hb e).ne h.blk.tg (by decide) rfl)
  have hO : Blk w6 ob 9 _ := k.blk h.own (fun e => (owns_tg (h.row o ho) ob e).ne h.own.tg (by decide) rfl)
  have hW : Blk w6 wb 5 _ := k.blk h.wr (fun e => (owns_tg (h.row o ho) wb e).ne h.wr.tg (by decide) rfl)
  have k2 := Chg.set ⟨hb, o, none⟩ v w6
  have hr : ∀ o', o' < 3 → w6.ownsRow base 3 1 (upV V o v o') (upH H o l o').length ((upH H o l o').map encZ) := by
    intro o' ho'
    unfold upV upH
    by_cases e : o' = o
    · rw [if_pos e, if_pos e]; exact r
    · rw [if_neg e, if_neg e]
      exact k.owns (h.row o' ho') (fun g hg hg2 => h.apart o' o ho' ho e g hg hg2)
  refine ⟨?_, k2.blk hO (hO.tg.ne hB.tg (by decide)), k2.blk hW (hW.tg.ne hB.tg (by decide)), fun o' ho' => k2.owns (hr o' ho') (fun g hg => (owns_tg (hr o' ho') g hg).ne hB.tg (by decide)), ?_, h.lo⟩
  · have := hB.set o v
    rcases three ho with rfl | rfl | rfl <;> exact this
  · have key : ∀ b, b < 3 → ¬ b = o → ∀ g, v.ownBlock = some g → ¬ (V b).ownBlock = some g := by
      intro b hb' hne g hg hg2
      rcases m with m | m | ⟨g', m, hm⟩
      · rw [m] at hg; cases hg
      · rw [m] at hg; exact h.apart b o hb' ho hne g hg2 hg
      · rw [m] at hg
        injection hg with hg
        have := owns_lt (h.row b hb') g hg2
        omega
    intro a b ha hb' hne g
    unfold upV
    by_cases e1 : a = o
    · by_cases e2 : b = o
      · exact absurd (e1.trans e2.symm) hne
      · rw [if_pos e1, if_neg e2]; exact key b hb' e2 g
    · by_cases e2 : b = o
      · rw [if_neg e1, if_pos e2]; exact fun hg hg2 => key a ha e1 g hg2 hg
      · rw [if_neg e1, if_neg e2]; exact h.apart a b ha hb' hne g
/-- One is written over, one is left out at the end. -/
theorem owns_cut {w : World} {base g cap : Nat} {l : List Int} (h : w.ownsRow base 3 1 (.slice (some ⟨g, 0, none⟩) l.length cap) l.length (l.map encZ)) (k m : Nat) (y : Int) (hm : m ≤ l.length) :
    (w.setCell ⟨g, k, none⟩ (encZ y)).ownsRow base 3 1 (.slice (some ⟨g, 0, none⟩) m cap) m (((l.set k y).take m).map encZ) := by
  rcases h.2 with ⟨h0, _⟩ | ⟨g', cap', cur, hv, hb, hh, hn, hc, hs, ht⟩
  · cases h0
  · simp only [Value.slice.injEq, Option.some.injEq, Addr.mk.injEq] at hv
    obtain ⟨⟨rfl, _⟩, _, rfl⟩ := hv
    refine ⟨by simp; omega, .inr ⟨g, cap, cur.setIfInBounds k (encZ y), rfl, hb, ?_, by omega, hc, by simpa using hs, ?_⟩⟩
    · simp [World.setCell, Array.getElem?_modify, hh]
    · simp only [Nat.mul_one] at ht ⊢
      have e : cur.toList.take m = (l.map encZ).take m := by
        rw [← ht, List.take_take, Nat.min_eq_left hm]
      rw [Array.toList_setIfInBounds, List.take_set, e, ← List.take_set, ← List.map_set, List.map_take]

end Go.Proofs.YtjlpkgepiajapaaDoor
