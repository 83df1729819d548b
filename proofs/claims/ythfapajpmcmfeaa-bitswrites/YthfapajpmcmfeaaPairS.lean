import Derived.Test.YthfapajpmcmfeaaPairM
namespace Go.Proofs.Ythfapajpmcmfeaa
open Go.RowKit
set_option linter.unusedVariables false

/-- A pair whose writers hold two rows. -/
structure PQ (w : World) (pp p q : Nat) (rb rc ro : Option Nat) (La Lb : List Bool) (v : Value) (n m : Nat) (ln : Int) : Prop where
  blk : Blk w pp 31 [.pointer (some ⟨p, 0, none⟩), .pointer (some ⟨q, 0, none⟩), v, .int .u8 (m : Int), .int .i64 ln]
  a : WS w p rb La
  b : DS w q rc Lb
  own : v.ownBlock = ro
  row : w.ownsRow 0 5 1 v n (cells8 (List.replicate n (m : Int)))
  mb : m < 256
  ne : ∀ i, rb = some i → ro ≠ some i
theorem PR.toA {w w' : World} {pp p q : Nat} {rb rc ro rb' : Option Nat} {L L' : List Bool} {v : Value} {n m : Nat} {ln : Int} (h : PR w pp p q rb rc ro L v n m ln) (hW : WS w' p rb' L') (hc : Chg (fpt p rb) w w') (hM : Moved w rb rb') : PQ w' pp p q rb' rc ro L' L v n m ln ∧ Chg (FP pp p q rb rc ro) w w' := by
  obtain ⟨h1, h2, _, h4⟩ := h.setA hW hc hM
  refine ⟨⟨h1, hW, h2, h.own, ?_, h.mb, ?_⟩, h4⟩
  · exact hc.owns h.row (fun g hg e => by
      rcases e with rfl | e
      · exact absurd ((owns_tg h.row g hg).one h.a.tgr) (by decide)
      · exact h.ne g e (by rw [← h.own]; exact hg))
  · intro i hi e
    rcases hM with rfl | ⟨g, rfl, hg⟩
    · exact h.ne i hi e
    · have := h.lt i (.inr (.inr (.inr e)))
      simp at hi
      omega
theorem PQ.toB {w w' : World} {pp p q : Nat} {rb rc ro rc' : Option Nat} {L L' : List Bool} {v : Value} {n m : Nat} {ln : Int} (h : PQ w pp p q rb rc ro L' L v n m ln) (hD' : DS w' q rc' L') (hc : Chg (fpt q rc) w w') : PR w' pp p q rb rc' ro L' v n m ln ∧ Chg (FP pp p q rb rc ro) w w' :=
  PR.setB h.blk h.a h.b h.own h.row h.mb h.ne hD' hc
theorem PR.setLen {w : World} {pp p q : Nat} {rb rc ro : Option Nat} {L : List Bool} {v : Value} {n m : Nat} {ln : Int} (h : PR w pp p q rb rc ro L v n m ln) (x : Int) : PR (w.setCell ⟨pp, 4, none⟩ (.int .i64 x)) pp p q rb rc ro L v n m x ∧ Chg (FP pp p q rb rc ro) w (w.setCell ⟨pp, 4, none⟩ (.int .i64 x)) := by
  have hppt := h.blk.tg
  have hc := Chg.set ⟨pp, 4, none⟩ (.int .i64 x) w
  refine ⟨⟨h.blk.set 4 _, h.a.chg hc (fun i hi e => ?_), h.b.chg hc (fun i hi e => ?_), h.own, hc.owns h.row (fun g hg e => ?_), h.mb, h.ne⟩, hc.mono (fun i _ hi => .inl hi)⟩
  · simp only at e
    subst e
    rcases h.a.tg i hi with t | t <;> exact absurd (t.one hppt) (by decide)
  · simp only at e
    subst e
    rcases h.b.tg i hi with t | t <;> exact absurd (t.one hppt) (by decide)
  · simp only at e
    subst e
    exact absurd ((owns_tg h.row g hg).one hppt) (by decide)

end Go.Proofs.Ythfapajpmcmfeaa
