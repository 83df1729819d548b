import Derived.Test.YtfieglepljmmkaaRefHash
import Derived.Test.YtfieglepljmmkaaShown
import Derived.Test.YtfieglepljmmkaaLent
import Derived.Test.YtfieglepljmmkaaStill
import Derived.Test.YtfieglepljmmkaaTellsR
namespace Go.Proofs.Ytfieglepljmmkaa
open Go.RowKit
set_option linter.unusedVariables false

theorem HS.tg {w : World} {p : Nat} {m : List Int} (h : HS w p m) : Tg w p 53 := by
  obtain ⟨_, blk, _, _, hB, _⟩ := h
  exact hB.tg
theorem HS.chg {F : Nat → Prop} {a b : World} {p : Nat} {m : List Int} (h : HS a p m) (hc : Chg F a b) (hF : ¬ F p) : HS b p m := by
  obtain ⟨h1, blk, h2, h3, hB, h4⟩ := h
  exact ⟨h1, blk, h2, h3, hc.blk hB hF, h4⟩

/-- Two hashes of the program's, two of the document's, all apart, and none older than w0. -/
structure PT (w0 w : World) (p1 p2 q1 q2 : Nat) (r1 r2 : Option Nat) (m1 m2 n1 n2 : List Int) : Prop where
  h1 : HS w p1 m1
  h2 : HS w p2 m2
  k1 : RH w q1 r1 n1
  k2 : RH w q2 r2 n2
  ne : p1 ≠ p2
  ap : ∀ i, fpt q1 r1 i → fpt q2 r2 i → False
  o1 : w0.heap.size ≤ p1
  o2 : w0.heap.size ≤ p2
  o3 : ∀ i, fpt q1 r1 i → w0.heap.size ≤ i
  o4 : ∀ i, fpt q2 r2 i → w0.heap.size ≤ i
  bel : Below w0.heap.size w0 w

section
variable {w0 w w' : World} {p1 p2 q1 q2 : Nat} {r1 r2 : Option Nat} {m1 m2 n1 n2 : List Int}

theorem PT.chg {F : Nat → Prop} (h : PT w0 w p1 p2 q1 q2 r1 r2 m1 m2 n1 n2) (hc : Chg F w w') (hp1 : ¬ F p1) (hp2 : ¬ F p2) (hq1 : ∀ i, fpt q1 r1 i → ¬ F i) (hq2 : ∀ i, fpt q2 r2 i → ¬ F i) (hF : ∀ i, F i → w0.heap.size ≤ i) : PT w0 w' p1 p2 q1 q2 r1 r2 m1 m2 n1 n2 :=
  ⟨h.h1.chg hc hp1, h.h2.chg hc hp2, h.k1.chg hc hq1, h.k2.chg hc hq2, h.ne, h.ap, h.o1, h.o2, h.o3, h.o4, h.bel.trans (hc.below h.bel.size hF)⟩
theorem PT.later (h : PT w0 w p1 p2 q1 q2 r1 r2 m1 m2 n1 n2) (hL : Lat w w') : PT w0 w' p1 p2 q1 q2 r1 r2 m1 m2 n1 n2 :=
  h.chg (Chg.of_below (F := fun _ => False) hL) (fun e => e) (fun e => e) (fun _ _ e => e) (fun _ _ e => e) (fun _ e => e.elim)
theorem PT.set1 {m : List Int} (h : PT w0 w p1 p2 q1 q2 r1 r2 m1 m2 n1 n2) (hW : HS w' p1 m) (hg : w.grownBy w' (some p1)) : PT w0 w' p1 p2 q1 q2 r1 r2 m m2 n1 n2 := by
  have hc : Chg (fun i => i = p1) w w' := Chg.of_grown hg (fun i hi => (Option.some.inj hi).symm)
  refine ⟨hW, h.h2.chg hc (fun e => h.ne e.symm), h.k1.chg hc (fun i hi e => ?_), h.k2.chg hc (fun i hi e => ?_), h.ne, h.ap, h.o1, h.o2, h.o3, h.o4, h.bel.trans (hc.below h.bel.size (fun i e => by rw [e]; exact h.o1))⟩
  · subst e
    rcases h.k1.tg i hi with t | t <;> exact absurd (t.one h.h1.tg) (by decide)
  · subst e
    rcases h.k2.tg i hi with t | t <;> exact absurd (t.one h.h1.tg) (by decide)
theorem PT.set2 {m : List Int} (h : PT w0 w p1 p2 q1 q2 r1 r2 m1 m2 n1 n2) (hW : HS w' p2 m) (hg : w.grownBy w' (some p2)) : PT w0 w' p1 p2 q1 q2 r1 r2 m1 m n1 n2 := by
  have hc : Chg (fun i => i = p2) w w' := Chg.of_grown hg (fun i hi => (Option.some.inj hi).symm)
  refine ⟨h.h1.chg hc (fun e => h.ne e), hW, h.k1.chg hc (fun i hi e => ?_), h.k2.chg hc (fun i hi e => ?_), h.ne, h.ap, h.o1, h.o2, h.o3, h.o4, h.bel.trans (hc.below h.bel.size (fun i e => by rw [e]; exact h.o2))⟩
  · subst e
    rcases h.k1.tg i hi with t | t <;> exact absurd (t.one h.h2.tg) (by decide)
  · subst e
    rcases h.k2.tg i hi with t | t <;> exact absurd (t.one h.h2.tg) (by decide)
theorem PT.set3 {n : List Int} {r : Option Nat} (h : PT w0 w p1 p2 q1 q2 r1 r2 m1 m2 n1 n2) (hW : RH w' q1 r n) (hc : Chg (fpt q1 r1) w w') (hM : Moved w r1 r) : PT w0 w' p1 p2 q1 q2 r r2 m1 m2 n n2 := by
  refine ⟨h.h1.chg hc (fun e => ?_), h.h2.chg hc (fun e => ?_), hW, h.k2.chg hc (fun i hi e => h.ap i e hi), h.ne, fun i hi e => ?_, h.o1, h.o2, fun i hi => ?_, h.o4, h.bel.trans (hc.below h.bel.size (fun i e => h.o3 i e))⟩
  · rcases h.k1.tg _ e with t | t <;> exact absurd (t.one h.h1.tg) (by decide)
  · rcases h.k1.tg _ e with t | t <;> exact absurd (t.one h.h2.tg) (by decide)
  · by_cases hlt : i < w.heap.size
    · exact h.ap i (fpt_moved hM i hlt hi) e
    · have := h.k2.lt i e
      omega
  · by_cases hlt : i < w.heap.size
    · exact h.o3 i (fpt_moved hM i hlt hi)
    · have := h.bel.size
      omega
theorem PT.set4 {n : List Int} {r : Option Nat} (h : PT w0 w p1 p2 q1 q2 r1 r2 m1 m2 n1 n2) (hW : RH w' q2 r n) (hc : Chg (fpt q2 r2) w w') (hM : Moved w r2 r) : PT w0 w' p1 p2 q1 q2 r1 r m1 m2 n1 n := by
  refine ⟨h.h1.chg hc (fun e => ?_), h.h2.chg hc (fun e => ?_), h.k1.chg hc (fun i hi e => h.ap i hi e), hW, h.ne, fun i e hi => ?_, h.o1, h.o2, h.o3, fun i hi => ?_, h.bel.trans (hc.below h.bel.size (fun i e => h.o4 i e))⟩
  · rcases h.k2.tg _ e with t | t <;> exact absurd (t.one h.h1.tg) (by decide)
  · rcases h.k2.tg _ e with t | t <;> exact absurd (t.one h.h2.tg) (by decide)
  · by_cases hlt : i < w.heap.size
    · exact h.ap i e (fpt_moved hM i hlt hi)
    · have := h.k1.lt i e
      omega
  · by_cases hlt : i < w.heap.size
    · exact h.o4 i (fpt_moved hM i hlt hi)
    · have := h.bel.size
      omega
end

/-- A list of lists of bytes that came in. -/
def LL (w : World) (ad : Option Addr) (n : Nat) (A : Nat → Option Addr) (N C : Nat → Nat) (L : Nat → List Int) : Prop := 0 < n → ∃ b off, ad = some ⟨b, off, none⟩ ∧ b < w.heap.size ∧ ∀ i, i < n →
  w.cell? ⟨b, off + i, none⟩ = some (.slice (A i) (N i) (C i)) ∧ Sl w (A i) (N i) (L i) ∧ N i ≤ C i ∧ C i ≤ 9223372036854775807 ∧ (A i = none → N i = 0 ∧ C i = 0)
/-- The pieces, one behind the other. -/
def cat (P : Nat → List Int) : Nat → List Int
  | 0 => []
  | k + 1 => cat P k ++ P k
theorem cat_len (P : Nat → List Int) (h : ∀ i, (P i).length ≤ 2000) : ∀ k, (cat P k).length ≤ 2000 * k
  | 0 => Nat.le_refl _
  | k + 1 => by
    have := cat_len P h k
    have := h k
    rw [cat, List.length_append]
    omega

end Go.Proofs.Ytfieglepljmmkaa
