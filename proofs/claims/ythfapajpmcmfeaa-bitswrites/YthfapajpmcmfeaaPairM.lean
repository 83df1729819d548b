import Derived.Test.YthfapajpmcmfeaaDwB
import Derived.Test.YthfapajpmcmfeaaDwC
import Derived.Test.YthfapajpmcmfeaaShown
namespace Go.Proofs.Ythfapajpmcmfeaa
open Go.RowKit
set_option linter.unusedVariables false

/-- The type of a block's cells. -/
def Tg (w : World) (i : Nat) (t : TypeId) : Prop := ∃ cs fr, w.heap[i]? = some (.cells cs t fr)
theorem Tg.one {w : World} {i : Nat} {s t : TypeId} (h : Tg w i s) (k : Tg w i t) : s = t := by
  obtain ⟨c1, f1, h⟩ := h
  obtain ⟨c2, f2, k⟩ := k
  rw [h] at k
  cases k
  rfl
theorem Blk.tg {w : World} {i : Nat} {t : TypeId} {l : List Value} (h : Blk w i t l) : Tg w i t := ⟨_, _, h⟩
theorem owns_tg {w : World} {base : Nat} {e : TypeId} {size : Nat} {v : Value} {n : Nat} {xs : List Value} (h : w.ownsRow base e size v n xs) : ∀ i, v.ownBlock = some i → Tg w i e := by
  intro i hi
  rcases h.2 with ⟨rfl, _⟩ | ⟨g', cap, cur, rfl, hb, hh, r⟩
  · cases hi
  · obtain rfl : g' = i := by simpa [Value.ownBlock] using hi
    exact ⟨_, _, hh⟩
theorem WS.tg {w : World} {p : Nat} {rb : Option Nat} {L : List Bool} (h : WS w p rb L) : ∀ i, fpt p rb i → Tg w i 53 ∨ Tg w i 5 := by
  obtain ⟨v, R, h⟩ := h
  rintro i (rfl | hi)
  · exact .inl h.blk.tg
  · exact .inr (owns_tg h.row i (by rw [h.own]; exact hi))
theorem WS.tgr {w : World} {p : Nat} {rb : Option Nat} {L : List Bool} (h : WS w p rb L) : Tg w p 53 := by
  obtain ⟨v, R, h⟩ := h
  exact h.blk.tg
theorem DS.tg {w : World} {q : Nat} {rb : Option Nat} {L : List Bool} (h : DS w q rb L) : ∀ i, fpt q rb i → Tg w i 56 ∨ Tg w i 4 := by
  obtain ⟨v, h⟩ := h
  rintro i (rfl | hi)
  · exact .inl h.blk.tg
  · exact .inr (owns_tg h.row i (by rw [h.own]; exact hi))

/-- A pair of writers: the program's and the document's, of one row; bytes that came out, all of one mark. -/
structure PR (w : World) (pp p q : Nat) (rb rc ro : Option Nat) (L : List Bool) (v : Value) (n m : Nat) (ln : Int) : Prop where
  blk : Blk w pp 31 [.pointer (some ⟨p, 0, none⟩), .pointer (some ⟨q, 0, none⟩), v, .int .u8 (m : Int), .int .i64 ln]
  a : WS w p rb L
  b : DS w q rc L
  own : v.ownBlock = ro
  row : w.ownsRow 0 5 1 v n (cells8 (List.replicate n (m : Int)))
  mb : m < 256
  ne : ∀ i, rb = some i → ro ≠ some i
def PS (w : World) (pp p q : Nat) (rb rc ro : Option Nat) (L : List Bool) : Prop := ∃ v n m ln, PR w pp p q rb rc ro L v n m ln
def FP (pp p q : Nat) (rb rc ro : Option Nat) : Nat → Prop := fun i => i = pp ∨ fpt p rb i ∨ fpt q rc i ∨ ro = some i
theorem PR.lt {w : World} {pp p q : Nat} {rb rc ro : Option Nat} {L : List Bool} {v : Value} {n m : Nat} {ln : Int} (h : PR w pp p q rb rc ro L v n m ln) : ∀ i, FP pp p q rb rc ro i → i < w.heap.size := by
  rintro i (rfl | hi | hi | hi)
  · exact h.blk.lt
  · exact h.a.lt i hi
  · exact h.b.lt i hi
  · exact owns_lt h.row i (by rw [h.own]; exact hi)
theorem PS.lt {w : World} {pp p q : Nat} {rb rc ro : Option Nat} {L : List Bool} (h : PS w pp p q rb rc ro L) : ∀ i, FP pp p q rb rc ro i → i < w.heap.size := by
  obtain ⟨v, n, m, ln, h⟩ := h
  exact h.lt
theorem PR.chg {F : Nat → Prop} {w w' : World} {pp p q : Nat} {rb rc ro : Option Nat} {L : List Bool} {v : Value} {n m : Nat} {ln : Int} (h : PR w pp p q rb rc ro L v n m ln) (hc : Chg F w w') (hF : ∀ i, FP pp p q rb rc ro i → ¬ F i) : PR w' pp p q rb rc ro L v n m ln :=
  ⟨hc.blk h.blk (hF pp (.inl rfl)), h.a.chg hc (fun i hi => hF i (.inr (.inl hi))), h.b.chg hc (fun i hi => hF i (.inr (.inr (.inl hi)))), h.own, hc.owns h.row (fun g hg => hF g (.inr (.inr (.inr (by rw [← h.own]; exact hg))))), h.mb, h.ne⟩
theorem PS.chg {F : Nat → Prop} {w w' : World} {pp p q : Nat} {rb rc ro : Option Nat} {L : List Bool} (h : PS w pp p q rb rc ro L) (hc : Chg F w w') (hF : ∀ i, FP pp p q rb rc ro i → ¬ F i) : PS w' pp p q rb rc ro L := by
  obtain ⟨v, n, m, ln, h⟩ := h
  exact ⟨v, n, m, ln, h.chg hc hF⟩

/-- What a call may do to a pair. -/
def PC (w w' : World) (pp p q : Nat) (rb rc ro : Option Nat) (L' : List Bool) : Prop := ∃ rb' rc' ro', PS w' pp p q rb' rc' ro' L' ∧ Chg (FP pp p q rb rc ro) w w' ∧ Moved w rb rb' ∧ Moved w rc rc' ∧ Moved w ro ro'
theorem FP_moved {w : World} {pp p q : Nat} {rb rc ro rb' rc' ro' : Option Nat} (h1 : Moved w rb rb') (h2 : Moved w rc rc') (h3 : Moved w ro ro') : ∀ i, i < w.heap.size → FP pp p q rb' rc' ro' i → FP pp p q rb rc ro i := by
  rintro i hi (rfl | h | h | h)
  · exact .inl rfl
  · exact .inr (.inl (fpt_moved h1 i hi h))
  · exact .inr (.inr (.inl (fpt_moved h2 i hi h)))
  · refine .inr (.inr (.inr ?_))
    rcases h3 with rfl | ⟨g, rfl, hg⟩
    · exact h
    · simp at h
      omega
theorem PC.trans {a b c : World} {pp p q : Nat} {rb rc ro rb' rc' ro' : Option Nat} {L' : List Bool} (h : Chg (FP pp p q rb rc ro) a b) (m1 : Moved a rb rb') (m2 : Moved a rc rc') (m3 : Moved a ro ro') (k : PC b c pp p q rb' rc' ro' L') : PC a c pp p q rb rc ro L' := by
  obtain ⟨rb2, rc2, ro2, k1, k2, k3, k4, k5⟩ := k
  exact ⟨rb2, rc2, ro2, k1, h.trans k2 (FP_moved m1 m2 m3), m1.trans k3 h.size, m2.trans k4 h.size, m3.trans k5 h.size⟩

/-- The program's writer has changed. -/
theorem PR.setA {w w' : World} {pp p q : Nat} {rb rc ro rb' : Option Nat} {L L' : List Bool} {v : Value} {n m : Nat} {ln : Int} (h : PR w pp p q rb rc ro L v n m ln) (hW : WS w' p rb' L') (hc : Chg (fpt p rb) w w') (hM : Moved w rb rb') :
    Blk w' pp 31 [.pointer (some ⟨p, 0, none⟩), .pointer (some ⟨q, 0, none⟩), v, .int .u8 (m : Int), .int .i64 ln] ∧ DS w' q rc L ∧ (DS w' q rc L' → PR w' pp p q rb' rc ro L' v n m ln) ∧ Chg (FP pp p q rb rc ro) w w' := by
  have hta := h.a.tg
  have htb := h.b.tg
  have hB := hc.blk h.blk (fun e => by
    rcases hta pp e with k | k
    · exact absurd (k.one h.blk.tg) (by decide)
    · exact absurd (k.one h.blk.tg) (by decide))
  have hD := h.b.chg hc (fun i hi e => by
    rcases hta i e with k | k <;> rcases htb i hi with k2 | k2 <;> exact absurd (k.one k2) (by decide))
  have hR := hc.owns h.row (fun g hg e => by
    rcases e with rfl | e
    · exact absurd ((owns_tg h.row g hg).one h.a.tgr) (by decide)
    · exact h.ne g e (by rw [← h.own]; exact hg))
  refine ⟨hB, hD, fun hD' => ⟨hB, hW, hD', h.own, hR, h.mb, fun i hi e => ?_⟩, hc.mono (fun i _ hi => .inr (.inl hi))⟩
  rcases hM with rfl | ⟨g, rfl, hg⟩
  · exact h.ne i hi e
  · have := h.lt i (.inr (.inr (.inr e)))
    simp at hi
    omega
/-- The document's writer has changed. -/
theorem PR.setB {w w' : World} {pp p q : Nat} {rb rc ro rc' : Option Nat} {L L' : List Bool} {v : Value} {n m : Nat} {ln : Int} (hblk : Blk w pp 31 [.pointer (some ⟨p, 0, none⟩), .pointer (some ⟨q, 0, none⟩), v, .int .u8 (m : Int), .int .i64 ln]) (hW : WS w p rb L') (hD : DS w q rc L) (hown : v.ownBlock = ro)
    (hrow : w.ownsRow 0 5 1 v n (cells8 (List.replicate n (m : Int)))) (mb : m < 256) (ne : ∀ i, rb = some i → ro ≠ some i) (hD' : DS w' q rc' L') (hc : Chg (fpt q rc) w w') : PR w' pp p q rb rc' ro L' v n m ln ∧ Chg (FP pp p q rb rc ro) w w' := by
  have hta := hW.tg
  have htb := hD.tg
  refine ⟨⟨hc.blk hblk (fun e => ?_), hW.chg hc (fun i hi e => ?_), hD', hown, hc.owns hrow (fun g hg e => ?_), mb, ne⟩, hc.mono (fun i _ hi => .inr (.inr (.inl hi)))⟩
  · rcases htb pp e with k | k <;> exact absurd (k.one hblk.tg) (by decide)
  · rcases hta i hi with k | k <;> rcases htb i e with k2 | k2 <;> exact absurd (k.one k2) (by decide)
  · rcases htb g e with k | k <;> exact absurd (k.one (owns_tg hrow g hg)) (by decide)

end Go.Proofs.Ythfapajpmcmfeaa
