import Derived.Test.YthfapajpmcmfeaaPairT
namespace Go.Proofs.Ythfapajpmcmfeaa
open Go.RowKit
set_option linter.unusedVariables false

/-- Two pairs beside one another, and the list of both. -/
def ST (w0 w : World) (bb a b N : Nat) : Prop := ∃ p1 q1 rb1 rc1 ro1 L1 p2 q2 rb2 rc2 ro2 L2, PS w a p1 q1 rb1 rc1 ro1 L1 ∧ PS w b p2 q2 rb2 rc2 ro2 L2 ∧ L1.length ≤ N ∧ L2.length ≤ N ∧
  (∀ i, FP a p1 q1 rb1 rc1 ro1 i → FP b p2 q2 rb2 rc2 ro2 i → False) ∧ (∀ i, FP a p1 q1 rb1 rc1 ro1 i → w0.heap.size ≤ i ∧ i ≠ bb) ∧ (∀ i, FP b p2 q2 rb2 rc2 ro2 i → w0.heap.size ≤ i ∧ i ≠ bb) ∧
  Blk w bb 24 [.pointer (some ⟨a, 0, none⟩), .pointer (some ⟨b, 0, none⟩)] ∧ w0.heap.size ≤ bb ∧ Below w0.heap.size w0 w
theorem FP_new {w w' : World} {pp p q : Nat} {rb rc ro rb' rc' ro' : Option Nat} (h1 : Moved w rb rb') (h2 : Moved w rc rc') (h3 : Moved w ro ro') : ∀ i, FP pp p q rb' rc' ro' i → FP pp p q rb rc ro i ∨ w.heap.size ≤ i := by
  intro i hi
  by_cases h : i < w.heap.size
  · exact .inl (FP_moved h1 h2 h3 i h hi)
  · exact .inr (by omega)
theorem ST.bel {w0 w : World} {bb a b N : Nat} (h : ST w0 w bb a b N) : Below w0.heap.size w0 w := by
  obtain ⟨_, _, _, _, _, _, _, _, _, _, _, _, _, _, _, _, _, _, _, _, _, h⟩ := h
  exact h
theorem ST.blk {w0 w : World} {bb a b N : Nat} (h : ST w0 w bb a b N) : Blk w bb 24 [.pointer (some ⟨a, 0, none⟩), .pointer (some ⟨b, 0, none⟩)] := by
  obtain ⟨_, _, _, _, _, _, _, _, _, _, _, _, _, _, _, _, _, _, _, h, _⟩ := h
  exact h
theorem ST.nonnil {w0 w : World} {bb a b N : Nat} (h : ST w0 w bb a b N) : ∃ p1 p2, w.cell? ⟨a, 0, none⟩ = some (.pointer (some ⟨p1, 0, none⟩)) ∧ w.cell? ⟨b, 0, none⟩ = some (.pointer (some ⟨p2, 0, none⟩)) := by
  obtain ⟨p1, _, _, _, _, _, p2, _, _, _, _, _, ⟨_, _, _, _, h1⟩, ⟨_, _, _, _, h2⟩, _⟩ := h
  exact ⟨p1, p2, h1.blk.cell 0, h2.blk.cell 0⟩
/-- One pair is changed. -/
theorem ST.one {w0 w w' : World} {bb a b N M : Nat} (hNM : N ≤ M) {p1 q1 : Nat} {rb1 rc1 ro1 : Option Nat} {L1' : List Bool} {p2 q2 : Nat} {rb2 rc2 ro2 : Option Nat} {L2 : List Bool} (h2 : PS w b p2 q2 rb2 rc2 ro2 L2) (l2 : L2.length ≤ N) (hl : L1'.length ≤ M)
    (hd : ∀ i, FP a p1 q1 rb1 rc1 ro1 i → FP b p2 q2 rb2 rc2 ro2 i → False) (hA : ∀ i, FP a p1 q1 rb1 rc1 ro1 i → w0.heap.size ≤ i ∧ i ≠ bb) (hB : ∀ i, FP b p2 q2 rb2 rc2 ro2 i → w0.heap.size ≤ i ∧ i ≠ bb)
    (vs : List Value) (hbk : Blk w bb 24 vs) (hbb : w0.heap.size ≤ bb) (hbl : Below w0.heap.size w0 w) (hC : PC w w' a p1 q1 rb1 rc1 ro1 L1') :
    ∃ rb rc ro, PS w' a p1 q1 rb rc ro L1' ∧ PS w' b p2 q2 rb2 rc2 ro2 L2 ∧ (∀ i, FP a p1 q1 rb rc ro i → FP b p2 q2 rb2 rc2 ro2 i → False) ∧ (∀ i, FP a p1 q1 rb rc ro i → w0.heap.size ≤ i ∧ i ≠ bb) ∧ Blk w' bb 24 vs ∧ Below w0.heap.size w0 w' := by
  obtain ⟨rb, rc, ro, k1, k2, k3, k4, k5⟩ := hC
  have hbl2 := hbk.lt
  refine ⟨rb, rc, ro, k1, h2.chg k2 (fun i hi e => hd i e hi), fun i hi e => ?_, fun i hi => ?_, k2.blk hbk (fun e => (hA bb e).2 rfl), hbl.trans (k2.below hbl.size (fun i hi => (hA i hi).1))⟩
  · rcases FP_new (w' := w') k3 k4 k5 i hi with h | h
    · exact hd i h e
    · have := h2.lt i e
      omega
  · rcases FP_new (w' := w') k3 k4 k5 i hi with h | h
    · exact hA i h
    · exact ⟨Nat.le_trans hbl.size h, by omega⟩
theorem call_st {w0 w : World} {bb a b N : Nat} (h : ST w0 w bb a b N) (j M : Nat) (hNM : N ≤ M) (f : FuncId) (args : Array Value)
    (hc : ∀ pp p q rb rc ro L, (pp = if j = 0 then a else b) → PS w pp p q rb rc ro L → L.length ≤ N → Calls Try.prog f args w fun e w' => e = .returned (.bool true) ∧ ∃ L', L'.length ≤ M ∧ PC w w' pp p q rb rc ro L') :
    Calls Try.prog f args w fun e w' => e = .returned (.bool true) ∧ ST w0 w' bb a b M := by
  obtain ⟨p1, q1, rb1, rc1, ro1, L1, p2, q2, rb2, rc2, ro2, L2, h1, h2, l1, l2, hd, hA, hB, hbk, hbb, hbl⟩ := h
  by_cases hj : j = 0
  · refine (hc a p1 q1 rb1 rc1 ro1 L1 (by rw [if_pos hj]) h1 l1).mono ?_
    rintro e w' ⟨rfl, L', hl', hC⟩
    obtain ⟨rb, rc, ro, k1, k2, k3, k4, k5, k6⟩ := ST.one hNM h2 l2 hl' hd hA hB _ hbk hbb hbl hC
    exact ⟨rfl, p1, q1, rb, rc, ro, L', p2, q2, rb2, rc2, ro2, L2, k1, k2, hl', by omega, k3, k4, hB, k5, hbb, k6⟩
  · refine (hc b p2 q2 rb2 rc2 ro2 L2 (by rw [if_neg hj]) h2 l2).mono ?_
    rintro e w' ⟨rfl, L', hl', hC⟩
    obtain ⟨rb, rc, ro, k1, k2, k3, k4, k5, k6⟩ := ST.one hNM h1 l1 hl' (fun i x y => hd i y x) hB hA _ hbk hbb hbl hC
    exact ⟨rfl, p1, q1, rb1, rc1, ro1, L1, p2, q2, rb, rc, ro, L', k2, k1, by omega, hl', fun i x y => k3 i y x, hA, k4, k5, hbb, k6⟩
theorem step_st {w0 w : World} {bb a b N : Nat} (h : ST w0 w bb a b N) (hN : N ≤ 1099511627776) (j : Nat) (kd on nn : Int) (V : Nat) (hV : V < 18446744073709551616) :
    Calls Try.prog 9 #[.pointer (some ⟨if j = 0 then a else b, 0, none⟩), .agg #[.int .i64 kd, .int .i64 on, .int .u64 (V : Int), .int .i64 nn]] w fun e w' => e = .returned (.bool true) ∧ ST w0 w' bb a b (N + 64) := by
  refine call_st h j (N + 64) (by omega) 9 _ (fun pp p q rb rc ro L hpp hP hl => ?_)
  rw [← hpp]
  refine (step_any pp p q rb rc ro L kd on nn V w hP (by omega) hV).mono ?_
  rintro e w' ⟨rfl, L', h1, h2⟩
  exact ⟨rfl, L', by omega, h2⟩
theorem bytes_st {w0 w : World} {bb a b N : Nat} (h : ST w0 w bb a b N) (hN : N ≤ 1099511627776) (j : Nat) :
    Calls Try.prog 10 #[.pointer (some ⟨if j = 0 then a else b, 0, none⟩)] w fun e w' => e = .returned (.bool true) ∧ ST w0 w' bb a b N := by
  refine call_st h j N (Nat.le_refl _) 10 _ (fun pp p q rb rc ro L hpp hP hl => ?_)
  rw [← hpp]
  refine (pbytes_any pp p q rb rc ro L w hP (by omega)).mono ?_
  rintro e w' ⟨rfl, h2⟩
  exact ⟨rfl, L, hl, h2⟩
theorem ST.later {w0 w w' : World} {bb a b N : Nat} (h : ST w0 w bb a b N) (hL : Lat w w') : ST w0 w' bb a b N := by
  obtain ⟨p1, q1, rb1, rc1, ro1, L1, p2, q2, rb2, rc2, ro2, L2, h1, h2, l1, l2, hd, hA, hB, hbk, hbb, hbl⟩ := h
  exact ⟨p1, q1, rb1, rc1, ro1, L1, p2, q2, rb2, rc2, ro2, L2, h1.chg (Chg.of_below (F := fun _ => False) hL) (fun _ _ h => h), h2.chg (Chg.of_below (F := fun _ => False) hL) (fun _ _ h => h), l1, l2, hd, hA, hB, hbk.later hL, hbb, hbl.trans (hL.mono hbl.size)⟩

/-- A new pair. -/
theorem PS.new {w : World} {pp p q : Nat} (hB : Blk w pp 31 [.pointer (some ⟨p, 0, none⟩), .pointer (some ⟨q, 0, none⟩), .slice none 0 0, .int .u8 0, .int .i64 0]) (hW : WS w p none []) (hD : DS w q none []) : PS w pp p q none none none [] :=
  ⟨.slice none 0 0, 0, 0, 0, hB, hW, hD, rfl, World.ownsRow_nil _ _ _ _, by omega, fun i hi => by cases hi⟩

end Go.Proofs.Ythfapajpmcmfeaa
