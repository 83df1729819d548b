/-
  Statement QuotaPlays: two books beside one another; looks.
-/
import Derived.Test.YthkmbodpboplfaaQrD
namespace Go.Proofs.Ythkmbodpboplfaa
open Go.RowKit
set_option linter.unusedVariables false
set_option linter.unusedSimpArgs false

/-- A book, and the document's. -/
structure Prd where
  p : Nat
  b : Nat
  q : Nat
  v : Value
  l : List Kn
def prC (A : Prd) : List Value := [.pointer (some ⟨A.p, 0, none⟩), .pointer (some ⟨A.q, 0, none⟩)]
/-- What a step on it may change. -/
def FA (A : Prd) : Nat → Prop := fun i => i = A.b ∨ RF A.q A.v i
structure PQ (w : World) (base : Nat) (A : Prd) : Prop where
  one : Bk w A.p A.b (fnd A.l)
  two : Rb w base A.q A.v A.l
theorem PQ.later {w w' : World} {base : Nat} {A : Prd} (h : PQ w base A) (hb : Below w.heap.size w w') : PQ w' base A := ⟨h.one.later hb, h.two.later hb⟩
theorem PQ.lt {w : World} {base : Nat} {A : Prd} (h : PQ w base A) : ∀ i, FA A i → i < w.heap.size := by
  rintro i (rfl | hi)
  · exact h.one.mp.lt
  · exact h.two.lt i hi

set_option maxRecDepth 100000 in
set_option maxHeartbeats 2000000 in
theorem looksP (s : ByteArray) (n : Int) (base : Nat) (A : Prd) (w : World) (h : PQ w base A) (hn : A.l.length ≤ 9000) :
    Calls Try.prog 10 #[.agg (prC A).toArray, .string s, .int .i64 n] w fun e w' => e = .returned (.bool true) ∧ Below w.heap.size w w' := by
  obtain ⟨p, b, q, v, l⟩ := A
  obtain ⟨h1, h2⟩ := h
  simp only at h1 h2 hn
  have K0 := hidden (Blk.new w 29 [.pointer (some ⟨p, 0, none⟩), .pointer (some ⟨q, 0, none⟩)])
  have H0 : Hid (PQ (w.alloc (.cells [.pointer (some ⟨p, 0, none⟩), .pointer (some ⟨q, 0, none⟩)].toArray 29)) base ⟨p, b, q, v, l⟩) := hidden (PQ.later ⟨h1, h2⟩ below_alloc)
  have HB0 : Hid (Below w.heap.size w (w.alloc (.cells [.pointer (some ⟨p, 0, none⟩), .pointer (some ⟨q, 0, none⟩)].toArray 29))) := hidden below_alloc
  have HN := hidden hn
  clear h1 h2 hn
  unfold prC
  have HC1 := hidden (limitsP s p b (fnd l) _ H0.out.one)
  obtain ⟨a, ha⟩ : ∃ a, getA (fnd l) s = a := ⟨_, rfl⟩
  obtain ⟨ks, hks⟩ : ∃ k, (fnd l s).isSome = k := ⟨_, rfl⟩
  obtain ⟨r1, hr1⟩ : ∃ r, (roomA a n).1 = r := ⟨_, rfl⟩
  obtain ⟨r2, hr2⟩ : ∃ r, (roomA a n).2 = r := ⟨_, rfl⟩
  have HA := hidden (And.intro ha hks)
  have HR := hidden (And.intro hr1 hr2)
  rw [ha, hks] at HC1
  clear ha hks hr1 hr2
  obtain ⟨m1, m2, m3, m4, m5⟩ := a
  go_enter Try.func10, Try.ntmps10
  go_wp2_with (first
    | (refine HC1.out.mono ?_; clear HC1; rintro e w1 ⟨rfl, b1⟩; have H1 := hidden (H0.out.later b1); have K1 := hidden (K0.out.later b1); have B1 := hidden (HB0.out.trans (b1.mono HB0.out.size)); clear b1; have y1 := K1.out.cell 0; have z1 := K1.out.cell 1; simp only [List.getElem?_cons_zero, List.getElem?_cons_succ] at y1 z1; have HC2 := hidden (limitsR s base q v l w1 H1.out.two HN.out); rw [HA.out.1, HA.out.2] at HC2)
    | (refine HC2.out.mono ?_; clear HC2; rintro e w2 ⟨rfl, b2⟩; have H2 := hidden (H1.out.later b2); have K2 := hidden (K1.out.later b2); have B2 := hidden (B1.out.trans (b2.mono B1.out.size)); clear b2; have y2 := K2.out.cell 0; have z2 := K2.out.cell 1; simp only [List.getElem?_cons_zero, List.getElem?_cons_succ] at y2 z2; have HC3 := hidden (roomBP s n p b (fnd l) w2 H2.out.one); rw [HA.out.1, HR.out.1, HR.out.2] at HC3)
    | (refine HC3.out.mono ?_; clear HC3; rintro e w3 ⟨rfl, b3⟩; have H3 := hidden (H2.out.later b3); have K3 := hidden (K2.out.later b3); have B3 := hidden (B2.out.trans (b3.mono B2.out.size)); clear b3; have y3 := K3.out.cell 0; have z3 := K3.out.cell 1; simp only [List.getElem?_cons_zero, List.getElem?_cons_succ] at y3 z3; have HC4 := hidden (roomR s n base q v l w3 H3.out.two HN.out); rw [HA.out.1, HR.out.1, HR.out.2] at HC4)
    | (refine HC4.out.mono ?_; clear HC4; rintro e w4 ⟨rfl, b4⟩; have H4 := hidden (H3.out.later b4); have K4 := hidden (K3.out.later b4); have B4 := hidden (B3.out.trans (b4.mono B3.out.size)); clear b4; have y4 := K4.out.cell 0; have z4 := K4.out.cell 1; simp only [List.getElem?_cons_zero, List.getElem?_cons_succ] at y4 z4; have HC5 := hidden (getP s p b (fnd l) w4 H4.out.one); rw [HA.out.1, HA.out.2] at HC5; unfold aV aL at HC5)
    | (refine HC5.out.mono ?_; clear HC5; rintro e w5 ⟨rfl, b5⟩; have H5 := hidden ((H4.out.later b5).later (below_alloc (o := .cells [.int .i64 m1, .int .i64 m2, .int .i64 m3, .int .i64 m4, .int .i64 m5].toArray 32))); have K5 := hidden ((K4.out.later b5).alloc (.cells [.int .i64 m1, .int .i64 m2, .int .i64 m3, .int .i64 m4, .int .i64 m5].toArray 32)); have B5 := hidden (below_more (B4.out.trans (b5.mono B4.out.size)) (.cells [.int .i64 m1, .int .i64 m2, .int .i64 m3, .int .i64 m4, .int .i64 m5].toArray 32)); clear b5; have X5 := hidden (Blk.new w5 32 [.int .i64 m1, .int .i64 m2, .int .i64 m3, .int .i64 m4, .int .i64 m5]); have y5 := K5.out.cell 0; have z5 := K5.out.cell 1; simp only [List.getElem?_cons_zero, List.getElem?_cons_succ] at y5 z5; have HC6 := hidden (getR s base q v l _ H5.out.two HN.out); rw [HA.out.1, HA.out.2] at HC6; unfold aV aL at HC6)
    | (refine HC6.out.mono ?_; clear HC6; rintro e w6 ⟨rfl, b6⟩; have X6 := hidden (X5.out.later b6); have B6 := hidden (B5.out.trans (b6.mono B5.out.size)); clear b6; have xl := X6.out.lt; have x0 := X6.out.cell 0; have x1 := X6.out.cell 1; have x2 := X6.out.cell 2; have x3 := X6.out.cell 3; have x4 := X6.out.cell 4; simp only [List.getElem?_cons_zero, List.getElem?_cons_succ] at x0 x1 x2 x3 x4))
  go_ret
  exact ⟨rfl, below_more B6.out _⟩

end Go.Proofs.Ythkmbodpboplfaa
