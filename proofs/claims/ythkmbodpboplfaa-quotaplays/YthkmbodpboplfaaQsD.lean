/-
  Statement QuotaPlays: step's last kinds; step.
-/
import Derived.Test.YthkmbodpboplfaaQsC
namespace Go.Proofs.Ythkmbodpboplfaa
open Go.RowKit
set_option linter.unusedVariables false
set_option linter.unusedSimpArgs false

set_option maxRecDepth 100000 in
set_option maxHeartbeats 2000000 in
theorem step_none (W w : World) (A B : Prd) (o : Os) (h : PP W w A B) (h0 : ¬ o.k = 0) (h1 : ¬ o.k = 1) (h2 : ¬ o.k = 2) (h3 : ¬ o.k = 3) (h4 : ¬ o.k = 4) (h5 : ¬ o.k = 5) :
    Calls Try.prog 9 #[.agg (prC A).toArray, .agg (osL o).toArray, .agg (prC B).toArray] w fun e w' => SP W w A B e w' := by
  have HH := hidden h
  clear h
  obtain ⟨k, on, s, n, x, y, ⟨m1, m2, m3, m4, m5⟩⟩ := o
  obtain ⟨p, b, q, v, l⟩ := A
  obtain ⟨p2, b2, q2, v2, l2⟩ := B
  unfold prC osL at *
  simp only at *
  go_enter Try.func9, Try.ntmps9
  go_wp2_with fail
  go_ret
  exact ⟨rfl, _, _, HH.out.later below3, rfl, rfl, by omega, by omega, Chg.of_below below3⟩

set_option maxRecDepth 100000 in
set_option maxHeartbeats 2000000 in
theorem step_get (W w : World) (A B : Prd) (o : Os) (h : PP W w A B) (hla : A.l.length ≤ 9000) (hlb : B.l.length ≤ 9000) (ho : OsOk o) (hk : o.k = 5) :
    Calls Try.prog 9 #[.agg (prC A).toArray, .agg (osL o).toArray, .agg (prC B).toArray] w fun e w' => SP W w A B e w' := by
  obtain ⟨k, on, s, n, x, y, ⟨m1, m2, m3, m4, m5⟩⟩ := o
  simp only at hk
  subst hk
  have HX0 := bx w A B ⟨5, on, s, n, x, y, ⟨m1, m2, m3, m4, m5⟩⟩
  have HH0 := h.later HX0.bel
  have HLA := hidden hla
  have HLB := hidden hlb
  obtain ⟨a, ha⟩ : ∃ a, getA (fnd A.l) s = a := ⟨_, rfl⟩
  obtain ⟨ks, hks⟩ : ∃ k, (fnd A.l s).isSome = k := ⟨_, rfl⟩
  have HMM : Hid (a.wi ≤ 9223372036854775807) := hidden (by
    rcases h.a.one.has s with e | e
    · rw [← ha, e]; decide
    · rw [← ha]; exact e.wi.2)
  have HAK := hidden (And.intro ha hks)
  obtain ⟨ev, hev⟩ : ∃ ev, (putA (fnd B.l) s a).1 = ev := ⟨_, rfl⟩
  obtain ⟨gk, hgk⟩ : ∃ gk, (putA (fnd B.l) s a).2 = gk := ⟨_, rfl⟩
  have HE := hidden (And.intro hev hgk)
  clear h ho hla hlb hev hgk ha hks
  obtain ⟨p, b, q, v, l⟩ := A
  obtain ⟨p2, b2, q2, v2, l2⟩ := B
  obtain ⟨c1, c2, c3, c4, c5⟩ := a
  unfold prC osL at *
  simp only at *
  have HX := hidden HX0
  have HH := hidden HH0
  clear HX0 HH0
  have HG1 := hidden (getP s p b (fnd l) _ HH.out.a.one)
  rw [HAK.out.1, HAK.out.2] at HG1
  unfold aV aL at HG1
  go_enter Try.func9, Try.ntmps9
  go_wp2_with (first
    | (refine HG1.out.mono ?_; clear HG1; rintro e w1 ⟨rfl, b1⟩
       have H2 := hidden ((HH.out.later b1).later (below_alloc (o := .cells [.int .i64 c1, .int .i64 c2, .int .i64 c3, .int .i64 c4, .int .i64 c5].toArray 32)))
       have PB2 := hidden ((HX.out.pb.later b1).alloc (.cells [.int .i64 c1, .int .i64 c2, .int .i64 c3, .int .i64 c4, .int .i64 c5].toArray 32))
       have OB2 := hidden ((HX.out.ob.later b1).alloc (.cells [.int .i64 c1, .int .i64 c2, .int .i64 c3, .int .i64 c4, .int .i64 c5].toArray 32))
       have PC2 := hidden ((HX.out.pc.later b1).alloc (.cells [.int .i64 c1, .int .i64 c2, .int .i64 c3, .int .i64 c4, .int .i64 c5].toArray 32))
       have BL2 := hidden (below_more (HX.out.bel.trans (b1.mono HX.out.bel.size)) (.cells [.int .i64 c1, .int .i64 c2, .int .i64 c3, .int .i64 c4, .int .i64 c5].toArray 32))
       have XA2 := hidden (Blk.new w1 32 [.int .i64 c1, .int .i64 c2, .int .i64 c3, .int .i64 c4, .int .i64 c5])
       clear b1
       have y1 := PB2.out.cell 1
       have y2 := OB2.out.cell 2
       simp only [osL, prC, List.getElem?_cons_zero, List.getElem?_cons_succ] at y1 y2
       have HG2 := hidden (getR s W.heap.size q v l _ H2.out.a.two HLA.out)
       rw [HAK.out.1, HAK.out.2] at HG2
       unfold aV aL at HG2)
    | (refine HG2.out.mono ?_; clear HG2; rintro e w3 ⟨rfl, b3⟩
       have H4 := hidden ((H2.out.later b3).later (below_alloc (o := .cells [.int .i64 c1, .int .i64 c2, .int .i64 c3, .int .i64 c4, .int .i64 c5].toArray 32)))
       have OB4 := hidden ((OB2.out.later b3).alloc (.cells [.int .i64 c1, .int .i64 c2, .int .i64 c3, .int .i64 c4, .int .i64 c5].toArray 32))
       have PC4 := hidden ((PC2.out.later b3).alloc (.cells [.int .i64 c1, .int .i64 c2, .int .i64 c3, .int .i64 c4, .int .i64 c5].toArray 32))
       have XA4 := hidden ((XA2.out.later b3).alloc (.cells [.int .i64 c1, .int .i64 c2, .int .i64 c3, .int .i64 c4, .int .i64 c5].toArray 32))
       have BL4 := hidden (below_more (BL2.out.trans (b3.mono BL2.out.size)) (.cells [.int .i64 c1, .int .i64 c2, .int .i64 c3, .int .i64 c4, .int .i64 c5].toArray 32))
       have XB4 := hidden (Blk.new w3 32 [.int .i64 c1, .int .i64 c2, .int .i64 c3, .int .i64 c4, .int .i64 c5])
       clear b3))
  obtain ⟨w0, hw0⟩ : ∃ w0, w3.alloc (Obj.cells #[.int .i64 c1, .int .i64 c2, .int .i64 c3, .int .i64 c4, .int .i64 c5] 32) = w0 := ⟨_, rfl⟩
  rw [hw0]
  rw [hw0] at H4 OB4 PC4 XA4 BL4 XB4
  clear hw0 H2 PB2 OB2 PC2 BL2 XA2 HX HH y1 y2
  refine step_r14 (w.heap.size + 2) (w.heap.size + 1) w1.heap.size w3.heap.size p2 q2 s c1 c2 c3 c4 c5 ev (fun w1 => Below w0.heap.size w0 w1) (fun w1 => J1 w0 w1 ⟨p2, b2, q2, v2, l2⟩ gk) (fun w1 => ∃ v' l', J2 w0 w1 W.heap.size ⟨p2, b2, q2, v2, l2⟩ gk v' l') w0 _ _ (by rfl) (by rfl) (by rfl) (by rfl) (by rfl)
    (fun A1 hI => (H4.out.b.keep PC4.out (by decide) (by decide) hI).cell 0) (fun A1 hI => (H4.out.b.keep PC4.out (by decide) (by decide) hI).cell 1) (fun A1 hI => (H4.out.b.keep OB4.out (by decide) (by decide) hI).cell 2)
    (fun A1 hI => (H4.out.b.keep XA4.out (by decide) (by decide) hI).cell 0) (fun A1 hI => (H4.out.b.keep XA4.out (by decide) (by decide) hI).cell 1) (fun A1 hI => (H4.out.b.keep XA4.out (by decide) (by decide) hI).cell 2) (fun A1 hI => (H4.out.b.keep XA4.out (by decide) (by decide) hI).cell 3) (fun A1 hI => (H4.out.b.keep XA4.out (by decide) (by decide) hI).cell 4)
    (fun A1 hI => (H4.out.b.keep XB4.out (by decide) (by decide) hI).cell 0) (fun A1 hI => (H4.out.b.keep XB4.out (by decide) (by decide) hI).cell 1) (fun A1 hI => (H4.out.b.keep XB4.out (by decide) (by decide) hI).cell 2) (fun A1 hI => (H4.out.b.keep XB4.out (by decide) (by decide) hI).cell 3) (fun A1 hI => (H4.out.b.keep XB4.out (by decide) (by decide) hI).cell 4)
    (below_drewN (Below.refl _ _) 1) (fun w5 hI => ?hca) (fun w5 hI => ?hcb) ?hq
  case hca =>
    refine (putP s ⟨c1, c2, c3, c4, c5⟩ p2 b2 (fnd l2) w5 (H4.out.b.one.later hI) HMM.out).mono ?_
    rintro e w2 ⟨rfl, h2, c2⟩
    rw [HE.out.2] at h2
    rw [HE.out.1]
    exact ⟨rfl, h2, (Chg.of_below hI).trans c2 (fun _ _ hi => hi)⟩
  case hcb =>
    refine (putR s ⟨c1, c2, c3, c4, c5⟩ W.heap.size q2 v2 l2 w5 (H4.out.b.rb1 hI) HLB.out HMM.out (by have := H4.out.bel.size; have := hI.chg.size; omega)).mono ?_
    rintro e w2 ⟨rfl, v', l', r1, r2, r3, r4, r5⟩
    rw [HE.out.2] at r2
    rw [HE.out.1]
    exact ⟨rfl, v', l', j2_of H4.out.b hI r1 r2 r3 r4 r5.mvd⟩
  case hq =>
    intros
    rename_i wk hI
    obtain ⟨v', l', hj⟩ := hI
    have HJ := hidden hj
    clear hj
    simp only [Act.put, List.setIfInBounds_toArray, List.set_cons_succ, List.set_cons_zero]
    go_wp2_with fail
    go_ret
    exact sp_right BL4.out H4.out HJ.out

theorem stepP (W w : World) (A B : Prd) (o : Os) (h : PP W w A B) (hla : A.l.length ≤ 9000) (hlb : B.l.length ≤ 9000) (ho : OsOk o) :
    Calls Try.prog 9 #[.agg (prC A).toArray, .agg (osL o).toArray, .agg (prC B).toArray] w fun e w' => SP W w A B e w' := by
  by_cases h0 : o.k = 0
  · exact step_set W w A B o h hla hlb ho h0
  by_cases h1 : o.k = 1
  · exact step_drop W w A B o h hla hlb ho h1
  by_cases h2 : o.k = 2
  · exact step_take2 W w A B o h hla hlb ho h2
  by_cases h3 : o.k = 3
  · exact step_take3 W w A B o h hla hlb ho h3
  by_cases h4 : o.k = 4
  · exact step_put W w A B o h hla hlb ho h4
  by_cases h5 : o.k = 5
  · exact step_get W w A B o h hla hlb ho h5
  exact step_none W w A B o h h0 h1 h2 h3 h4 h5

end Go.Proofs.Ythkmbodpboplfaa
