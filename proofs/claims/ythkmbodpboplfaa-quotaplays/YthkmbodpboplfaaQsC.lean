/-
  Statement QuotaPlays: two pairs of books; step.
-/
import Derived.Test.YthkmbodpboplfaaQsB
import Derived.Test.YthkmbodpboplfaaQuG
namespace Go.Proofs.Ythkmbodpboplfaa
open Go.RowKit
set_option linter.unusedVariables false
set_option linter.unusedSimpArgs false

/-- Two pairs apart. -/
structure PP (W w : World) (A B : Prd) : Prop where
  a : PQ w W.heap.size A
  b : PQ w W.heap.size B
  nb : A.b ≠ B.b
  nq : A.q ≠ B.q
  nv : ∀ i, A.v.ownBlock = some i → ¬ B.v.ownBlock = some i
  bel : Below W.heap.size W w
  la : ∀ i, FA A i → W.heap.size ≤ i
  lb : ∀ i, FA B i → W.heap.size ≤ i
theorem PP.symm {W w : World} {A B : Prd} (h : PP W w A B) : PP W w B A := ⟨h.b, h.a, h.nb.symm, h.nq.symm, fun i h1 h2 => h.nv i h2 h1, h.bel, h.lb, h.la⟩
theorem PP.later {W w w' : World} {A B : Prd} (h : PP W w A B) (k : Below w.heap.size w w') : PP W w' A B :=
  ⟨h.a.later k, h.b.later k, h.nb, h.nq, h.nv, h.bel.trans (k.mono h.bel.size), h.la, h.lb⟩
/-- A block of other cells is none of theirs. -/
theorem PQ.off {w : World} {base : Nat} {A : Prd} (h : PQ w base A) {i : Nat} {t : TypeId} (k : Tg w i t) (h1 : t ≠ 57) (h2 : t ≠ 67) : ¬ FA A i := by
  rintro (rfl | rfl | e)
  · exact h.one.mp.tg t k
  · exact h1 (k.one h.two.blk.tg)
  · exact h2 (k.one (owns_tg h.two.row i e))
theorem PP.offB {W w : World} {A B : Prd} (h : PP W w A B) : ¬ FA A B.p ∧ ¬ FA A B.b ∧ ∀ i, RF B.q B.v i → ¬ FA A i := by
  refine ⟨h.a.off h.b.one.blk.tg (by decide) (by decide), ?_, ?_⟩
  · rintro (e | e | e)
    · exact h.nb e.symm
    · exact h.b.one.mp.tg 57 (e ▸ h.a.two.blk.tg)
    · exact h.b.one.mp.tg 67 (owns_tg h.a.two.row _ e)
  · rintro i (rfl | hi)
    · rintro (e | e | e)
      · exact h.a.one.mp.tg 57 (e ▸ h.b.two.blk.tg)
      · exact h.nq e.symm
      · exact absurd (h.b.two.blk.tg.one (owns_tg h.a.two.row _ e)) (by decide)
    · rintro (e | e | e)
      · exact h.a.one.mp.tg 67 (e ▸ owns_tg h.b.two.row i hi)
      · exact absurd (h.a.two.blk.tg.one (e ▸ owns_tg h.b.two.row i hi)) (by decide)
      · exact h.nv i e hi
theorem PP.left {W w w' : World} {A B : Prd} (h : PP W w A B) (v' : Value) (l' : List Kn) (hq : PQ w' W.heap.size ⟨A.p, A.b, A.q, v', l'⟩) (hc : Chg (FA A) w w') (hm : Mvd w A.v.ownBlock v'.ownBlock) : PP W w' ⟨A.p, A.b, A.q, v', l'⟩ B := by
  obtain ⟨o1, o2, o3⟩ := h.offB
  refine ⟨hq, ⟨h.b.one.chg hc o1 o2, h.b.two.chg hc o3⟩, h.nb, h.nq, ?_, h.bel.trans (hc.below h.bel.size h.la), ?_, h.lb⟩
  · intro i hi hB
    rcases hm i hi with e | e
    · exact h.nv i e hB
    · have := h.b.two.lt i (.inr hB)
      omega
  · rintro i (rfl | rfl | e)
    · exact h.la _ (.inl rfl)
    · exact h.la _ (.inr (.inl rfl))
    · rcases hm i e with e | e
      · exact h.la i (.inr (.inr e))
      · have := h.bel.size
        omega
/-- What a step leaves. -/
def SP (W w : World) (A B : Prd) (e : Ending) (w' : World) : Prop :=
  e = .returned (.bool true) ∧ ∃ A' B', PP W w' A' B' ∧ prC A' = prC A ∧ prC B' = prC B ∧ A'.l.length ≤ A.l.length + 1 ∧ B'.l.length ≤ B.l.length + 1 ∧ Chg (fun i => FA A i ∨ FA B i) w w'
/-- One behind the other: the program's call, then the document's. -/
structure J1 (w0 w1 : World) (A : Prd) (g : Gk) : Prop where
  bk : Bk w1 A.p A.b g
  chg : Chg (fun i => i = A.b) w0 w1
structure J2 (w0 w1 : World) (base : Nat) (A : Prd) (g : Gk) (v' : Value) (l' : List Kn) : Prop where
  bk : Bk w1 A.p A.b g
  rb : Rb w1 base A.q v' l'
  fn : fnd l' = g
  len : l'.length ≤ A.l.length + 1
  chg : Chg (FA A) w0 w1
  mv : Mvd w0 A.v.ownBlock v'.ownBlock
theorem PQ.rb1 {w0 w1 : World} {base : Nat} {A : Prd} {g : Gk} (h : PQ w0 base A) (k : J1 w0 w1 A g) : Rb w1 base A.q A.v A.l := by
  refine h.two.chg k.chg ?_
  rintro i (rfl | hi)
  · exact tg_ne h.one h.two.blk
  · intro e
    exact h.one.mp.tg 67 (e ▸ owns_tg h.two.row i hi)
theorem j2_of {w0 w1 w2 : World} {base : Nat} {A : Prd} {g : Gk} {v' : Value} {l' : List Kn} (h : PQ w0 base A) (k : J1 w0 w1 A g) (r : Rb w2 base A.q v' l') (f : fnd l' = g) (ln : l'.length ≤ A.l.length + 1) (c : Chg (RF A.q A.v) w1 w2) (m : Mvd w1 A.v.ownBlock v'.ownBlock) : J2 w0 w2 base A g v' l' := by
  have hr := h.rb1 k
  refine ⟨k.bk.chg c ?_ ?_, r, f, ln, (k.chg.mono (fun i _ hi => .inl hi)).trans c (fun i _ hi => .inr hi), fun j hj => ?_⟩
  · rintro (e | e)
    · exact absurd (hr.blk.tg.one (e ▸ k.bk.blk.tg)) (by decide)
    · exact absurd (k.bk.blk.tg.one (owns_tg hr.row _ e)) (by decide)
  · rintro (e | e)
    · exact k.bk.mp.tg 57 (e ▸ hr.blk.tg)
    · exact k.bk.mp.tg 67 (owns_tg hr.row _ e)
  · rcases m j hj with e | e
    · exact .inl e
    · exact .inr (Nat.le_trans k.chg.size e)
theorem J2.pp {W w0 w1 : World} {A B : Prd} {g : Gk} {v' : Value} {l' : List Kn} (h : PP W w0 A B) (k : J2 w0 w1 W.heap.size A g v' l') : PP W w1 ⟨A.p, A.b, A.q, v', l'⟩ B :=
  h.left v' l' ⟨by rw [show fnd (⟨A.p, A.b, A.q, v', l'⟩ : Prd).l = g from k.fn]; exact k.bk, k.rb⟩ k.chg k.mv
theorem sp_of {W w w0 w1 : World} {A B : Prd} {g : Gk} {v' : Value} {l' : List Kn} (hb : Below w.heap.size w w0) (h : PP W w0 A B) (k : J2 w0 w1 W.heap.size A g v' l') : SP W w A B (.returned (.bool true)) w1 :=
  ⟨rfl, _, B, J2.pp h k, rfl, rfl, k.len, by omega, ((Chg.of_below hb).trans k.chg (fun _ _ hi => hi)).mono (fun i _ hi => .inl hi)⟩
theorem sp_right {W w w0 w1 : World} {A B : Prd} {g : Gk} {v' : Value} {l' : List Kn} (hb : Below w.heap.size w w0) (h : PP W w0 A B) (k : J2 w0 w1 W.heap.size B g v' l') : SP W w A B (.returned (.bool true)) w1 :=
  ⟨rfl, A, _, (J2.pp h.symm k).symm, rfl, rfl, by omega, k.len, ((Chg.of_below hb).trans k.chg (fun _ _ hi => hi)).mono (fun i _ hi => .inr hi)⟩
/-- Blocks laid ahead of it stay. -/
theorem PQ.keep {w0 w1 : World} {base : Nat} {A : Prd} {g : Gk} (h : PQ w0 base A) {i : Nat} {t : TypeId} {L : List Value} (hB : Blk w0 i t L) (h1 : t ≠ 57) (h2 : t ≠ 67)
    (k : Below w0.heap.size w0 w1 ∨ J1 w0 w1 A g ∨ ∃ v' l', J2 w0 w1 base A g v' l') : Blk w1 i t L := by
  rcases k with k | k | ⟨v', l', k⟩
  · exact hB.later k
  · exact k.chg.blk hB (fun e => h.one.mp.tg t (e ▸ hB.tg))
  · exact k.chg.blk hB (h.off hB.tg h1 h2)
/-- The world behind the boxes. -/
structure Bx (w w0 : World) (A B : Prd) (o : Os) : Prop where
  pb : Blk w0 w.heap.size 29 (prC A)
  ob : Blk w0 (w.heap.size + 1) 34 (osL o)
  pc : Blk w0 (w.heap.size + 2) 29 (prC B)
  bel : Below w.heap.size w w0
theorem bx (w : World) (A B : Prd) (o : Os) : Bx w (((w.alloc (.cells (prC A).toArray 29)).alloc (.cells (osL o).toArray 34)).alloc (.cells (prC B).toArray 29)) A B o := by
  refine ⟨((Blk.new w 29 (prC A)).alloc _).alloc _, ?_, ?_, below3⟩
  · have := Blk.new (w.alloc (.cells (prC A).toArray 29)) 34 (osL o)
    rw [World.size_alloc] at this
    exact this.alloc _
  · have := Blk.new ((w.alloc (.cells (prC A).toArray 29)).alloc (.cells (osL o).toArray 34)) 29 (prC B)
    rw [World.size_alloc, World.size_alloc] at this
    exact this

set_option maxRecDepth 100000 in
set_option maxHeartbeats 2000000 in
theorem step_set (W w : World) (A B : Prd) (o : Os) (h : PP W w A B) (hla : A.l.length ≤ 9000) (hlb : B.l.length ≤ 9000) (ho : OsOk o) (hk : o.k = 0) :
    Calls Try.prog 9 #[.agg (prC A).toArray, .agg (osL o).toArray, .agg (prC B).toArray] w fun e w' => SP W w A B e w' := by
  obtain ⟨k, on, s, n, x, y, ⟨m1, m2, m3, m4, m5⟩⟩ := o
  simp only at hk
  subst hk
  have HX0 := bx w A B ⟨0, on, s, n, x, y, ⟨m1, m2, m3, m4, m5⟩⟩
  have HH0 := h.later HX0.bel
  have HNN := hidden ho.n.2
  have HMM := hidden ho.a.wi.2
  simp only at HNN HMM
  obtain ⟨ev, hev⟩ : ∃ ev, (putA (fnd A.l) s ⟨x, y, 0, 0, 0⟩).1 = ev := ⟨_, rfl⟩
  obtain ⟨gk, hgk⟩ : ∃ gk, (putA (fnd A.l) s ⟨x, y, 0, 0, 0⟩).2 = gk := ⟨_, rfl⟩
  have HE := hidden (And.intro hev hgk)
  have HLA := hidden hla
  clear h ho hla hlb hev hgk
  obtain ⟨p, b, q, v, l⟩ := A
  obtain ⟨p2, b2, q2, v2, l2⟩ := B
  unfold prC osL at *
  simp only at *
  have HX := hidden HX0
  have HH := hidden HH0
  clear HX0 HH0
  go_enter Try.func9, Try.ntmps9
  go_upto_region 3 with fail
  obtain ⟨w0, hw0⟩ : ∃ w0, ((w.alloc (Obj.cells #[.pointer (some ⟨p, 0, none⟩), .pointer (some ⟨q, 0, none⟩)] 29)).alloc (Obj.cells #[.int .i64 0, .int .i64 on, .string s, .int .i64 n, .int .i64 x, .int .i64 y, .int .i64 m1, .int .i64 m2, .int .i64 m3, .int .i64 m4, .int .i64 m5] 34)).alloc (Obj.cells #[.pointer (some ⟨p2, 0, none⟩), .pointer (some ⟨q2, 0, none⟩)] 29) = w0 := ⟨_, rfl⟩
  rw [hw0]
  rw [hw0] at HX HH
  clear hw0
  refine step_r3 w.heap.size (w.heap.size + 1) p q s x y ev (fun w1 => Below w0.heap.size w0 w1) (fun w1 => J1 w0 w1 ⟨p, b, q, v, l⟩ gk) (fun w1 => ∃ v' l', J2 w0 w1 W.heap.size ⟨p, b, q, v, l⟩ gk v' l') w0 _ _ (by rfl) (by rfl) (by rfl)
    (fun A1 hI => (HH.out.a.keep HX.out.pb (by decide) (by decide) hI).cell 0) (fun A1 hI => (HH.out.a.keep HX.out.pb (by decide) (by decide) hI).cell 1) (fun A1 hI => (HH.out.a.keep HX.out.ob (by decide) (by decide) hI).cell 2) (fun A1 hI => (HH.out.a.keep HX.out.ob (by decide) (by decide) hI).cell 4) (fun A1 hI => (HH.out.a.keep HX.out.ob (by decide) (by decide) hI).cell 5) (below_drewN (Below.refl _ _) 1) (fun w1 hI => ?hca) (fun w1 hI => ?hcb) ?hq
  case hca =>
    refine (setP s x y p b (fnd l) w1 (HH.out.a.one.later hI)).mono ?_
    rintro e w2 ⟨rfl, h2, c2⟩
    rw [HE.out.2] at h2
    try rw [HE.out.1]
    exact ⟨rfl, h2, (Chg.of_below hI).trans c2 (fun _ _ hi => hi)⟩
  case hcb =>
    refine (setR s x y W.heap.size q v l w1 (HH.out.a.rb1 hI) HLA.out (by have := HH.out.bel.size; have := hI.chg.size; omega)).mono ?_
    rintro e w2 ⟨rfl, v', l', r1, r2, r3, r4, r5⟩
    rw [HE.out.2] at r2
    try rw [HE.out.1]
    exact ⟨rfl, v', l', j2_of HH.out.a hI r1 r2 r3 r4 r5.mvd⟩
  case hq =>
    intros
    rename_i wk hI
    obtain ⟨v', l', hj⟩ := hI
    have HJ := hidden hj
    clear hj
    simp only [Act.put, List.setIfInBounds_toArray, List.set_cons_succ, List.set_cons_zero]
    go_wp2_with fail
    go_ret
    exact sp_of HX.out.bel HH.out HJ.out

set_option maxRecDepth 100000 in
set_option maxHeartbeats 2000000 in
theorem step_drop (W w : World) (A B : Prd) (o : Os) (h : PP W w A B) (hla : A.l.length ≤ 9000) (hlb : B.l.length ≤ 9000) (ho : OsOk o) (hk : o.k = 1) :
    Calls Try.prog 9 #[.agg (prC A).toArray, .agg (osL o).toArray, .agg (prC B).toArray] w fun e w' => SP W w A B e w' := by
  obtain ⟨k, on, s, n, x, y, ⟨m1, m2, m3, m4, m5⟩⟩ := o
  simp only at hk
  subst hk
  have HX0 := bx w A B ⟨1, on, s, n, x, y, ⟨m1, m2, m3, m4, m5⟩⟩
  have HH0 := h.later HX0.bel
  have HNN := hidden ho.n.2
  have HMM := hidden ho.a.wi.2
  simp only at HNN HMM
  obtain ⟨ev, hev⟩ : ∃ ev, (fnd A.l s).isSome = ev := ⟨_, rfl⟩
  obtain ⟨gk, hgk⟩ : ∃ gk, updA (fnd A.l) s none = gk := ⟨_, rfl⟩
  have HE := hidden (And.intro hev hgk)
  have HLA := hidden hla
  clear h ho hla hlb hev hgk
  obtain ⟨p, b, q, v, l⟩ := A
  obtain ⟨p2, b2, q2, v2, l2⟩ := B
  unfold prC osL at *
  simp only at *
  have HX := hidden HX0
  have HH := hidden HH0
  clear HX0 HH0
  go_enter Try.func9, Try.ntmps9
  go_upto_region 5 with fail
  obtain ⟨w0, hw0⟩ : ∃ w0, ((w.alloc (Obj.cells #[.pointer (some ⟨p, 0, none⟩), .pointer (some ⟨q, 0, none⟩)] 29)).alloc (Obj.cells #[.int .i64 1, .int .i64 on, .string s, .int .i64 n, .int .i64 x, .int .i64 y, .int .i64 m1, .int .i64 m2, .int .i64 m3, .int .i64 m4, .int .i64 m5] 34)).alloc (Obj.cells #[.pointer (some ⟨p2, 0, none⟩), .pointer (some ⟨q2, 0, none⟩)] 29) = w0 := ⟨_, rfl⟩
  rw [hw0]
  rw [hw0] at HX HH
  clear hw0
  refine step_r5 w.heap.size (w.heap.size + 1) p q s ev (fun w1 => Below w0.heap.size w0 w1) (fun w1 => J1 w0 w1 ⟨p, b, q, v, l⟩ gk) (fun w1 => ∃ v' l', J2 w0 w1 W.heap.size ⟨p, b, q, v, l⟩ gk v' l') w0 _ _ (by rfl) (by rfl) (by rfl)
    (fun A1 hI => (HH.out.a.keep HX.out.pb (by decide) (by decide) hI).cell 0) (fun A1 hI => (HH.out.a.keep HX.out.pb (by decide) (by decide) hI).cell 1) (fun A1 hI => (HH.out.a.keep HX.out.ob (by decide) (by decide) hI).cell 2) (below_drewN (Below.refl _ _) 1) (fun w1 hI => ?hca) (fun w1 hI => ?hcb) ?hq
  case hca =>
    refine (dropP s p b (fnd l) w1 (HH.out.a.one.later hI)).mono ?_
    rintro e w2 ⟨rfl, h2, c2⟩
    rw [HE.out.2] at h2
    try rw [HE.out.1]
    exact ⟨rfl, h2, (Chg.of_below hI).trans c2 (fun _ _ hi => hi)⟩
  case hcb =>
    refine (dropR s W.heap.size q v l w1 (HH.out.a.rb1 hI) HLA.out (by have := HH.out.bel.size; have := hI.chg.size; omega)).mono ?_
    rintro e w2 ⟨rfl, v', l', r1, r2, r3, r4, r5⟩
    rw [HE.out.2] at r2
    try rw [HE.out.1]
    exact ⟨rfl, v', l', j2_of HH.out.a hI r1 r2 r3 r4 r5⟩
  case hq =>
    intros
    rename_i wk hI
    obtain ⟨v', l', hj⟩ := hI
    have HJ := hidden hj
    clear hj
    simp only [Act.put, List.setIfInBounds_toArray, List.set_cons_succ, List.set_cons_zero]
    go_wp2_with fail
    go_ret
    exact sp_of HX.out.bel HH.out HJ.out

set_option maxRecDepth 100000 in
set_option maxHeartbeats 2000000 in
theorem step_take2 (W w : World) (A B : Prd) (o : Os) (h : PP W w A B) (hla : A.l.length ≤ 9000) (hlb : B.l.length ≤ 9000) (ho : OsOk o) (hk : o.k = 2) :
    Calls Try.prog 9 #[.agg (prC A).toArray, .agg (osL o).toArray, .agg (prC B).toArray] w fun e w' => SP W w A B e w' := by
  obtain ⟨k, on, s, n, x, y, ⟨m1, m2, m3, m4, m5⟩⟩ := o
  simp only at hk
  subst hk
  have HX0 := bx w A B ⟨2, on, s, n, x, y, ⟨m1, m2, m3, m4, m5⟩⟩
  have HH0 := h.later HX0.bel
  have HNN := hidden ho.n.2
  have HMM := hidden ho.a.wi.2
  simp only at HNN HMM
  obtain ⟨ev, hev⟩ : ∃ ev, (takeA (fnd A.l) s n x y).1 = ev := ⟨_, rfl⟩
  obtain ⟨gk, hgk⟩ : ∃ gk, (takeA (fnd A.l) s n x y).2 = gk := ⟨_, rfl⟩
  have HE := hidden (And.intro hev hgk)
  have HLA := hidden hla
  clear h ho hla hlb hev hgk
  obtain ⟨p, b, q, v, l⟩ := A
  obtain ⟨p2, b2, q2, v2, l2⟩ := B
  unfold prC osL at *
  simp only at *
  have HX := hidden HX0
  have HH := hidden HH0
  clear HX0 HH0
  go_enter Try.func9, Try.ntmps9
  go_upto_region 8 with fail
  obtain ⟨w0, hw0⟩ : ∃ w0, ((w.alloc (Obj.cells #[.pointer (some ⟨p, 0, none⟩), .pointer (some ⟨q, 0, none⟩)] 29)).alloc (Obj.cells #[.int .i64 2, .int .i64 on, .string s, .int .i64 n, .int .i64 x, .int .i64 y, .int .i64 m1, .int .i64 m2, .int .i64 m3, .int .i64 m4, .int .i64 m5] 34)).alloc (Obj.cells #[.pointer (some ⟨p2, 0, none⟩), .pointer (some ⟨q2, 0, none⟩)] 29) = w0 := ⟨_, rfl⟩
  rw [hw0]
  rw [hw0] at HX HH
  clear hw0
  refine step_r8 w.heap.size (w.heap.size + 1) p q s n x y ev (fun w1 => Below w0.heap.size w0 w1) (fun w1 => J1 w0 w1 ⟨p, b, q, v, l⟩ gk) (fun w1 => ∃ v' l', J2 w0 w1 W.heap.size ⟨p, b, q, v, l⟩ gk v' l') w0 _ _ (by rfl) (by rfl) (by rfl)
    (fun A1 hI => (HH.out.a.keep HX.out.pb (by decide) (by decide) hI).cell 0) (fun A1 hI => (HH.out.a.keep HX.out.pb (by decide) (by decide) hI).cell 1) (fun A1 hI => (HH.out.a.keep HX.out.ob (by decide) (by decide) hI).cell 2) (fun A1 hI => (HH.out.a.keep HX.out.ob (by decide) (by decide) hI).cell 3) (fun A1 hI => (HH.out.a.keep HX.out.ob (by decide) (by decide) hI).cell 4) (fun A1 hI => (HH.out.a.keep HX.out.ob (by decide) (by decide) hI).cell 5) (below_drewN (Below.refl _ _) 1) (fun w1 hI => ?hca) (fun w1 hI => ?hcb) ?hq
  case hca =>
    refine (takeP s n x y p b (fnd l) w1 (HH.out.a.one.later hI) HNN.out).mono ?_
    rintro e w2 ⟨rfl, h2, c2⟩
    rw [HE.out.2] at h2
    try rw [HE.out.1]
    exact ⟨rfl, h2, (Chg.of_below hI).trans c2 (fun _ _ hi => hi)⟩
  case hcb =>
    refine (take_walkR s n x y W.heap.size q v l w1 (HH.out.a.rb1 hI) HLA.out HNN.out).mono ?_
    rintro e w2 ⟨rfl, v', l', r1, r2, r3, r4, r5⟩
    rw [HE.out.2] at r2
    try rw [HE.out.1]
    exact ⟨rfl, v', l', j2_of HH.out.a hI r1 r2 r3 r4 r5.mvd⟩
  case hq =>
    intros
    rename_i wk hI
    obtain ⟨v', l', hj⟩ := hI
    have HJ := hidden hj
    clear hj
    simp only [Act.put, List.setIfInBounds_toArray, List.set_cons_succ, List.set_cons_zero]
    go_wp2_with fail
    go_ret
    exact sp_of HX.out.bel HH.out HJ.out

set_option maxRecDepth 100000 in
set_option maxHeartbeats 2000000 in
theorem step_take3 (W w : World) (A B : Prd) (o : Os) (h : PP W w A B) (hla : A.l.length ≤ 9000) (hlb : B.l.length ≤ 9000) (ho : OsOk o) (hk : o.k = 3) :
    Calls Try.prog 9 #[.agg (prC A).toArray, .agg (osL o).toArray, .agg (prC B).toArray] w fun e w' => SP W w A B e w' := by
  obtain ⟨k, on, s, n, x, y, ⟨m1, m2, m3, m4, m5⟩⟩ := o
  simp only at hk
  subst hk
  have HX0 := bx w A B ⟨3, on, s, n, x, y, ⟨m1, m2, m3, m4, m5⟩⟩
  have HH0 := h.later HX0.bel
  have HNN := hidden ho.n.2
  have HMM := hidden ho.a.wi.2
  simp only at HNN HMM
  obtain ⟨ev, hev⟩ : ∃ ev, (takeA (fnd A.l) s n x y).1 = ev := ⟨_, rfl⟩
  obtain ⟨gk, hgk⟩ : ∃ gk, (takeA (fnd A.l) s n x y).2 = gk := ⟨_, rfl⟩
  have HE := hidden (And.intro hev hgk)
  have HLA := hidden hla
  clear h ho hla hlb hev hgk
  obtain ⟨p, b, q, v, l⟩ := A
  obtain ⟨p2, b2, q2, v2, l2⟩ := B
  unfold prC osL at *
  simp only at *
  have HX := hidden HX0
  have HH := hidden HH0
  clear HX0 HH0
  go_enter Try.func9, Try.ntmps9
  go_upto_region 8 with fail
  obtain ⟨w0, hw0⟩ : ∃ w0, ((w.alloc (Obj.cells #[.pointer (some ⟨p, 0, none⟩), .pointer (some ⟨q, 0, none⟩)] 29)).alloc (Obj.cells #[.int .i64 3, .int .i64 on, .string s, .int .i64 n, .int .i64 x, .int .i64 y, .int .i64 m1, .int .i64 m2, .int .i64 m3, .int .i64 m4, .int .i64 m5] 34)).alloc (Obj.cells #[.pointer (some ⟨p2, 0, none⟩), .pointer (some ⟨q2, 0, none⟩)] 29) = w0 := ⟨_, rfl⟩
  rw [hw0]
  rw [hw0] at HX HH
  clear hw0
  refine step_r8 w.heap.size (w.heap.size + 1) p q s n x y ev (fun w1 => Below w0.heap.size w0 w1) (fun w1 => J1 w0 w1 ⟨p, b, q, v, l⟩ gk) (fun w1 => ∃ v' l', J2 w0 w1 W.heap.size ⟨p, b, q, v, l⟩ gk v' l') w0 _ _ (by rfl) (by rfl) (by rfl)
    (fun A1 hI => (HH.out.a.keep HX.out.pb (by decide) (by decide) hI).cell 0) (fun A1 hI => (HH.out.a.keep HX.out.pb (by decide) (by decide) hI).cell 1) (fun A1 hI => (HH.out.a.keep HX.out.ob (by decide) (by decide) hI).cell 2) (fun A1 hI => (HH.out.a.keep HX.out.ob (by decide) (by decide) hI).cell 3) (fun A1 hI => (HH.out.a.keep HX.out.ob (by decide) (by decide) hI).cell 4) (fun A1 hI => (HH.out.a.keep HX.out.ob (by decide) (by decide) hI).cell 5) (below_drewN (Below.refl _ _) 1) (fun w1 hI => ?hca) (fun w1 hI => ?hcb) ?hq
  case hca =>
    refine (takeP s n x y p b (fnd l) w1 (HH.out.a.one.later hI) HNN.out).mono ?_
    rintro e w2 ⟨rfl, h2, c2⟩
    rw [HE.out.2] at h2
    try rw [HE.out.1]
    exact ⟨rfl, h2, (Chg.of_below hI).trans c2 (fun _ _ hi => hi)⟩
  case hcb =>
    refine (take_walkR s n x y W.heap.size q v l w1 (HH.out.a.rb1 hI) HLA.out HNN.out).mono ?_
    rintro e w2 ⟨rfl, v', l', r1, r2, r3, r4, r5⟩
    rw [HE.out.2] at r2
    try rw [HE.out.1]
    exact ⟨rfl, v', l', j2_of HH.out.a hI r1 r2 r3 r4 r5.mvd⟩
  case hq =>
    intros
    rename_i wk hI
    obtain ⟨v', l', hj⟩ := hI
    have HJ := hidden hj
    clear hj
    simp only [Act.put, List.setIfInBounds_toArray, List.set_cons_succ, List.set_cons_zero]
    go_wp2_with fail
    go_ret
    exact sp_of HX.out.bel HH.out HJ.out

set_option maxRecDepth 100000 in
set_option maxHeartbeats 2000000 in
theorem step_put (W w : World) (A B : Prd) (o : Os) (h : PP W w A B) (hla : A.l.length ≤ 9000) (hlb : B.l.length ≤ 9000) (ho : OsOk o) (hk : o.k = 4) :
    Calls Try.prog 9 #[.agg (prC A).toArray, .agg (osL o).toArray, .agg (prC B).toArray] w fun e w' => SP W w A B e w' := by
  obtain ⟨k, on, s, n, x, y, ⟨m1, m2, m3, m4, m5⟩⟩ := o
  simp only at hk
  subst hk
  have HX0 := bx w A B ⟨4, on, s, n, x, y, ⟨m1, m2, m3, m4, m5⟩⟩
  have HH0 := h.later HX0.bel
  have HNN := hidden ho.n.2
  have HMM := hidden ho.a.wi.2
  simp only at HNN HMM
  obtain ⟨ev, hev⟩ : ∃ ev, (putA (fnd A.l) s ⟨m1, m2, m3, m4, m5⟩).1 = ev := ⟨_, rfl⟩
  obtain ⟨gk, hgk⟩ : ∃ gk, (putA (fnd A.l) s ⟨m1, m2, m3, m4, m5⟩).2 = gk := ⟨_, rfl⟩
  have HE := hidden (And.intro hev hgk)
  have HLA := hidden hla
  clear h ho hla hlb hev hgk
  obtain ⟨p, b, q, v, l⟩ := A
  obtain ⟨p2, b2, q2, v2, l2⟩ := B
  unfold prC osL at *
  simp only at *
  have HX := hidden HX0
  have HH := hidden HH0
  clear HX0 HH0
  go_enter Try.func9, Try.ntmps9
  go_upto_region 10 with fail
  obtain ⟨w0, hw0⟩ : ∃ w0, ((w.alloc (Obj.cells #[.pointer (some ⟨p, 0, none⟩), .pointer (some ⟨q, 0, none⟩)] 29)).alloc (Obj.cells #[.int .i64 4, .int .i64 on, .string s, .int .i64 n, .int .i64 x, .int .i64 y, .int .i64 m1, .int .i64 m2, .int .i64 m3, .int .i64 m4, .int .i64 m5] 34)).alloc (Obj.cells #[.pointer (some ⟨p2, 0, none⟩), .pointer (some ⟨q2, 0, none⟩)] 29) = w0 := ⟨_, rfl⟩
  rw [hw0]
  rw [hw0] at HX HH
  clear hw0
  refine step_r10 w.heap.size (w.heap.size + 1) p q s m1 m2 m3 m4 m5 ev (fun w1 => Below w0.heap.size w0 w1) (fun w1 => J1 w0 w1 ⟨p, b, q, v, l⟩ gk) (fun w1 => ∃ v' l', J2 w0 w1 W.heap.size ⟨p, b, q, v, l⟩ gk v' l') w0 _ _ (by rfl) (by rfl) (by rfl)
    (fun A1 hI => (HH.out.a.keep HX.out.pb (by decide) (by decide) hI).cell 0) (fun A1 hI => (HH.out.a.keep HX.out.pb (by decide) (by decide) hI).cell 1) (fun A1 hI => (HH.out.a.keep HX.out.ob (by decide) (by decide) hI).cell 2) (fun A1 hI => (HH.out.a.keep HX.out.ob (by decide) (by decide) hI).cell 6) (fun A1 hI => (HH.out.a.keep HX.out.ob (by decide) (by decide) hI).cell 7) (fun A1 hI => (HH.out.a.keep HX.out.ob (by decide) (by decide) hI).cell 8) (fun A1 hI => (HH.out.a.keep HX.out.ob (by decide) (by decide) hI).cell 9) (fun A1 hI => (HH.out.a.keep HX.out.ob (by decide) (by decide) hI).cell 10) (below_drewN (Below.refl _ _) 1) (fun w1 hI => ?hca) (fun w1 hI => ?hcb) ?hq
  case hca =>
    refine (putP s ⟨m1, m2, m3, m4, m5⟩ p b (fnd l) w1 (HH.out.a.one.later hI) HMM.out).mono ?_
    rintro e w2 ⟨rfl, h2, c2⟩
    rw [HE.out.2] at h2
    try rw [HE.out.1]
    exact ⟨rfl, h2, (Chg.of_below hI).trans c2 (fun _ _ hi => hi)⟩
  case hcb =>
    refine (putR s ⟨m1, m2, m3, m4, m5⟩ W.heap.size q v l w1 (HH.out.a.rb1 hI) HLA.out HMM.out (by have := HH.out.bel.size; have := hI.chg.size; omega)).mono ?_
    rintro e w2 ⟨rfl, v', l', r1, r2, r3, r4, r5⟩
    rw [HE.out.2] at r2
    try rw [HE.out.1]
    exact ⟨rfl, v', l', j2_of HH.out.a hI r1 r2 r3 r4 r5.mvd⟩
  case hq =>
    intros
    rename_i wk hI
    obtain ⟨v', l', hj⟩ := hI
    have HJ := hidden hj
    clear hj
    simp only [Act.put, List.setIfInBounds_toArray, List.set_cons_succ, List.set_cons_zero]
    go_wp2_with fail
    go_ret
    exact sp_of HX.out.bel HH.out HJ.out


end Go.Proofs.Ythkmbodpboplfaa
