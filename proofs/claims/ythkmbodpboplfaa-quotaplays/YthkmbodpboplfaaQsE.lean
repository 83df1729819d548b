/-
  Statement QuotaPlays: its walk.
-/
import Derived.Test.YthkmbodpboplfaaQsF
import Derived.LoopTactic
namespace Go.Proofs.Ythkmbodpboplfaa
open Go.RowKit
set_option linter.unusedVariables false
set_option linter.unusedSimpArgs false

theorem and64_1 (n : Int) : bits .and .i64 n 1 = n % 2 := by
  have h1 : (BitVec.ofInt 64 1).toNat = 2 ^ 1 - 1 := by decide
  have key : (BitVec.ofInt 64 n &&& BitVec.ofInt 64 1).toNat = (n % ((2 ^ 64 : Nat) : Int)).toNat % 2 ^ 1 := by
    rw [BitVec.toNat_and, BitVec.toNat_ofInt, h1, Nat.and_two_pow_sub_one_eq_mod]
  show IntKind.i64.wrap ((BitVec.ofInt 64 n &&& BitVec.ofInt 64 1).toNat : Nat) = n % 2
  rw [key, IntKind.wrap_i64]
  omega
/-- What a round holds. -/
structure PL (w wx : World) (g : Nat) (A B : Prd) (i : Nat) : Prop where
  pp : PP w wx A B
  bl : Blk wx g 29 (prC A ++ prC B)
  la : A.l.length ≤ i
  lb : B.l.length ≤ i
  hg : w.heap.size ≤ g

/-- The same, with the step at hand. -/
structure PM (w wx : World) (g ob : Nat) (A B : Prd) (o : Os) (i : Nat) : Prop where
  pl : PL w wx g A B i
  ob : Blk wx ob 34 (osL o)
theorem PL.later {w wx wy : World} {g : Nat} {A B : Prd} {i : Nat} (h : PL w wx g A B i) (k : Below wx.heap.size wx wy) : PL w wy g A B i := ⟨h.pp.later k, h.bl.later k, h.la, h.lb, h.hg⟩
theorem PM.later {w wx wy : World} {g ob : Nat} {A B : Prd} {o : Os} {i : Nat} (h : PM w wx g ob A B o i) (k : Below wx.heap.size wx wy) : PM w wy g ob A B o i := ⟨h.pl.later k, h.ob.later k⟩
/-- A step on the one or the other. -/
def RR (w : World) (g ob : Nat) (A B : Prd) (o : Os) (i : Nat) (x : Value) (w2 : World) : Prop := x = .bool true ∧ ∃ A' B', PM w w2 g ob A' B' o (i + 1) ∧ prC A' = prC A ∧ prC B' = prC B
theorem PM.keep {w wx wy : World} {g ob : Nat} {A B : Prd} {o : Os} {i : Nat} (h : PM w wx g ob A B o i) (c : Chg (fun j => FA A j ∨ FA B j) wx wy) : Blk wy g 29 (prC A ++ prC B) ∧ Blk wy ob 34 (osL o) := by
  refine ⟨c.blk h.pl.bl ?_, c.blk h.ob ?_⟩
  · rintro (e | e)
    · exact h.pl.pp.a.off h.pl.bl.tg (by decide) (by decide) e
    · exact h.pl.pp.b.off h.pl.bl.tg (by decide) (by decide) e
  · rintro (e | e)
    · exact h.pl.pp.a.off h.ob.tg (by decide) (by decide) e
    · exact h.pl.pp.b.off h.ob.tg (by decide) (by decide) e
theorem rr_one (w wx : World) (g ob : Nat) (A B : Prd) (o : Os) (i : Nat) (h : PM w wx g ob A B o i) (hi : i ≤ 2000) (ho : OsOk o) :
    Calls Try.prog 9 #[.agg (prC A).toArray, .agg (osL o).toArray, .agg (prC B).toArray] wx fun e w2 => ∃ x, e = .returned x ∧ RR w g ob A B o i x w2 := by
  refine (stepP w wx A B o h.pl.pp (by have := h.pl.la; omega) (by have := h.pl.lb; omega) ho).mono ?_
  rintro e w2 ⟨rfl, A', B', hp, e1, e2, l1, l2, c⟩
  obtain ⟨k1, k2⟩ := h.keep c
  exact ⟨_, rfl, rfl, A', B', ⟨⟨hp, by rw [e1, e2]; exact k1, by have := h.pl.la; omega, by have := h.pl.lb; omega, h.pl.hg⟩, k2⟩, e1, e2⟩
theorem rr_two (w wx : World) (g ob : Nat) (A B : Prd) (o : Os) (i : Nat) (h : PM w wx g ob A B o i) (hi : i ≤ 2000) (ho : OsOk o) :
    Calls Try.prog 9 #[.agg (prC B).toArray, .agg (osL o).toArray, .agg (prC A).toArray] wx fun e w2 => ∃ x, e = .returned x ∧ RR w g ob A B o i x w2 := by
  refine (stepP w wx B A o h.pl.pp.symm (by have := h.pl.lb; omega) (by have := h.pl.la; omega) ho).mono ?_
  rintro e w2 ⟨rfl, B', A', hp, e1, e2, l1, l2, c⟩
  obtain ⟨k1, k2⟩ := h.keep (c.mono (fun j _ hj => hj.symm))
  exact ⟨_, rfl, rfl, A', B', ⟨⟨hp.symm, by rw [e1, e2]; exact k1, by have := h.pl.la; omega, by have := h.pl.lb; omega, h.pl.hg⟩, k2⟩, e2, e1⟩
def RL (w : World) (g ob : Nat) (A B : Prd) (o : Os) (i : Nat) (x : Value) (w2 : World) : Prop := x = .bool true ∧ PM w w2 g ob A B o i
theorem rl_one (w wx : World) (g ob : Nat) (A B : Prd) (o : Os) (i : Nat) (h : PM w wx g ob A B o i) (hi : i ≤ 2001) :
    Calls Try.prog 10 #[.agg (prC A).toArray, .string o.s, .int .i64 o.n] wx fun e w2 => ∃ x, e = .returned x ∧ RL w g ob A B o i x w2 := by
  refine (looksP o.s o.n w.heap.size A wx h.pl.pp.a (by have := h.pl.la; omega)).mono ?_
  rintro e w2 ⟨rfl, hbl⟩
  exact ⟨_, rfl, rfl, h.later hbl⟩
theorem rl_two (w wx : World) (g ob : Nat) (A B : Prd) (o : Os) (i : Nat) (h : PM w wx g ob A B o i) (hi : i ≤ 2001) :
    Calls Try.prog 10 #[.agg (prC B).toArray, .string o.s, .int .i64 o.n] wx fun e w2 => ∃ x, e = .returned x ∧ RL w g ob A B o i x w2 := by
  refine (looksP o.s o.n w.heap.size B wx h.pl.pp.b (by have := h.pl.lb; omega)).mono ?_
  rintro e w2 ⟨rfl, hbl⟩
  exact ⟨_, rfl, rfl, h.later hbl⟩

set_option maxRecDepth 100000 in
set_option maxHeartbeats 8000000 in
theorem plays_any (ad : Option Addr) (len cap : Nat) (l : List Os) (w : World) (hl : l.length = len) (hs : Sc w ad l) (hlen : len ≤ 9223372036854775807) :
    Calls Try.prog 3 #[.slice ad len cap] w fun e w' => e = .returned (.bool true) ∧ Below w.heap.size w w' := by
  have HS := hidden (shownP w)
  have HL := hidden hl
  have HT := hidden hs
  clear hl hs
  go_enter Try.func3, Try.ntmps3
  go_wp2_with (first
    | (refine HS.out.mono ?_; clear HS; rintro e w1 ⟨rfl, b1⟩; have B1 := hidden b1; clear b1; have HN1 := hidden (newP w1))
    | (refine HN1.out.mono ?_; clear HN1; rintro e w2 ⟨p, b, rfl, h2, b2, hp2, hb2⟩; have K2 := hidden h2; have D2 := hidden b2; clear h2 b2; have HN2 := hidden (newR w2))
    | (refine HN2.out.mono ?_; clear HN2; rintro e w3 ⟨rfl, r3, b3⟩; have R3 := hidden r3; have D3 := hidden b3; clear r3 b3; have HN3 := hidden (newP w3))
    | (refine HN3.out.mono ?_; clear HN3; rintro e w4 ⟨p', b', rfl, h4, b4, hp4, hb4⟩; have K4 := hidden h4; have D4 := hidden b4; clear h4 b4; have HN4 := hidden (newR w4))
    | (refine HN4.out.mono ?_; clear HN4; rintro e w5 ⟨rfl, r5, b5⟩; have R5 := hidden r5; have D5 := hidden b5; clear r5 b5))
  have H0 : Hid (PL w (w5.alloc (.cells [.pointer (some ⟨p, 0, none⟩), .pointer (some ⟨w2.heap.size, 0, none⟩), .pointer (some ⟨p', 0, none⟩), .pointer (some ⟨w4.heap.size, 0, none⟩)].toArray 29)) w5.heap.size ⟨p, b, w2.heap.size, .slice none 0 0, []⟩ ⟨p', b', w4.heap.size, .slice none 0 0, []⟩ 0) := hidden (by
    have z1 := B1.out.size
    have z2 := D2.out.size
    have z3 := D3.out.size
    have z4 := D4.out.size
    have z5 := D5.out.size
    have e12 : Below w.heap.size w w2 := B1.out.trans (D2.out.mono z1)
    have e13 : Below w.heap.size w w3 := e12.trans (D3.out.mono e12.size)
    have e14 : Below w.heap.size w w4 := e13.trans (D4.out.mono e13.size)
    have e15 : Below w.heap.size w w5 := e14.trans (D5.out.mono e14.size)
    refine ⟨PP.later (w := w5) ⟨⟨((K2.out.later D3.out).later D4.out).later D5.out, ?_⟩, ⟨K4.out.later D5.out, ?_⟩, ?_, ?_, fun i hi => (by cases hi), e15, ?_, ?_⟩ below_alloc, Blk.new w5 29 _, Nat.le_refl _, Nat.le_refl _, e15.size⟩
    · exact ⟨(R3.out.blk.later D4.out).later D5.out, World.ownsRow_nil _ _ _ _, List.Pairwise.nil, by simp⟩
    · exact ⟨R5.out.blk, World.ownsRow_nil _ _ _ _, List.Pairwise.nil, by simp⟩
    · have := K2.out.mp.lt
      show b ≠ b'
      omega
    · have := R3.out.blk.lt
      show w2.heap.size ≠ w4.heap.size
      omega
    · rintro i (rfl | rfl | hi)
      · show w.heap.size ≤ i
        omega
      · show w.heap.size ≤ w2.heap.size
        omega
      · cases hi
    · rintro i (rfl | rfl | hi)
      · show w.heap.size ≤ i
        omega
      · show w.heap.size ≤ w4.heap.size
        omega
      · cases hi)
  clear B1 D2 D3 D4 D5 K2 K4 R3 R5 hp2 hb2 hp4 hb4
  go_loopw [5] (fun v5 wx => ∃ (i : Nat) (A B : Prd), v5 = .int .i64 (i : Int) ∧ i ≤ len ∧ i ≤ 2000 ∧ prC A = [.pointer (some ⟨p, 0, none⟩), .pointer (some ⟨w2.heap.size, 0, none⟩)] ∧ prC B = [.pointer (some ⟨p', 0, none⟩), .pointer (some ⟨w4.heap.size, 0, none⟩)] ∧ Hid (PL w wx w5.heap.size A B i)) (fun v5 _ => len - (intOf v5).toNat)
  case atStart => exact ⟨0, _, _, rfl, by omega, by omega, rfl, rfl, H0⟩
  case round =>
    obtain ⟨i, A, B, rfl, hi, hi2, eA, eB, hI⟩ := hrel
    clear H0
    by_cases hlt : i < len ∧ i < 2000
    · obtain ⟨hlt, h2000⟩ := hlt
      obtain ⟨o, hz⟩ : ∃ z, l[i]? = some z := ⟨l[i]'(by have := HL.out; omega), by simp⟩
      obtain ⟨bb, off, rfl, hbb, hcell⟩ := HT.out.at' (by rintro rfl; simp at hz)
      have hc := hcell i _ hz
      have HO := hidden (HT.out.ok _ (List.mem_of_getElem? hz))
      clear hcell hz
      have tc : ∀ j v, (osL o)[j]? = some v → wr.cell? ⟨bb, off + i * 11 + j, none⟩ = some v := fun j v hv => by
        rw [hI.out.pp.bel.cell (p := ⟨bb, _, none⟩) hbb]
        exact hc j v hv
      clear hc
      have t0 := tc 0 _ rfl
      have t1 := tc 1 _ rfl
      have t2 := tc 2 _ rfl
      have t3 := tc 3 _ rfl
      have t4 := tc 4 _ rfl
      have t5 := tc 5 _ rfl
      have t6 := tc 6 _ rfl
      have t7 := tc 7 _ rfl
      have t8 := tc 8 _ rfl
      have t9 := tc 9 _ rfl
      have t10 := tc 10 _ rfl
      clear tc
      rw [Nat.add_zero] at t0
      have HEA := hidden eA
      have HEB := hidden eB
      have HLT := hidden hlt
      clear eA eB
      have HM : Hid (PM w (wr.alloc (.cells (osL o).toArray 34)) w5.heap.size wr.heap.size A B o i) := hidden ⟨hI.out.later below_alloc, Blk.new wr 34 (osL o)⟩
      obtain ⟨k, on, s, n, x, y, ⟨m1, m2, m3, m4, m5⟩⟩ := o
      simp only [osL] at t0 t1 t2 t3 t4 t5 t6 t7 t8 t9 t10 HM
      rcases (show bits .and .i64 on 1 = 0 ∨ bits .and .i64 on 1 = 1 by rw [and64_1]; omega) with hb | hb
      · go_wp2_with fail
        clear t0 t1 t2 t3 t4 t5 t6 t7 t8 t9 t10 hb hbb
        have HG : Hid (Blk (wr.alloc (.cells (osL ⟨k, on, s, n, x, y, ⟨m1, m2, m3, m4, m5⟩⟩).toArray 34)) w5.heap.size 29 [.pointer (some ⟨p, 0, none⟩), .pointer (some ⟨w2.heap.size, 0, none⟩), .pointer (some ⟨p', 0, none⟩), .pointer (some ⟨w4.heap.size, 0, none⟩)]) := hidden (by have := HM.out.pl.bl; rw [HEA.out, HEB.out] at this; exact this)
        have HOB := hidden HM.out.ob
        have HC : Hid (∀ w1, Lat (wr.alloc (.cells (osL ⟨k, on, s, n, x, y, ⟨m1, m2, m3, m4, m5⟩⟩).toArray 34)) w1 → _) := hidden (fun w1 hl => rr_one w w1 w5.heap.size wr.heap.size A B ⟨k, on, s, n, x, y, ⟨m1, m2, m3, m4, m5⟩⟩ i (HM.out.later hl) (by omega) HO.out)
        rw [HEA.out, HEB.out] at HC
        refine plays_r10_0 w5.heap.size wr.heap.size p w2.heap.size p' w4.heap.size s k on n x y m1 m2 m3 m4 m5 (RR w w5.heap.size wr.heap.size A B ⟨k, on, s, n, x, y, ⟨m1, m2, m3, m4, m5⟩⟩ i) _ _ _ (by rfl) (by rfl) (by rfl) (by rfl)
          (fun w1 hl => (HG.out.later hl).cell 0) (fun w1 hl => (HG.out.later hl).cell 1) (fun w1 hl => (HG.out.later hl).cell 2) (fun w1 hl => (HG.out.later hl).cell 3) (fun w1 hl => (HOB.out.later hl).cell 0) (fun w1 hl => (HOB.out.later hl).cell 1) (fun w1 hl => (HOB.out.later hl).cell 2) (fun w1 hl => (HOB.out.later hl).cell 3) (fun w1 hl => (HOB.out.later hl).cell 4) (fun w1 hl => (HOB.out.later hl).cell 5) (fun w1 hl => (HOB.out.later hl).cell 6) (fun w1 hl => (HOB.out.later hl).cell 7) (fun w1 hl => (HOB.out.later hl).cell 8) (fun w1 hl => (HOB.out.later hl).cell 9) (fun w1 hl => (HOB.out.later hl).cell 10) HC.out ?hq
        case hq =>
        intros
        rename_i x9 w9 hR
        obtain ⟨rfl, A1, B1, hM9, f1, f2⟩ := hR
        have HM9 := hidden hM9
        have HG9 : Hid (Blk w9 w5.heap.size 29 [.pointer (some ⟨p, 0, none⟩), .pointer (some ⟨w2.heap.size, 0, none⟩), .pointer (some ⟨p', 0, none⟩), .pointer (some ⟨w4.heap.size, 0, none⟩)]) := hidden (by have := hM9.pl.bl; rw [f1, f2, HEA.out, HEB.out] at this; exact this)
        have HOB9 := hidden hM9.ob
        have HEA9 := hidden (f1.trans HEA.out)
        have HEB9 := hidden (f2.trans HEB.out)
        clear hM9 f1 f2 HC HG HOB HM hI HEA HEB
        simp only [Act.put, List.setIfInBounds_toArray, List.set_cons_succ, List.set_cons_zero]
        go_wp2_with fail
        have HC : Hid (∀ w1, Lat w9 w1 → _) := hidden (fun w1 hl => rl_one w w1 w5.heap.size wr.heap.size A1 B1 ⟨k, on, s, n, x, y, ⟨m1, m2, m3, m4, m5⟩⟩ (i + 1) (HM9.out.later hl) (by omega))
        rw [HEA9.out] at HC
        refine plays_r11 w5.heap.size wr.heap.size p w2.heap.size p' w4.heap.size s k on n x y m1 m2 m3 m4 m5 (RL w w5.heap.size wr.heap.size A1 B1 ⟨k, on, s, n, x, y, ⟨m1, m2, m3, m4, m5⟩⟩ (i + 1)) w9 _ _ (by rfl) (by rfl) (by rfl)
          (fun w1 hl => (HG9.out.later hl).cell 0) (fun w1 hl => (HG9.out.later hl).cell 1) (fun w1 hl => (HG9.out.later hl).cell 2) (fun w1 hl => (HG9.out.later hl).cell 3) (fun w1 hl => (HOB9.out.later hl).cell 0) (fun w1 hl => (HOB9.out.later hl).cell 1) (fun w1 hl => (HOB9.out.later hl).cell 2) (fun w1 hl => (HOB9.out.later hl).cell 3) (fun w1 hl => (HOB9.out.later hl).cell 4) (fun w1 hl => (HOB9.out.later hl).cell 5) (fun w1 hl => (HOB9.out.later hl).cell 6) (fun w1 hl => (HOB9.out.later hl).cell 7) (fun w1 hl => (HOB9.out.later hl).cell 8) (fun w1 hl => (HOB9.out.later hl).cell 9) (fun w1 hl => (HOB9.out.later hl).cell 10) HC.out ?hq
        case hq =>
        intros
        rename_i x10 w10 hR
        obtain ⟨rfl, hM10⟩ := hR
        have HM10 := hidden hM10
        have HG10 : Hid (Blk w10 w5.heap.size 29 [.pointer (some ⟨p, 0, none⟩), .pointer (some ⟨w2.heap.size, 0, none⟩), .pointer (some ⟨p', 0, none⟩), .pointer (some ⟨w4.heap.size, 0, none⟩)]) := hidden (by have := hM10.pl.bl; rw [HEA9.out, HEB9.out] at this; exact this)
        have HOB10 := hidden hM10.ob
        clear hM10 HC HG9 HOB9 HM9
        simp only [Act.put, List.setIfInBounds_toArray, List.set_cons_succ, List.set_cons_zero]
        go_wp2_with fail
        have HC : Hid (∀ w1, Lat w10 w1 → _) := hidden (fun w1 hl => rl_two w w1 w5.heap.size wr.heap.size A1 B1 ⟨k, on, s, n, x, y, ⟨m1, m2, m3, m4, m5⟩⟩ (i + 1) (HM10.out.later hl) (by omega))
        rw [HEB9.out] at HC
        refine plays_r12 w5.heap.size wr.heap.size p w2.heap.size p' w4.heap.size s k on n x y m1 m2 m3 m4 m5 (RL w w5.heap.size wr.heap.size A1 B1 ⟨k, on, s, n, x, y, ⟨m1, m2, m3, m4, m5⟩⟩ (i + 1)) w10 _ _ (by rfl) (by rfl) (by rfl)
          (fun w1 hl => (HG10.out.later hl).cell 0) (fun w1 hl => (HG10.out.later hl).cell 1) (fun w1 hl => (HG10.out.later hl).cell 2) (fun w1 hl => (HG10.out.later hl).cell 3) (fun w1 hl => (HOB10.out.later hl).cell 0) (fun w1 hl => (HOB10.out.later hl).cell 1) (fun w1 hl => (HOB10.out.later hl).cell 2) (fun w1 hl => (HOB10.out.later hl).cell 3) (fun w1 hl => (HOB10.out.later hl).cell 4) (fun w1 hl => (HOB10.out.later hl).cell 5) (fun w1 hl => (HOB10.out.later hl).cell 6) (fun w1 hl => (HOB10.out.later hl).cell 7) (fun w1 hl => (HOB10.out.later hl).cell 8) (fun w1 hl => (HOB10.out.later hl).cell 9) (fun w1 hl => (HOB10.out.later hl).cell 10) HC.out ?hq
        case hq =>
        intros
        rename_i x11 w11 hR
        obtain ⟨rfl, hM11⟩ := hR
        have HM11 := hidden hM11
        clear hM11 HC HG10 HOB10 HM10
        simp only [Act.put, List.setIfInBounds_toArray, List.set_cons_succ, List.set_cons_zero]
        go_wp2_with fail
        have hlt := HLT.out
        refine ⟨⟨i + 1, A1, B1, by first | rfl | simp, by omega, by omega, HEA9.out, HEB9.out, hidden HM11.out.pl⟩, ?_⟩
        show len - ((i : Int) + 1).toNat < len - (i : Int).toNat
        omega
      · go_wp2_with fail
        clear t0 t1 t2 t3 t4 t5 t6 t7 t8 t9 t10 hb hbb
        have HG : Hid (Blk (wr.alloc (.cells (osL ⟨k, on, s, n, x, y, ⟨m1, m2, m3, m4, m5⟩⟩).toArray 34)) w5.heap.size 29 [.pointer (some ⟨p, 0, none⟩), .pointer (some ⟨w2.heap.size, 0, none⟩), .pointer (some ⟨p', 0, none⟩), .pointer (some ⟨w4.heap.size, 0, none⟩)]) := hidden (by have := HM.out.pl.bl; rw [HEA.out, HEB.out] at this; exact this)
        have HOB := hidden HM.out.ob
        have HC : Hid (∀ w1, Lat (wr.alloc (.cells (osL ⟨k, on, s, n, x, y, ⟨m1, m2, m3, m4, m5⟩⟩).toArray 34)) w1 → _) := hidden (fun w1 hl => rr_two w w1 w5.heap.size wr.heap.size A B ⟨k, on, s, n, x, y, ⟨m1, m2, m3, m4, m5⟩⟩ i (HM.out.later hl) (by omega) HO.out)
        rw [HEA.out, HEB.out] at HC
        refine plays_r10_1 w5.heap.size wr.heap.size p w2.heap.size p' w4.heap.size s k on n x y m1 m2 m3 m4 m5 (RR w w5.heap.size wr.heap.size A B ⟨k, on, s, n, x, y, ⟨m1, m2, m3, m4, m5⟩⟩ i) _ _ _ (by rfl) (by rfl) (by rfl) (by rfl)
          (fun w1 hl => (HG.out.later hl).cell 0) (fun w1 hl => (HG.out.later hl).cell 1) (fun w1 hl => (HG.out.later hl).cell 2) (fun w1 hl => (HG.out.later hl).cell 3) (fun w1 hl => (HOB.out.later hl).cell 0) (fun w1 hl => (HOB.out.later hl).cell 1) (fun w1 hl => (HOB.out.later hl).cell 2) (fun w1 hl => (HOB.out.later hl).cell 3) (fun w1 hl => (HOB.out.later hl).cell 4) (fun w1 hl => (HOB.out.later hl).cell 5) (fun w1 hl => (HOB.out.later hl).cell 6) (fun w1 hl => (HOB.out.later hl).cell 7) (fun w1 hl => (HOB.out.later hl).cell 8) (fun w1 hl => (HOB.out.later hl).cell 9) (fun w1 hl => (HOB.out.later hl).cell 10) HC.out ?hq
        case hq =>
        intros
        rename_i x9 w9 hR
        obtain ⟨rfl, A1, B1, hM9, f1, f2⟩ := hR
        have HM9 := hidden hM9
        have HG9 : Hid (Blk w9 w5.heap.size 29 [.pointer (some ⟨p, 0, none⟩), .pointer (some ⟨w2.heap.size, 0, none⟩), .pointer (some ⟨p', 0, none⟩), .pointer (some ⟨w4.heap.size, 0, none⟩)]) := hidden (by have := hM9.pl.bl; rw [f1, f2, HEA.out, HEB.out] at this; exact this)
        have HOB9 := hidden hM9.ob
        have HEA9 := hidden (f1.trans HEA.out)
        have HEB9 := hidden (f2.trans HEB.out)
        clear hM9 f1 f2 HC HG HOB HM hI HEA HEB
        simp only [Act.put, List.setIfInBounds_toArray, List.set_cons_succ, List.set_cons_zero]
        go_wp2_with fail
        have HC : Hid (∀ w1, Lat w9 w1 → _) := hidden (fun w1 hl => rl_one w w1 w5.heap.size wr.heap.size A1 B1 ⟨k, on, s, n, x, y, ⟨m1, m2, m3, m4, m5⟩⟩ (i + 1) (HM9.out.later hl) (by omega))
        rw [HEA9.out] at HC
        refine plays_r11 w5.heap.size wr.heap.size p w2.heap.size p' w4.heap.size s k on n x y m1 m2 m3 m4 m5 (RL w w5.heap.size wr.heap.size A1 B1 ⟨k, on, s, n, x, y, ⟨m1, m2, m3, m4, m5⟩⟩ (i + 1)) w9 _ _ (by rfl) (by rfl) (by rfl)
          (fun w1 hl => (HG9.out.later hl).cell 0) (fun w1 hl => (HG9.out.later hl).cell 1) (fun w1 hl => (HG9.out.later hl).cell 2) (fun w1 hl => (HG9.out.later hl).cell 3) (fun w1 hl => (HOB9.out.later hl).cell 0) (fun w1 hl => (HOB9.out.later hl).cell 1) (fun w1 hl => (HOB9.out.later hl).cell 2) (fun w1 hl => (HOB9.out.later hl).cell 3) (fun w1 hl => (HOB9.out.later hl).cell 4) (fun w1 hl => (HOB9.out.later hl).cell 5) (fun w1 hl => (HOB9.out.later hl).cell 6) (fun w1 hl => (HOB9.out.later hl).cell 7) (fun w1 hl => (HOB9.out.later hl).cell 8) (fun w1 hl => (HOB9.out.later hl).cell 9) (fun w1 hl => (HOB9.out.later hl).cell 10) HC.out ?hq
        case hq =>
        intros
        rename_i x10 w10 hR
        obtain ⟨rfl, hM10⟩ := hR
        have HM10 := hidden hM10
        have HG10 : Hid (Blk w10 w5.heap.size 29 [.pointer (some ⟨p, 0, none⟩), .pointer (some ⟨w2.heap.size, 0, none⟩), .pointer (some ⟨p', 0, none⟩), .pointer (some ⟨w4.heap.size, 0, none⟩)]) := hidden (by have := hM10.pl.bl; rw [HEA9.out, HEB9.out] at this; exact this)
        have HOB10 := hidden hM10.ob
        clear hM10 HC HG9 HOB9 HM9
        simp only [Act.put, List.setIfInBounds_toArray, List.set_cons_succ, List.set_cons_zero]
        go_wp2_with fail
        have HC : Hid (∀ w1, Lat w10 w1 → _) := hidden (fun w1 hl => rl_two w w1 w5.heap.size wr.heap.size A1 B1 ⟨k, on, s, n, x, y, ⟨m1, m2, m3, m4, m5⟩⟩ (i + 1) (HM10.out.later hl) (by omega))
        rw [HEB9.out] at HC
        refine plays_r12 w5.heap.size wr.heap.size p w2.heap.size p' w4.heap.size s k on n x y m1 m2 m3 m4 m5 (RL w w5.heap.size wr.heap.size A1 B1 ⟨k, on, s, n, x, y, ⟨m1, m2, m3, m4, m5⟩⟩ (i + 1)) w10 _ _ (by rfl) (by rfl) (by rfl)
          (fun w1 hl => (HG10.out.later hl).cell 0) (fun w1 hl => (HG10.out.later hl).cell 1) (fun w1 hl => (HG10.out.later hl).cell 2) (fun w1 hl => (HG10.out.later hl).cell 3) (fun w1 hl => (HOB10.out.later hl).cell 0) (fun w1 hl => (HOB10.out.later hl).cell 1) (fun w1 hl => (HOB10.out.later hl).cell 2) (fun w1 hl => (HOB10.out.later hl).cell 3) (fun w1 hl => (HOB10.out.later hl).cell 4) (fun w1 hl => (HOB10.out.later hl).cell 5) (fun w1 hl => (HOB10.out.later hl).cell 6) (fun w1 hl => (HOB10.out.later hl).cell 7) (fun w1 hl => (HOB10.out.later hl).cell 8) (fun w1 hl => (HOB10.out.later hl).cell 9) (fun w1 hl => (HOB10.out.later hl).cell 10) HC.out ?hq
        case hq =>
        intros
        rename_i x11 w11 hR
        obtain ⟨rfl, hM11⟩ := hR
        have HM11 := hidden hM11
        clear hM11 HC HG10 HOB10 HM10
        simp only [Act.put, List.setIfInBounds_toArray, List.set_cons_succ, List.set_cons_zero]
        go_wp2_with fail
        have hlt := HLT.out
        refine ⟨⟨i + 1, A1, B1, by first | rfl | simp, by omega, by omega, HEA9.out, HEB9.out, hidden HM11.out.pl⟩, ?_⟩
        show len - ((i : Int) + 1).toNat < len - (i : Int).toNat
        omega
    · have hend : ¬ ((i : Int) < (len : Int)) ∨ ((i : Int) < (len : Int) ∧ ¬ (i : Int) < 2000) := by omega
      rcases hend with h1 | ⟨h1, h2⟩
      all_goals
        go_wp2_with fail
        go_ret
        exact ⟨rfl, hI.out.pp.bel⟩

end Go.Proofs.Ythkmbodpboplfaa
