/-
  The document's reader in memory: matchers. By gendye20.py.
-/
import Derived.Test.YtalmpmhnkilalaaGreatDoorDyA
import Derived.Test.YtalmpmhnkilalaaGreatDoorRrC
namespace Go.Proofs.YtalmpmhnkilalaaGreatDoor
open Go.RowKit
set_option linter.unusedVariables false

def Ri.opN (s : Ri) : Ri := ⟨s.one.2.b, s.one.2.ok && decide (1 ≤ s.one.1) && decide (s.one.1 ≤ 4)⟩
def Ri.mat (s : Ri) : Ma := ⟨strOfNums (txL s.b 64), (s.txt 64).one.1, strOfNums (txL (s.txt 64).opN.b 64)⟩
def Ri.matN (s : Ri) : Ri := ((s.txt 64).opN).txt 64
def Ri.mats (s : Ri) : List Ma × Ri := Ri.rep Ri.mat Ri.matN (s.many 8) (s.cnt 8) []
theorem op_cases (o : Bool) (x : Int) : (o = false ∧ (o && decide (1 ≤ x) && decide (x ≤ 4)) = false) ∨ (o = true ∧ ¬ 1 ≤ x ∧ (o && decide (1 ≤ x) && decide (x ≤ 4)) = false) ∨ (o = true ∧ 1 ≤ x ∧ ¬ x ≤ 4 ∧ (o && decide (1 ≤ x) && decide (x ≤ 4)) = false) ∨ (o = true ∧ 1 ≤ x ∧ x ≤ 4 ∧ (o && decide (1 ≤ x) && decide (x ≤ 4)) = true) := by
  cases o
  · simp
  · by_cases h1 : 1 ≤ x
    · by_cases h2 : x ≤ 4 <;> simp [h1, h2]
    · simp [h1]
set_option maxRecDepth 8000 in
set_option maxHeartbeats 4000000 in
theorem matchersI (p K : Nat) (s : Ri) (w : World) (h : It w p K s) :
    Calls Tryz.prog 72 #[.pointer (some ⟨p, 0, none⟩)] w (IQ w p K s.mats.2 fun v w' => ∃ ad c, v = .slice ad s.mats.1.length c ∧ w'.ownsRow w.heap.size 52 3 v s.mats.1.length (s.mats.1.flatMap Ma.cells)) := by
  obtain ⟨i0, z0, hi0, hz0, hz1, hz2, hz3⟩ := info_z infoM
  have HN := hidden (countI p K s 8 w h (by omega))
  have hNm := many_le 8 s
  have hN : (if (s.cnt 8).ok then ((Q.dec s.b).1 : Int) else 0) = (s.many 8 : Nat) := by unfold Ri.many; split <;> rfl
  rw [hN] at HN
  clear hN
  have hpw := h.lt
  have hkw := h.klt
  clear h
  obtain ⟨R, hR⟩ : ∃ R, R = s.mats := ⟨_, rfl⟩
  rw [← hR]
  unfold Ri.mats at hR
  generalize s.many 8 = N at *
  generalize s.cnt 8 = s0 at *
  have HRR := hidden hR
  clear hR
  go_enter Tryz.func72, Tryz.ntmps72
  go_wp2_with fail
  refine HN.out.mono ?_
  rintro e w1 ⟨v, rfl, hQ, rfl⟩
  have H1 : Hid (∃ (xs : List Ma) (t : Ri) (ad : Option Addr) (c : Nat), xs.length + N = N ∧ Value.slice none 0 0 = .slice ad xs.length c ∧ w1.ownsRow w.heap.size 52 3 (.slice none 0 0) xs.length (xs.flatMap Ma.cells) ∧ It w1 p K t ∧ Chg (fpr p) w w1 ∧ R = Ri.rep Ri.mat Ri.matN N t xs) :=
    hidden ⟨[], s0, none, 0, by simp, rfl, World.ownsRow_nil _ _ _ _, hQ.it, hQ.chg, HRR.out⟩
  clear hQ
  go_wp2_with fail
  go_loopw [3, 4, 5] (fun v3 v4 _ wx => ∃ n : Nat, v4 = .int .i64 (n : Int) ∧ n ≤ N ∧ Hid (∃ (xs : List Ma) (t : Ri) (ad : Option Addr) (c : Nat), xs.length + n = N ∧ v3 = .slice ad xs.length c ∧ wx.ownsRow w.heap.size 52 3 v3 xs.length (xs.flatMap Ma.cells) ∧ It wx p K t ∧ Chg (fpr p) w wx ∧ R = Ri.rep Ri.mat Ri.matN n t xs)) (fun _ v4 _ _ => (intOf v4).toNat)
  case atStart => exact ⟨N, rfl, by omega, H1⟩
  case round =>
    obtain ⟨n, rfl, hn, hI⟩ := hrel
    obtain ⟨xs, t, ad, c, hxn, hv3, hown, hIt, hC, hT⟩ := hI.out
    subst hv3
    have cf := hIt.flag
    have HOW := hidden hown
    have HIT := hidden hIt
    have HCC := hidden hC
    have HT := hidden hT
    clear hI H1 hown hIt hC hT
    cases n with
    | zero =>
      go_wp2_with fail
      go_ret
      have e : R = (xs, t) := HT.out
      rw [e]
      exact ⟨_, rfl, ⟨HIT.out, HCC.out⟩, ad, c, rfl, HOW.out⟩
    | succ n =>
      have hn0 : ((n + 1 : Nat) : Int) > 0 := by omega
      obtain ⟨y, hy⟩ : ∃ y, t.ok = y := ⟨_, rfl⟩
      rw [hy] at cf
      cases y with
      | false =>
        go_wp2_with fail
        go_ret
        have e : R = (xs, t) := HT.out.trans (Ri.rep_no _ hy _)
        rw [e]
        exact ⟨_, rfl, ⟨HIT.out, HCC.out⟩, ad, c, rfl, HOW.out⟩
      | true =>
        have HT2 := hidden (HT.out.trans (Ri.rep_yes _ hy _))
        clear HT hy
        have hsz := HCC.out.size
        go_wp2_with fail
        refine (textI p K t 64 _ (HIT.out.later ((Below.refl _ _).alloc (Nat.le_refl _) _)) (by omega)).mono ?_
        rintro e w2 ⟨v, rfl, hQ, rfl⟩
        have hB2 : Blk w2 wr.heap.size 52 [.string (strOfNums []), .int .i64 0, .string (strOfNums [])] := hQ.chg.blk (Blk.new wr 52 _) (fun e => by unfold fpr at e; omega)
        have c0 := hB2.cell 0
        simp at c0
        have f0 := hB2.frozen 0
        have HB2 := hidden (hB2.set 0 (.string (strOfNums (txL t.b 64))))
        have HI2 := hidden (hQ.it.chg (Chg.set ⟨wr.heap.size, 0, none⟩ (.string (strOfNums (txL t.b 64))) w2) (fun e => by simp at e; omega) (fun e => by simp at e; omega))
        have HC2 := hidden (((Chg.alloc (fpr p) wr (.cells #[.string (strOfNums []), .int .i64 0, .string (strOfNums [])] 52)).trans hQ.chg (fun i _ hi => hi)).trans (Chg.set ⟨wr.heap.size, 0, none⟩ (.string (strOfNums (txL t.b 64))) w2) (fun i hi e => absurd (show i = wr.heap.size from e) (by omega)))
        clear hQ cf hB2
        go_wp2_with fail
        refine (oneI p K (t.txt 64) _ HI2.out).mono ?_
        rintro e w3 ⟨v, rfl, hQ3, rfl⟩
        have hB3 := hQ3.chg.blk HB2.out (fun e => by unfold fpr at e; omega)
        have k1 := hB3.cell 1
        simp at k1
        have q1 := hB3.frozen 1
        have hB3b := hB3.set 1 (.int .i64 (t.txt 64).one.1)
        have hI3 := hQ3.it.chg (Chg.set ⟨wr.heap.size, 1, none⟩ (.int .i64 (t.txt 64).one.1) w3) (fun e => by simp at e; omega) (fun e => by simp at e; omega)
        have l1 := hB3b.cell 1
        simp at l1
        have cf := hI3.flag
        have ff := hI3.frozen 1
        have HC3 := hidden ((HC2.out.trans hQ3.chg (fun i _ hi => hi)).trans (Chg.set ⟨wr.heap.size, 1, none⟩ (.int .i64 (t.txt 64).one.1) w3) (fun i hi e => absurd (show i = wr.heap.size from e) (by omega)))
        have HB3 := hidden hB3b
        have HI3 := hidden hI3
        clear hQ3 hB3 hB3b hI3 c0 f0
        have HON : Hid ((t.txt 64).opN = ⟨(t.txt 64).one.2.b, (t.txt 64).one.2.ok && decide (1 ≤ (t.txt 64).one.1) && decide ((t.txt 64).one.1 ≤ 4)⟩) := hidden rfl
        have hoc := op_cases (t.txt 64).one.2.ok (t.txt 64).one.1
        generalize hx : ((t.txt 64).one.2.ok && decide (1 ≤ (t.txt 64).one.1) && decide ((t.txt 64).one.1 ≤ 4)) = x at *
        clear hx
        rcases hoc with ⟨h1, rfl⟩ | ⟨h1, h2, rfl⟩ | ⟨h1, h2, h3, rfl⟩ | ⟨h1, h2, h3, rfl⟩
        · rw [h1] at cf
          have HI4 := hidden (HI3.out.setOk false)
          have HB4 := hidden ((chg_ok p _ (.bool false) 1).blk HB3.out (fun e => by unfold fpr at e; omega))
          have HC4 := hidden (HC3.out.trans (chg_ok p _ (.bool false) 1) (fun i _ hi => hi))
          rw [← HON.out] at HI4
          go_wp2_with fail
          refine (textI p K (t.txt 64).opN 64 _ HI4.out (by omega)).mono ?_
          rintro e w4 ⟨v, rfl, hQ4, rfl⟩
          have hB5 := hQ4.chg.blk HB4.out (fun e => by unfold fpr at e; omega)
          have c2 := hB5.cell 2
          simp at c2
          have f2 := hB5.frozen 2
          have hB5b := hB5.set 2 (.string (strOfNums (txL (t.txt 64).opN.b 64)))
          have d0 := hB5b.cell 0
          simp at d0
          have d1 := hB5b.cell 1
          simp at d1
          have d2 := hB5b.cell 2
          simp at d2
          have hI5 := hQ4.it.chg (Chg.set ⟨wr.heap.size, 2, none⟩ (.string (strOfNums (txL (t.txt 64).opN.b 64))) w4) (fun e => by simp at e; omega) (fun e => by simp at e; omega)
          have hC5 := (HC4.out.trans hQ4.chg (fun i _ hi => hi)).trans (Chg.set ⟨wr.heap.size, 2, none⟩ (.string (strOfNums (txL (t.txt 64).opN.b 64))) w4) (fun i hi e => absurd (show i = wr.heap.size from e) (by omega))
          have HOW5 := hidden (hC5.owns HOW.out (fun g hg e => by have h1 := (HOW.out.lt g hg).1; unfold fpr at e; omega))
          have HI5 := hidden hI5
          have HC5 := hidden (HCC.out.trans hC5 (fun i _ hi => hi))
          have HX : Hid (Ri.mat t = ⟨strOfNums (txL t.b 64), (t.txt 64).one.1, strOfNums (txL (t.txt 64).opN.b 64)⟩) := hidden rfl
          clear hB5 hB5b hI5 hC5 hQ4 cf ff k1 q1 l1
          generalize strOfNums (txL t.b 64) = a1 at *
          generalize strOfNums (txL (t.txt 64).opN.b 64) = a3 at *
          generalize (t.txt 64).one.1 = a2 at *
          have hs5 := HC5.out.size
          have hsz4 : (w4.setCell ⟨wr.heap.size, 2, none⟩ (.string a3)).heap.size = w4.heap.size := by simp [World.setCell]
          have hs6 : w.heap.size ≤ w4.heap.size := by simpa [World.setCell] using hs5
          go_wp2_with (first
            | (at_builtin; refine wpList_pushN _ rfl _ _ 24 rfl 52 i0 z0 3 40 Tryz.underlying24 hi0 hz0 hz1 hz2 hz3 (by decide) w.heap.size (.slice ad xs.length c) xs.length (xs.flatMap Ma.cells) rfl (by exact (HOW5.out.alloc _)) ⟨w4.heap.size, 0, none⟩ [.string a1, .int .i64 a2, .string a3] rfl rfl (by intro j u hu; have h9 := (Blk.new (w4.setCell ⟨wr.heap.size, 2, none⟩ (.string a3)) 52 [.string a1, .int .i64 a2, .string a3]).cell (0 + j); rw [hsz4] at h9; rw [Addr.add_lit, h9, Nat.zero_add]; exact hu) (by intro u hu; simp at hu; rcases hu with rfl | rfl | rfl <;> rfl) (by unfold maxLen; omega) (by omega) (by simp; omega) ?_; intro g' c' w' ho' hp'; have HO' := hidden ho'; have HP' := hidden hp'; clear ho' hp'))
          have hI2 : Hid (∃ (xs2 : List Ma) (t2 : Ri) (ad : Option Addr) (c : Nat), xs2.length + n = N ∧ Value.slice (some ⟨g', 0, none⟩) (xs.length + 1) c' = .slice ad xs2.length c ∧ w'.ownsRow w.heap.size 52 3 (.slice (some ⟨g', 0, none⟩) (xs.length + 1) c') xs2.length (xs2.flatMap Ma.cells) ∧ It w' p K t2 ∧ Chg (fpr p) w w' ∧ R = Ri.rep Ri.mat Ri.matN n t2 xs2) := by
            have hw2 : Chg (fun i_1 => Value.ownBlock (.slice ad xs.length c) = some i_1) (w4.setCell ⟨wr.heap.size, 2, none⟩ (.string a3)) w' := HP'.out.chg.1
            have hfp : ∀ j, Value.ownBlock (.slice ad xs.length c) = some j → w.heap.size ≤ j := fun j hj => (HOW5.out.lt j hj).1
            refine hidden ⟨xs ++ [Ri.mat t], t.matN, _, _, by rw [List.length_append]; simp; omega, by rw [List.length_append]; rfl, ?_, HI5.out.chg hw2 (fun e => by have := hfp p e; omega) (fun e => by have := hfp K e; omega), HC5.out.trans hw2 (fun j hj e => absurd (hfp j e) (by omega)), HT2.out⟩
            rw [List.length_append, List.flatMap_append, HX.out]
            simpa [Ma.cells] using HO'.out
          clear HO' HP'
          go_wp2_with fail
          refine ⟨⟨n, by first | rfl | simp, by omega, hI2⟩, ?_⟩
          simp [intOf]
        · rw [h1] at cf
          have hd := decide_eq_false h2
          have HI4 := hidden (HI3.out.setOk false)
          have HB4 := hidden ((chg_ok p _ (.bool false) 1).blk HB3.out (fun e => by unfold fpr at e; omega))
          have HC4 := hidden (HC3.out.trans (chg_ok p _ (.bool false) 1) (fun i _ hi => hi))
          rw [← HON.out] at HI4
          go_wp2_with fail
          refine (textI p K (t.txt 64).opN 64 _ HI4.out (by omega)).mono ?_
          rintro e w4 ⟨v, rfl, hQ4, rfl⟩
          have hB5 := hQ4.chg.blk HB4.out (fun e => by unfold fpr at e; omega)
          have c2 := hB5.cell 2
          simp at c2
          have f2 := hB5.frozen 2
          have hB5b := hB5.set 2 (.string (strOfNums (txL (t.txt 64).opN.b 64)))
          have d0 := hB5b.cell 0
          simp at d0
          have d1 := hB5b.cell 1
          simp at d1
          have d2 := hB5b.cell 2
          simp at d2
          have hI5 := hQ4.it.chg (Chg.set ⟨wr.heap.size, 2, none⟩ (.string (strOfNums (txL (t.txt 64).opN.b 64))) w4) (fun e => by simp at e; omega) (fun e => by simp at e; omega)
          have hC5 := (HC4.out.trans hQ4.chg (fun i _ hi => hi)).trans (Chg.set ⟨wr.heap.size, 2, none⟩ (.string (strOfNums (txL (t.txt 64).opN.b 64))) w4) (fun i hi e => absurd (show i = wr.heap.size from e) (by omega))
          have HOW5 := hidden (hC5.owns HOW.out (fun g hg e => by have h1 := (HOW.out.lt g hg).1; unfold fpr at e; omega))
          have HI5 := hidden hI5
          have HC5 := hidden (HCC.out.trans hC5 (fun i _ hi => hi))
          have HX : Hid (Ri.mat t = ⟨strOfNums (txL t.b 64), (t.txt 64).one.1, strOfNums (txL (t.txt 64).opN.b 64)⟩) := hidden rfl
          clear hB5 hB5b hI5 hC5 hQ4 cf ff k1 q1 l1
          generalize strOfNums (txL t.b 64) = a1 at *
          generalize strOfNums (txL (t.txt 64).opN.b 64) = a3 at *
          generalize (t.txt 64).one.1 = a2 at *
          have hs5 := HC5.out.size
          have hsz4 : (w4.setCell ⟨wr.heap.size, 2, none⟩ (.string a3)).heap.size = w4.heap.size := by simp [World.setCell]
          have hs6 : w.heap.size ≤ w4.heap.size := by simpa [World.setCell] using hs5
          go_wp2_with (first
            | (at_builtin; refine wpList_pushN _ rfl _ _ 24 rfl 52 i0 z0 3 40 Tryz.underlying24 hi0 hz0 hz1 hz2 hz3 (by decide) w.heap.size (.slice ad xs.length c) xs.length (xs.flatMap Ma.cells) rfl (by exact (HOW5.out.alloc _)) ⟨w4.heap.size, 0, none⟩ [.string a1, .int .i64 a2, .string a3] rfl rfl (by intro j u hu; have h9 := (Blk.new (w4.setCell ⟨wr.heap.size, 2, none⟩ (.string a3)) 52 [.string a1, .int .i64 a2, .string a3]).cell (0 + j); rw [hsz4] at h9; rw [Addr.add_lit, h9, Nat.zero_add]; exact hu) (by intro u hu; simp at hu; rcases hu with rfl | rfl | rfl <;> rfl) (by unfold maxLen; omega) (by omega) (by simp; omega) ?_; intro g' c' w' ho' hp'; have HO' := hidden ho'; have HP' := hidden hp'; clear ho' hp'))
          have hI2 : Hid (∃ (xs2 : List Ma) (t2 : Ri) (ad : Option Addr) (c : Nat), xs2.length + n = N ∧ Value.slice (some ⟨g', 0, none⟩) (xs.length + 1) c' = .slice ad xs2.length c ∧ w'.ownsRow w.heap.size 52 3 (.slice (some ⟨g', 0, none⟩) (xs.length + 1) c') xs2.length (xs2.flatMap Ma.cells) ∧ It w' p K t2 ∧ Chg (fpr p) w w' ∧ R = Ri.rep Ri.mat Ri.matN n t2 xs2) := by
            have hw2 : Chg (fun i_1 => Value.ownBlock (.slice ad xs.length c) = some i_1) (w4.setCell ⟨wr.heap.size, 2, none⟩ (.string a3)) w' := HP'.out.chg.1
            have hfp : ∀ j, Value.ownBlock (.slice ad xs.length c) = some j → w.heap.size ≤ j := fun j hj => (HOW5.out.lt j hj).1
            refine hidden ⟨xs ++ [Ri.mat t], t.matN, _, _, by rw [List.length_append]; simp; omega, by rw [List.length_append]; rfl, ?_, HI5.out.chg hw2 (fun e => by have := hfp p e; omega) (fun e => by have := hfp K e; omega), HC5.out.trans hw2 (fun j hj e => absurd (hfp j e) (by omega)), HT2.out⟩
            rw [List.length_append, List.flatMap_append, HX.out]
            simpa [Ma.cells] using HO'.out
          clear HO' HP'
          go_wp2_with fail
          refine ⟨⟨n, by first | rfl | simp, by omega, hI2⟩, ?_⟩
          simp [intOf]
        · rw [h1] at cf
          have hd := decide_eq_true h2
          have hd2 := decide_eq_false h3
          have HI4 := hidden (HI3.out.setOk false)
          have HB4 := hidden ((chg_ok p _ (.bool false) 1).blk HB3.out (fun e => by unfold fpr at e; omega))
          have HC4 := hidden (HC3.out.trans (chg_ok p _ (.bool false) 1) (fun i _ hi => hi))
          rw [← HON.out] at HI4
          go_wp2_with fail
          refine (textI p K (t.txt 64).opN 64 _ HI4.out (by omega)).mono ?_
          rintro e w4 ⟨v, rfl, hQ4, rfl⟩
          have hB5 := hQ4.chg.blk HB4.out (fun e => by unfold fpr at e; omega)
          have c2 := hB5.cell 2
          simp at c2
          have f2 := hB5.frozen 2
          have hB5b := hB5.set 2 (.string (strOfNums (txL (t.txt 64).opN.b 64)))
          have d0 := hB5b.cell 0
          simp at d0
          have d1 := hB5b.cell 1
          simp at d1
          have d2 := hB5b.cell 2
          simp at d2
          have hI5 := hQ4.it.chg (Chg.set ⟨wr.heap.size, 2, none⟩ (.string (strOfNums (txL (t.txt 64).opN.b 64))) w4) (fun e => by simp at e; omega) (fun e => by simp at e; omega)
          have hC5 := (HC4.out.trans hQ4.chg (fun i _ hi => hi)).trans (Chg.set ⟨wr.heap.size, 2, none⟩ (.string (strOfNums (txL (t.txt 64).opN.b 64))) w4) (fun i hi e => absurd (show i = wr.heap.size from e) (by omega))
          have HOW5 := hidden (hC5.owns HOW.out (fun g hg e => by have h1 := (HOW.out.lt g hg).1; unfold fpr at e; omega))
          have HI5 := hidden hI5
          have HC5 := hidden (HCC.out.trans hC5 (fun i _ hi => hi))
          have HX : Hid (Ri.mat t = ⟨strOfNums (txL t.b 64), (t.txt 64).one.1, strOfNums (txL (t.txt 64).opN.b 64)⟩) := hidden rfl
          clear hB5 hB5b hI5 hC5 hQ4 cf ff k1 q1 l1
          generalize strOfNums (txL t.b 64) = a1 at *
          generalize strOfNums (txL (t.txt 64).opN.b 64) = a3 at *
          generalize (t.txt 64).one.1 = a2 at *
          have hs5 := HC5.out.size
          have hsz4 : (w4.setCell ⟨wr.heap.size, 2, none⟩ (.string a3)).heap.size = w4.heap.size := by simp [World.setCell]
          have hs6 : w.heap.size ≤ w4.heap.size := by simpa [World.setCell] using hs5
          go_wp2_with (first
            | (at_builtin; refine wpList_pushN _ rfl _ _ 24 rfl 52 i0 z0 3 40 Tryz.underlying24 hi0 hz0 hz1 hz2 hz3 (by decide) w.heap.size (.slice ad xs.length c) xs.length (xs.flatMap Ma.cells) rfl (by exact (HOW5.out.alloc _)) ⟨w4.heap.size, 0, none⟩ [.string a1, .int .i64 a2, .string a3] rfl rfl (by intro j u hu; have h9 := (Blk.new (w4.setCell ⟨wr.heap.size, 2, none⟩ (.string a3)) 52 [.string a1, .int .i64 a2, .string a3]).cell (0 + j); rw [hsz4] at h9; rw [Addr.add_lit, h9, Nat.zero_add]; exact hu) (by intro u hu; simp at hu; rcases hu with rfl | rfl | rfl <;> rfl) (by unfold maxLen; omega) (by omega) (by simp; omega) ?_; intro g' c' w' ho' hp'; have HO' := hidden ho'; have HP' := hidden hp'; clear ho' hp'))
          have hI2 : Hid (∃ (xs2 : List Ma) (t2 : Ri) (ad : Option Addr) (c : Nat), xs2.length + n = N ∧ Value.slice (some ⟨g', 0, none⟩) (xs.length + 1) c' = .slice ad xs2.length c ∧ w'.ownsRow w.heap.size 52 3 (.slice (some ⟨g', 0, none⟩) (xs.length + 1) c') xs2.length (xs2.flatMap Ma.cells) ∧ It w' p K t2 ∧ Chg (fpr p) w w' ∧ R = Ri.rep Ri.mat Ri.matN n t2 xs2) := by
            have hw2 : Chg (fun i_1 => Value.ownBlock (.slice ad xs.length c) = some i_1) (w4.setCell ⟨wr.heap.size, 2, none⟩ (.string a3)) w' := HP'.out.chg.1
            have hfp : ∀ j, Value.ownBlock (.slice ad xs.length c) = some j → w.heap.size ≤ j := fun j hj => (HOW5.out.lt j hj).1
            refine hidden ⟨xs ++ [Ri.mat t], t.matN, _, _, by rw [List.length_append]; simp; omega, by rw [List.length_append]; rfl, ?_, HI5.out.chg hw2 (fun e => by have := hfp p e; omega) (fun e => by have := hfp K e; omega), HC5.out.trans hw2 (fun j hj e => absurd (hfp j e) (by omega)), HT2.out⟩
            rw [List.length_append, List.flatMap_append, HX.out]
            simpa [Ma.cells] using HO'.out
          clear HO' HP'
          go_wp2_with fail
          refine ⟨⟨n, by first | rfl | simp, by omega, hI2⟩, ?_⟩
          simp [intOf]
        · rw [h1] at cf
          have hd := decide_eq_true h2
          have hd2 := decide_eq_true h3
          have HI4 := hidden (HI3.out.setOk true)
          have HB4 := hidden ((chg_ok p _ (.bool true) 1).blk HB3.out (fun e => by unfold fpr at e; omega))
          have HC4 := hidden (HC3.out.trans (chg_ok p _ (.bool true) 1) (fun i _ hi => hi))
          rw [← HON.out] at HI4
          go_wp2_with fail
          refine (textI p K (t.txt 64).opN 64 _ HI4.out (by omega)).mono ?_
          rintro e w4 ⟨v, rfl, hQ4, rfl⟩
          have hB5 := hQ4.chg.blk HB4.out (fun e => by unfold fpr at e; omega)
          have c2 := hB5.cell 2
          simp at c2
          have f2 := hB5.frozen 2
          have hB5b := hB5.set 2 (.string (strOfNums (txL (t.txt 64).opN.b 64)))
          have d0 := hB5b.cell 0
          simp at d0
          have d1 := hB5b.cell 1
          simp at d1
          have d2 := hB5b.cell 2
          simp at d2
          have hI5 := hQ4.it.chg (Chg.set ⟨wr.heap.size, 2, none⟩ (.string (strOfNums (txL (t.txt 64).opN.b 64))) w4) (fun e => by simp at e; omega) (fun e => by simp at e; omega)
          have hC5 := (HC4.out.trans hQ4.chg (fun i _ hi => hi)).trans (Chg.set ⟨wr.heap.size, 2, none⟩ (.string (strOfNums (txL (t.txt 64).opN.b 64))) w4) (fun i hi e => absurd (show i = wr.heap.size from e) (by omega))
          have HOW5 := hidden (hC5.owns HOW.out (fun g hg e => by have h1 := (HOW.out.lt g hg).1; unfold fpr at e; omega))
          have HI5 := hidden hI5
          have HC5 := hidden (HCC.out.trans hC5 (fun i _ hi => hi))
          have HX : Hid (Ri.mat t = ⟨strOfNums (txL t.b 64), (t.txt 64).one.1, strOfNums (txL (t.txt 64).opN.b 64)⟩) := hidden rfl
          clear hB5 hB5b hI5 hC5 hQ4 cf ff k1 q1 l1
          generalize strOfNums (txL t.b 64) = a1 at *
          generalize strOfNums (txL (t.txt 64).opN.b 64) = a3 at *
          generalize (t.txt 64).one.1 = a2 at *
          have hs5 := HC5.out.size
          have hsz4 : (w4.setCell ⟨wr.heap.size, 2, none⟩ (.string a3)).heap.size = w4.heap.size := by simp [World.setCell]
          have hs6 : w.heap.size ≤ w4.heap.size := by simpa [World.setCell] using hs5
          go_wp2_with (first
            | (at_builtin; refine wpList_pushN _ rfl _ _ 24 rfl 52 i0 z0 3 40 Tryz.underlying24 hi0 hz0 hz1 hz2 hz3 (by decide) w.heap.size (.slice ad xs.length c) xs.length (xs.flatMap Ma.cells) rfl (by exact (HOW5.out.alloc _)) ⟨w4.heap.size, 0, none⟩ [.string a1, .int .i64 a2, .string a3] rfl rfl (by intro j u hu; have h9 := (Blk.new (w4.setCell ⟨wr.heap.size, 2, none⟩ (.string a3)) 52 [.string a1, .int .i64 a2, .string a3]).cell (0 + j); rw [hsz4] at h9; rw [Addr.add_lit, h9, Nat.zero_add]; exact hu) (by intro u hu; simp at hu; rcases hu with rfl | rfl | rfl <;> rfl) (by unfold maxLen; omega) (by omega) (by simp; omega) ?_; intro g' c' w' ho' hp'; have HO' := hidden ho'; have HP' := hidden hp'; clear ho' hp'))
          have hI2 : Hid (∃ (xs2 : List Ma) (t2 : Ri) (ad : Option Addr) (c : Nat), xs2.length + n = N ∧ Value.slice (some ⟨g', 0, none⟩) (xs.length + 1) c' = .slice ad xs2.length c ∧ w'.ownsRow w.heap.size 52 3 (.slice (some ⟨g', 0, none⟩) (xs.length + 1) c') xs2.length (xs2.flatMap Ma.cells) ∧ It w' p K t2 ∧ Chg (fpr p) w w' ∧ R = Ri.rep Ri.mat Ri.matN n t2 xs2) := by
            have hw2 : Chg (fun i_1 => Value.ownBlock (.slice ad xs.length c) = some i_1) (w4.setCell ⟨wr.heap.size, 2, none⟩ (.string a3)) w' := HP'.out.chg.1
            have hfp : ∀ j, Value.ownBlock (.slice ad xs.length c) = some j → w.heap.size ≤ j := fun j hj => (HOW5.out.lt j hj).1
            refine hidden ⟨xs ++ [Ri.mat t], t.matN, _, _, by rw [List.length_append]; simp; omega, by rw [List.length_append]; rfl, ?_, HI5.out.chg hw2 (fun e => by have := hfp p e; omega) (fun e => by have := hfp K e; omega), HC5.out.trans hw2 (fun j hj e => absurd (hfp j e) (by omega)), HT2.out⟩
            rw [List.length_append, List.flatMap_append, HX.out]
            simpa [Ma.cells] using HO'.out
          clear HO' HP'
          go_wp2_with fail
          refine ⟨⟨n, by first | rfl | simp, by omega, hI2⟩, ?_⟩
          simp [intOf]
end Go.Proofs.YtalmpmhnkilalaaGreatDoor
