import Derived.Test.YtlppibigceeimaaDoorSeL
/-
  Package series: openOf; rise as a taker; behind.
-/
namespace Go.Proofs.YtlppibigceeimaaDoor
open Go.RowKit
set_option linter.unusedVariables false
set_option linter.unusedSimpArgs false

set_option maxRecDepth 100000 in
set_option maxHeartbeats 1000000 in
theorem openP (o : ByteArray) (k : Int) (F : Nat → Prop) (S p n : Nat) (st : K.Sx) (Z : ByteArray → List En) (w : World) (h : SQ F w S p n st Z) (hG : Gv w) (hlo : 2 ≤ w.heap.size) :
    Calls Tryd.prog 28 #[.pointer (some ⟨S, 0, none⟩), .string o, .int .i64 k] w fun e w' => SamP (gF (enL (Z o) k).2).2 w e w' := by
  have hz := h.sz
  have hen := hz.en o k
  have hmem := enL_mem (l := Z o) (k := k)
  obtain ⟨T, sh, R, G, h1, h2, h3, h4, h5⟩ := h
  have c1 : w.cell? ⟨S, 1, none⟩ = some (.map (some T)) := h1.blk.cell 1
  have l1 := h1.lookT o
  have l2 := h1.lookS o k
  have hr := h1.slots o k (hz.key o)
  obtain ⟨ad, c, hv⟩ := owns_form hr
  rw [hv] at l2 hr
  have HSI := hidden (fun (s : Nat) => samplesInP S _ (s : Int) G p n st w h1.blk h2 hz.small hG hlo)
  have hsam := fun i s g hm => hz.samV (o := o) (e := (k, enL (Z o) k)) (i := i) (s := s) (g := g) hm
  generalize enL (Z o) k = q9 at *
  obtain ⟨sl, A⟩ := q9
  simp only at *
  clear h1 h2 h3 h4 h5 hv
  generalize sh o = sho at *
  by_cases h0 : sl = []
  · subst h0
    have hA : A = [] := hen.2.2.2.1 rfl
    subst hA
    clear hsam hmem hen HSI hr
    go_enter Tryd.func28, Tryd.ntmps28
    go_wp2_with fail
    go_ret
    exact ⟨none, 0, rfl, World.ownsRow_nil w w.heap.size 35 2, by simp [gF], Below.refl _ _⟩
  · have hm : (k, (sl, A)) ∈ Z o := by
      rcases hmem with hm | ⟨e, _⟩
      · exact hm
      · exact absurd (congrArg Prod.fst e) h0
    have hA : A ≠ [] := fun e => h0 (hen.2.2.2.2 e)
    have hp := List.length_pos_iff.2 h0
    have hl2 := hen.1.1
    have hg2 : (gF A).2 ≠ [] := fun e => hA ((gF_nil hen.2.2.1).1 e)
    rw [gO_last hg2, List.length_append] at hl2
    simp only [List.length_cons, List.length_nil] at hl2
    obtain ⟨s, hs⟩ : ∃ s, sl[sl.length - 1]? = some s := ⟨sl[sl.length - 1]'(by omega), by simp⟩
    have hq := hsam (sl.length - 1) s (gF A).2 hm hs (by
      rw [gO_last hg2, List.getElem?_append_right (by omega), show sl.length - 1 - (gF A).1.length = 0 by omega]; rfl)
    obtain ⟨g, rfl, _⟩ := owns_ad hr hp
    have hc : w.cell? ⟨g, sl.length - 1, none⟩ = some (.int .i64 (s : Int)) := owns_cell hr (sl.length - 1) _ (by unfold cI; rw [List.getElem?_map, hs]; rfl)
    have HS := hidden (HSI.out s)
    have HQ := hidden hq
    have hcap := owns_cap hr
    obtain ⟨N, hN⟩ : ∃ N, sl.length = N + 1 := ⟨sl.length - 1, by omega⟩
    rw [hN] at hc l2 hcap
    have e1 : N + 1 - 1 = N := by omega
    rw [e1] at hc
    have hcap1 := hcap.2.1
    have hcap2 : c ≤ 9223372036854775807 := by have := hcap.2.2.1; unfold maxLen at this; omega
    have hcap3 : N ≤ 9223372036854775806 := by omega
    clear hsam hmem hen HSI hr hq hs hcap hp hl2 hN e1 hm hA h0 hg2 hz hG hlo hcap1 hcap2
    go_enter Tryd.func28, Tryd.ntmps28
    go_wp2_with fail
    refine HS.out.mono ?_
    rintro e w' hq
    have HE := hidden hq
    obtain ⟨ad', c', rfl, q⟩ := hq
    have e9 := HQ.out.1
    clear q
    go_wp2_with fail
    go_ret
    have q2 := HE.out
    rw [e9] at q2
    exact q2

/-- The times that were taken. -/
def RiT (w0 : World) (t : Nat) (s : Sm × Bool) (w : World) : Prop := Blk w t 75 (riC s.1 s.2) ∧ Chg (fun i => i = t) w0 w
/-- each(l, times.take). -/
theorem eachRise (w : World) (t : Nat) (s : Sm × Bool) (ad : Option Addr) (N c : Nat) (l : List Sm) (hB : Blk w t 75 (riC s.1 s.2)) (hL : Ss w ad l) (hN : l.length = N) (hN9 : N ≤ 1000000) (hne : ∀ x, ad = some x → l ≠ [] → x.block ≠ t) :
    Calls Tryd.prog 27 #[.slice ad N c, .func (.func 29) #[.pointer (some ⟨t, 0, none⟩)] #[]] w fun e w' => e = .returned (.bool (foldE riS l s).1) ∧ RiT w t (foldE riS l s).2 w' := by
  refine eachP 29 (.pointer (some ⟨t, 0, none⟩)) riS (RiT w t) ad N c l s w (fun a w => by kernel_rfl) hN (by omega) hL.sz ⟨hB, Chg.refl _ _⟩
    (fun s' wx wy ⟨h1, h2⟩ hb => ⟨h1.later hb, h2.trans (Chg.of_below (F := fun i => i = t) hb) (fun _ _ e => e)⟩)
    (fun s' wx ⟨h1, h2⟩ => by
      refine ⟨hL.sz, fun h0 => ?_⟩
      obtain ⟨b', off, e, hlt, hc⟩ := hL.at' h0
      have hbt : b' ≠ t := hne _ e h0
      refine ⟨b', off, e, Nat.lt_of_lt_of_le hlt h2.size, fun i x hx => ?_⟩
      have hbb := h2.block b' hlt hbt
      have e1 : ∀ j, wx.cell? ⟨b', j, none⟩ = w.cell? ⟨b', j, none⟩ := fun j => World.cell?_of_block hbb
      rw [e1, e1]
      exact hc i x hx)
    (fun i x wx hx hox ⟨h1, h2⟩ => ?_)
  generalize (foldE riS (l.take i) s).2 = s' at *
  by_cases hs : s'.2 = true ∧ x.t ≤ s'.1.t
  · have e : riS s' x = (false, s') := by unfold riS; rw [if_pos hs]
    rw [e]
    have h1' := h1
    rw [hs.1] at h1
    refine (riseNo t s'.1 x wx h1 hs.2).mono ?_
    rintro e w' ⟨rfl, hb⟩
    exact ⟨rfl, h1'.later hb, h2.trans (Chg.of_below (F := fun i => i = t) hb) (fun _ _ e => e)⟩
  · have e : riS s' x = (true, (x, true)) := by unfold riS; rw [if_neg hs]
    rw [e]
    refine (riseYes t s'.1 x s'.2 wx h1 (fun e => by
      by_cases h9 : x.t ≤ s'.1.t
      · exact absurd ⟨e, h9⟩ hs
      · omega)).mono ?_
    rintro e w' ⟨rfl, k1, k2⟩
    exact ⟨rfl, k1, h2.trans k2 (fun _ _ e => e)⟩

end Go.Proofs.YtlppibigceeimaaDoor

/-
  Package series: behind.
-/
namespace Go.Proofs.YtlppibigceeimaaDoor
open Go.RowKit
set_option linter.unusedVariables false
set_option linter.unusedSimpArgs false

theorem Ck.base {D : Nat → Prop} {w : World} {base base' : Nat} {v : Value} {L : List (List Int)} (h : Ck w base v L D) (hb : base' ≤ base) : Ck w base' v L D := by
  obtain ⟨xs, h1, h2⟩ := h.row
  refine ⟨fun i hi => ⟨Nat.le_trans hb (h.lt i hi).1, (h.lt i hi).2⟩, h.off, xs, owns_base h1 (fun g hg => Nat.le_trans hb (h.vlt g hg).1), h2⟩
/-- What behind tells. -/
def BhP (w : World) (k : Int) (sl : List Nat) (A l : List Sm) (e : Ending) (w' : World) : Prop := Below w.heap.size w w' ∧
  ((k < 0 ∧ e = .returned (.tuple #[.slice none 0 0, .int .i64 0, .int .i64 1])) ∨ (0 ≤ k ∧ ¬ Ris (A ++ l) ∧ e = .returned (.tuple #[.slice none 0 0, .int .i64 0, .int .i64 140])) ∨
    (0 ≤ k ∧ Ris (A ++ l) ∧ ∃ ad cc D, e = .returned (.tuple #[.slice ad (gO (gB A l)).length cc, .int .i64 (((gO (gB A l)).length : Int) - (hadL sl : Int)), .int .i64 0]) ∧ Ck w' w.heap.size (.slice ad (gO (gB A l)).length cc) ((gO (gB A l)).map encC) D))
theorem info75 : (Tryd.prog.info? 75).map (fun i => i.zero.map (·.cells)) = some (some (riC z0 false).toArray) := by kernel_rfl
set_option maxRecDepth 100000 in
set_option maxHeartbeats 4000000 in
theorem behindP (o : ByteArray) (k : Int) (F : Nat → Prop) (S p n : Nat) (st : K.Sx) (Z : ByteArray → List En) (ad : Option Addr) (N c : Nat) (l : List Sm) (w : World) (h : SQ F w S p n st Z) (hG : Gv w) (hlo : 2 ≤ w.heap.size) (hL : Ss w ad l) (hN : l.length = N) (hN9 : N ≤ 100000) :
    Calls Tryd.prog 21 #[.pointer (some ⟨S, 0, none⟩), .string o, .int .i64 k, .slice ad N c] w fun e w' => BhP w k (enL (Z o) k).1 (enL (Z o) k).2 l e w' := by
  have hz := h.sz
  have hen := hz.en o k
  have HO := hidden (openP o k F S p n st Z w h hG hlo)
  generalize enL (Z o) k = q9 at *
  obtain ⟨sl, A⟩ := q9
  simp only at *
  have HG := hidden hG
  have HLO := hidden hlo
  have HL := hidden hL
  have HN := hidden hN
  have HE := hidden hen
  have hopn := gF_open hen.2.2.1
  have hokg := okG hen.2.2.1
  have hris := ris_open (l := l) hen.2.2.1 hen.2.1
  have hnil := gF_nil hen.2.2.1
  have HB : Hid (gB A l = l.foldl gS ([], (gF A).2)) := hidden rfl
  obtain ⟨op, hop⟩ : ∃ op, (gF A).2 = op := ⟨_, rfl⟩
  rw [hop] at HO HB hopn hris hnil
  have hfew : op.length ≤ 1000 := by rw [← hop]; exact encC_few hokg.fit2
  have HP := hidden (And.intro hopn (And.intro hris hnil))
  have hok2 : ∀ x ∈ op, OkS x := by rw [← hop]; exact hokg.ok2
  have HK2 := hidden hok2
  have hfit : (encC op).length ≤ 128 := by rw [← hop]; exact hokg.fit2
  have HF := hidden hfit
  obtain ⟨M, hM⟩ : ∃ M, op.length = M := ⟨_, rfl⟩
  have HM := hidden hM
  have hM9 : M ≤ 1000 := by omega
  clear h hz hG hlo hL hN hen hopn hokg hris hnil hop hfew hok2 hfit hM
  by_cases hk : k < 0
  · clear HO
    go_enter Tryd.func21, Tryd.ntmps21
    go_wp2_with fail
    go_ret3
    exact ⟨Below.refl _ _, .inl ⟨hk, rfl⟩⟩
  · have hk0 : 0 ≤ k := by omega
    go_enter Tryd.func21, Tryd.ntmps21
    go_wp2_with fail
    refine HO.out.mono ?_
    rintro e w1 ⟨ad1, c1, rfl, o1, k1, b1⟩
    rw [HM.out] at o1 ⊢
    have S1 := hidden (ss_of_owns o1 HK2.out)
    have B1 := hidden b1
    clear o1 k1 b1 HO
    go_wp2_with (refine wpList_alloc_blk rfl 75 rfl 12 rfl (riC z0 false) info75 ?_; intro w2 B2 bl2 hz2; have HB2 := hidden B2; have BL2 := hidden bl2; clear B2 bl2)
    refine (eachRise w2 w1.heap.size (z0, false) ad1 M c1 op HB2.out (S1.out.later BL2.out) HM.out (by omega) (fun x hx h0 e => by
      obtain ⟨b', off, e2, hlt, _⟩ := S1.out.at' h0
      rw [hx] at e2
      cases e2
      simp only at e
      omega)).mono ?_
    rintro e w3 ⟨rfl, t3, g3⟩
    have B3 : Hid (Below w.heap.size w w3) := hidden ((B1.out.trans (BL2.out.mono B1.out.size)).trans (g3.below (Nat.le_trans B1.out.size BL2.out.size) (fun i hi => by rw [hi]; exact B1.out.size)))
    have B13 : Hid (Below w1.heap.size w1 w3) := hidden (BL2.out.trans (g3.below BL2.out.size (fun i hi => by rw [hi]; exact Nat.le_refl _)))
    have T3 := hidden t3
    clear t3 g3
    generalize (foldE riS op (z0, false)).1 = rr
    go_wp2_with fail
    refine (eachRise w3 w1.heap.size (foldE riS op (z0, false)).2 ad N c l T3.out (HL.out.later B3.out) HN.out (by omega) (fun x hx h0 e => by
      obtain ⟨b', off, e2, hlt, _⟩ := HL.out.at' h0
      rw [hx] at e2
      cases e2
      simp only at e
      have := B1.out.size
      omega)).mono ?_
    rintro e w4 ⟨rfl, t4, g4⟩
    have B4 : Hid (Below w.heap.size w w4) := hidden (B3.out.trans (g4.below B3.out.size (fun i hi => by rw [hi]; exact B1.out.size)))
    have B14 : Hid (Below w1.heap.size w1 w4) := hidden (B13.out.trans (g4.below B13.out.size (fun i hi => by rw [hi]; exact Nat.le_refl _)))
    clear t4 g4
    rw [ri_two HP.out.2.1.1]
    by_cases hr : Ris (op ++ l)
    · have HR := hidden hr
      rw [decide_eq_true hr]
      clear hr
      go_wp2_with fail
      have hlo4 : 2 ≤ w4.heap.size := Nat.le_trans HLO.out B4.out.size
      refine (packerP w4 hlo4).mono ?_
      rintro e w5 ⟨b, rfl, p5, b5⟩
      have P5 := hidden p5
      have B5 := hidden b5
      clear p5 b5
      go_wp2_with fail
      refine (eachPack w4 w5 w4.heap.size b ([], []) ad1 M c1 op P5.out OkG.nil ((HG.out.bel B4.out HLO.out).later B5.out) (S1.out.later B14.out) B5.out (Nat.le_refl _) HM.out (by omega) (by simp) hlo4 B5.out.size).mono ?_
      rintro e w6 ⟨rfl, p6, b6⟩
      rw [HP.out.1] at p6
      have P6 := hidden p6
      have B6 : Hid (Below w4.heap.size w4 w6) := hidden (B5.out.trans b6)
      clear p6 b6
      go_wp2_with fail
      have hokop : OkG ([], op) := ⟨by simp, fun _ => rfl, by simp, HF.out, by simp, HK2.out⟩
      refine (eachPack w4 w6 w4.heap.size b ([], op) ad N c l P6.out hokop ((HG.out.bel B4.out HLO.out).later B6.out) (HL.out.later B4.out) B6.out (Nat.le_refl _) HN.out (by omega) (by simp) hlo4 B6.out.size).mono ?_
      rintro e w7 ⟨rfl, p7, b7⟩
      have hok7 : OkG (l.foldl gS ([], op)) := hokop.fold HL.out.sz
      rw [← HB.out] at p7 hok7
      have h7n : (gB A l).1.length ≤ 1000000 := by have := fold_len l ([], op); rw [← HB.out, HN.out] at this; simp only [List.length_nil] at this; omega
      have h7l : (gB A l).2.length ≤ 1000000 := by have := encC_few hok7.fit2; omega
      have P7 := hidden p7
      have B7 : Hid (Below w4.heap.size w4 w7) := hidden (B6.out.trans b7)
      have HC := hidden (chunksP P7.out hok7 h7l (by omega) B7.out.size)
      clear p7 b7 hok7 h7n h7l hokop
      go_wp2_with fail
      refine HC.out.mono ?_
      rintro e w8 ⟨ad8, c8, D8, rfl, ck8, b8⟩
      have B8 : Hid (Below w.heap.size w w8) := hidden (B4.out.trans ((B7.out.trans b8).mono B4.out.size))
      rw [List.length_map] at ck8 ⊢
      have C8 := hidden (ck8.base B4.out.size)
      have hgl : (gO (gB A l)).length ≤ 1000000000 := by
        obtain ⟨xs, q1, q2⟩ := ck8.row
        have hok7 : OkG (l.foldl gS ([], op)) := OkG.fold ⟨by simp, fun _ => rfl, by simp, HF.out, by simp, HK2.out⟩ HL.out.sz
        have := gO_len hok7
        rw [← HB.out, gO_flat] at this
        have h9 := fold_flat l ([], op)
        rw [← HB.out] at h9
        rw [h9] at this
        simp only [List.flatten_nil, List.nil_append, List.length_append, HM.out, HN.out] at this
        omega
      obtain ⟨X, hX⟩ : ∃ X, (gO (gB A l)).length = X := ⟨_, rfl⟩
      rw [hX] at hgl C8 ⊢
      have HX := hidden hX
      have HS : Hid ((M = 0 → hadL sl = 0) ∧ (M ≠ 0 → hadL sl = 1)) := hidden (by
        have hsa : sl = [] ↔ A = [] := HE.out.2.2.2
        have hoa : op = [] ↔ A = [] := HP.out.2.2
        have hom := HM.out
        unfold hadL
        constructor
        · intro e
          have : op = [] := List.length_eq_zero_iff.1 (by omega)
          rw [hsa.2 (hoa.1 this)]
          rfl
        · intro e
          have : sl ≠ [] := fun e2 => e (by rw [← hom, hoa.2 (hsa.1 e2)]; rfl)
          have := List.length_pos_iff.2 this
          omega)
      clear ck8 b8 hX HC
      have HFI : Hid (∀ q : Int, q = (hadL sl : Int) → BhP w k sl A l (.returned (.tuple #[.slice ad8 X c8, .int .i64 ((X : Int) - q), .int .i64 0])) w8) := hidden (fun q hq => ⟨B8.out, .inr (.inr ⟨hk0, HP.out.2.1.2.1 HR.out, ad8, c8, D8, by rw [HX.out, hq], by rw [HX.out]; exact C8.out⟩)⟩)
      rcases (show M = 0 ∨ M = 1 ∨ 2 ≤ M by omega) with hM0 | hM1 | hM2
      · have H0 := hidden (HFI.out 0 (by rw [HS.out.1 hM0]; rfl))
        subst hM0
        simp only [Int.sub_zero] at H0
        go_wp2_with fail
        go_ret3
        first | exact H0.out | simpa using H0.out
      · have H0 := hidden (HFI.out 1 (by rw [HS.out.2 (by omega)]; rfl))
        subst hM1
        go_wp2_with fail
        go_ret3
        exact H0.out
      · have H0 := hidden (HFI.out 1 (by rw [HS.out.2 (by omega)]; rfl))
        have hm1 : ¬ (M : Int) < 1 := by omega
        have hm2 : (1 : Int) < (M : Int) := by omega
        go_wp2_with fail
        go_ret3
        exact H0.out
    · have HR := hidden hr
      rw [decide_eq_false hr]
      clear hr
      go_wp2_with fail
      go_ret3
      exact ⟨B4.out, .inr (.inl ⟨hk0, fun e => HR.out (HP.out.2.1.2.2 e), rfl⟩)⟩

end Go.Proofs.YtlppibigceeimaaDoor
