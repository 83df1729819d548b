/-
  The walk of WalAny.
-/
import Derived.Test.YtnfjhdedcnbdbaaWaE
import Derived.Test.YtnfjhdedcnbdbaaWaB
import Derived.Test.YtnfjhdedcnbdbaaDkC
import Derived.Test.YtnfjhdedcnbdbaaRkE
import Derived.Deep.CutRange
namespace Go.Proofs.Ytnfjhdedcnbdbaa
open Go.RowKit
set_option linter.unusedVariables false
set_option linter.unusedSimpArgs false

/-- The law's world while it is laid. -/
structure W2 (W A : World) (wp p x : Nat) (F G : Nat → Prop) (S T : St) (lv mv : Value) : Prop where
  b : Blk A wp 33 [.pointer (some ⟨p, 0, none⟩), lv, .pointer (some ⟨x, 0, none⟩), mv]
  d : Dk 71 66 A p F S
  r : Dk 77 74 A x G T
  ap : ∀ i, F i → ¬ G i
  lf : ∀ i, F i → W.heap.size ≤ i
  lg : ∀ i, G i → W.heap.size ≤ i
  lw : W.heap.size ≤ wp
  bl : Lat W A
theorem W2.nf {W A : World} {wp p x : Nat} {F G : Nat → Prop} {S T : St} {lv mv : Value} (h : W2 W A wp p x F G S T lv mv) : ¬ F wp ∧ ¬ G wp := by
  have hg : Tg A wp 33 := h.b.tg
  refine ⟨fun k => ?_, fun k => ?_⟩
  · rcases h.d.tg _ k with q | q | q | q <;> exact absurd (hg.one q) (by decide)
  · rcases h.r.tg _ k with q | q | q | q <;> exact absurd (hg.one q) (by decide)
theorem W2.low {W A A' : World} {F : Nat → Prop} (h : Lat W A) (hc : Chg F A A') (hl : ∀ i, F i → W.heap.size ≤ i) : Lat W A' := Below.trans h (hc.below h.size hl)
theorem W2.setD {W A A' : World} {wp p x : Nat} {F G : Nat → Prop} {S T S' : St} {lv mv : Value} (h : W2 W A wp p x F G S T lv mv) (hk : Dks 71 66 A A' p F S') : ∃ F', W2 W A' wp p x F' G S' T lv mv := by
  obtain ⟨F', k1, k2, k3⟩ := hk
  refine ⟨F', k2.blk h.b h.nf.1, k1, h.r.chg k2 (fun i hi k => h.ap i k hi), fun i hi k => ?_, fun i hi => ?_, h.lg, h.lw, W2.low h.bl k2 h.lf⟩
  · rcases k3 i hi with q | q
    · exact h.ap i q k
    · have := h.r.lt i k; omega
  · rcases k3 i hi with q | q
    · exact h.lf i q
    · have := h.bl.size; omega
theorem W2.setR {W A A' : World} {wp p x : Nat} {F G : Nat → Prop} {S T S' : St} {lv mv : Value} (h : W2 W A wp p x F G S T lv mv) (hk : Dks 77 74 A A' x G S') : ∃ G', W2 W A' wp p x F G' S S' lv mv := by
  obtain ⟨F', k1, k2, k3⟩ := hk
  refine ⟨F', k2.blk h.b h.nf.2, h.d.chg k2 (fun i hi k => h.ap i hi k), k1, fun i hi k => ?_, h.lf, fun i hi => ?_, h.lw, W2.low h.bl k2 h.lg⟩
  · rcases k3 i k with q | q
    · exact h.ap i hi q
    · have := h.d.lt i hi; omega
  · rcases k3 i hi with q | q
    · exact h.lg i q
    · have := h.bl.size; omega
theorem W2.ww {W A : World} {wp p x : Nat} {F G : Nat → Prop} {S : St} {lv mv : Value} (h : W2 W A wp p x F G S S lv mv) : WW A wp p x F G S lv mv := ⟨h.b, h.d, h.r, h.ap⟩
theorem W2.lat {W A A' : World} {wp p x : Nat} {F G : Nat → Prop} {S T : St} {lv mv : Value} (h : W2 W A wp p x F G S T lv mv) (hl : Lat A A') : W2 W A' wp p x F G S T lv mv := ⟨h.b.later hl, h.d.lat hl, h.r.lat hl, h.ap, h.lf, h.lg, h.lw, Lat.trans _ _ _ h.bl hl⟩
theorem W2.opened {W A A' : World} {wp p x : Nat} {F G F' G' : Nat → Prop} {S S' : St} {lv mv lo mo : Value} (h : W2 W A wp p x F G S S lv mv) (k : WW A' wp p x F' G' S' lo mo) (hc : Chg (fun i => F i ∨ G i ∨ i = wp) A A') (n1 : New A F F') (n2 : New A G G') : W2 W A' wp p x F' G' S' S' lo mo := by
  refine ⟨k.b, k.d, k.r, k.ap, fun i hi => ?_, fun i hi => ?_, h.lw, W2.low h.bl hc (fun i hi => ?_)⟩
  · rcases n1 i hi with q | q
    · exact h.lf i q
    · have := h.bl.size; omega
  · rcases n2 i hi with q | q
    · exact h.lg i q
    · have := h.bl.size; omega
  · rcases hi with q | q | rfl
    · exact h.lf i q
    · exact h.lg i q
    · exact h.lw

/-- A disk whose power stays, of small files. -/
def Sml (S : St) : Prop := S.fuse = none ∧ S.falls ≤ 1099511627776 ∧ ∀ i, (S.file i).length ≤ 1048576
theorem Sml.trunc {S : St} (h : Sml S) (f n : Int) : Sml (S.truncate f n).2 := by
  have ho : S.op = (0, S) := by unfold St.op; rw [h.1]
  unfold St.truncate
  split
  · exact h
  · split
    · exact h
    · rename_i x hx
      split
      · exact h
      · rw [ho]
        simp only [ne_eq, not_true_eq_false, if_false]
        refine ⟨h.1, h.2.1, fun i => ?_⟩
        show (match (S.L.set f.toNat ⟨x.b.take n.toNat, min x.n n.toNat⟩)[i]? with | some x => x.b | none => []).length ≤ _
        rw [List.getElem?_set]
        by_cases hi : f.toNat = i
        · rw [if_pos hi]
          subst hi
          have hq := h.2.2 f.toNat
          unfold St.file at hq
          rw [hx] at hq
          rw [if_pos (List.getElem?_eq_some_iff.1 hx).1]
          simp only [List.length_take] at hq ⊢
          omega
        · rw [if_neg hi]
          exact h.2.2 i
theorem Sml.cutLive {S : St} (h : Sml S) (a n : Nat) : Sml (S.cutLive a n).2 := by
  unfold St.cutLive
  split
  · exact h.trunc _ _
  · exact h
theorem Sml.cutOther {S : St} (h : Sml S) (a : Nat) : Sml (S.cutOther a).2 := by
  unfold St.cutOther
  split
  · exact h.trunc _ _
  · exact h
theorem Sml.opens {S : St} (h : Sml S) : Sml S.opens.2 := by
  unfold St.opens
  split
  · exact h
  · have hc : ∀ a n, Sml (S.cutRest a n).2 := fun a n => by
      unfold St.cutRest
      split
      · exact h.cutLive _ _
      · exact (h.cutLive _ _).cutOther _
    split <;> exact hc _ _
theorem Sml.append {S : St} (h : Sml S) (f : Int) (b : List Int) (hb : b.length ≤ 5000) (hl : ∀ i, (S.file i).length ≤ 5000) : Sml (S.append f b).2 ∧ ∀ i, ((S.append f b).2.file i).length ≤ (S.file i).length + 5000 := by
  unfold St.append
  split
  · exact ⟨h, fun i => by show (S.file i).length ≤ _; omega⟩
  · split
    · exact ⟨h, fun i => by show (S.file i).length ≤ _; omega⟩
    · rename_i x hx
      split
      · exact ⟨h, fun i => by show (S.file i).length ≤ _; omega⟩
      · have ho : ({ S with L := S.L.set f.toNat ⟨x.b ++ b, x.n⟩ } : St).op = (0, { S with L := S.L.set f.toNat ⟨x.b ++ b, x.n⟩ }) := by
          unfold St.op
          show (match S.fuse with | none => _ | some (0, K) => _ | some (n + 1, K) => _) = _
          rw [h.1]
        rw [ho]
        have key : ∀ i, (({ S with L := S.L.set f.toNat ⟨x.b ++ b, x.n⟩ } : St).file i).length ≤ (S.file i).length + 5000 := fun i => by
          show (match (S.L.set f.toNat ⟨x.b ++ b, x.n⟩)[i]? with | some x => x.b | none => []).length ≤ _
          rw [List.getElem?_set]
          by_cases hi : f.toNat = i
          · rw [if_pos hi]
            subst hi
            rw [if_pos (List.getElem?_eq_some_iff.1 hx).1]
            unfold St.file
            rw [hx]
            simp only [List.length_append]
            omega
          · rw [if_neg hi]
            show (S.file i).length ≤ _
            omega
        refine ⟨⟨h.1, h.2.1, fun i => ?_⟩, key⟩
        have q1 := key i
        have q2 := hl i
        show (({ S with L := S.L.set f.toNat ⟨x.b ++ b, x.n⟩ } : St).file i).length ≤ _
        exact Nat.le_trans q1 (by omega)

set_option maxRecDepth 100000 in
set_option maxHeartbeats 4000000 in
theorem any_any (a0 : Option Addr) (len0 cap0 : Nat) (l0 : List Int) (a1 : Option Addr) (len1 cap1 : Nat) (l1 : List Int) (W : World) (s0 : Sl W a0 len0 l0) (c0 : len0 ≤ cap0) (n0 : a0 = none → len0 = 0 ∧ cap0 = 0) (b0 : cap0 ≤ 9223372036854775807) (s1 : Sl W a1 len1 l1) (c1 : len1 ≤ cap1) (n1 : a1 = none → len1 = 0 ∧ cap1 = 0) (b1 : cap1 ≤ 9223372036854775807) :
    Calls Try.prog 3 #[.slice a0 len0 cap0, .slice a1 len1 cap1] W fun e w' => e = .returned (.bool true) ∧ Below W.heap.size W w' := by
  have HS0 := hidden s0
  have HS1 := hidden s1
  have HN0 := hidden n0
  have HN1 := hidden n1
  clear s0 s1 n0 n1
  go_enter Try.func3, Try.ntmps3
  go_wp2_with fail
  refine (shown_any W).mono ?_
  rintro e w1 ⟨rfl, hb1⟩
  have HL1 : Hid (Lat W w1) := hb1
  clear hb1
  go_wp2_with fail
  refine (bornP w1).mono ?_
  rintro e w2 ⟨wp, p, x, F, G, rfl, hww, hlw, hlf, hlg, hb2⟩
  have HW : Hid (W2 W w2 wp p x F G (St.fresh 2) (St.fresh 2) (.pointer none) (.pointer none)) := by
    have := HL1.out.size
    exact ⟨hww.b, hww.d, hww.r, hww.ap, fun i hi => Nat.le_trans this (hlf i hi), fun i hi => Nat.le_trans this (hlg i hi), Nat.le_trans this hlw, Lat.trans _ _ _ HL1.out hb2⟩
  clear hww hlw hlf hlg hb2 HL1
  go_upto_if 18 with fail
  go_cut [0] from 19 to 20 (fun v0 wx => wx = w2 ∧ ∃ m0 : Nat, v0 = .slice a0 m0 cap0 ∧ m0 ≤ len0 ∧ m0 ≤ 5000)
  case first =>
    by_cases hh : 5000 < len0
    · have hh' : (5000 : Int) < (len0 : Int) := by omega
      obtain ⟨⟨g, off, cp⟩, hg⟩ : ∃ z, a0 = some z := by
        cases a0 with
        | none => have := HN0.out rfl; omega
        | some z => exact ⟨z, rfl⟩
      subst hg
      go_wp2_with fail
      go_meet
      case rel => exact ⟨rfl, 5000, rfl, by omega, Nat.le_refl _⟩
    · have hh' : ¬ (5000 : Int) < (len0 : Int) := by omega
      go_wp2_with fail
      go_meet
      case rel => exact ⟨rfl, len0, rfl, Nat.le_refl _, by omega⟩
  case rest =>
  obtain ⟨hwc, m0, rfl, hm0, hk0⟩ := hcut
  obtain rfl := hwc.symm
  clear hwc
  go_upto_if 23 with fail
  go_cut [1] from 24 to 25 (fun v0 wx => wx = w2 ∧ ∃ m1 : Nat, v0 = .slice a1 m1 cap1 ∧ m1 ≤ len1 ∧ m1 ≤ 5000)
  case first =>
    by_cases hh : 5000 < len1
    · have hh' : (5000 : Int) < (len1 : Int) := by omega
      obtain ⟨⟨g, off, cp⟩, hg⟩ : ∃ z, a1 = some z := by
        cases a1 with
        | none => have := HN1.out rfl; omega
        | some z => exact ⟨z, rfl⟩
      subst hg
      go_wp2_with fail
      go_meet
      case rel => exact ⟨rfl, 5000, rfl, by omega, Nat.le_refl _⟩
    · have hh' : ¬ (5000 : Int) < (len1 : Int) := by omega
      go_wp2_with fail
      go_meet
      case rel => exact ⟨rfl, len1, rfl, Nat.le_refl _, by omega⟩
  case rest =>
  obtain ⟨hwc, m1, rfl, hm1, hk1⟩ := hcut
  obtain rfl := hwc.symm
  clear hwc
  have HSL0 : Hid (∀ A, Lat W A → Sl A a0 m0 (l0.take m0)) := fun A hA => ((Chg.of_below (F := fun _ => False) hA).sl HS0.out (fun _ _ _ h => h)).take hm0
  have HSL1 : Hid (∀ A, Lat W A → Sl A a1 m1 (l1.take m1)) := fun A hA => ((Chg.of_below (F := fun _ => False) hA).sl HS1.out (fun _ _ _ h => h)).take hm1
  have HM0 : Hid (a0 = none → m0 = 0 ∧ cap0 = 0) := fun h => ⟨by have := HN0.out h; omega, (HN0.out h).2⟩
  have HM1 : Hid (a1 = none → m1 = 0 ∧ cap1 = 0) := fun h => ⟨by have := HN1.out h; omega, (HN1.out h).2⟩
  have HLT0 : Hid (∀ z, a0 = some z → 0 < m0 → z.block < W.heap.size) := fun z hz hp => HS0.out.lt z hz (by omega)
  have HLT1 : Hid (∀ z, a1 = some z → 0 < m1 → z.block < W.heap.size) := fun z hz hp => HS1.out.lt z hz (by omega)
  have HT0 : Hid ((l0.take m0).length ≤ 5000) := by show (l0.take m0).length ≤ 5000; rw [List.length_take]; omega
  have HT1 : Hid ((l1.take m1).length ≤ 5000) := by show (l1.take m1).length ≤ 5000; rw [List.length_take]; omega
  clear HS0 HS1 HN0 HN1
  have HZ : Hid (Sml (St.fresh 2) ∧ ∀ i, ((St.fresh 2).file i).length ≤ 0) := by
    have q : ∀ i, ((St.fresh 2).file i).length ≤ 0 := fun i => by
      match i with
      | 0 => exact Nat.le_refl _
      | 1 => exact Nat.le_refl _
      | _ + 2 => exact Nat.le_refl _
    exact ⟨⟨rfl, Nat.zero_le _, fun i => Nat.le_trans (q i) (by omega)⟩, q⟩
  generalize St.fresh 2 = S0 at *
  have e0 : w2.cell? ⟨wp, 0, none⟩ = some (.pointer (some ⟨p, 0, none⟩)) := HW.out.b.cell 0
  go_wp2_with fail
  refine (appendP p F S0 w2 0 a0 m0 cap0 _ HW.out.d HZ.out.1.2.1 (HSL0.out _ HW.out.bl) HM0.out (by omega)).mono ?_
  rintro e w3 ⟨rfl, hk⟩
  obtain ⟨F3, hk⟩ := HW.out.setD hk
  have H3 := hidden hk
  obtain ⟨hs3, hl3⟩ := HZ.out.1.append 0 _ HT0.out (fun i => Nat.le_trans (HZ.out.2 i) (by omega))
  have HZ3 : Hid (Sml (S0.append 0 (l0.take m0)).2 ∧ ∀ i, ((S0.append 0 (l0.take m0)).2.file i).length ≤ 5000) := ⟨hs3, fun i => Nat.le_trans (hl3 i) (by have := HZ.out.2 i; omega)⟩
  obtain ⟨q3, hq3⟩ : ∃ q, S0.append 0 (l0.take m0) = q := ⟨_, rfl⟩
  rw [hq3] at H3 HZ3 ⊢
  have HQ3 := hidden hq3
  clear hk hs3 hl3 e0 hq3
  have e0 : w3.cell? ⟨wp, 0, none⟩ = some (.pointer (some ⟨p, 0, none⟩)) := H3.out.b.cell 0
  go_wp2_with fail
  refine (appendP p F3 q3.2 w3 1 a1 m1 cap1 _ H3.out.d HZ3.out.1.2.1 (HSL1.out _ H3.out.bl) HM1.out (by omega)).mono ?_
  rintro e w4 ⟨rfl, hk⟩
  obtain ⟨F4, hk⟩ := H3.out.setD hk
  have H4 := hidden hk
  obtain ⟨hs4, hl4⟩ := HZ3.out.1.append 1 _ HT1.out HZ3.out.2
  have HZ4 := hidden hs4
  obtain ⟨q4, hq4⟩ : ∃ q, q3.2.append 1 (l1.take m1) = q := ⟨_, rfl⟩
  rw [hq4] at H4 HZ4 ⊢
  have HQ4 := hidden hq4
  clear hk hs4 hl4 e0 hq4
  have e0 : w4.cell? ⟨wp, 2, none⟩ = some (.pointer (some ⟨x, 0, none⟩)) := H4.out.b.cell 2
  go_wp2_with fail
  refine (appendR x G S0 w4 0 a0 m0 cap0 _ H4.out.r HZ.out.1.2.1 (HSL0.out _ H4.out.bl) HM0.out (by omega) (fun z hz hp k => by have q1 := HLT0.out z hz hp; have q2 := H4.out.lg _ k; omega)).mono ?_
  rintro e w5 ⟨rfl, hk⟩
  obtain ⟨G5, hk⟩ := H4.out.setR hk
  have H5 := hidden hk
  rw [HQ3.out] at H5 ⊢
  clear hk e0
  have e0 : w5.cell? ⟨wp, 2, none⟩ = some (.pointer (some ⟨x, 0, none⟩)) := H5.out.b.cell 2
  go_wp2_with fail
  refine (appendR x G5 q3.2 w5 1 a1 m1 cap1 _ H5.out.r HZ3.out.1.2.1 (HSL1.out _ H5.out.bl) HM1.out (by omega) (fun z hz hp k => by have q1 := HLT1.out z hz hp; have q2 := H5.out.lg _ k; omega)).mono ?_
  rintro e w6 ⟨rfl, hk⟩
  obtain ⟨G6, hk⟩ := H5.out.setR hk
  have H6 := hidden hk
  rw [HQ4.out] at H6 ⊢
  clear hk e0
  go_wp2_with fail
  go_loopw [4, 8, 9, 10] (fun v4 v8 v9 v10 wr => v4 = .bool false ∧ ∃ (i : Nat) (F G : Nat → Prop) (S : St) (lv mv : Value), i ≤ 2 ∧ v8 = .int .i64 (i : Int) ∧ W2 W wr wp p x F G S S lv mv ∧ Sml S) (fun v4 v8 v9 v10 _ => 2 - (intOf v8).toNat)
  case atStart => exact ⟨rfl, 0, F4, G6, q4.2, _, _, Nat.zero_le _, rfl, H6.out, HZ4.out⟩
  case round =>
    obtain ⟨rfl, i, Fi, Gi, S, lv, mv, hi, rfl, hW, hS⟩ := hrel
    have HWi := hidden hW
    have HSi := hidden hS
    clear hW hS
    by_cases hlt : i < 2
    · have hlt' : (i : Int) < 2 := by omega
      go_wp2_with fail
      refine (opensP wp p x Fi Gi S lv mv wr HWi.out.ww HSi.out.2.1 HSi.out.2.2).mono ?_
      rintro e w7 ⟨rfl, F7, G7, lo, mo, k1, k2, k3, k4⟩
      have H7 := hidden (HWi.out.opened k1 k2 k3 k4)
      clear k1 k2 k3 k4
      go_wp2_with fail
      refine (filesP wp p x F7 G7 S.opens.2 _ _ w7 H7.out.ww).mono ?_
      rintro e w8 ⟨rfl, hL⟩
      have H8 := hidden (H7.out.lat hL)
      clear hL
      go_wp2_with fail
      exact ⟨⟨rfl, i + 1, F7, G7, S.opens.2, _, _, by omega, by simp, H8.out, HSi.out.opens⟩, by simp [intOf]; omega⟩
    · have hlt' : ¬ (i : Int) < 2 := by omega
      go_wp2_with fail
      go_ret
      exact ⟨rfl, HWi.out.bl⟩

end Go.Proofs.Ytnfjhdedcnbdbaa
