/-
  WireWrites: the walk.
-/
import Derived.Test.YtalmpmhnkilalaaGreatDoorLtA
import Derived.Test.YtalmpmhnkilalaaGreatDoorDxC
import Derived.Test.YtalmpmhnkilalaaGreatDoorBkD
namespace Go.Proofs.YtalmpmhnkilalaaGreatDoor
open Go Go.RowKit
set_option linter.unusedVariables false
set_option linter.unusedSimpArgs false

/-- A request with other writes. -/
def fmW (fm : Nat → FM) (m : FM) : Nat → FM := fun i => if i = 2 then m else fm i
theorem fmW_cells (k : Int) (fm : Nat → FM) (m : FM) : (cQ k fm).set 3 m.val = cQ k (fmW fm m) := by
  unfold cQ fmW
  rfl
theorem LL.chg {B : Nat} {w w' : World} {g N c : Nat} {ys : List Ser} {bh : Ser} {F : Nat → Prop} (h : LL B w g N c ys bh) (hc : Chg F w w') (hF : ∀ i, F i → i < B) : LL B w' g N c ys bh := by
  have ow : ∀ {e k : Nat} {v : Value} {n : Nat} {xs : List Value}, w.ownsRow B e k v n xs → w'.ownsRow B e k v n xs := fun ho => hc.owns ho (fun q hq hf => by have h1 := (ho.lt q hq).1; have h2 := hF q hf; omega)
  refine ⟨ow h.own, h.len, fun y hy => ?_, h.bhl, h.cap⟩
  obtain ⟨⟨m1, m2, m3, m4, m5⟩, h2⟩ := h.lent y hy
  exact ⟨⟨m1, m2, ow m3, ow m4, m5⟩, h2⟩
theorem small_all {w : World} {k : Int} {fm : Nat → FM} (h : RqM w k fm) (i : Nat) : Small (fm i).fv := by
  by_cases hi : i < 12
  · exact small_of (h.mem i hi) ⟨i, hi, h.kd i hi⟩
  · rw [h.tail i (by omega), zM_fv]
    have : kdQ i = .tk := by
      match i, hi with
      | 0, hi => omega
      | 1, hi => omega
      | 2, hi => omega
      | 3, hi => omega
      | 4, hi => omega
      | 5, hi => omega
      | 6, hi => omega
      | 7, hi => omega
      | 8, hi => omega
      | 9, hi => omega
      | 10, hi => omega
      | i + 11, _ => rfl
    rw [this]
    trivial

set_option maxHeartbeats 16000000 in
set_option maxRecDepth 100000 in
theorem writes_any (k : Int) (fm : Nat → FM) (w : World) (hr : RqM w k fm) (hwf : WfF (fm 2)) (hG : Gv w) :
    Calls Tryz.prog 3 #[.agg (cQ k fm).toArray] w fun e w' => e = .returned (.bool true) ∧ Below w.heap.size w w' := by
  obtain ⟨a2, c2, l2, q2⟩ : ∃ a c l, fm 2 = .ws a c l := by have := hr.kd 2 (by omega); cases h : fm 2 <;> rw [h] at this <;> first | (cases this; done) | exact ⟨_, _, _, rfl⟩
  obtain ⟨a3, c3, l3, q3⟩ : ∃ a c l, fm 3 = .ms a c l := by have := hr.kd 3 (by omega); cases h : fm 3 <;> rw [h] at this <;> first | (cases this; done) | exact ⟨_, _, _, rfl⟩
  rw [q2] at hwf
  have HR := hidden hr
  have HG := hidden hG
  have HWF : Hid (∀ x ∈ l2, WfS x) := hidden hwf
  have h2w : 2 ≤ w.heap.size := World.block_lt_of_cell? w _ (hG.tab 0 (by omega))
  have HM2 : Hid (l2.length ≤ 9223372036854775807 ∧ Es w a2 2 (l2.map Ser.cells) ∧ ∀ x ∈ l2, SerN w x) := hidden (by have := hr.mem 2 (by omega); rw [q2] at this; exact this)
  obtain ⟨n2, hn2⟩ : ∃ n, l2.length = n := ⟨_, rfl⟩
  obtain ⟨n3, hn3⟩ : ∃ n, l3.length = n := ⟨_, rfl⟩
  have HQ2 := hidden q2
  have HB := hidden (Blk.new w 26 (cQ k fm))
  obtain ⟨w2, hw2⟩ : ∃ w2, w.alloc (.cells (cQ k fm).toArray 26) = w2 := ⟨_, rfl⟩
  have HL2 : Hid (Below w.heap.size w w2) := hidden (by rw [← hw2]; exact (Below.refl _ _).alloc (Nat.le_refl _) _)
  rw [hw2] at HB
  have HLAY : Hid (∀ wx, Lat w2 wx → wx.cell? ⟨w.heap.size, 3, none⟩ = some (.slice a2 n2 c2) ∧ wx.cell? ⟨w.heap.size, 4, none⟩ = some (.slice a3 n3 c3)) := hidden (fun wx hx => by
    have A := HB.out.later hx
    rw [A.cell, A.cell]
    refine ⟨?_, ?_⟩
    · rw [show (3 : Nat) = 2 + 1 from rfl, cQ_at k fm 2 (by omega), q2, ← hn2]; rfl
    · rw [show (4 : Nat) = 3 + 1 from rfl, cQ_at k fm 3 (by omega), q3, ← hn3]; rfl)
  have HN2 := hidden hn2
  rw [hn2] at HM2
  clear hr hwf hG q2 q3 hn2 hn3
  go_enter Tryz.func3, Tryz.ntmps3
  go_wp2_with fail
  try rw [hw2]
  refine (shownP w2 (HG.out.later HL2.out)).mono ?_
  rintro e w3 ⟨rfl, b3⟩
  have HX3 : Hid (Lat w2 w3) := hidden b3
  obtain ⟨y1, y2⟩ := HLAY.out w3 b3
  clear b3 hw2
  go_wp2_with fail
  refine (heavyS a2 n2 c2 100 l2 w3 (HM2.out.2.1.later (HL2.out.trans (Below.mono HX3.out HL2.out.size))) HN2.out HM2.out.1 (fun x hx => ⟨(HWF.out x hx).2.2, (HM2.out.2.2 x hx).2.2.2.2.2⟩)).mono ?_
  rintro e w4 ⟨z8, rfl, hz8, b4⟩
  have HZ8 := hidden hz8
  have HX4 : Hid (Lat w2 w4) := hidden (Lat.trans _ _ _ HX3.out b4)
  have HL4 : Hid (Below w.heap.size w w4) := hidden (HL2.out.trans (Below.mono HX4.out HL2.out.size))
  clear b4 y1 y2 hz8
  obtain ⟨y1, y2⟩ := HLAY.out w4 HX4.out
  cases z8 with
  | true =>
    go_wp2_with fail
    go_ret
    exact ⟨rfl, HL4.out⟩
  | false =>
    by_cases hm3 : (n3 : Int) > 100
    · go_wp2_with fail
      go_ret
      exact ⟨rfl, HL4.out⟩
    · obtain ⟨hn100, hsm⟩ := HZ8.out rfl
      have HSM := hidden hsm
      clear hsm
      have HB4 := hidden (HB.out.later HX4.out)
      go_wp2_with (first
        | (refine wpList_load_blk rfl 26 (.tmp 1) rfl w.heap.size HB4.out rfl rfl rfl rfl ?_)
        | (refine wpList_new_var rfl rfl 26 5 (.tmp 29) rfl rfl rfl rfl 13 (by kernel_rfl) (cQ k fm) rfl (cQ_one _ _) (by simp [Act.put]) rfl ?_; intro w5 B5 bl5 hz5
           have HV5 := hidden B5
           have HX5 : Hid (Lat w2 w5) := hidden (Lat.trans _ _ _ HX4.out bl5)
           have HL5 : Hid (Below w.heap.size w w5) := hidden (HL4.out.trans (bl5.mono HL4.out.size))
           have y1' := (HLAY.out w5 HX5.out).1
           clear B5 bl5 hz5 y1 y2))
      refine (lentP a2 n2 c2 l2 w5 (HM2.out.2.1.later HL5.out) (fun x hx => (HM2.out.2.2 x hx).later HL5.out) (fun x hx => ⟨HWF.out x hx, HSM.out x hx⟩) HN2.out (by omega)).mono ?_
      rintro e w6 ⟨g, c6, ys, bh, rfl, hpr, hown, hlent, hbl, hc1, hc2, b6⟩
      have hyl : ys.length = n2 := by have := congrArg List.length hpr; simp at this; rw [this]; exact HN2.out
      have HLL : Hid (LL w5.heap.size w6 g n2 c6 ys bh) := hidden ⟨hown, hyl, hlent, hbl, hc1, hc2⟩
      have HPR := hidden hpr
      have H56 := hidden b6
      have HYL := hidden hyl
      have HV6 := hidden (HV5.out.later b6)
      have f6 := HV6.out.frozen 3
      have d6 : w6.cell? ⟨w4.heap.size, 3, none⟩ = some (.slice a2 n2 c2) := by
        rw [HV6.out.cell, show (3 : Nat) = 2 + 1 from rfl, cQ_at k fm 2 (by omega), HQ2.out, ← HN2.out]; rfl
      clear hpr hown hlent hbl b6 hyl y1'
      go_wp2_with fail
      obtain ⟨qb, hqb⟩ : ∃ qb, w4.heap.size = qb := ⟨_, rfl⟩
      have hq1 : w.heap.size ≤ qb := by have := HL4.out.size; omega
      have hq2 : qb < w5.heap.size := by have := HV5.out.lt; omega
      rw [hqb] at HV6 f6 d6
      rw [hqb]
      obtain ⟨w7, hw7⟩ : ∃ w7, w6.setCell ⟨qb, 3, none⟩ (.slice (some ⟨g, 0, none⟩) n2 c6) = w7 := ⟨_, rfl⟩
      obtain ⟨fmN, hfN⟩ : ∃ fmN, fmW fm (.ws (some ⟨g, 0, none⟩) c6 ys) = fmN := ⟨_, rfl⟩
      have HF2 : Hid (fmN 2 = .ws (some ⟨g, 0, none⟩) c6 ys) := hidden (by rw [← hfN]; rfl)
      have HC67 : Hid (Chg (fun i => i = qb) w6 w7) := hidden (by rw [← hw7]; exact Chg.set ⟨qb, 3, none⟩ _ w6)
      have HV7 : Hid (Blk w7 qb 26 (cQ k fmN)) := hidden (by
        rw [← hw7, ← hfN, ← fmW_cells]
        have := HV6.out.set 3 (.slice (some ⟨g, 0, none⟩) n2 c6)
        rw [← HYL.out] at this ⊢
        exact this)
      have HL6 : Hid (Below w.heap.size w w6) := hidden (HL5.out.trans (H56.out.mono HL5.out.size))
      have HL7 : Hid (Below w.heap.size w w7) := hidden (HL6.out.trans (HC67.out.below HL6.out.size (fun i hi => by have hi : i = qb := hi; omega)))
      have HLL7 : Hid (LL w5.heap.size w7 g n2 c6 ys bh) := hidden (HLL.out.chg HC67.out (fun i hi => by have hi : i = qb := hi; omega))
      have HRB7 : Hid (Blk w7 w.heap.size 26 (cQ k fm)) := hidden (HC67.out.blk ((HB.out.later HX5.out).later H56.out) (fun e => by have e : w.heap.size = qb := e; have := HB4.out.lt; omega))
      have HFV : Hid ((fun i => (fmN i).fv) = fun i => (fm i).fv) := hidden (by
        rw [← hfN]
        funext i
        unfold fmW
        by_cases h2 : i = 2
        · subst h2
          rw [if_pos rfl, HQ2.out]
          show FV.ws (ys.map prS) = FV.ws (l2.map prS)
          rw [HPR.out]
        · rw [if_neg h2])
      have HRN : Hid (RqM w7 k fmN) := hidden (by
        have hr7 := HR.out.later HL7.out
        have hkd : ∀ i, (fmN i).fv = (fm i).fv := fun i => congrFun HFV.out i
        refine ⟨fun i hi => by rw [hkd]; exact hr7.kd i hi, fun i hi => ?_, hr7.k64, fun i hi => ?_⟩
        · rw [← hfN]
          unfold fmW
          by_cases h2 : i = 2
          · rw [if_pos h2]
            refine ⟨by rw [HYL.out]; omega, ?_, fun y hy => (HLL7.out.lent y hy).ser⟩
            have := HLL7.out.es
            rw [List.map_append] at this
            exact this.left
          · rw [if_neg h2]
            exact hr7.mem i hi
        · rw [← hfN]
          unfold fmW
          rw [if_neg (by omega)]
          exact hr7.tail i hi)
      rw [hw7]
      clear hw7 hfN f6 d6 hqb
      obtain ⟨E1, C1, hE1⟩ : ∃ E C, encE2 k (fun i => (fm i).fv) = (E, C) := ⟨_, _, rfl⟩
      have HE1 := hidden hE1
      have HD1 : Hid (docEnc k (fun i => (fm i).fv) = (E1, C1)) := hidden (by
        rw [docEnc_eq HR.out.sh (fun i => small_all HR.out i), ← hE1]
        rfl)
      clear hE1
      go_loopw [6, 7, 8, 9, 10, 11, 12] (fun v6 v7 v8 v9 v10 v11 v12 wx => ∃ i : Nat, v6 = .int .i64 (i : Int) ∧ i ≤ 2 ∧ Hid (Below w7.heap.size w7 wx)) (fun v6 _ _ _ _ _ _ _ => 2 - (intOf v6).toNat)
      case atStart => exact ⟨0, rfl, by omega, hidden (Below.refl _ _)⟩
      case round =>
        obtain ⟨i, rfl, hi, hI⟩ := hrel
        have HLr : Hid (Below w.heap.size w wr) := hidden (HL7.out.trans (hI.out.mono HL7.out.size))
        by_cases hin : i < 2
        · have hin' : (i : Int) < 2 := by omega
          have HVr := hidden (HV7.out.later hI.out)
          have HRNr := hidden (HRN.out.later hI.out)
          go_wp2_with (first
            | (refine wpList_load_blk rfl 26 (.tmp 5) rfl qb HVr.out rfl rfl rfl rfl ?_))
          refine (encodeP k fmN wr HRNr.out.kd ⟨HRNr.out.mem, HG.out.later HLr.out⟩ HRNr.out.k64 (by have := HLr.out.size; omega)).mono ?_
          rw [HFV.out, HE1.out]
          rintro e w8 ⟨ad8, n8, cp8, rfl, o8, hl8, by8, hle8, b8⟩
          simp only at o8 hl8 by8 ⊢
          have HO8 := hidden o8
          have HY8 := hidden (And.intro hl8 by8)
          have Hr8 := hidden b8
          have HL8 : Hid (Below w.heap.size w w8) := hidden (HLr.out.trans (b8.mono HLr.out.size))
          have H78 : Hid (Lat w7 w8) := hidden (Lat.trans _ _ _ hI.out b8)
          have hle8' : n8 ≤ 1048576 := hle8
          have HRB8 := hidden (HRB7.out.later H78.out)
          clear o8 hl8 by8 b8 hle8
          go_wp2_with (first
            | (refine wpList_load_blk rfl 26 (.tmp 1) rfl w.heap.size HRB8.out rfl rfl rfl rfl ?_))
          refine (encodeR k fm w8 HR.out.kd (fun i hi => (HR.out.mem i hi).later HL8.out) HR.out.k64).mono ?_
          rw [HD1.out]
          rintro e w9 ⟨ad9, n9, cp9, rfl, o9, by9, b9⟩
          simp only at o9 by9 ⊢
          have hn9 : C1.length = n9 := by have := o9.1; rw [cells8_length] at this; omega
          obtain rfl : n8 = n9 := by rw [← hn9]; exact HY8.out.1.symm
          have HS9 := hidden (sl_of_owns o9 by9)
          have H89 := hidden b9
          have H79 : Hid (Lat w7 w9) := hidden (Lat.trans _ _ _ H78.out b9)
          have HL9 : Hid (Below w.heap.size w w9) := hidden (HL8.out.trans (b9.mono HL8.out.size))
          have e1 : w9.cell? ⟨qb, 3, none⟩ = some (.slice (some ⟨g, 0, none⟩) n2 c6) := by
            rw [(HV7.out.later H79.out).cell, show (3 : Nat) = 2 + 1 from rfl, cQ_at k fmN 2 (by omega), HF2.out, ← HYL.out]
            rfl
          have e2 : w9.cell? ⟨w.heap.size, 3, none⟩ = some (.slice a2 n2 c2) := by
            rw [(HRB7.out.later H79.out).cell, show (3 : Nat) = 2 + 1 from rfl, cQ_at k fm 2 (by omega), HQ2.out, ← HN2.out]; rfl
          clear o9 by9 b9 hn9
          go_wp2_with fail
          refine (stillP w5.heap.size g n2 c6 ys bh a2 c2 l2 w9 (HLL7.out.later H79.out) (HM2.out.2.1.later HL9.out) (fun x hx => (HM2.out.2.2 x hx).later HL9.out) HPR.out HN2.out (by omega)).mono ?_
          rintro e wa ⟨rfl, ba⟩
          have H8a : Hid (Lat w8 wa) := hidden (Lat.trans _ _ _ H89.out ba)
          have Hra : Hid (Lat wr wa) := hidden (Lat.trans _ _ _ Hr8.out H8a.out)
          have s1 := run_string_of (P := Tryz.prog) 22 5 9 Tryz.underlying22 Tryz.underlying5 Tryz.underlying9 (cap := cp8) ((Chg.of_below (F := fun _ => False) H8a.out).sl (sl_of_owns HO8.out HY8.out.2) (fun _ _ _ e => e))
          have s2 := run_string_of (P := Tryz.prog) 22 5 9 Tryz.underlying22 Tryz.underlying5 Tryz.underlying9 (cap := cp9) ((Chg.of_below (F := fun _ => False) ba).sl HS9.out (fun _ _ _ e => e))
          have HOA : Hid (wa.ownsRow wr.heap.size 5 1 (.slice ad8 n8 cp8) n8 (cells8 C1)) := hidden (owl HO8.out H8a.out)
          clear ba e1 e2
          go_wp2_with fail
          clear s1 s2
          have HFIN : Hid (∀ wx, Chg (fun q => (Value.slice ad8 n8 cp8).ownBlock = some q) wa wx → Below w7.heap.size w7 wx) := hidden (fun wx hx => by
            have h1 : Below w7.heap.size w7 wa := hI.out.trans (Below.mono Hra.out hI.out.size)
            exact h1.trans (hx.below h1.size (fun q hq => by have h2 := (HOA.out.lt q hq).1; have h3 := hI.out.size; omega)))
          obtain ⟨B8, hB8⟩ : ∃ B, wr.heap.size = B := ⟨_, rfl⟩
          rw [hB8] at HOA
          clear hB8 Hra Hr8 H78 HL8 H8a HO8 HY8 HVr HRNr HRB8 HS9 H89 H79 HL9 HLr hI
          go_loopw [12] (fun v12 wx => ∃ (j : Nat) (R : List Int), v12 = .int .i64 (j : Int) ∧ j ≤ n8 ∧ Hid (R.length = n8 ∧ wx.ownsRow B8 5 1 (.slice ad8 n8 cp8) n8 (cells8 R) ∧ Chg (fun q => (Value.slice ad8 n8 cp8).ownBlock = some q) wa wx)) (fun v12 _ => n8 - (intOf v12).toNat)
          case atStart => exact ⟨0, C1, rfl, by omega, hidden ⟨by have := HOA.out.1; rw [cells8_length] at this; omega, HOA.out, Chg.refl _ _⟩⟩
          case round =>
            obtain ⟨j, R, rfl, hj, hJ⟩ := hrel
            by_cases hjn : j < n8
            · have hjn' : (j : Int) < (n8 : Int) := by omega
              obtain ⟨ga, hga⟩ : ∃ ga, ad8 = some ⟨ga, 0, none⟩ := by
                rcases hJ.out.2.1.2 with ⟨e, h9⟩ | ⟨g9, cap, cur, e, _⟩
                · omega
                · injection e with e1 e2 e3
                  exact ⟨g9, e1⟩
              subst hga
              obtain ⟨hRl, hRo, hRc⟩ := hJ.out
              have HRO := hidden hRo
              have HRC := hidden hRc
              have hset := owns_set hRo j 7 (by omega)
              have HSET := hidden hset
              rcases hRo.2 with ⟨e, _⟩ | ⟨g9, cap, cur, e, _, hh, hn9, hcm9, hcs9, htk⟩
              · cases e
              · injection e with e1 e2 e3
                simp at e1
                subst e1
                have ff := frozen_of_row _ ga j _ 5 hh
                clear e2 e3 hh hn9 hcm9 hcs9 htk hset hRo hRc
                have cj : wr.cell? ⟨ga, j, none⟩ = some (.int .u8 (R.getD j 0)) := by
                  have h1 := (HRO.out.cells rfl) j (.int .u8 (R.getD j 0)) (by
                    have hlt : j < R.length := by omega
                    simp [cells8, List.getD, hlt])
                  rw [Addr.add_lit, Nat.zero_add] at h1
                  exact h1
                go_wp2_with fail
                refine ⟨⟨j + 1, R.set j 7, by first | rfl | simp, by omega, hidden ⟨by rw [List.length_set]; exact hRl, HSET.out, HRC.out.trans ((Chg.set ⟨ga, j, none⟩ _ wr).mono (fun q _ hq => by rw [show q = ga from hq]; rfl)) (fun _ _ e => e)⟩⟩, ?_⟩
                show n8 - ((j : Int) + 1).toNat < n8 - (j : Int).toNat
                omega
            · obtain rfl : j = n8 := by omega
              go_wp2_with fail
              refine ⟨⟨i + 1, by first | rfl | simp, by omega, hidden (HFIN.out _ hJ.out.2.2)⟩, ?_⟩
              show 2 - ((i : Int) + 1).toNat < 2 - (i : Int).toNat
              omega
        · obtain rfl : i = 2 := by omega
          go_wp2_with fail
          go_ret
          exact ⟨rfl, HLr.out⟩

end Go.Proofs.YtalmpmhnkilalaaGreatDoor
