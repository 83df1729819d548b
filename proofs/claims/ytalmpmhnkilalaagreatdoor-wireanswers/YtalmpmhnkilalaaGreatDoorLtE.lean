/-
  WireAnswers: what comes in; the walk. By genlte20.py.
-/
import Derived.Test.YtalmpmhnkilalaaGreatDoorLtA
import Derived.Test.YtalmpmhnkilalaaGreatDoorAnA
import Derived.Test.YtalmpmhnkilalaaGreatDoorBkD
namespace Go.Proofs.YtalmpmhnkilalaaGreatDoor
open Go Go.RowKit
set_option linter.unusedVariables false
set_option linter.unusedSimpArgs false

def WfR : FM → Prop
  | .ro _ _ l => ∀ x ∈ l, x.ln ≤ 281474976710656
  | _ => True
section
variable {H : Type} {enc : TypeId × Value → H} {w : World} {base : Nat}
theorem in_roW {n : Nat} {v : Value} (h : Rd enc w base n 54 [v]) : ∃ m : FM, v = m.val ∧ m.fv.kd = .ro ∧ m.mem w ∧ WfR m := by
  obtain ⟨a, cap, l, rfl, h1, h2, h3, h4, h5, h6⟩ := h.list (k := 2) Ror.cells (fun s => RorM w s ∧ s.ln ≤ 281474976710656) Tryz.underlying54 (by kernel_rfl) (by omega) (fun _ => rfl) (fun m cs hl hr => by
    obtain ⟨_, m, hf⟩ := hr.one Tryz.underlying59 (by kernel_rfl) (by kernel_rfl)
    obtain ⟨v0, c0, g0⟩ := hf 0 _ rfl
    obtain ⟨v1, c1, g1⟩ := hf 1 _ rfl
    obtain ⟨a0, k0, l0, rfl, b1, b2, b3, e0, _, b6⟩ := g0.list La.cells (fun _ => True) Tryz.underlying42 (by kernel_rfl) (by omega) (fun _ => rfl) (fun m cs hl hr => rd_label hl hr)
    obtain ⟨n1, rfl, bn⟩ := g1.int Tryz.underlying48
    have b := bnds_u64 bn
    rw [show Tryz.prog.bytesOf 47 = 32 by kernel_rfl] at b6
    simp only [reachBytes] at b6
    refine ⟨⟨a0, l0.length, k0, l0, n1.toNat⟩, ?_, ⟨e0, rfl, Nat.le_trans b1 b2, (by omega : n1.toNat ≤ 18446744073709551615)⟩, by simp only; omega⟩
    rw [two hl c0 c1]
    unfold Ror.cells
    show [Value.slice a0 l0.length k0, Value.int .u64 n1] = [Value.slice a0 l0.length k0, Value.int .u64 ((n1.toNat : Nat) : Int)]
    rw [show ((n1.toNat : Nat) : Int) = n1 by omega])
  exact ⟨.ro a cap l, rfl, rfl, ⟨by omega, h4, fun x hx => (h5 x hx).1⟩, fun x hx => (h5 x hx).2⟩
/-- A response that came in. -/
theorem open_responseX {n : Nat} {cs : List Value} (h : Rd enc w base n 57 cs) : ∃ e k fm, cs = cA e k fm ∧ RsM w e k fm ∧ WfF (fm 0) ∧ WfR (fm 1) := by
  obtain ⟨hl, m, hf⟩ := h.one Tryz.underlying57 (by kernel_rfl) (by kernel_rfl)
  obtain ⟨v0, c0, g0⟩ := hf 0 _ rfl
  obtain ⟨v1, c1, g1⟩ := hf 1 _ rfl
  obtain ⟨v2, c2, g2⟩ := hf 2 _ rfl
  obtain ⟨v3, c3, g3⟩ := hf 3 _ rfl
  obtain ⟨v4, c4, g4⟩ := hf 4 _ rfl
  obtain ⟨v5, c5, g5⟩ := hf 5 _ rfl
  obtain ⟨e, rfl, be⟩ := g0.int Tryz.underlying30
  obtain ⟨k, rfl, bk⟩ := g1.int Tryz.underlying3
  obtain ⟨m1, rfl, k1, e1, wf1⟩ := in_seW g2
  obtain ⟨m2, rfl, k2, e2, wf2⟩ := in_roW g3
  obtain ⟨m3, rfl, k3, e3⟩ := in_nu g4
  obtain ⟨m4, rfl, k4, e4⟩ := in_ts g5
  let L := [m1, m2, m3, m4]
  refine ⟨e, k, fun i => if h : i < 4 then L[i]'h else zM (kdA i), ?_, ⟨?_, ?_, bnds_i64 be, bnds_i64 bk, fun i hi => by rw [dif_neg (by omega)]⟩, wf1, wf2⟩
  · match cs, hl with
    | [u0, u1, u2, u3, u4, u5], _ =>
      simp only [List.getElem?_cons_zero, List.getElem?_cons_succ, Option.some.injEq] at c0 c1 c2 c3 c4 c5
      subst c0 c1 c2 c3 c4 c5
      rfl
  · intro i hi
    rcases (show i = 0 ∨ i = 1 ∨ i = 2 ∨ i = 3 by omega) with rfl | rfl | rfl | rfl
    all_goals first | exact k1 | exact k2 | exact k3 | exact k4
  · intro i hi
    rcases (show i = 0 ∨ i = 1 ∨ i = 2 ∨ i = 3 by omega) with rfl | rfl | rfl | rfl
    all_goals first | exact e1 | exact e2 | exact e3 | exact e4
end

/-- A response with other series. -/
def fmV (fm : Nat → FM) (m : FM) : Nat → FM := fun i => if i = 0 then m else fm i
theorem fmV_cells (e k : Int) (fm : Nat → FM) (m : FM) : (cA e k fm).set 2 m.val = cA e k (fmV fm m) := by
  unfold cA fmV
  rfl
theorem LL.chgA {B : Nat} {w w' : World} {g N c : Nat} {ys : List Ser} {bh : Ser} {F : Nat → Prop} (h : LL B w g N c ys bh) (hc : Chg F w w') (hF : ∀ i, F i → i < B) : LL B w' g N c ys bh := by
  have ow : ∀ {e k : Nat} {v : Value} {n : Nat} {xs : List Value}, w.ownsRow B e k v n xs → w'.ownsRow B e k v n xs := fun ho => hc.owns ho (fun q hq hf => by have h1 := (ho.lt q hq).1; have h2 := hF q hf; omega)
  refine ⟨ow h.own, h.len, fun y hy => ?_, h.bhl, h.cap⟩
  obtain ⟨⟨m1, m2, m3, m4, m5⟩, h2⟩ := h.lent y hy
  exact ⟨⟨m1, m2, ow m3, ow m4, m5⟩, h2⟩

set_option maxHeartbeats 16000000 in
set_option maxRecDepth 100000 in
theorem answers_any (e k : Int) (fm : Nat → FM) (w : World) (hr : RsM w e k fm) (hwf : WfF (fm 0)) (hwr : WfR (fm 1)) (hG : Gv w) :
    Calls Tryz.prog 5 #[.agg (cA e k fm).toArray] w fun en w' => en = .returned (.bool true) ∧ Below w.heap.size w w' := by
  obtain ⟨a0, c0, l0, q0⟩ : ∃ a c l, fm 0 = .se a c l := by have := hr.kd 0 (by omega); cases h : fm 0 <;> rw [h] at this <;> first | (cases this; done) | exact ⟨_, _, _, rfl⟩
  obtain ⟨a1, c1, l1, q1⟩ : ∃ a c l, fm 1 = .ro a c l := by have := hr.kd 1 (by omega); cases h : fm 1 <;> rw [h] at this <;> first | (cases this; done) | exact ⟨_, _, _, rfl⟩
  obtain ⟨m2, q2⟩ : ∃ m, fm 2 = .nu m := by have := hr.kd 2 (by omega); cases h : fm 2 <;> rw [h] at this <;> first | (cases this; done) | exact ⟨_, rfl⟩
  obtain ⟨a3, c3, l3, q3⟩ : ∃ a c l, fm 3 = .ts a c l := by have := hr.kd 3 (by omega); cases h : fm 3 <;> rw [h] at this <;> first | (cases this; done) | exact ⟨_, _, _, rfl⟩
  rw [q0] at hwf
  rw [q1] at hwr
  have HR := hidden hr
  have HG := hidden hG
  have HWF : Hid (∀ x ∈ l0, WfS x) := hidden hwf
  have HWR : Hid (∀ x ∈ l1, x.ln ≤ 281474976710656) := hidden hwr
  have h2w : 2 ≤ w.heap.size := World.block_lt_of_cell? w _ (hG.tab 0 (by omega))
  have HM0 : Hid (l0.length ≤ 9223372036854775807 ∧ Es w a0 2 (l0.map Ser.cells) ∧ ∀ x ∈ l0, SerN w x) := hidden (by have := hr.mem 0 (by omega); rw [q0] at this; exact this)
  have HM1 : Hid (l1.length ≤ 9223372036854775807 ∧ Es w a1 2 (l1.map Ror.cells) ∧ ∀ x ∈ l1, RorM w x) := hidden (by have := hr.mem 1 (by omega); rw [q1] at this; exact this)
  obtain ⟨N0, hN0⟩ : ∃ n, l0.length = n := ⟨_, rfl⟩
  obtain ⟨N1, hN1⟩ : ∃ n, l1.length = n := ⟨_, rfl⟩
  obtain ⟨N3, hN3⟩ : ∃ n, l3.length = n := ⟨_, rfl⟩
  have HQ := hidden (And.intro q0 (And.intro q1 (And.intro q2 q3)))
  have HNN := hidden (And.intro hN0 (And.intro hN1 hN3))
  have HB := hidden (Blk.new w 57 (cA e k fm))
  obtain ⟨w2, hw2⟩ : ∃ w2, w.alloc (.cells (cA e k fm).toArray 57) = w2 := ⟨_, rfl⟩
  have HL2 : Hid (Below w.heap.size w w2) := hidden (by rw [← hw2]; exact (Below.refl _ _).alloc (Nat.le_refl _) _)
  rw [hw2] at HB
  have HLAY : Hid (∀ wx, Lat w2 wx → wx.cell? ⟨w.heap.size, 2, none⟩ = some (.slice a0 N0 c0) ∧ wx.cell? ⟨w.heap.size, 3, none⟩ = some (.slice a1 N1 c1) ∧ wx.cell? ⟨w.heap.size, 5, none⟩ = some (.slice a3 N3 c3)) := hidden (fun wx hx => by
    have A := HB.out.later hx
    rw [A.cell, A.cell, A.cell]
    refine ⟨?_, ?_, ?_⟩
    · rw [show (2 : Nat) = 0 + 2 from rfl, cA_at e k fm 0 (by omega), q0, ← hN0]; rfl
    · rw [show (3 : Nat) = 1 + 2 from rfl, cA_at e k fm 1 (by omega), q1, ← hN1]; rfl
    · rw [show (5 : Nat) = 3 + 2 from rfl, cA_at e k fm 3 (by omega), q3, ← hN3]; rfl)
  rw [hN0] at HM0
  rw [hN1] at HM1
  have hN19 := HM1.out.1
  clear hr hwf hwr hG q0 q1 q2 q3 hN0 hN1 hN3
  go_enter Tryz.func5, Tryz.ntmps5
  go_wp2_with fail
  try rw [hw2]
  refine (shownP w2 (HG.out.later HL2.out)).mono ?_
  rintro en w3 ⟨rfl, b3⟩
  have HX3 : Hid (Lat w2 w3) := hidden b3
  obtain ⟨y2, y3, y5⟩ := HLAY.out w3 b3
  clear b3 hw2
  go_wp2_with fail
  refine (heavyS a0 N0 c0 2000 l0 w3 (HM0.out.2.1.later (HL2.out.trans (Below.mono HX3.out HL2.out.size))) HNN.out.1 HM0.out.1 (fun x hx => ⟨(HWF.out x hx).2.2, (HM0.out.2.2 x hx).2.2.2.2.2⟩)).mono ?_
  rintro en w4 ⟨z8, rfl, hz8, b4⟩
  have HZ8 := hidden hz8
  have HX4 : Hid (Lat w2 w4) := hidden (Lat.trans _ _ _ HX3.out b4)
  have HL4 : Hid (Below w.heap.size w w4) := hidden (HL2.out.trans (Below.mono HX4.out HL2.out.size))
  clear b4 y2 y3 y5 hz8
  obtain ⟨y2, y3, y5⟩ := HLAY.out w4 HX4.out
  go_wp2_with fail
  go_loopw [5, 6] (fun v5 v6 wx => ∃ i z : Nat, v6 = .int .i64 (i : Int) ∧ v5 = .int .i64 (z : Int) ∧ i ≤ N1 ∧ i ≤ z ∧ z ≤ 281474976900000 ∧ wx = w4) (fun _ v6 _ => N1 - (intOf v6).toNat)
  case atStart => exact ⟨0, 0, rfl, rfl, by omega, by omega, by omega, rfl⟩
  case round =>
    obtain ⟨i, z, rfl, rfl, hi, hiz, hz9, hwx⟩ := hrel
    subst hwx
    by_cases hin : i < N1
    · have hin' : (i : Int) < (N1 : Int) := by omega
      obtain ⟨x, hx⟩ : ∃ x, l1[i]? = some x := ⟨l1[i]'(by have := HNN.out.2.1; omega), by simp⟩
      have hxm : (l1.map Ror.cells)[i]? = some [.slice x.la x.ln x.lc, .int .u64 (x.n : Int)] := by rw [List.getElem?_map, hx]; rfl
      obtain ⟨b5, o5, rfl, hb5, hcell5⟩ := (HM1.out.2.1.later HL4.out) (by intro h0; rw [h0] at hxm; simp at hxm)
      have r0 := hcell5 i _ hxm 0 _ rfl
      rw [Nat.add_zero] at r0
      have hxl := HWR.out x (List.mem_of_getElem? hx)
      generalize x.ln = xln at *
      clear hcell5 hx hb5 hxm
      by_cases hz : z < 100000
      · have hz' : (z : Int) < 100000 := by omega
        go_wp2_with fail
        refine ⟨⟨i + 1, z + 1 + xln, by first | rfl | simp, by first | rfl | simp, by omega, by omega, by omega, by first | trivial | rfl⟩, ?_⟩
        show N1 - ((i : Int) + 1).toNat < N1 - (i : Int).toNat
        omega
      · have hz' : ¬ (z : Int) < 100000 := by omega
        have hz'' : (z : Int) ≥ 100000 := by omega
        cases z8 with
        | true =>
          go_wp2_with fail
          go_ret
          exact ⟨rfl, HL4.out⟩
        | false =>
          go_wp2_with fail
          go_ret
          exact ⟨rfl, HL4.out⟩
    · obtain rfl : i = N1 := by omega
      cases z8 with
      | true =>
        go_wp2_with fail
        go_ret
        exact ⟨rfl, HL4.out⟩
      | false =>
        by_cases hz : z ≥ 100000
        · have hz' : (z : Int) ≥ 100000 := by omega
          go_wp2_with fail
          go_ret
          exact ⟨rfl, HL4.out⟩
        · have hz' : ¬ (z : Int) ≥ 100000 := by omega
          by_cases hm3 : N3 > 100000
          · have hm3' : (N3 : Int) > 100000 := by omega
            go_wp2_with fail
            go_ret
            exact ⟨rfl, HL4.out⟩
          · have hm3' : ¬ (N3 : Int) > 100000 := by omega
            obtain ⟨hn2k, hsm⟩ := HZ8.out rfl
            have HSM := hidden hsm
            clear hsm
            have HB4 := hidden (HB.out.later HX4.out)
            go_wp2_with (first
              | (refine wpList_load_blk rfl 57 (.tmp 1) rfl w.heap.size HB4.out rfl rfl rfl rfl ?_)
              | (refine wpList_new_var rfl rfl 57 7 (.tmp 54) rfl rfl rfl rfl 6 (by kernel_rfl) (cA e k fm) rfl (cA_one _ _ _) (by simp [Act.put]) rfl ?_; intro w5 B5 bl5 hz5
                 have HV5 := hidden B5
                 have HX5 : Hid (Lat w2 w5) := hidden (Lat.trans _ _ _ HX4.out bl5)
                 have HL5 : Hid (Below w.heap.size w w5) := hidden (HL4.out.trans (bl5.mono HL4.out.size))
                 have y2' := (HLAY.out w5 HX5.out).1
                 clear B5 bl5 hz5 y2 y3 y5))
            refine (lentP a0 N0 c0 l0 w5 (HM0.out.2.1.later HL5.out) (fun x hx => (HM0.out.2.2 x hx).later HL5.out) (fun x hx => ⟨HWF.out x hx, HSM.out x hx⟩) HNN.out.1 (by omega)).mono ?_
            rintro en w6 ⟨g, c6, ys, bh, rfl, hpr, hown, hlent, hbl, hc1, hc2, b6⟩
            have hyl : ys.length = N0 := by have := congrArg List.length hpr; simp at this; rw [this]; exact HNN.out.1
            have HLL : Hid (LL w5.heap.size w6 g N0 c6 ys bh) := hidden ⟨hown, hyl, hlent, hbl, hc1, hc2⟩
            have HPR := hidden hpr
            have H56 := hidden b6
            have HYL := hidden hyl
            have HV6 := hidden (HV5.out.later b6)
            have f6 := HV6.out.frozen 2
            have d6 : w6.cell? ⟨wr.heap.size, 2, none⟩ = some (.slice a0 N0 c0) := by
              rw [HV6.out.cell, show (2 : Nat) = 0 + 2 from rfl, cA_at e k fm 0 (by omega), HQ.out.1, ← HNN.out.1]; rfl
            clear hpr hown hlent hbl b6 hyl y2'
            go_upto_region 12 with fail
            obtain ⟨qb, hqb⟩ : ∃ qb, wr.heap.size = qb := ⟨_, rfl⟩
            have hq1 : w.heap.size ≤ qb := by have := HL4.out.size; omega
            have hq2 : qb < w5.heap.size := by have := HV5.out.lt; omega
            rw [hqb] at HV6 f6 d6
            rw [hqb]
            obtain ⟨w7, hw7⟩ : ∃ w7, w6.setCell ⟨qb, 2, none⟩ (.slice (some ⟨g, 0, none⟩) N0 c6) = w7 := ⟨_, rfl⟩
            obtain ⟨fmN, hfN⟩ : ∃ fmN, fmV fm (.se (some ⟨g, 0, none⟩) c6 ys) = fmN := ⟨_, rfl⟩
            have HF2 : Hid (fmN 0 = .se (some ⟨g, 0, none⟩) c6 ys) := hidden (by rw [← hfN]; rfl)
            have HC67 : Hid (Chg (fun i => i = qb) w6 w7) := hidden (by rw [← hw7]; exact Chg.set ⟨qb, 2, none⟩ _ w6)
            have HV7 : Hid (Blk w7 qb 57 (cA e k fmN)) := hidden (by
              rw [← hw7, ← hfN, ← fmV_cells]
              have := HV6.out.set 2 (.slice (some ⟨g, 0, none⟩) N0 c6)
              rw [← HYL.out] at this ⊢
              exact this)
            have HL6 : Hid (Below w.heap.size w w6) := hidden (HL5.out.trans (H56.out.mono HL5.out.size))
            have HL7 : Hid (Below w.heap.size w w7) := hidden (HL6.out.trans (HC67.out.below HL6.out.size (fun i hi => by have hi : i = qb := hi; omega)))
            have HLL7 : Hid (LL w5.heap.size w7 g N0 c6 ys bh) := hidden (HLL.out.chgA HC67.out (fun i hi => by have hi : i = qb := hi; omega))
            have HRB7 : Hid (Blk w7 w.heap.size 57 (cA e k fm)) := hidden (HC67.out.blk ((HB.out.later HX5.out).later H56.out) (fun e => by have e : w.heap.size = qb := e; have := HB4.out.lt; omega))
            have HFV : Hid ((fun i => (fmN i).fv) = fun i => (fm i).fv) := hidden (by
              rw [← hfN]
              funext i
              unfold fmV
              by_cases h2 : i = 0
              · subst h2
                rw [if_pos rfl, HQ.out.1]
                show FV.se (ys.map prS) = FV.se (l0.map prS)
                rw [HPR.out]
              · rw [if_neg h2])
            have HRN : Hid (RsM w7 e k fmN) := hidden (by
              have hr7 := HR.out.later HL7.out
              have hkd : ∀ i, (fmN i).fv = (fm i).fv := fun i => congrFun HFV.out i
              refine ⟨fun i hi => by rw [hkd]; exact hr7.kd i hi, fun i hi => ?_, hr7.e64, hr7.k64, fun i hi => ?_⟩
              · rw [← hfN]
                unfold fmV
                by_cases h2 : i = 0
                · rw [if_pos h2]
                  refine ⟨by rw [HYL.out]; omega, ?_, fun y hy => (HLL7.out.lent y hy).ser⟩
                  have := HLL7.out.es
                  rw [List.map_append] at this
                  exact this.left
                · rw [if_neg h2]
                  exact hr7.mem i hi
              · rw [← hfN]
                unfold fmV
                rw [if_neg (by omega)]
                exact hr7.tail i hi)
            rw [hw7]
            clear hw7 hfN f6 d6 hqb
            have HSA : Hid (∀ i, SmallA (fm i).fv) := hidden (fun i => by
              by_cases h4 : i < 4
              · rcases (show i = 0 ∨ i = 1 ∨ i = 2 ∨ i = 3 by omega) with rfl | rfl | rfl | rfl
                · rw [HQ.out.1]
                  refine ⟨by rw [List.length_map, HNN.out.1]; omega, fun x hx => ?_⟩
                  obtain ⟨y, hy, rfl⟩ := List.mem_map.1 hx
                  have h1 := (HSM.out y hy).2
                  have h2 := (HM0.out.2.2 y hy).2.2.2.2.1
                  show y.S.length ≤ 1000000
                  omega
                · rw [HQ.out.2.1]
                  refine ⟨by rw [List.length_map, HNN.out.2.1]; omega, fun x hx => ?_⟩
                  obtain ⟨y, hy, rfl⟩ := List.mem_map.1 hx
                  exact (HM1.out.2.2 y hy).2.2.2
                · rw [HQ.out.2.2.1]; trivial
                · rw [HQ.out.2.2.2]
                  show l3.length ≤ 2147483647
                  rw [HNN.out.2.2]
                  omega
              · rw [HR.out.tail i (by omega), zM_fv]
                have : kdA i = .ts := by
                  match i, h4 with
                  | 0, h4 => omega
                  | 1, h4 => omega
                  | 2, h4 => omega
                  | i + 3, _ => rfl
                rw [this]
                show (0 : Nat) ≤ 2147483647
                omega)
            obtain ⟨E1, C1, hE1⟩ : ∃ E C, ansQ e k (fun i => (fm i).fv) = (E, C) := ⟨_, _, rfl⟩
            have HE1 := hidden hE1
            have HD1 : Hid (docAns e k (fun i => (fm i).fv) = (E1, C1)) := hidden (by
              rw [docAns_eq HR.out.sh HR.out.e64.1 HR.out.e64.2 (fun i => HSA.out i), hE1])
            clear hE1
            go_wp2_with (first
              | (refine wpList_load_blk rfl 57 (.tmp 7) rfl qb HV7.out rfl rfl rfl rfl ?_))
            refine (answerP e k fmN w7 HRN.out.kd ⟨HRN.out.mem, HG.out.later HL7.out⟩ HRN.out.e64 HRN.out.k64 (by have := HL7.out.size; omega)).mono ?_
            rw [HFV.out, HE1.out]
            rintro en w8 ⟨ad8, n8, cp8, rfl, o8, hl8, by8, hle8, b8⟩
            simp only at o8 hl8 by8 ⊢
            have HO8 := hidden o8
            have HY8 := hidden (And.intro hl8 by8)
            have H78 : Hid (Lat w7 w8) := hidden b8
            have HL8 : Hid (Below w.heap.size w w8) := hidden (HL7.out.trans (b8.mono HL7.out.size))
            have HRB8 := hidden (HRB7.out.later b8)
            clear o8 hl8 by8 b8 hle8
            go_wp2_with (first
              | (refine wpList_load_blk rfl 57 (.tmp 1) rfl w.heap.size HRB8.out rfl rfl rfl rfl ?_))
            refine (answerR e k fm w8 HR.out.kd (fun i hi => (HR.out.mem i hi).later HL8.out) HR.out.e64 HR.out.k64 (fun i _ => HSA.out i) (fun i hi => by
              rcases (show i = 0 ∨ i = 1 ∨ i = 2 ∨ i = 3 by omega) with rfl | rfl | rfl | rfl
              · rw [HQ.out.1]; show l0.length ≤ 2000; rw [HNN.out.1]; omega
              · rw [HQ.out.2.1]; show l1.length ≤ 100000; rw [HNN.out.2.1]; omega
              · rw [HQ.out.2.2.1]; trivial
              · rw [HQ.out.2.2.2]; show l3.length ≤ 100000; rw [HNN.out.2.2]; omega)).mono ?_
            rw [HD1.out]
            rintro en w9 ⟨ad9, n9, cp9, rfl, o9, by9, b9⟩
            simp only at o9 by9 ⊢
            have hn9 : C1.length = n9 := by have := o9.1; rw [cells8_length] at this; omega
            obtain rfl : n8 = n9 := by rw [← hn9]; exact HY8.out.1.symm
            have HS9 := hidden (sl_of_owns o9 by9)
            have H89 := hidden b9
            have H79 : Hid (Lat w7 w9) := hidden (Lat.trans _ _ _ H78.out b9)
            have HL9 : Hid (Below w.heap.size w w9) := hidden (HL8.out.trans (b9.mono HL8.out.size))
            have e1 : w9.cell? ⟨qb, 2, none⟩ = some (.slice (some ⟨g, 0, none⟩) N0 c6) := by
              rw [(HV7.out.later H79.out).cell, show (2 : Nat) = 0 + 2 from rfl, cA_at e k fmN 0 (by omega), HF2.out, ← HYL.out]
              rfl
            have e2 : w9.cell? ⟨w.heap.size, 2, none⟩ = some (.slice a0 N0 c0) := by
              rw [(HRB7.out.later H79.out).cell, show (2 : Nat) = 0 + 2 from rfl, cA_at e k fm 0 (by omega), HQ.out.1, ← HNN.out.1]; rfl
            clear o9 by9 b9 hn9
            go_wp2_with fail
            refine (stillP w5.heap.size g N0 c6 ys bh a0 c0 l0 w9 (HLL7.out.later H79.out) (HM0.out.2.1.later HL9.out) (fun x hx => (HM0.out.2.2 x hx).later HL9.out) HPR.out HNN.out.1 (by omega)).mono ?_
            rintro en wa ⟨rfl, ba⟩
            have H8a : Hid (Lat w8 wa) := hidden (Lat.trans _ _ _ H89.out ba)
            have s1 := run_string_of (P := Tryz.prog) 22 5 9 Tryz.underlying22 Tryz.underlying5 Tryz.underlying9 (cap := cp8) ((Chg.of_below (F := fun _ => False) H8a.out).sl (sl_of_owns HO8.out HY8.out.2) (fun _ _ _ e => e))
            have s2 := run_string_of (P := Tryz.prog) 22 5 9 Tryz.underlying22 Tryz.underlying5 Tryz.underlying9 (cap := cp9) ((Chg.of_below (F := fun _ => False) ba).sl HS9.out (fun _ _ _ e => e))
            have HLa : Hid (Below w.heap.size w wa) := hidden (HL9.out.trans (ba.mono HL9.out.size))
            clear ba e1 e2
            go_wp2_with fail
            go_ret
            exact ⟨by first | rfl | simp, HLa.out⟩

end Go.Proofs.YtalmpmhnkilalaaGreatDoor
