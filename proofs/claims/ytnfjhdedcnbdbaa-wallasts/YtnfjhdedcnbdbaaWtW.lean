/-
  WalLasts: the walk.
-/
import Derived.Test.YtnfjhdedcnbdbaaWtD
import Derived.Test.YtnfjhdedcnbdbaaWaB
import Derived.Test.YtnfjhdedcnbdbaaWtV
import Derived.Deep.CutRange
import Derived.Deep.CutBlock
namespace Go.Proofs.Ytnfjhdedcnbdbaa
open Go.RowKit
set_option linter.unusedVariables false
set_option linter.unusedSimpArgs false

set_option maxRecDepth 100000 in
set_option maxHeartbeats 0 in
theorem lasts_any (size : Int) (fa : Option Addr) (fn fc : Nat) (fl : List Int) (da : Option Addr) (dn dc : Nat) (D : Nat → Dee) (W : World) (hs : Sl W fa fn fl) (hc : fn ≤ fc) (hno : fa = none → fn = 0 ∧ fc = 0) (hfb : fc ≤ 9223372036854775807) (hD : Dees W da dn D) (hdn : dn ≤ 9223372036854775807) :
    Calls Try.prog 4 #[.int .i64 size, .slice fa fn fc, .slice da dn dc] W fun e w' => e = .returned (.bool true) ∧ Below W.heap.size W w' := by
  have HD := hidden hD
  have HS := hidden hs
  have HNO := hidden hno
  clear hD hs hno
  go_enter Try.func4, Try.ntmps4
  go_wp2_with fail
  refine (shown_any W).mono ?_
  rintro e w1 ⟨rfl, hb1⟩
  have HL1 : Hid (Lat W w1) := hb1
  clear hb1
  go_wp2_with fail
  refine (newP 2 w1 (by decide) (by decide)).mono ?_
  rintro e w2 ⟨p, F0, rfl, hk, hlo, hb2⟩
  have HK : Hid (Dk 71 66 w2 p F0 (St.fresh 2)) := hk
  have HLO : Hid (∀ i, F0 i → W.heap.size ≤ i) := fun i hi => Nat.le_trans HL1.out.size (hlo i hi)
  have HL2 : Hid (Lat W w2) := Lat.trans _ _ _ HL1.out hb2
  clear hk hlo hb2 HL1
  have hbt := and64_1023 size
  obtain ⟨z, hz, hz2⟩ : ∃ z : Nat, size % 1024 = (z : Int) ∧ z ≤ 1023 := ⟨(size % 1024).toNat, by omega, by omega⟩
  rw [hz] at hbt
  obtain ⟨sz, hsz⟩ : ∃ sz : Nat, (1024 : Int) + (z : Int) = (sz : Int) := ⟨1024 + z, by omega⟩
  have hsz1 : 1024 ≤ sz ∧ sz ≤ 2047 := by omega
  clear hz
  go_wp2_with fail
  refine (shortP fa fn fc w2 hc HNO.out hfb).mono ?_
  rintro e w3 ⟨rfl, rfl⟩
  rename World => w3
  obtain ⟨m, hm⟩ : ∃ m, min fn 3000 = m := ⟨_, rfl⟩
  have hm1 : m ≤ fn ∧ m ≤ 3000 := by omega
  rw [hm]
  have HSM : Hid (Sl w3 fa m (fl.take m)) := (HS.out.lat HL2.out).take hm1.1
  have HBY : Hid (Byte (fl.take m)) := HSM.out.byte
  have hln : (fl.take m).length = m := HSM.out.len
  generalize fl.take m = st at *
  have hcv := convS (cap := fc) HSM.out
  obtain ⟨c4, w4, hcv2, hl4, hs4⟩ := bytes_new w3 st HBY.out
  rw [hln] at hcv2 hs4
  have HL4 := hidden hl4
  have HS4 := hidden hs4
  have HLN := hidden hln
  clear hl4 hs4 hm hln
  go_wp2_with (first
    | (refine wpList_build_to rfl 42 #[(0, .tmp 37)] rfl [(0, .slice (some ⟨w3.heap.size, 0, none⟩) m c4)] #[.slice (some ⟨w3.heap.size, 0, none⟩) m c4, .slice none 0 0] ?_ (built42z w3.heap.size m c4) ?_; kernel_rfl)
    | (refine wpList_new_var rfl rfl 42 10 (.tmp 38) rfl rfl rfl rfl 2 zero42' [.slice (some ⟨w3.heap.size, 0, none⟩) m c4, .slice none 0 0] rfl (by simp [Value.oneCell']) (by simp) rfl ?_; intro w5 B5 bl5 hz5; have HB5 := hidden B5; have HL5 : Hid (Lat w4 w5) := bl5; have b0 := B5.cell 0; have b1 := B5.cell 1; simp only [List.getElem?_cons_succ, List.getElem?_cons_zero] at b0 b1; clear B5 bl5 hz5))
  obtain ⟨tb, htb⟩ : ∃ tb, w4.heap.size = tb := ⟨_, rfl⟩
  obtain ⟨sb, hsb⟩ : ∃ sb, w3.heap.size = sb := ⟨_, rfl⟩
  have HB5' : Hid (Blk w5 tb 42 [.slice (some ⟨sb, 0, none⟩) m c4, .slice none 0 0]) := by rw [← htb, ← hsb]; exact HB5.out
  have HS5 : Hid (Sl w5 (some ⟨sb, 0, none⟩) m st) := by rw [← hsb]; exact HS4.out.lat HL5.out
  have HLW : Hid (Lat W w5) := Lat.trans _ _ _ HL2.out (Lat.trans _ _ _ HL4.out HL5.out)
  have HK5 : Hid (Dk 71 66 w5 p F0 (St.fresh 2)) := (HK.out.lat HL4.out).lat HL5.out
  have HSB : Hid (¬ F0 sb ∧ W.heap.size ≤ sb ∧ W.heap.size ≤ tb ∧ (0 < m → sb < tb)) := by
    have q1 := HL2.out.size
    have q2 := HL4.out.size
    refine ⟨fun k => ?_, by omega, by omega, fun hp => ?_⟩
    · have := HK.out.lt _ k; omega
    · have := HS4.out.lt _ rfl hp
      simp only at this
      omega
  have HTF : Hid (¬ F0 tb) := fun k => by
    rcases HK5.out.tg _ k with q | q | q | q <;> exact absurd (HB5'.out.tg.one q) (by decide)
  clear b0 b1
  rw [htb, hsb]
  clear HB5 HS4 htb hsb HK HL2 HL4 HL5 HSM hcv hcv2
  refine (formatP p F0 (St.fresh 2) (sz : Int) 9 (some ⟨sb, 0, none⟩) m c4 st w5 HK5.out (by decide) HS5.out (fun h => by cases h) (fun y hy _ => by cases hy; exact HSB.out.1) (by omega)).mono ?_
  have hokH : okH 1 (sz : Int) 9 = true := by unfold okH; simp; omega
  by_cases hfit : m + 33 ≤ sz
  · have HFQ : Hid ((St.fresh 2).format (sz : Int) 9 st = (0, LS 0 0 ⟨1, sz, 9⟩ st [])) := format_q (S := St.fresh 2) (cap := sz) (slots := 9) (x := ⟨[], 0⟩) (y := ⟨[], 0⟩) rfl rfl rfl hokH (by rw [HLN.out]; exact hfit)
    rw [HFQ.out]
    rintro e w6 ⟨rfl, F6, d6, g6, n6⟩
    have HD6 : Hid (Dk 71 66 w6 p F6 (LS 0 0 ⟨1, sz, 9⟩ st [])) := d6
    have HG6 := hidden g6
    have HN6 := hidden n6
    have HB6 := hidden (g6.blk HB5'.out HTF.out)
    clear d6 g6 n6 hokH
    have b0 : w6.cell? ⟨tb, 0, none⟩ = some (.slice (some ⟨sb, 0, none⟩) m c4) := HB6.out.cell 0
    have hfit' : (m : Int) + 33 ≤ (sz : Int) := by omega
    go_wp2_with fail
    have HK0 : Hid (Lgok ⟨1, sz, 9⟩ st []) := ⟨(Hd.ok_iff _).2 ⟨Nat.one_pos, hsz1.1, by show sz ≤ _; omega, by show 1 ≤ 9; omega, by show 9 ≤ 65536; omega⟩, by show 1 < 9223372036854775808; omega, by rw [laid_nil_len, HLN.out]; exact hfit, fun r hr => (by cases hr)⟩
    refine open_walk p F6 (LS 0 0 ⟨1, sz, 9⟩ st []) w6 HD6.out (Nat.zero_le _) _ ?_
    intro e w7 hO
    obtain ⟨F7, d7, g7, n7, lp, sa7, sc7, ra7, rc7, els7, rfl, hlg, hfn, hlp, hsl, hrm⟩ := hO.found (opens_q (by decide) HK0.out) HBY.out (fun r hr => by cases hr)
    have hrm : RecM (fun _ => False) w7 (.slice ra7 0 rc7) [] els7 := hrm
    have hsl : Sl w7 sa7 st.length st := hsl
    rw [HLN.out] at hsl
    rw [show (⟨0, ⟨1, sz, 9⟩, st, [], (laid ⟨1, sz, 9⟩ st []).length⟩ : Fnd).state.length = m from HLN.out, show (⟨0, ⟨1, sz, 9⟩, st, [], (laid ⟨1, sz, 9⟩ st []).length⟩ : Fnd).recs.length = 0 from rfl]
    have HNW : Hid (New w5 F0 F7) := HN6.out.trans n7 HG6.out.size
    have HCH : Hid (Chg F0 w5 w7) := HG6.out.new g7 HN6.out
    have HB7 := hidden (HCH.out.blk HB5'.out HTF.out)
    have HS7 : Hid (Sl w7 (some ⟨sb, 0, none⟩) m st) := HCH.out.sl HS5.out (fun y hy _ => by cases hy; exact HSB.out.1)
    have HT : Hid (TI W w7 p tb tb F7 lp (LS 0 0 ⟨1, sz, 9⟩ st []) ⟨0, 0, ⟨1, sz, 9⟩⟩ ⟨some ⟨sb, 0, none⟩, c4, st, none, 0, [], []⟩ ⟨some ⟨sb, 0, none⟩, c4, st, none, 0, [], []⟩ (fun _ _ => False) (fun _ _ => False)) := by
      have hm5 : sb < w5.heap.size ∨ m = 0 := by
        rcases Nat.eq_zero_or_pos m with h | h
        · exact .inr h
        · exact .inl (HS5.out.lt _ rfl h)
      have htk : Tl.ok ⟨some ⟨sb, 0, none⟩, c4, st, none, 0, [], []⟩ (Mu F7 lp tb tb) w7 := by
        refine ⟨by rw [HLN.out]; exact HS7.out, fun y hy hp k => ?_, RecM.nil _ _, fun _ => ⟨rfl, rfl⟩⟩
        cases hy
        have hp' : 0 < m := by rw [← HLN.out]; exact hp
        rcases k with k | k | k | k
        · rcases HNW.out _ k with q | q
          · exact HSB.out.1 q
          · simp only at q; omega
        · have := HG6.out.size
          simp only at k; omega
        · have := HSB.out.2.2.2 hp'
          simp only at k; omega
        · have := HSB.out.2.2.2 hp'
          simp only at k; omega
      have hcl : Tl.cells ⟨some ⟨sb, 0, none⟩, c4, st, none, 0, [], []⟩ = [.slice (some ⟨sb, 0, none⟩) m c4, .slice none 0 0] := by unfold Tl.cells; rw [HLN.out]; rfl
      refine ⟨d7, hlg, by rw [hcl]; exact HB7.out, by rw [hcl]; exact HB7.out, htk, htk, fun i k => ?_, lat_low HLW.out HCH.out HLO.out, fun _ _ k => k.elim, fun _ _ k => k.elim⟩
      rcases k with k | k | k | k
      · rcases HNW.out i k with q | q
        · exact HLO.out i q
        · have := HLW.out.size; omega
      · have q1 := HLW.out.size
        have q2 := HG6.out.size
        omega
      · rw [k]; exact HSB.out.2.2.1
      · rw [k]; exact HSB.out.2.2.1
    have HFN := hidden hfn
    have HRM := hidden hrm
    have HSL := hidden hsl
    clear hO d7 g7 n7 hlg hfn hlp hsl hrm b0
    have b0 : w7.cell? ⟨tb, 0, none⟩ = some (.slice (some ⟨sb, 0, none⟩) m c4) := HB7.out.cell 0
    have b1 : w7.cell? ⟨tb, 1, none⟩ = some (.slice none 0 0) := HB7.out.cell 1
    go_wp2_with fail
    refine (same_true (fun _ => False) (fun _ => False) (some ⟨sb, 0, none⟩) m c4 none 0 0 sa7 sc7 ra7 rc7 st [] [] els7 w7 HS7.out HSL.out (RecM.nil _ _) HRM.out (by omega) (by omega)).mono ?_
    rintro e w8 ⟨rfl, hl8⟩
    have HT8 := hidden (HT.out.lat hl8)
    have HLI : Hid (LI 0 sz 0 0 ⟨1, sz, 9⟩ ⟨some ⟨sb, 0, none⟩, c4, st, none, 0, [], []⟩) := ⟨HK0.out, rfl, by omega, Nat.le_refl _, Nat.le_refl _, Nat.le_refl _, HFN.out⟩
    clear hl8 b0 b1
    go_wp2_with fail
    clear HFQ HD6 HG6 HN6 HB6 HK0 HNW HCH HB7 HS7 HT HFN HRM HSL HB5' HS5 HLW HK5 HSB HTF HBY HLN hfit hfit' HLO HS HNO
    go_loopw [6, 9, 11, 12, 13, 15, 16, 17, 18, 19, 20, 21, 22, 23, 24, 25] (fun v6 v9 v11 v12 v13 v15 v16 v17 v18 v19 v20 v21 v22 v23 v24 v25 wr => ∃ (i : Nat) (F : Nat → Prop) (lp falls live : Nat) (h : Hd) (t : Tl), i ≤ 200 ∧ v11 = .pointer (some ⟨lp, 0, none⟩) ∧ v16 = .int .i64 (i : Int) ∧ TI W wr p tb tb F lp (LS falls live h t.st t.recs) ⟨falls, live, h⟩ t t (fun _ _ => False) (fun _ _ => False) ∧ LI i sz falls live h t) (fun v6 v9 v11 v12 v13 v15 v16 v17 v18 v19 v20 v21 v22 v23 v24 v25 _ => 200 - (intOf v16).toNat)
    case atStart =>
      exact ⟨0, F7, lp, 0, 0, ⟨1, sz, 9⟩, ⟨some ⟨sb, 0, none⟩, c4, st, none, 0, [], []⟩, Nat.zero_le _, rfl, rfl, HT8.out, HLI.out⟩
    case round =>
      obtain ⟨i, F, lq, falls, live, hd, tt, hi, rfl, rfl, hT, hL⟩ := hrel
      have HT9 := hidden hT
      have HLI9 := hidden hL
      clear hT hL HT8 HLI
      by_cases h1 : i < dn
      · have h1' : (i : Int) < (dn : Int) := by omega
        by_cases h2 : i < 200
        · have h2' : (i : Int) < 200 := by omega
          obtain ⟨db, doff, hda, hS⟩ := HD.out (by omega)
          subst hda
          obtain ⟨hcell, hok⟩ := hS i h1
          have hbel := HT9.out.fbel
          have hc : ∀ q u, (D i).cells[q]? = some u → wr.cell? ⟨db, doff + i * 4 + q, none⟩ = some u := fun q u hu => by
            have h3 := hcell q u hu
            rw [hbel.cell (p := ⟨db, doff + i * 4 + q, none⟩) (World.block_lt_of_cell? W _ h3)]
            exact h3
          have HOK := hidden hok
          clear hS hcell hok hbel
          generalize D i = de at *
          obtain ⟨kd, ops, kp, ba, bn, bc, bs⟩ := de
          have k0 : wr.cell? ⟨db, doff + i * 4, none⟩ = some (.int .i64 kd) := hc 0 _ rfl
          have k1 : wr.cell? ⟨db, doff + i * 4 + 1, none⟩ = some (.int .i64 ops) := hc 1 _ rfl
          have k2 : wr.cell? ⟨db, doff + i * 4 + 2, none⟩ = some (.int .i64 kp) := hc 2 _ rfl
          have k3 : wr.cell? ⟨db, doff + i * 4 + 3, none⟩ = some (.slice ba bn bc) := hc 3 _ rfl
          clear hc
          go_wp2_with (first
            | (refine wpList_new_var rfl rfl 48 17 (.tmp 105) rfl rfl rfl rfl 4 zero48' [.int .i64 kd, .int .i64 ops, .int .i64 kp, .slice ba bn bc] rfl (by simp [Value.oneCell']) (by simp) rfl ?_; intro w10 B10 bl10 hz10; have HB10 := hidden B10; have HL10 : Hid (Lat wr w10) := bl10; have x3 := B10.cell 3; simp only [List.getElem?_cons_succ, List.getElem?_cons_zero] at x3; clear B10 bl10 hz10 k0 k1 k2 k3))
          refine (shortP ba bn bc w10 HOK.out.le HOK.out.non HOK.out.bl).mono ?_
          rintro e w11 ⟨rfl, hw11⟩
          obtain rfl := hw11.symm
          clear hw11 x3
          obtain ⟨mb, hmb⟩ : ∃ mb, min bn 3000 = mb := ⟨_, rfl⟩
          have hmb1 : mb ≤ bn ∧ mb ≤ 3000 := by omega
          rw [hmb]
          have HSM : Hid (Sl w10 ba mb (bs.take mb)) := (HOK.out.sl.lat (Lat.trans _ _ _ HT9.out.fbel HL10.out)).take hmb1.1
          have HBYB : Hid (Byte (bs.take mb)) := HSM.out.byte
          have hbl : (bs.take mb).length = mb := HSM.out.len
          generalize bs.take mb = bb at *
          have hcv := convS (cap := bc) HSM.out
          obtain ⟨c11, w11, hcv2, hl11, hs11⟩ := bytes_new w10 bb HBYB.out
          have HT11 := (HT9.out.lat (Lat.trans _ _ _ HL10.out hl11)).deed (HB10.out.later hl11) hs11 (fun z hz hp k => by
            cases hz
            have q1 := HT9.out.lt _ k
            have q2 := HL10.out.size
            simp only at q1
            omega)
          have hB11 := HB10.out.later hl11
          rw [hbl] at hcv2
          obtain ⟨xb, hxb⟩ : ∃ xb, wr.heap.size = xb := ⟨_, rfl⟩
          obtain ⟨gb, hgb⟩ : ∃ gb, w10.heap.size = gb := ⟨_, rfl⟩
          rw [hxb] at hB11 ⊢
          rw [hxb, hgb] at HT11
          rw [hgb] at hcv2
          have x1 : w11.cell? ⟨xb, 1, none⟩ = some (.int .i64 ops) := hB11.cell 1
          have x2 : w11.cell? ⟨xb, 2, none⟩ = some (.int .i64 kp) := hB11.cell 2
          have HT11 := hidden HT11
          have HBL := hidden hbl
          clear hl11 hs11 hB11 hmb hbl hxb hgb HB10 HL10 HSM HT9
          obtain ⟨fu, hfu⟩ : ∃ fu : Option (Nat × Int), (if 0 ≤ ops then some (ops.toNat, kp) else none) = fu := ⟨_, rfl⟩
          have HFU := hidden hfu
          have HOPS := hidden HOK.out.ops
          have HKP := hidden HOK.out.kp
          have hops := HOPS.out
          have hkp := HKP.out
          have hkd := HOK.out.kd
          dsimp only at hops hkp hkd
          clear hfu HOK
          go_upto_if 113 with fail
          go_cut [19] from 92 to 291 (fun s19 wx => ∃ F', TI W wx p tb tb F' lq (LF falls live hd tt.st tt.recs (fz fu)) ⟨falls, live, hd⟩ tt tt (fun g c => g = xb ∧ c = [.int .i64 kd, .int .i64 ops, .int .i64 kp, .slice ba bn bc]) (fun a c => a = some ⟨gb, 0, none⟩ ∧ c = bb))
          case first =>
            as_aux_lemma =>
              by_cases ho : 0 ≤ ops
              · have HFE : Hid (fu = some (ops.toNat, kp)) := by have := HFU.out; rw [if_pos ho] at this; exact this.symm
                go_wp2_with fail
                obtain ⟨w12, hw12, B12, L12, z12⟩ := one_new w11 3 [.int .i64 kp, .int .i64 kp]
                have hw12' : w11.alloc (Obj.cells #[Value.int IntKind.i64 kp, Value.int IntKind.i64 kp] 3) = w12 := hw12
                rw [hw12']
                have HB12 := hidden B12
                have HT12 := hidden (HT11.out.lat L12)
                clear hw12 hw12' B12 L12 z12
                refine (fuseP p F (LS falls live hd tt.st tt.recs) ops (some ⟨w11.heap.size, 0, none⟩) 2 2 [kp, kp] w12 HT12.out.fd (sn_two HB12.out HKP.out HKP.out) (Nat.le_refl _) HOPS.out).mono ?_
                rw [LS_fuse ho]
                rintro e w13 ⟨rfl, hk13⟩
                obtain ⟨F13, hk13⟩ := HT12.out.disk hk13
                have HT13 := hidden hk13
                clear hk13
                go_wp2_with fail
                go_meet
                case rel =>
                  refine ⟨F13, ?_⟩
                  rw [HFE.out]
                  exact HT13.out
              · have HFE : Hid (fu = none) := by have := HFU.out; rw [if_neg ho] at this; exact this.symm
                go_wp2_with fail
                go_meet
                case rel =>
                  refine ⟨F, ?_⟩
                  rw [HFE.out]
                  exact HT11.out
          case rest =>
          as_aux_lemma =>
          clear x1 x2 HT11 hcv hcv2
          obtain ⟨F12, hT12⟩ := hcut
          have HT12 := hidden hT12
          clear hT12
          rename World => w12
          go_wp2_with fail
          refine (bytesP lq p F12 _ ⟨falls, live, hd⟩ w12 HT12.out.fd HT12.out.fl).mono ?_
          rw [LF_bytes HLI9.out.hl hd]
          rintro e w13 ⟨rfl, hl13⟩
          have HT13 := hidden (HT12.out.lat hl13)
          clear hl13 HT12
          obtain ⟨bl, hbl⟩ : ∃ bl, (laid hd tt.st tt.recs).length = bl := ⟨_, rfl⟩
          have hbl1 : bl ≤ sz := by rw [← hbl, ← HLI9.out.cap]; exact HLI9.out.k.len
          rw [hbl]
          have HBLL := hidden hbl
          obtain ⟨sn, hsn⟩ : ∃ sn, tt.st.length = sn := ⟨_, rfl⟩
          obtain ⟨rn, hrn⟩ : ∃ rn, tt.recs.length = rn := ⟨_, rfl⟩
          have HCL : Hid (tt.cells = [.slice tt.sa sn tt.sc, .slice tt.ra rn tt.rc]) := by show _ = _; unfold Tl.cells; rw [hsn, hrn]
          have hB13 := HT13.out.ftb
          rw [HCL.out] at hB13
          have t0 := hB13.cell 0
          have t1 := hB13.cell 1
          simp only [List.getElem?_cons_succ, List.getElem?_cons_zero] at t0 t1
          have HSN := hidden hsn
          have HRN := hidden hrn
          clear hbl hsn hrn hB13
          go_upto_block 2 with (first
            | (refine wpList_new_var rfl rfl 42 21 (.tmp 127) rfl rfl rfl rfl 2 zero42' [.slice tt.sa sn tt.sc, .slice tt.ra rn tt.rc] rfl (by simp [Value.oneCell']) (by simp) rfl ?_; intro w14 B14 bl14 hz14; have HT14 := hidden (HT13.out.newn bl14 (by rw [HCL.out]; exact B14) (Nat.le_refl _)); have HNE : Hid (tb ≠ w13.heap.size) := Nat.ne_of_lt HT13.out.ftb.lt; have x0 : w14.cell? ⟨xb, 0, none⟩ = some (.int .i64 kd) := (HT14.out.fx xb _ ⟨rfl, rfl⟩).cell 0; clear B14 bl14 hz14 t0 t1))
          obtain ⟨nb, hnb⟩ : ∃ nb, w13.heap.size = nb := ⟨_, rfl⟩
          rw [hnb] at HT14 HNE ⊢
          clear hnb HT13
          go_cut [9, 22, 23] from 92 to 291 (fun v9 v22 v23 wx => ∃ (ev : Int) (fr sy : Nat) (F' : Nat → Prop) (S' : St) (l' : Lw) (nx : Tl), v9 = .int .i64 ev ∧ v22 = .int .i64 (fr : Int) ∧ v23 = .int .i64 (sy : Int) ∧ TI W wx p tb nb F' lq S' l' tt nx (fun g c => g = xb ∧ c = [.int .i64 kd, .int .i64 ops, .int .i64 kp, .slice ba bn bc]) (fun a c => a = some ⟨gb, 0, none⟩ ∧ c = bb) ∧ Sw falls live hd tt kd fu ev fr sy S' l' nx)
          case first =>
            as_aux_lemma =>
              have HBS : Hid (Sl w14 (some ⟨gb, 0, none⟩) mb bb ∧ (0 < mb → ¬ Mu F12 lq tb nb gb)) := by
                have h := HT14.out.fb _ _ ⟨rfl, rfl⟩
                rw [HBL.out] at h
                exact ⟨h.1, fun hp => h.2 _ rfl hp⟩
              have HFA : Hid (falls ≤ 1099511627000) := by have := HLI9.out.fl; show falls ≤ _; omega
              have hrn2 : rn ≤ 200 := by have h1 := HLI9.out.rl; have h2 := HRN.out; omega
              by_cases hk012 : kd = 0 ∨ kd = 1 ∨ kd = 2
              · have hoc := append_oc fu HLI9.out.hl HLI9.out.k HLI9.out.fn bb
                have HAP := hidden (wappendP lq p F12 _ ⟨falls, live, hd⟩ (some ⟨gb, 0, none⟩) mb c11 bb w14 HT14.out.fd HT14.out.fl (Nat.le_trans HFA.out (by decide)) HBS.out.1 (fun h => by cases h) (by omega))
                rw [HBLL.out, HBL.out, HLI9.out.cap] at hoc
                obtain ⟨q, hq⟩ : ∃ q, (LF falls live hd tt.st tt.recs (fz fu)).wappend ⟨falls, live, hd⟩ bb = q := ⟨_, rfl⟩
                rw [hq] at hoc HAP
                obtain ⟨ev, S15⟩ := q
                dsimp only at hoc HAP
                have HOC := hidden hoc.1
                have hev := hoc.2
                clear hq hoc
                rcases hk012 with rfl | rfl | rfl
                all_goals
                  go_wp2_with fail
                  refine HAP.out.mono ?_
                  rintro e w15 ⟨rfl, hk15, hl15⟩
                  obtain ⟨F15, hT15⟩ := HT14.out.disk hk15
                  have HT15 := hidden hT15
                  have hr15 := hT15.rcm HSN.out HRN.out
                  have HR15 := hidden hr15.1
                  have HRN15 := hidden hr15.2.1
                  have HB15 := hidden hr15.2.2.1
                  have HBS15 := hidden (hT15.byt HBL.out)
                  clear hk15 hl15 hT15 hr15
                  go_wp2_with (refine wpList_load_blk rfl 42 (.tmp 10) rfl tb (l := [.slice tt.sa sn tt.sc, .slice tt.ra rn tt.rc]) HB15.out rfl Try.underlying42 rfl size42 ?_)
                  refine (moreP (Mu F15 lq tb nb) tt.sa sn tt.sc tt.ra rn tt.rc (some ⟨gb, 0, none⟩) mb c11 bb tt.recs tt.els w15 HR15.out HRN15.out (by omega) HBS15.out.1 HBS15.out.2 HT15.out.lt).mono ?_
                  rintro e w16 ⟨g16, c16, els16, rfl, hrm, hl16⟩
                  have HT16 := hidden (HT15.out.lat hl16)
                  have HB16 : Hid (Blk w16 nb 42 tt.cells) := HT16.out.fnb
                  have HRM := hidden hrm
                  clear hrm hl16
                  by_cases h60 : ev = 60
                  · have hbig : (sz : Int) < (bl : Int) + ((mb : Int) + 9) := by have := hev.1 h60; omega
                    have hb60 : (ev == 60) = true := by simp [h60]
                    have hd60 : decide (ev = 60) = true := by simp [h60]
                    clear h60 hev
                    go_wp2_with (refine wpList_store_to rfl 42 (.tmp 21) (.tmp 142) rfl rfl nb (l := [.slice tt.sa sn tt.sc, .slice (some ⟨g16, 0, none⟩) (rn + 1) c16]) HB16.out rfl rfl rfl size42 (by simp [Value.oneCell']) ?_; intro w17 B17 C17; have HB17 := hidden B17; have HC17 := hidden C17; clear B17 C17)
                    go_meet
                    case rel =>
                      exact ⟨_, mb + 9, 1, F15, S15, _, ⟨tt.sa, tt.sc, tt.st, some ⟨g16, 0, none⟩, c16, tt.recs ++ [bb], els16⟩, rfl, rfl, rfl, HT16.out.setn HNE.out HC17.out (by unfold Tl.cells; rw [HSN.out, List.length_append, HRN.out]; exact HB17.out) ⟨HT16.out.ft.s, HT16.out.ft.sf, by rw [List.length_append, HRN.out]; exact HRM.out, fun h => by cases h⟩, ⟨HOC.out, by simp, ⟨Nat.le_refl _, by decide⟩, by omega, .inl ⟨by decide, by decide⟩⟩⟩
                  · have hbig : ¬ (sz : Int) < (bl : Int) + ((mb : Int) + 9) := by intro h; exact h60 (hev.2 (by omega))
                    have hb60 : (ev == 60) = false := by simp [h60]
                    have hd60 : decide (ev = 60) = false := by simp [h60]
                    clear h60 hev
                    go_wp2_with (refine wpList_store_to rfl 42 (.tmp 21) (.tmp 142) rfl rfl nb (l := [.slice tt.sa sn tt.sc, .slice (some ⟨g16, 0, none⟩) (rn + 1) c16]) HB16.out rfl rfl rfl size42 (by simp [Value.oneCell']) ?_; intro w17 B17 C17; have HB17 := hidden B17; have HC17 := hidden C17; clear B17 C17)
                    go_meet
                    case rel =>
                      exact ⟨_, mb + 9, 1, F15, S15, _, ⟨tt.sa, tt.sc, tt.st, some ⟨g16, 0, none⟩, c16, tt.recs ++ [bb], els16⟩, rfl, rfl, rfl, HT16.out.setn HNE.out HC17.out (by unfold Tl.cells; rw [HSN.out, List.length_append, HRN.out]; exact HB17.out) ⟨HT16.out.ft.s, HT16.out.ft.sf, by rw [List.length_append, HRN.out]; exact HRM.out, fun h => by cases h⟩, ⟨HOC.out, by simp, ⟨Nat.le_refl _, by decide⟩, by omega, .inl ⟨by decide, by decide⟩⟩⟩
              · have hk0 : ¬ kd = 0 := fun h => hk012 (.inl h)
                have hk1 : ¬ kd = 1 := fun h => hk012 (.inr (.inl h))
                have hk2 : ¬ kd = 2 := fun h => hk012 (.inr (.inr h))
                clear hk012
                by_cases hk3 : kd = 3
                · have hoc := check_oc fu HLI9.out.hl HLI9.out.k HLI9.out.fn (by have := HLI9.out.g; omega) bb
                  have HAP := hidden (wcheckP lq p F12 _ ⟨falls, live, hd⟩ (some ⟨gb, 0, none⟩) mb c11 bb w14 HT14.out.fd HT14.out.fl HLI9.out.fn (Nat.le_trans HFA.out (by decide)) HBS.out.1 (fun h => by cases h) (fun x hx hp k => by cases hx; exact HBS.out.2 hp (.inl k)) (by omega))
                  rw [HBL.out, HLI9.out.cap] at hoc
                  obtain ⟨q, hq⟩ : ∃ q, (LF falls live hd tt.st tt.recs (fz fu)).wcheck ⟨falls, live, hd⟩ bb = q := ⟨_, rfl⟩
                  rw [hq] at hoc HAP
                  obtain ⟨ev, S15, l15⟩ := q
                  dsimp only at hoc HAP
                  have HOC := hidden hoc.1
                  have hev := hoc.2
                  clear hq hoc
                  subst hk3
                  go_wp2_with fail
                  refine HAP.out.mono ?_
                  rintro e w15 ⟨rfl, F15, d15, c15, n15, l15'⟩
                  have HT15 := hidden (HT14.out.grow c15 n15 d15 l15')
                  have HB15 : Hid (Blk w15 nb 42 tt.cells) := HT15.out.fnb
                  have HBS15 := hidden (HT15.out.fb _ _ ⟨rfl, rfl⟩)
                  clear d15 c15 n15 l15'
                  by_cases h60 : ev = 60
                  · have hbig : (sz : Int) < (mb : Int) + 33 := by have := hev.1 h60; omega
                    have hb60 : (ev == 60) = true := by simp [h60]
                    have hd60 : decide (ev = 60) = true := by simp [h60]
                    clear h60 hev
                    go_wp2_with (first
                      | (refine wpList_build_to rfl 42 #[(0, .tmp 156)] rfl [(0, .slice (some ⟨gb, 0, none⟩) mb c11)] #[.slice (some ⟨gb, 0, none⟩) mb c11, .slice none 0 0] ?_ (built42z gb mb c11) ?_; kernel_rfl)
                      | (refine wpList_store_to rfl 42 (.tmp 21) (.tmp 157) rfl rfl nb (l := [.slice (some ⟨gb, 0, none⟩) mb c11, .slice none 0 0]) HB15.out rfl rfl rfl size42 (by simp [Value.oneCell']) ?_; intro w17 B17 C17; have HB17 := hidden B17; have HC17 := hidden C17; clear B17 C17))
                    go_meet
                    case rel =>
                      exact ⟨_, mb + 33, 2, F15, S15, l15, ⟨some ⟨gb, 0, none⟩, c11, bb, none, 0, [], []⟩, rfl, rfl, rfl, HT15.out.setn HNE.out HC17.out (by unfold Tl.cells; rw [HBL.out]; exact HB17.out) ⟨HBS15.out.1, HBS15.out.2, RecM.nil _ _, fun _ => ⟨rfl, rfl⟩⟩, ⟨HOC.out, Nat.zero_le _, ⟨by decide, Nat.le_refl _⟩, by omega, .inl ⟨by decide, by decide⟩⟩⟩
                  · have hbig : ¬ (sz : Int) < (mb : Int) + 33 := by intro h; exact h60 (hev.2 (by omega))
                    have hb60 : (ev == 60) = false := by simp [h60]
                    have hd60 : decide (ev = 60) = false := by simp [h60]
                    clear h60 hev
                    go_wp2_with (first
                      | (refine wpList_build_to rfl 42 #[(0, .tmp 156)] rfl [(0, .slice (some ⟨gb, 0, none⟩) mb c11)] #[.slice (some ⟨gb, 0, none⟩) mb c11, .slice none 0 0] ?_ (built42z gb mb c11) ?_; kernel_rfl)
                      | (refine wpList_store_to rfl 42 (.tmp 21) (.tmp 157) rfl rfl nb (l := [.slice (some ⟨gb, 0, none⟩) mb c11, .slice none 0 0]) HB15.out rfl rfl rfl size42 (by simp [Value.oneCell']) ?_; intro w17 B17 C17; have HB17 := hidden B17; have HC17 := hidden C17; clear B17 C17))
                    go_meet
                    case rel =>
                      exact ⟨_, mb + 33, 2, F15, S15, l15, ⟨some ⟨gb, 0, none⟩, c11, bb, none, 0, [], []⟩, rfl, rfl, rfl, HT15.out.setn HNE.out HC17.out (by unfold Tl.cells; rw [HBL.out]; exact HB17.out) ⟨HBS15.out.1, HBS15.out.2, RecM.nil _ _, fun _ => ⟨rfl, rfl⟩⟩, ⟨HOC.out, Nat.zero_le _, ⟨by decide, Nat.le_refl _⟩, by omega, .inl ⟨by decide, by decide⟩⟩⟩
                · go_wp2_with fail
                  go_meet
                  case rel =>
                    exact ⟨0, mb + 9, 1, F12, _, _, tt, rfl, rfl, rfl, HT14.out, ⟨.good live hd (fz fu) rfl rfl rfl HLI9.out.hl HLI9.out.k rfl rfl (by omega), by omega, ⟨Nat.le_refl _, by decide⟩, by omega, .inr ⟨rfl, rfl⟩⟩⟩
          case rest =>
          as_aux_lemma =>
          clear x0 HT14
          obtain ⟨ev, fr, sy, F15, S15, l15, nx, rfl, rfl, rfl, hT15, hSW⟩ := hcut
          have HT15 := hidden hT15
          have HSW := hidden hSW
          clear hT15 hSW
          rename World => w15
          have x0 : w15.cell? ⟨xb, 0, none⟩ = some (.int .i64 kd) := (HT15.out.fx xb _ ⟨rfl, rfl⟩).cell 0
          have hsy := HSW.out.sy
          have hfr := HSW.out.fr
          go_upto_region 45 with fail
          go_cut [178] from 92 to 291 (fun s wx => s = .bool (decide (ev = 0 ∧ 0 ≤ kd ∧ kd ≤ 3)) ∧ w15 = wx)
          case first =>
            as_aux_lemma =>
              by_cases q1 : ev = 0
              · subst q1
                by_cases q2 : 0 ≤ kd
                · by_cases q3 : kd ≤ 3
                  · go_wp2_with fail
                    go_meet
                    case rel => exact ⟨congrArg Value.bool (decide_eq_true (p := (0 : Int) = 0 ∧ 0 ≤ kd ∧ kd ≤ 3) ⟨rfl, q2, q3⟩).symm, rfl⟩
                  · go_wp2_with fail
                    go_meet
                    case rel => exact ⟨congrArg Value.bool (decide_eq_false (p := (0 : Int) = 0 ∧ 0 ≤ kd ∧ kd ≤ 3) (fun h => q3 h.2.2)).symm, rfl⟩
                · go_wp2_with fail
                  go_meet
                  case rel => exact ⟨congrArg Value.bool (decide_eq_false (p := (0 : Int) = 0 ∧ 0 ≤ kd ∧ kd ≤ 3) (fun h => q2 h.2.1)).symm, rfl⟩
              · go_wp2_with fail
                go_meet
                case rel => exact ⟨congrArg Value.bool (decide_eq_false (p := ev = 0 ∧ 0 ≤ kd ∧ kd ≤ 3) (fun h => q1 h.1)).symm, rfl⟩
          case rest =>
          as_aux_lemma =>
          obtain ⟨rfl, rfl⟩ := hcut
          obtain ⟨cc, hcc⟩ : ∃ cc, decide (ev = 0 ∧ 0 ≤ kd ∧ kd ≤ 3) = cc := ⟨_, rfl⟩
          have HCC := hidden hcc
          rw [hcc]
          clear hcc
          go_upto_if 178 with fail
          go_cut [9] from 92 to 291 (fun s wx => s = .int .i64 ev ∧ TI W wx p tb nb F15 lq S15 l15 (Tl.pick (ev == 0) nx tt) nx (fun g c => g = xb ∧ c = [.int .i64 kd, .int .i64 ops, .int .i64 kp, .slice ba bn bc]) (fun a c => a = some ⟨gb, 0, none⟩ ∧ c = bb))
          case first =>
            as_aux_lemma =>
              cases cc with
              | true =>
                have hq := of_decide_eq_true HCC.out
                go_wp2_with (first
                  | refine wpList_load_blk rfl 42 (.tmp 21) rfl nb HT15.out.fnb rfl Try.underlying42 rfl size42 ?_
                  | (refine wpList_store_to rfl 42 (.tmp 10) (.tmp 179) rfl rfl tb (l := nx.cells) HT15.out.ftb rfl rfl rfl size42 (by simp [Tl.cells, Value.oneCell']) ?_; intro w17 B17 C17; have HT17 := hidden (HT15.out.take HNE.out C17 B17); clear B17 C17))
                go_meet
                case rel =>
                  refine ⟨rfl, ?_⟩
                  rw [hq.1]
                  exact HT17.out
              | false =>
                have hq := of_decide_eq_false HCC.out
                go_wp2_with fail
                go_meet
                case rel =>
                  refine ⟨rfl, ?_⟩
                  have e : Tl.pick (ev == 0) nx tt = tt := by
                    rcases HSW.out.kd with h | h
                    · have : ¬ ev = 0 := fun h0 => hq ⟨h0, h⟩
                      unfold Tl.pick
                      simp [this]
                    · rw [h.1]; unfold Tl.pick; split <;> rfl
                  rw [e]
                  exact HT15.out
          case rest =>
          as_aux_lemma =>
          clear x0 HT15 HCC
          obtain ⟨rfl, hT16⟩ := hcut
          have HT16 := hidden hT16
          clear hT16
          rename World => w16
          go_wp2_with fail
          refine (aliveP p F15 S15 w16 HT16.out.fd).mono ?_
          rintro e w17 ⟨rfl, hw17⟩
          obtain rfl := hw17.symm
          clear hw17
          obtain ⟨on, hon⟩ : ∃ on, S15.on = on := ⟨_, rfl⟩
          have HON := hidden hon
          rw [hon]
          clear hon
          have x0 : w16.cell? ⟨xb, 0, none⟩ = some (.int .i64 kd) := (HT16.out.fx xb _ ⟨rfl, rfl⟩).cell 0
          go_upto_region 48 with fail
          go_cut [187] from 92 to 291 (fun s wx => s = .bool (on && decide (¬ kd = 4)) ∧ w16 = wx)
          case first =>
            as_aux_lemma =>
              cases on with
              | true =>
                by_cases q1 : kd = 4
                · go_wp2_with fail
                  go_meet
                  case rel => exact ⟨by simp [q1], rfl⟩
                · go_wp2_with fail
                  go_meet
                  case rel => exact ⟨by simp [q1], rfl⟩
              | false =>
                go_wp2_with fail
                go_meet
                case rel => exact ⟨rfl, rfl⟩
          case rest =>
          as_aux_lemma =>
          obtain ⟨rfl, rfl⟩ := hcut
          clear x0
          by_cases hal : on = true ∧ ¬ kd = 4
          · obtain ⟨rfl, hk4⟩ := hal
            have hdk : decide (¬ kd = 4) = true := decide_eq_true hk4
            rw [hdk]
            go_wp2_with fail
            refine (restartP p F15 S15 w16 HT16.out.fd).mono ?_
            rintro e w18 ⟨rfl, hk18⟩
            obtain ⟨F18, hT18⟩ := HT16.out.disk hk18
            obtain ⟨live', h', hrs, hl15, hLI, hby, hee⟩ := HSW.out.alive HLI9.out hi HON.out
            have HBY := hidden hby
            have HLIn := hidden hLI
            generalize Tl.pick (ev == 0) nx tt = t1 at *
            obtain ⟨b2, hb2⟩ : ∃ b2, (laid h' t1.st t1.recs).length = b2 := ⟨_, rfl⟩
            have hb2' : b2 ≤ sz := by rw [← hb2, ← HLIn.out.cap]; exact HLIn.out.k.len
            rw [hb2] at HBY hee
            rw [HBLL.out] at hee
            have HT18 := hidden hT18
            have HRS := hidden hrs
            have HL15 := hidden hl15
            clear hk18 hT18 hrs hl15 hLI hby
            rcases hee with he0 | ⟨he0, heb⟩
            · subst he0
              go_wp2_with fail
              refine (bytesP lq p F18 _ l15 w18 HT18.out.fd HT18.out.fl).mono ?_
              rw [HBY.out]
              rintro e w19 ⟨rfl, hl19⟩
              have HT19 := hidden (HT18.out.lat hl19)
              clear hl19
              go_wp2_with fail
              refine ⟨⟨i + 1, F18, lq, falls, live', h', t1, by omega, rfl, congrArg (Value.int .i64) (by omega), ?_, HLIn.out⟩, ?_⟩
              · have h := HT19.out.over
                rw [HRS.out, HL15.out] at h
                exact h
              · show 200 - ((i : Int) + 1).toNat < 200 - (i : Int).toNat
                omega
            · subst he0
              subst heb
              go_wp2_with fail
              refine (bytesP lq p F18 _ l15 w18 HT18.out.fd HT18.out.fl).mono ?_
              rw [HBY.out]
              rintro e w19 ⟨rfl, hl19⟩
              have HT19 := hidden (HT18.out.lat hl19)
              clear hl19
              go_wp2_with fail
              refine (bytesP lq p F18 _ l15 w19 HT19.out.fd HT19.out.fl).mono ?_
              rw [HBY.out]
              rintro e w20 ⟨rfl, hl20⟩
              have HT20 := hidden (HT19.out.lat hl20)
              clear hl20
              go_wp2_with fail
              refine ⟨⟨i + 1, F18, lq, falls, live', h', t1, by omega, rfl, congrArg (Value.int .i64) (by omega), ?_, HLIn.out⟩, ?_⟩
              · have h := HT20.out.over
                rw [HRS.out, HL15.out] at h
                exact h
              · show 200 - ((i : Int) + 1).toNat < 200 - (i : Int).toNat
                omega
          · have hfl : (on && decide (¬ kd = 4)) = false := by
              cases on with
              | false => rfl
              | true =>
                have h4 : kd = 4 := Classical.byContradiction fun h => hal ⟨rfl, h⟩
                simp [h4]
            have HAL := hidden hal
            rw [hfl]
            clear hfl hal
            go_upto_if 212 with fail
            go_cut [9] from 92 to 291 (fun s wx => ∃ (F' : Nat → Prop) (S' : St) (t2 : Tl) (live' : Nat) (h' : Hd) (x y : List Int), TI W wx p tb nb F' lq S' l15 t2 nx (fun g c => g = xb ∧ c = [.int .i64 kd, .int .i64 ops, .int .i64 kp, .slice ba bn bc]) (fun a c => a = some ⟨gb, 0, none⟩ ∧ c = bb) ∧ Cr S' (falls + 1) live' h' t2.st t2.recs x y ∧ LK i sz live' h' t2)
            case first =>
              as_aux_lemma =>
                cases on with
                | true =>
                  obtain ⟨live', h', x, y, hcr, hlk⟩ := HSW.out.crash HLI9.out HON.out [kp, kp]
                  have HCR := hidden hcr
                  have HLK := hidden hlk
                  clear hcr hlk
                  generalize Tl.pick (ev == 0) nx tt = t1 at *
                  have x2 : w16.cell? ⟨xb, 2, none⟩ = some (.int .i64 kp) := (HT16.out.fx xb _ ⟨rfl, rfl⟩).cell 2
                  go_wp2_with fail
                  obtain ⟨w18, hw18, B18, L18, z18⟩ := one_new w16 3 [.int .i64 kp, .int .i64 kp]
                  have hw18' : w16.alloc (Obj.cells #[Value.int IntKind.i64 kp, Value.int IntKind.i64 kp] 3) = w18 := hw18
                  rw [hw18']
                  have HB18 := hidden B18
                  have HT18 := hidden (HT16.out.lat L18)
                  have HFA : Hid (S15.falls ≤ 1099511627776) := by have h1 := HSW.out.fle; have h2 := HLI9.out.fl; show S15.falls ≤ _; omega
                  clear hw18 hw18' B18 L18 z18 x2
                  refine (crashP p F15 S15 (some ⟨w16.heap.size, 0, none⟩) 2 2 [kp, kp] w18 HT18.out.fd (sn_two HB18.out HKP.out HKP.out) (fun z hz _ k => by cases hz; exact Nat.lt_irrefl _ (HT16.out.fd.lt _ k)) HFA.out).mono ?_
                  rintro e w19 ⟨rfl, hk19⟩
                  obtain ⟨F19, hT19⟩ := HT18.out.disk hk19
                  have HT19 := hidden hT19
                  clear hk19 hT19
                  go_wp2_with fail
                  go_meet
                  case rel => exact ⟨F19, _, t1, live', h', x, y, HT19.out, HCR.out, HLK.out⟩
                | false =>
                  obtain ⟨hev, hwa, hwc, hby0, hfn, hfb, live', h', x, y, hcr, hlk⟩ := HSW.out.dead HLI9.out hi HON.out
                  have hpk : Tl.pick (ev == 0) nx tt = tt := by rw [hev]; rfl
                  rw [hpk] at HT16
                  subst hev
                  have HCR := hidden hcr
                  have HLK := hidden hlk
                  have HA1 := hidden (wappendP lq p F15 S15 l15 none 0 0 [] w16 HT16.out.fd HT16.out.fl (Nat.le_trans hfb (by decide)) (Sl.zero _) (fun _ => ⟨rfl, rfl⟩) (by decide))
                  rw [hwa] at HA1
                  have HWC := hidden (hwc [])
                  have HBZ := hidden hby0
                  have HFN := hidden hfn
                  have HFB := hidden (Nat.le_trans hfb (by decide : 1099511627000 ≤ 1099511627776))
                  clear hwa hwc hby0 hfn hfb hcr hlk hpk
                  go_wp2_with fail
                  refine HA1.out.mono ?_
                  rintro e w17 ⟨rfl, hk17, hl17⟩
                  obtain ⟨F17, hT17⟩ := HT16.out.disk hk17
                  have HT17 := hidden hT17
                  clear hk17 hl17 hT17 HA1
                  go_wp2_with fail
                  refine (wcheckP lq p F17 S15 l15 none 0 0 [] w17 HT17.out.fd HT17.out.fl HFN.out HFB.out (Sl.zero _) (fun _ => ⟨rfl, rfl⟩) (fun x hx _ _ => by cases hx) (by decide)).mono ?_
                  rw [HWC.out]
                  rintro e w18 ⟨rfl, F18, d18, c18, n18, l18⟩
                  have HT18 := hidden (HT17.out.grow c18 n18 d18 l18)
                  clear d18 c18 n18 l18
                  go_wp2_with fail
                  refine (bytesP lq p F18 S15 l15 w18 HT18.out.fd HT18.out.fl).mono ?_
                  rw [HBZ.out]
                  rintro e w19 ⟨rfl, hl19⟩
                  have HT19 := hidden (HT18.out.lat hl19)
                  clear hl19
                  have x1 : w19.cell? ⟨xb, 1, none⟩ = some (.int .i64 ops) := (HT19.out.fx xb _ ⟨rfl, rfl⟩).cell 1
                  have x2 : w19.cell? ⟨xb, 2, none⟩ = some (.int .i64 kp) := (HT19.out.fx xb _ ⟨rfl, rfl⟩).cell 2
                  go_upto_region 56 with fail
                  go_cut [264] from 92 to 291 (fun s wx => s = .bool (stay fu sy fr) ∧ w19 = wx)
                  case first =>
                    as_aux_lemma =>
                      have HSE := hidden (stay_eq (fr := fr) HFU.out hsy.1)
                      by_cases q1 : (sy : Int) < ops
                      · go_wp2_with fail
                        go_meet
                        case rel => exact ⟨by rw [HSE.out]; exact congrArg Value.bool (decide_eq_true (.inl q1)).symm, rfl⟩
                      · by_cases q4 : (fr : Int) ≤ kp
                        · by_cases q2 : ops = (sy : Int)
                          · have hb2 : (ops == (sy : Int)) = true := by simp [q2]
                            have Q2 := hidden q2
                            clear q2
                            go_wp2_with fail
                            go_meet
                            case rel => exact ⟨by rw [HSE.out]; exact congrArg Value.bool (decide_eq_true (.inr ⟨.inl Q2.out, q4⟩)).symm, rfl⟩
                          · have hb2 : (ops == (sy : Int)) = false := by simp [q2]
                            have Q2 := hidden q2
                            clear q2
                            by_cases q3 : ops = (sy : Int) - 1
                            · have hb3 : (ops == (sy : Int) - 1) = true := by simp [q3]
                              have Q3 := hidden q3
                              clear q3
                              go_wp2_with fail
                              go_meet
                              case rel => exact ⟨by rw [HSE.out]; exact congrArg Value.bool (decide_eq_true (.inr ⟨.inr Q3.out, q4⟩)).symm, rfl⟩
                            · have hb3 : (ops == (sy : Int) - 1) = false := by simp [q3]
                              have Q3 := hidden q3
                              clear q3
                              go_wp2_with fail
                              go_meet
                              case rel => exact ⟨by rw [HSE.out]; exact congrArg Value.bool (decide_eq_false (by have h2 := Q2.out; have h3 := Q3.out; omega)).symm, rfl⟩
                        · by_cases q2 : ops = (sy : Int)
                          · have hb2 : (ops == (sy : Int)) = true := by simp [q2]
                            have Q2 := hidden q2
                            clear q2
                            go_wp2_with fail
                            go_meet
                            case rel => exact ⟨by rw [HSE.out]; exact congrArg Value.bool (decide_eq_false (by have h2 := Q2.out; omega)).symm, rfl⟩
                          · have hb2 : (ops == (sy : Int)) = false := by simp [q2]
                            have Q2 := hidden q2
                            clear q2
                            by_cases q3 : ops = (sy : Int) - 1
                            · have hb3 : (ops == (sy : Int) - 1) = true := by simp [q3]
                              have Q3 := hidden q3
                              clear q3
                              go_wp2_with fail
                              go_meet
                              case rel => exact ⟨by rw [HSE.out]; exact congrArg Value.bool (decide_eq_false (by have h2 := Q2.out; have h3 := Q3.out; omega)).symm, rfl⟩
                            · have hb3 : (ops == (sy : Int) - 1) = false := by simp [q3]
                              have Q3 := hidden q3
                              clear q3
                              go_wp2_with fail
                              go_meet
                              case rel => exact ⟨by rw [HSE.out]; exact congrArg Value.bool (decide_eq_false (by have h2 := Q2.out; have h3 := Q3.out; omega)).symm, rfl⟩
                  case rest =>
                  as_aux_lemma =>
                  obtain ⟨rfl, rfl⟩ := hcut
                  clear x1 x2
                  generalize stay fu sy fr = cc at *
                  cases cc with
                  | true =>
                    go_wp2_with (first
                      | refine wpList_load_blk rfl 42 (.tmp 21) rfl nb HT19.out.fnb rfl Try.underlying42 rfl size42 ?_
                      | (refine wpList_store_to rfl 42 (.tmp 10) (.tmp 265) rfl rfl tb (l := nx.cells) HT19.out.ftb rfl rfl rfl size42 (by simp [Tl.cells, Value.oneCell']) ?_; intro w20 B20 C20; have HT20 := hidden (HT19.out.take HNE.out C20 B20); clear B20 C20))
                    go_meet
                    case rel => exact ⟨F18, S15, nx, live', h', x, y, HT20.out, HCR.out, HLK.out⟩
                  | false =>
                    go_wp2_with fail
                    go_meet
                    case rel => exact ⟨F18, S15, tt, live', h', x, y, HT19.out, HCR.out, HLK.out⟩
            case rest =>
            as_aux_lemma =>
            obtain ⟨F20, S20, t2, live', h', x, y, hT20, hCR, hLK⟩ := hcut
            clear HT16 HSW HON HAL
            rename World => w20
            have HT20 := hidden hT20
            have HCR := hidden hCR
            have HLK := hidden hLK
            have x1 : w20.cell? ⟨xb, 1, none⟩ = some (.int .i64 ops) := (hT20.fx xb _ ⟨rfl, rfl⟩).cell 1
            have x2 : w20.cell? ⟨xb, 2, none⟩ = some (.int .i64 kp) := (hT20.fx xb _ ⟨rfl, rfl⟩).cell 2
            clear hT20 hCR hLK
            have HFL : Hid (falls ≤ 2 * i) := HLI9.out.fl
            go_wp2_with fail
            refine (wakesP p F20 S20 ops kp (falls + 1) live' h' t2.st t2.recs x y w20 HT20.out.fd HCR.out HLK.out.hl HLK.out.k (by have h1 := HFL.out; omega) HT20.out.ft.s.byte HT20.out.ft.r.byte HOPS.out HKP.out).mono ?_
            rintro e w21 ⟨F21, falls2, lp2, sa2, sc2, ra2, rc2, els2, rfl, hfl2, d21, c21, n21, l21, hfn2, hlp2, hsl2, hrm2⟩
            obtain ⟨sn2, hsn2⟩ : ∃ k, t2.st.length = k := ⟨_, rfl⟩
            obtain ⟨rn2, hrn2⟩ : ∃ k, t2.recs.length = k := ⟨_, rfl⟩
            have HT21 := hidden (HT20.out.wake c21 n21 d21 l21 hlp2)
            have hr21 := HT21.out.rcm hsn2 hrn2
            have HR21 := hidden hr21
            rw [hsn2] at hsl2 ⊢
            rw [hrn2] at hrm2 ⊢
            have HSL2 := hidden hsl2
            have HRM2 := hidden hrm2
            have hsn3 : sn2 ≤ 4194304 := by have h1 := HLK.out.k.st; omega
            have hrn3 : rn2 ≤ 201 := by have h1 := HLK.out.rl; omega
            have HFL2 := hidden hfl2
            have HFN2 := hidden hfn2
            clear hfl2 d21 c21 n21 l21 hfn2 hlp2 hsl2 hrm2 hr21 hsn2 hrn2 x1 x2 HT20 HCR
            have t0 : w21.cell? ⟨tb, 0, none⟩ = some (.slice t2.sa sn2 t2.sc) := HR21.out.2.2.1.cell 0
            have t1 : w21.cell? ⟨tb, 1, none⟩ = some (.slice t2.ra rn2 t2.rc) := HR21.out.2.2.1.cell 1
            go_wp2_with fail
            refine (same_true (Mu F21 lp2 tb nb) (fun _ => False) t2.sa sn2 t2.sc t2.ra rn2 t2.rc sa2 sc2 ra2 rc2 t2.st t2.recs t2.els els2 w21 HR21.out.2.2.2 HSL2.out HR21.out.1 HRM2.out (by omega) (by omega)).mono ?_
            rintro e w22 ⟨rfl, hl22⟩
            have HT22 := hidden (HT21.out.lat hl22)
            clear hl22 HT21 HR21 HSL2 HRM2 t0 t1
            obtain ⟨b2, hb2⟩ : ∃ b2, (laid h' t2.st t2.recs).length = b2 := ⟨_, rfl⟩
            have hb2' : b2 ≤ sz := by rw [← hb2, ← HLK.out.cap]; exact HLK.out.k.len
            have HBY2 : Hid ((LS falls2 live' h' t2.st t2.recs).bytes ⟨falls2, live', h'⟩ = (b2 : Int)) := by
              rw [← hb2, ← LF_none]
              exact LF_bytes HLK.out.hl h'
            clear hb2
            go_wp2_with fail
            refine (bytesP lp2 p F21 _ ⟨falls2, live', h'⟩ w22 HT22.out.fd HT22.out.fl).mono ?_
            rw [HBY2.out]
            rintro e w23 ⟨rfl, hl23⟩
            have HT23 := hidden (HT22.out.lat hl23)
            clear hl23 HT22
            go_wp2_with fail
            refine ⟨⟨i + 1, F21, lp2, falls2, live', h', t2, by omega, rfl, congrArg (Value.int .i64) (by omega), HT23.out.over, HLK.out.li (by have h1 := HFL2.out; have h2 := HFL.out; omega) HFN2.out⟩, ?_⟩
            show 200 - ((i : Int) + 1).toNat < 200 - (i : Int).toNat
            omega
        · have h2' : ¬ (i : Int) < 200 := by omega
          go_wp2_with fail
          go_ret
          exact ⟨rfl, HT9.out.fbel⟩
      · have h1' : ¬ (i : Int) < (dn : Int) := by omega
        go_wp2_with fail
        go_ret
        exact ⟨rfl, HT9.out.fbel⟩
  · have HFQ : Hid ((St.fresh 2).format (sz : Int) 9 st = (60, St.fresh 2)) := format_full (by decide) hokH (by rw [HLN.out]; exact hfit) (by omega)
    rw [HFQ.out]
    rintro e w6 ⟨rfl, F6, d6, g6, n6⟩
    have HD6 : Hid (Dk 71 66 w6 p F6 (St.fresh 2)) := d6
    have HG6 := hidden g6
    have HN6 := hidden n6
    have HB6 := hidden (g6.blk HB5'.out HTF.out)
    clear d6 g6 n6 hokH
    have b0 : w6.cell? ⟨tb, 0, none⟩ = some (.slice (some ⟨sb, 0, none⟩) m c4) := HB6.out.cell 0
    have hfit' : ¬ (m : Int) + 33 ≤ (sz : Int) := by omega
    go_wp2_with fail
    refine open_walk p F6 (St.fresh 2) w6 HD6.out (Nat.zero_le _) _ ?_
    intro e w7 hO
    obtain ⟨F7, d7, g7, n7, hc7⟩ := hO
    rw [fresh_opens] at hc7
    rcases hc7 with ⟨er, he, _, rfl⟩ | ⟨f, lp, x, r, sv, rv, he, _⟩
    · obtain rfl := Except.error.inj he
      have HBE : Hid (Lat W w7) := lat_low HLW.out (HG6.out.new g7 HN6.out) HLO.out
      clear d7 g7 n7 b0
      go_wp2_with fail
      go_ret
      exact ⟨rfl, HBE.out⟩
    · cases he

end Go.Proofs.Ytnfjhdedcnbdbaa
