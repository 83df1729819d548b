import Derived.Test.YtfieglepljmmkaaRefR5
import Derived.Test.YtfieglepljmmkaaRefR11
import Derived.Test.YtfieglepljmmkaaRefR17
import Derived.Test.YtfieglepljmmkaaRefR19
import Derived.Test.YtfieglepljmmkaaRefNum
import Derived.Deep.CutRange
namespace Go.Proofs.Ytfieglepljmmkaa
open Go.RowKit
set_option linter.unusedVariables false

theorem zero47 : (Try.prog.info? 47).map (fun i => (i.zero.map (·.cells.size), i.size)) = some (some 8, 8) := by kernel_rfl
theorem wrap_few (j : Nat) (h : j < 64) : IntKind.i64.wrap (j : Int) = (j : Int) := by
  rw [IntKind.wrap_i64]
  omega
theorem wrap_lo (p : Int) (h : 0 ≤ p ∧ p ≤ 4294967295) : IntKind.u32.wrap p = p := by
  rw [IntKind.wrap_u32]
  omega

set_option maxRecDepth 100000 in
set_option maxHeartbeats 1500000 in
theorem block_any (s : St) (m : List Int) (b off c : Nat) (w : World) (hb : Byte m) (hblt : b < w.heap.size) (hm : ∀ j, j < 64 → w.cell? ⟨b, off + j, none⟩ = some (.int .u8 (m.getD j 0))) :
    Calls Try.prog 26 #[.agg (wc s.l).toArray, .slice (some ⟨b, off, none⟩) 64 c] w fun e w' => e = .returned (.agg (wc (comp s m).l).toArray) ∧ Below w.heap.size w w' := by
  have HMM := hidden hm
  clear hm
  go_enter Try.func26, Try.ntmps26
  go_wp2_with (first
    | (refine wpList_box_blk rfl 47 (.tmp 0) rfl (wc s.l) rfl ?_; intro w1 B1 bl1 hz1)
    | (refine wpList_alloc_blk rfl 47 rfl 4 rfl _ new47 ?_; intro w2 B2 bl2 hz2)
    | (refine wpList_alloc_blk rfl 57 rfl 5 rfl _ new57 ?_; intro w3 B3 bl3 hz3))
  obtain ⟨g, hg⟩ : ∃ g, g = w.heap.size := ⟨_, rfl⟩
  rw [hz1] at B2 hz2 bl2
  rw [hz2] at B3 hz3 bl3
  rw [← hg] at B1 bl1 hz1 B2 bl2 hz2 B3 bl3 hz3 hblt ⊢
  have HG := hidden hg
  have HS : Hid (Blk w3 g 47 (wc s.l)) := (B1.below bl2 (by omega)).below bl3 (by omega)
  have HR : Hid (Blk w3 (g + 1) 47 (wc (List.replicate 8 0))) := B2.below bl3 (by omega)
  have HV : Hid (Blk w3 (g + 2) 57 (wc (List.replicate 64 0))) := B3
  have HB : Hid (Below g w w3) := (bl1.trans (bl2.mono (by omega))).trans (bl3.mono (by omega))
  clear hg B1 bl1 hz1 B2 bl2 hz2 B3 bl3 hz3
  rw [show g + 1 + 1 = g + 2 by omega]
  go_loopw [6] (fun iv wr => ∃ i : Nat, i ≤ 16 ∧ iv = .int .i64 i ∧ Blk wr g 47 (wc s.l) ∧ Blk wr (g + 1) 47 (wc (List.replicate 8 0)) ∧ Blk wr (g + 2) 57 (wc (words i m) ++ wc (List.replicate (64 - i) 0)) ∧ Below g w wr) (fun iv _ => 16 - (intOf iv).toNat)
  case atStart => exact ⟨0, by omega, rfl, HS.out, HR.out, HV.out, HB.out⟩
  case round =>
    rename World => wr
    obtain ⟨i, hi, rfl, b1, b2, b3, bb⟩ := hrel
    clear HS HR HV HB
    have HS := hidden b1
    have HR := hidden b2
    have HV := hidden b3
    have HB := hidden bb
    clear b1 b2 b3 bb
    by_cases hlt : i < 16
    · have hcm : ∀ j, j < 64 → ∀ w1, Lat wr w1 → w1.cell? ⟨b, off + j, none⟩ = some (.int .u8 (m.getD j 0)) := fun j hj w1 hL => by
        rw [hL.cell (p := ⟨b, off + j, none⟩) (Nat.lt_of_lt_of_le hblt (by have := HV.out.lt; omega)), HB.out.cell (p := ⟨b, off + j, none⟩) hblt]
        exact HMM.out j hj
      have HCM := hidden hcm
      have hcv : ∀ w1, Lat wr w1 → ∃ v, w1.cell? ⟨g + 2, i, none⟩ = some v := fun w1 hL => by
        apply Option.isSome_iff_exists.1
        rw [(HV.out.later hL).cell]
        simp [wc_len, words_len]
        omega
      have HCV := hidden hcv
      clear hcm hcv
      go_wp2_with fail
      refine block_r5 b off c (g + 2) i (4 * i) (4 * i + 1) (4 * i + 2) (4 * i + 3) (m.getD (4 * i) 0) (m.getD (4 * i + 1) 0) (m.getD (4 * i + 2) 0) (m.getD (4 * i + 3) 0) _ _ (N (word (m.getD (4 * i) 0) (m.getD (4 * i + 1) 0) (m.getD (4 * i + 2) 0) (m.getD (4 * i + 3) 0))) wr _ _ (by rfl) (by rfl) (by rfl) (by rfl) (by omega) (wrap_few _ (by omega)) (by omega) (wrap_few _ (by omega)) (by omega) (wrap_few _ (by omega)) (by omega) (wrap_few _ (by omega)) (by omega) (by omega) (by omega) (by omega) (by omega) (by omega) (by omega) (by omega) (by omega) (by omega) (wrap_lo _ (by have := hb.at (4 * i); omega)) (wrap_lo _ (by have := hb.at (4 * i + 1); omega)) (wrap_lo _ (by have := hb.at (4 * i + 2); omega)) (wrap_lo _ (by have := hb.at (4 * i + 3); omega)) (wrap_lo _ (by have := hb.at (4 * i); omega)) (wrap_lo _ (by have := hb.at (4 * i + 1); omega)) (wrap_lo _ (by have := hb.at (4 * i + 2); omega)) rfl rfl (word_or _ _ _ _ (hb.at _) (hb.at _) (hb.at _) (hb.at _)) (HCM.out _ (by omega)) (HCM.out _ (by omega)) (HCM.out _ (by omega)) (HCM.out _ (by omega)) HCV.out (fun w1 hL => (HV.out.later hL).frozen i) ?_
      intro v20 v21 v22 v23 v24 v25 v26 v27 v28 v29 v30 v31 v32 v33 v34 v35 v36 v37 v38 v39 v40 v41 v42 v43 v44 v45 v46 v47 v48 v49 v50 v51 v52 v53 v54 w4 hL4
      have hb1 : Blk (w4.setCell ⟨g + 2, i, none⟩ (.int .u32 (N (word (m.getD (4 * i) 0) (m.getD (4 * i + 1) 0) (m.getD (4 * i + 2) 0) (m.getD (4 * i + 3) 0))))) g 47 (wc s.l) := (HS.out.later hL4).setOff _ _ (by simp)
      have hb2 : Blk (w4.setCell ⟨g + 2, i, none⟩ (.int .u32 (N (word (m.getD (4 * i) 0) (m.getD (4 * i + 1) 0) (m.getD (4 * i + 2) 0) (m.getD (4 * i + 3) 0))))) (g + 1) 47 (wc (List.replicate 8 0)) := (HR.out.later hL4).setOff _ _ (by simp)
      have hb3 : Blk (w4.setCell ⟨g + 2, i, none⟩ (.int .u32 (N (word (m.getD (4 * i) 0) (m.getD (4 * i + 1) 0) (m.getD (4 * i + 2) 0) (m.getD (4 * i + 3) 0))))) (g + 2) 57 (wc (words (i + 1) m) ++ wc (List.replicate (64 - (i + 1)) 0)) := by
        rw [← words_step m i hlt]
        exact (HV.out.later hL4).set i _
      have hb4 : Below g w (w4.setCell ⟨g + 2, i, none⟩ (.int .u32 (N (word (m.getD (4 * i) 0) (m.getD (4 * i + 1) 0) (m.getD (4 * i + 2) 0) (m.getD (4 * i + 3) 0))))) := (HB.out.trans (hL4.mono (by have := HV.out.lt; omega))).setCell (by simp) _
      generalize w4.setCell ⟨g + 2, i, none⟩ (.int .u32 (N (word (m.getD (4 * i) 0) (m.getD (4 * i + 1) 0) (m.getD (4 * i + 2) 0) (m.getD (4 * i + 3) 0)))) = w5 at *
      have Hb1 := hidden hb1
      have Hb2 := hidden hb2
      have Hb3 := hidden hb3
      have Hb4 := hidden hb4
      clear hb1 hb2 hb3 hb4 hL4 HCM HCV HS HR HV HB
      simp only [Act.put, List.setIfInBounds_toArray, List.set_cons_succ, List.set_cons_zero]
      go_wp2_with fail
      refine ⟨⟨i + 1, by omega, rfl, Hb1.out, Hb2.out, Hb3.out, Hb4.out⟩, ?_⟩
      simp only [intOf]; omega
    · have e16 : i = 16 := by omega
      have h16 : (16 : Int) ≤ i := by omega
      have hv16 := words_len 16 m
      have h3 : Blk wr (g + 2) 57 (wc (sched 0 (words 16 m)) ++ wc (List.replicate (48 - 0) 0)) := by
        have := HV.out
        rw [e16] at this
        exact this
      clear e16 hi hlt
      clear HV
      have HV := hidden h3
      clear h3
      generalize hvv : words 16 m = v at *
      have HVV := hidden hvv
      clear hvv HMM
      go_wp2_with fail
      go_loopw [7] (fun iv ws => ∃ k : Nat, k ≤ 48 ∧ iv = .int .i64 ((16 + k : Nat) : Int) ∧ Blk ws g 47 (wc s.l) ∧ Blk ws (g + 1) 47 (wc (List.replicate 8 0)) ∧ Blk ws (g + 2) 57 (wc (sched k v) ++ wc (List.replicate (48 - k) 0)) ∧ Below g w ws) (fun iv _ => 64 - (intOf iv).toNat)
      case atStart => exact ⟨0, by omega, rfl, HS.out, HR.out, HV.out, HB.out⟩
      case round =>
        rename World => ws
        obtain ⟨k, hk, rfl, b1, b2, b3, bb⟩ := hrel
        clear HS HR HV HB
        have HS := hidden b1
        have HR := hidden b2
        have HV := hidden b3
        have HB := hidden bb
        clear b1 b2 b3 bb
        by_cases hlt : k < 48
        · have hc : ∀ j, j < 16 + k → ∀ w1, Lat ws w1 → w1.cell? ⟨g + 2, j, none⟩ = some (.int .u32 (N ((sched k v).getD j 0))) := fun j hj w1 hL => by
            rw [(HV.out.later hL).cell, sched_at v k j hv16 hj]
          have hcv : ∀ w1, Lat ws w1 → ∃ z, w1.cell? ⟨g + 2, 16 + k, none⟩ = some z := fun w1 hL => by
            apply Option.isSome_iff_exists.1
            rw [(HV.out.later hL).cell]
            simp [wc_len, sched_len]
            omega
          have HCV := hidden hcv
          have hn : wNext (sched k v) = s1 ((sched k v).getD (14 + k) 0) + (sched k v).getD (9 + k) 0 + s0 ((sched k v).getD (1 + k) 0) + (sched k v).getD k 0 := by
            unfold wNext
            rw [sched_len, hv16, show 16 + k - 2 = 14 + k by omega, show 16 + k - 7 = 9 + k by omega, show 16 + k - 15 = 1 + k by omega, show 16 + k - 16 = k by omega]
          have HN := hidden hn
          have c14 := hc (14 + k) (by omega) ws (Lat.refl _)
          have H9 := hidden (hc (9 + k) (by omega))
          have c1 := hc (1 + k) (by omega) ws (Lat.refl _)
          have H0' := hidden (hc k (by omega))
          clear hc hn hcv
          generalize (sched k v).getD (14 + k) 0 = x14 at *
          generalize (sched k v).getD (9 + k) 0 = x9 at *
          generalize (sched k v).getD (1 + k) 0 = x1 at *
          generalize (sched k v).getD k 0 = x0 at *
          obtain ⟨i, hi⟩ : ∃ i, 16 + k = i := ⟨_, rfl⟩
          have hi16 : 16 ≤ i := by omega
          have hi64 : i < 64 := by omega
          rw [show 14 + k = i - 2 by omega] at c14
          rw [show 1 + k = i - 15 by omega] at c1
          rw [hi] at HCV ⊢
          have HI := hidden hi
          clear hi
          go_wp2_with fail
          refine block_r11 (g + 2) i (9 + k) k x14 x1 x9 x0 ws _ _ (by rfl) (by rfl) (by rfl) (by rfl) (by rfl) (by have := HI.out; omega) (wrap_few _ (by omega)) (by have := HI.out; omega) (wrap_few _ (by omega)) (by omega) (by omega) (by omega) (by omega) (by omega) (by omega) H9.out H0'.out HCV.out (fun w1 hL => (HV.out.later hL).frozen i) ?_
          intro v67 v68 v69 v70 v71 v72 v73 v74 v75 v76 v77 v78 v79 v80 v81 v82 v83 v84 v85 v86 v87 v88 v89 v90 v91 v92 v93 v94 v95 w4 hL4
          have hs : ((((((rotr x14 17) ^^^ (rotr x14 19)) ^^^ (x14 >>> 10)) + x9) + (((rotr x1 7) ^^^ (rotr x1 18)) ^^^ (x1 >>> 3))) + x0) = wNext (sched k v) := HN.out.symm
          rw [hs]
          clear hs
          have hb1 : Blk (w4.setCell ⟨g + 2, i, none⟩ (.int .u32 (N (wNext (sched k v))))) g 47 (wc s.l) := (HS.out.later hL4).setOff _ _ (by simp)
          have hb2 : Blk (w4.setCell ⟨g + 2, i, none⟩ (.int .u32 (N (wNext (sched k v))))) (g + 1) 47 (wc (List.replicate 8 0)) := (HR.out.later hL4).setOff _ _ (by simp)
          have hb3 : Blk (w4.setCell ⟨g + 2, i, none⟩ (.int .u32 (N (wNext (sched k v))))) (g + 2) 57 (wc (sched (k + 1) v) ++ wc (List.replicate (48 - (k + 1)) 0)) := by
            rw [← sched_step v k hv16 hlt, HI.out]
            exact (HV.out.later hL4).set i _
          have hb4 : Below g w (w4.setCell ⟨g + 2, i, none⟩ (.int .u32 (N (wNext (sched k v))))) := (HB.out.trans (hL4.mono (by have := HV.out.lt; omega))).setCell (by simp) _
          generalize w4.setCell ⟨g + 2, i, none⟩ (.int .u32 (N (wNext (sched k v)))) = w5 at *
          have Hb1 := hidden hb1
          have Hb2 := hidden hb2
          have Hb3 := hidden hb3
          have Hb4 := hidden hb4
          clear hb1 hb2 hb3 hb4 hL4 HCV HS HR HV HB c14 c1 H9 H0' HN
          simp only [Act.put, List.setIfInBounds_toArray, List.set_cons_succ, List.set_cons_zero]
          go_wp2_with fail
          have hi := HI.out
          refine ⟨⟨k + 1, by omega, by rw [← hi]; push_cast; rfl, Hb1.out, Hb2.out, Hb3.out, Hb4.out⟩, ?_⟩
          simp only [intOf]; omega
        · obtain rfl : k = 48 := by omega
          have h64 : (64 : Int) ≤ ((16 + 48 : Nat) : Int) := by decide
          have h3 : Blk ws (g + 2) 57 (wc (sched 48 v)) := by simpa [wc] using HV.out
          have hlen : (sched 48 v).length = 64 := by rw [sched_len, hv16]
          clear HV
          have HV := hidden h3
          clear h3
          generalize hWW : sched 48 v = W at *
          have HWW : Unit → sched 48 v = W := fun _ => hWW
          clear hWW hv16
          go_wp2_with fail
          refine (numbers_any ws).mono ?_
          rintro e w4 ⟨ty, rfl, hK, bl4⟩
          have hgk : g + 2 < ws.heap.size := HV.out.lt
          have Hb1 : Hid (Blk w4 g 47 (wc s.l)) := HS.out.later bl4
          have Hb2 : Hid (Blk w4 (g + 1) 47 (wc (List.replicate 8 0))) := HR.out.later bl4
          have Hb3 : Hid (Blk w4 (g + 2) 57 (wc W)) := HV.out.later bl4
          have Hb4 : Hid (Below g w w4) := HB.out.trans (bl4.mono (by omega))
          have hatk : ∀ i, i < 64 → (wc KK)[i]? = some (.int .u32 (N (KK.getD i 0))) := fun i hi => wc_at KK i hi
          have HATK := hidden hatk
          clear hatk
          have HK := hidden hK
          clear HS HR HV HB bl4 hK
          generalize hTK : wc KK = TK at *
          clear hTK
          generalize ws.heap.size = gk at *
          go_wp2_with (first
            | refine wpList_load_blk rfl 47 (.tmp 2) rfl g Hb1.out rfl Try.underlying47 rfl (by rw [info47]; rfl) ?_
            | (refine wpList_new_var rfl rfl 47 11 (.tmp 97) rfl rfl rfl rfl 8 zero47 (wc s.l) rfl (wc_one _) (by simp [Act.put]) rfl ?_; intro w5 B5 bl5 hz5))
          have hgs : gk < w4.heap.size := HK.out.lt
          have HS : Hid (Blk w5 g 47 (wc s.l)) := Hb1.out.later bl5
          have HR : Hid (Blk w5 (g + 1) 47 (wc (List.replicate 8 0))) := Hb2.out.later bl5
          have HV : Hid (Blk w5 (g + 2) 57 (wc W)) := Hb3.out.later bl5
          have HB : Hid (Below g w w5) := Hb4.out.trans (bl5.mono (by omega))
          have HK5 : Hid (Blk w5 gk ty TK) := HK.out.later bl5
          have HX := hidden B5
          clear Hb1 Hb2 Hb3 Hb4 HK bl5 hz5 B5
          generalize w4.heap.size = gs at *
          have HLEN := hidden hlen
          clear hlen
          go_wp2_with fail
          go_loopw [12] (fun iv wt => ∃ (i : Nat) (r : St), i ≤ 64 ∧ iv = .int .i64 i ∧ r = rounds KK W i s ∧ Blk wt g 47 (wc s.l) ∧ Blk wt (g + 1) 47 (wc (List.replicate 8 0)) ∧ Blk wt (g + 2) 57 (wc W) ∧ Blk wt gk ty TK ∧ Blk wt gs 47 (wc r.l) ∧ Below g w wt) (fun iv _ => 64 - (intOf iv).toNat)
          case atStart => exact ⟨0, s, by omega, rfl, rfl, HS.out, HR.out, HV.out, HK5.out, HX.out, HB.out⟩
          case round =>
            rename World => wt
            obtain ⟨i, r, hi, rfl, hr, b1, b2, b3, b4, b5, bb⟩ := hrel
            clear HS HR HV HB HK5 HX
            have HRR := hidden hr
            have HS := hidden b1
            have HR := hidden b2
            have HV := hidden b3
            have HK := hidden b4
            have HX := hidden b5
            have HB := hidden bb
            clear hr b1 b2 b3 b4 b5 bb
            by_cases hlt : i < 64
            · have hck : ∀ w1, Lat wt w1 → w1.cell? ⟨gk, i, none⟩ = some (.int .u32 (N (KK.getD i 0))) := fun w1 hL => by
                rw [(HK.out.later hL).cell]
                exact HATK.out i hlt
              have hcw : ∀ w1, Lat wt w1 → w1.cell? ⟨g + 2, i, none⟩ = some (.int .u32 (N (W.getD i 0))) := fun w1 hL => by
                rw [(HV.out.later hL).cell]
                exact wc_at W i (by have := HLEN.out; omega)
              have hcs : ∀ j, j < 8 → ∀ w1, Lat wt w1 → w1.cell? ⟨gs, j, none⟩ = some (.int .u32 (N (r.l.getD j 0))) := fun j hj w1 hL => by
                rw [(HX.out.later hL).cell]
                exact wc_at r.l j hj
              have HST : Unit → _ := fun _ => rounds_succ KK W i s
              obtain ⟨ki, hki⟩ : ∃ ki, KK.getD i 0 = ki := ⟨_, rfl⟩
              obtain ⟨wi, hwi⟩ : ∃ wi, W.getD i 0 = wi := ⟨_, rfl⟩
              rw [hki] at hck
              rw [hwi] at hcw
              have HKI := hidden hki
              have HWI := hidden hwi
              have HCK := hidden hck
              have HCW := hidden hcw
              have HCS := hidden hcs
              clear hki hwi hck hcw hcs
              have HT : Unit → rnd r ki wi = ⟨tOf r ki wi + uOf r, r.a, r.b, r.c, r.d + tOf r ki wi, r.e, r.f, r.g⟩ := fun _ => rfl
              have ht : Hid (((((r.h + (((rotr r.e 6) ^^^ (rotr r.e 11)) ^^^ (rotr r.e 25))) + ((r.e &&& r.f) ^^^ ((~~~r.e) &&& r.g))) + ki) + wi) = tOf r ki wi) := rfl
              have hu : Hid (((((rotr r.a 2) ^^^ (rotr r.a 13)) ^^^ (rotr r.a 22)) + (((r.a &&& r.b) ^^^ (r.a &&& r.c)) ^^^ (r.b &&& r.c))) = uOf r) := rfl
              generalize tOf r ki wi = t at *
              generalize uOf r = u at *
              obtain ⟨TL, hTL⟩ : ∃ TL, wc [t + u, r.a, r.b, r.c, r.d + t, r.e, r.f, r.g] = TL := ⟨_, rfl⟩
              have HTL : Unit → TL.length = (wc r.l).length := fun _ => by rw [← hTL]; rfl
              have HTO : Hid (∀ v ∈ TL, v.oneCell' = true) := by rw [← hTL]; exact wc_one _
              have hTB : Try.prog.built 47 [(0, .int .u32 (N (t + u))), (1, .int .u32 (N r.a)), (2, .int .u32 (N r.b)), (3, .int .u32 (N r.c)), (4, .int .u32 (N (r.d + t))), (5, .int .u32 (N r.e)), (6, .int .u32 (N r.f)), (7, .int .u32 (N r.g))] = some TL.toArray := by rw [← hTL]; kernel_rfl
              have HTB : Unit → _ := fun _ => hTB
              clear hTB
              have HTD : Unit → TL = wc [t + u, r.a, r.b, r.c, r.d + t, r.e, r.f, r.g] := fun _ => hTL.symm
              clear hTL
              go_upto_region 19 with (first
                | (refine block_r17 gs gk (g + 2) i r.a r.b r.c r.d r.e r.f r.g r.h ki wi wt _ _ (by rfl) (by rfl) (by rfl) (by rfl) (by rfl) (by omega) (by omega) HCK.out HCW.out (HCS.out 0 (by omega)) (HCS.out 1 (by omega)) (HCS.out 2 (by omega)) (HCS.out 3 (by omega)) (HCS.out 4 (by omega)) (HCS.out 5 (by omega)) (HCS.out 6 (by omega)) (HCS.out 7 (by omega)) ?_
                   intro v102 v103 v104 v105 v106 v107 v108 v109 v110 v111 v112 v113 v114 v115 v116 v117 v118 v119 v120 v121 v122 v123 v124 v125 v126 v127 v128 v129 v130 v131 v132 v133 v134 v135 v136 v137 w6 hL6
                   rw [ht.out]
                   simp only [Act.put, List.setIfInBounds_toArray, List.set_cons_succ, List.set_cons_zero])
                | (refine block_r18 gs r.a r.b r.c r.d r.e r.f r.g r.h w6 _ _ (by rfl) (by rfl) (fun w1 hL => HCS.out 0 (by omega) w1 (Lat.trans _ _ _ hL6 hL)) (fun w1 hL => HCS.out 1 (by omega) w1 (Lat.trans _ _ _ hL6 hL)) (fun w1 hL => HCS.out 2 (by omega) w1 (Lat.trans _ _ _ hL6 hL)) (fun w1 hL => HCS.out 3 (by omega) w1 (Lat.trans _ _ _ hL6 hL)) (fun w1 hL => HCS.out 4 (by omega) w1 (Lat.trans _ _ _ hL6 hL)) (fun w1 hL => HCS.out 5 (by omega) w1 (Lat.trans _ _ _ hL6 hL)) (fun w1 hL => HCS.out 6 (by omega) w1 (Lat.trans _ _ _ hL6 hL)) (fun w1 hL => HCS.out 7 (by omega) w1 (Lat.trans _ _ _ hL6 hL)) ?_
                   intro v138 v139 v140 v141 v142 v143 v144 v145 v146 v147 v148 v149 v150 v151 v152 v153 v154 v155 v156 v157 v158 v159 v160 v161 v162 v163 v164 v165 v166 w7 hL7
                   rw [hu.out]
                   simp only [Act.put, List.setIfInBounds_toArray, List.set_cons_succ, List.set_cons_zero]
                   have HX7 : Hid (Blk w7 gs 47 (wc r.l)) := HX.out.later (Lat.trans _ _ _ hL6 hL7)))
              have hth : ∀ w1, Lat w7 w1 → w1.there gs 0 TL.length := fun w1 hL => (HX7.out.later hL).there 0 _ (by rw [(HTL ())]; simp)
              refine block_r19 gs t u r.a r.b r.c r.d r.e r.f r.g TL w7 _ _ (by rfl) (by rfl) (by rfl) (by rfl) (fun w1 hL => HCS.out 0 (by omega) w1 (Lat.trans _ _ _ (Lat.trans _ _ _ hL6 hL7) hL)) (fun w1 hL => HCS.out 1 (by omega) w1 (Lat.trans _ _ _ (Lat.trans _ _ _ hL6 hL7) hL)) (fun w1 hL => HCS.out 2 (by omega) w1 (Lat.trans _ _ _ (Lat.trans _ _ _ hL6 hL7) hL)) (fun w1 hL => HCS.out 3 (by omega) w1 (Lat.trans _ _ _ (Lat.trans _ _ _ hL6 hL7) hL)) (fun w1 hL => HCS.out 4 (by omega) w1 (Lat.trans _ _ _ (Lat.trans _ _ _ hL6 hL7) hL)) (fun w1 hL => HCS.out 5 (by omega) w1 (Lat.trans _ _ _ (Lat.trans _ _ _ hL6 hL7) hL)) (fun w1 hL => HCS.out 6 (by omega) w1 (Lat.trans _ _ _ (Lat.trans _ _ _ hL6 hL7) hL)) (HTB ()) hth (by rw [info47, (HTL ())]; rfl) HTO.out ?_
              intro v167 v168 v169 v170 v171 v172 v173 v174 v175 v176 v177 v178 v179 v180 v181 v182 v183 v184 v185 v186 w8 hL8
              have hL18 := Lat.trans _ _ _ (Lat.trans _ _ _ hL6 hL7) hL8
              have k1 : Blk (w8.setCells gs 0 TL) gs 47 (wc (rnd r ki wi).l) := by
                have := blk_stored (l := TL) (HX.out.later hL18) (HTL ())
                rw [(HTD ())] at this
                rw [HT ()]
                have e := (HTD ())
                rw [e]
                exact this
              have k2 := Blk.setsOff TL 0 gs w8 _ (HS.out.later hL18) (by omega)
              have k3 := Blk.setsOff TL 0 gs w8 _ (HR.out.later hL18) (by omega)
              have k4 := Blk.setsOff TL 0 gs w8 _ (HV.out.later hL18) (by omega)
              have k5 := Blk.setsOff TL 0 gs w8 _ (HK.out.later hL18) (by omega)
              have k6 : Below g w (w8.setCells gs 0 TL) := (HB.out.trans (hL18.mono (by have := HV.out.lt; omega))).trans (below_sets (by omega) TL 0 w8)
              have hSr : rnd r ki wi = rounds KK W (i + 1) s := by
                rw [HST (), ← HRR.out, HKI.out, HWI.out]
              rw [hSr] at k1
              generalize w8.setCells gs 0 TL = w9 at *
              have K1 := hidden k1
              have K2 := hidden k2
              have K3 := hidden k3
              have K4 := hidden k4
              have K5 := hidden k5
              have K6 := hidden k6
              clear k1 k2 k3 k4 k5 k6 hL18 hL8 hL7 hL6 hth HX7 HCS HCK HCW HTB HTD HTL HTO HST HT ht hu hSr
              simp only [Act.put, List.setIfInBounds_toArray, List.set_cons_succ, List.set_cons_zero]
              go_wp2_with fail
              refine ⟨⟨i + 1, _, by omega, ?_, rfl, K2.out, K3.out, K4.out, K5.out, K1.out, K6.out⟩, ?_⟩
              · go_num
              · simp only [intOf]; omega
            · have e64 : i = 64 := by omega
              have h64' : (64 : Int) ≤ i := by omega
              have hr : Unit → r = rounds KK W 64 s := fun _ => by
                have := HRR.out
                rw [e64] at this
                exact this
              have b1 : Blk wt g 47 (wc (part s r 0)) := HS.out
              clear HRR HV HK HATK e64 hi hlt HS
              have HS := hidden b1
              clear b1
              go_wp2_with fail
              go_loopw [15] (fun iv wu => ∃ j : Nat, j ≤ 8 ∧ iv = .int .i64 j ∧ Blk wu g 47 (wc (part s r j)) ∧ Blk wu (g + 1) 47 (wc (List.replicate 8 0)) ∧ Blk wu gs 47 (wc r.l) ∧ Below g w wu) (fun iv _ => 8 - (intOf iv).toNat)
              case atStart => exact ⟨0, by omega, rfl, HS.out, HR.out, HX.out, HB.out⟩
              case round =>
                rename World => wu
                obtain ⟨j, hj, rfl, h1, h2, h3, hB⟩ := hrel
                clear HS HR HX HB
                have H1 := hidden h1
                have H2 := hidden h2
                have H3 := hidden h3
                have HB := hidden hB
                clear h1 h2 h3 hB
                by_cases hlt : j < 8
                · have hy : wu.cell? ⟨gs, j, none⟩ = some (.int .u32 (N (r.l.getD j 0))) := by rw [H3.out.cell]; exact wc_at r.l j hlt
                  have hc : wu.cell? ⟨g, j, none⟩ = some (.int .u32 (N (s.l.getD j 0))) := by rw [H1.out.cell, part_at s r j hlt]
                  have hf := H1.out.frozen j
                  have HST := hidden (part_step s r j hlt)
                  generalize s.l.getD j 0 = x at *
                  generalize r.l.getD j 0 = y at *
                  have q1 : Blk (wu.setCell ⟨g, j, none⟩ (.int .u32 (N (x + y)))).drew g 47 (wc (part s r (j + 1))) := by
                    rw [← HST.out]
                    exact H1.out.set j _
                  have q2 : Blk (wu.setCell ⟨g, j, none⟩ (.int .u32 (N (x + y)))).drew (g + 1) 47 (wc (List.replicate 8 0)) := H2.out.setOff _ _ (by simp)
                  have q3 : Blk (wu.setCell ⟨g, j, none⟩ (.int .u32 (N (x + y)))).drew gs 47 (wc r.l) := H3.out.setOff _ _ (by simp only; omega)
                  have q4 : Below g w (wu.setCell ⟨g, j, none⟩ (.int .u32 (N (x + y)))).drew := (HB.out.setCell (p := ⟨g, j, none⟩) (Nat.le_refl _) _).drew
                  have Q1 := hidden q1
                  have Q2 := hidden q2
                  have Q3 := hidden q3
                  have Q4 := hidden q4
                  clear q1 q2 q3 q4
                  go_wp2_with fail
                  go_region
                  go_wp2_with fail
                  rw [N_add']
                  refine ⟨⟨j + 1, by omega, ?_, Q1.out, Q2.out, Q3.out, Q4.out⟩, ?_⟩
                  · go_num
                  · simp only [intOf]; omega
                · obtain rfl : j = 8 := by omega
                  have h8 : (8 : Int) ≤ ((8 : Nat) : Int) := by decide
                  have h1 : Blk wu g 47 (wc (s.add r).l) := H1.out
                  have hlen8 : (wc (s.add r).l).length = 8 := rfl
                  have hone := wc_one (s.add r).l
                  have hst := blk_stored (l := wc (s.add r).l) H2.out rfl
                  have hbb := HB.out.trans (below_sets (Nat.le_succ g) (wc (s.add r).l) 0 wu)
                  generalize hT : wc (s.add r).l = T at *
                  have HT : Unit → wc (s.add r).l = T := fun _ => hT
                  clear hT
                  go_wp2_with (first
                    | refine wpList_load_blk rfl 47 (.tmp 2) rfl g h1 rfl Try.underlying47 rfl (by rw [info47, hlen8]) ?_
                    | refine wpList_store_blk rfl 47 (.tmp 4) (.tmp 200) rfl rfl (g + 1) H2.out rfl rfl (by rw [hlen8]; rfl) (by rw [info47, hlen8]) hone ?_)
                  refine bodyPost_ret (results_cell_row rfl _ _ (g + 1) 47 _ (0, 0) _ rfl hst Try.underlying47 rfl (by rw [info47]; simp [hlen8])) rfl ?_
                  refine ⟨?_, by rw [← HG.out]; exact hbb⟩
                  rw [← HT (), hr (), ← HWW (), ← HVV.out]
                  rfl

end Go.Proofs.Ytfieglepljmmkaa
