import Derived.Test.YthfapajpmcmfeaaBackM
namespace Go.Proofs.Ythfapajpmcmfeaa
open Go.RowKit
set_option linter.unusedVariables false

set_option maxRecDepth 100000 in
set_option maxHeartbeats 4000000 in
theorem back_any (a0 : Option Addr) (len0 cap0 : Nat) (a1 : Option Addr) (len1 cap1 : Nat) (vf : Nat → Nat) (nf : Nat → Int) (x : Nat) (w : World) (h0 : Ar .u64 w a0 len0 (fun i => (vf i : Int))) (h1 : Ar .i64 w a1 len1 nf)
    (hx : x < 18446744073709551616) (hvf : ∀ i, i < len0 → vf i < 18446744073709551616) (hl0 : len0 ≤ 9223372036854775807) (hl1 : len1 ≤ 9223372036854775807) :
    Calls Try.prog 5 #[.slice a0 len0 cap0, .slice a1 len1 cap1, .int .u64 (x : Int)] w fun e w' => e = .returned (.bool true) ∧ Below w.heap.size w w' := by
  obtain ⟨K, hK⟩ : ∃ K, min (min len0 len1) 1000 = K := ⟨_, rfl⟩
  have H0 := hidden h0
  have H1 := hidden h1
  have HVF := hidden hvf
  have HK := hidden hK
  clear h0 h1 hvf hK
  go_enter Try.func5, Try.ntmps5
  go_wp2_with fail
  refine (shown_any w).mono ?_
  rintro e w1 ⟨rfl, hb⟩
  have HB1 := hidden hb
  clear hb
  go_wp2_with fail
  refine (new_b w w1 HB1.out).mono ?_
  rintro e w2 ⟨rfl, hW⟩
  obtain ⟨p, hp⟩ : ∃ p, w1.heap.size = p := ⟨_, rfl⟩
  rw [hp] at hW ⊢
  have HW2 := hidden hW
  clear hW hp HB1
  go_wp2_with fail
  go_loopw [9, 10] (fun tv kv wr => ∃ k : Nat, k ≤ K ∧ tv = .int .i64 ((rowB vf nf k).length : Int) ∧ kv = .int .i64 (k : Int) ∧ WB w wr p (rowB vf nf k)) (fun _ kv _ => K - (intOf kv).toNat)
  case atStart => exact ⟨0, Nat.zero_le _, rfl, rfl, HW2.out⟩
  case round =>
    rename World => wr
    obtain ⟨k, hk, rfl, rfl, hW⟩ := hrel
    have HW := hidden hW
    clear hW HW2
    have hTb := rowB_len vf nf k
    obtain ⟨T, hT⟩ : ∃ T, (rowB vf nf k).length = T := ⟨_, rfl⟩
    rw [hT] at hTb ⊢
    have HT := hidden hT
    clear hT
    have hK1 : k ≤ 1000 := by have := HK.out; omega
    go_upto_region 7 with fail
    go_cut [42] from 29 to 73 (fun s42 wx => s42 = .bool (decide (k < K)) ∧ wx = wr)
    case first =>
      have hKK := HK.out
      by_cases q0 : k < len0
      · by_cases q1 : k < len1
        · by_cases q2 : k < 1000
          · have HD : Hid (decide (k < K) = true) := decide_eq_true (by omega)
            clear hKK
            go_wp2_with fail
            go_meet
            case rel => exact ⟨by first | (rw [HD.out]; done) | (rw [HD.out]; congr 1; exact decide_eq_true (by omega)) | (rw [HD.out]; congr 1; exact decide_eq_false (by omega)), rfl⟩
          · have HD : Hid (decide (k < K) = false) := decide_eq_false (by omega)
            clear hKK
            go_wp2_with fail
            go_meet
            case rel => exact ⟨by first | (rw [HD.out]; done) | (rw [HD.out]; congr 1; exact decide_eq_true (by omega)) | (rw [HD.out]; congr 1; exact decide_eq_false (by omega)), rfl⟩
        · have HD : Hid (decide (k < K) = false) := decide_eq_false (by omega)
          clear hKK
          go_wp2_with fail
          go_meet
          case rel => exact ⟨by first | (rw [HD.out]; done) | (rw [HD.out]; congr 1; exact decide_eq_true (by omega)) | (rw [HD.out]; congr 1; exact decide_eq_false (by omega)), rfl⟩
      · have HD : Hid (decide (k < K) = false) := decide_eq_false (by omega)
        clear hKK
        go_wp2_with fail
        go_meet
        case rel => exact ⟨by first | (rw [HD.out]; done) | (rw [HD.out]; congr 1; exact decide_eq_true (by omega)) | (rw [HD.out]; congr 1; exact decide_eq_false (by omega)), rfl⟩
    case rest =>
      obtain ⟨rfl, hwc⟩ := hcut
      obtain rfl := hwc.symm
      clear hwc
      by_cases hkK : k < K
      · have hd : decide (k < K) = true := by simpa using hkK
        have hKK := HK.out
        obtain ⟨b0, o0, rfl, hb0, hc0⟩ := H0.out (by omega)
        obtain ⟨b1, o1, rfl, hb1, hc1⟩ := H1.out (by omega)
        have q0 : k < len0 := by omega
        have q1 : k < len1 := by omega
        have d0 : wr.cell? ⟨b0, o0 + k, none⟩ = some (.int .u64 (vf k : Int)) := by
          rw [HW.out.bel.cell (p := ⟨b0, o0 + k, none⟩) hb0]
          exact hc0 k q0
        have d1 : wr.cell? ⟨b1, o1 + k, none⟩ = some (.int .i64 (nf k)) := by
          rw [HW.out.bel.cell (p := ⟨b1, o1 + k, none⟩) hb1]
          exact hc1 k q1
        have HV0 := hidden (HVF.out k q0)
        have hT2 := rowB_len vf nf (k + 1)
        have hR : rowB vf nf (k + 1) = rowB vf nf k ++ low (vf k) (cl (nf k)) := rfl
        have HR := hidden hR
        have HT2 := hidden hT2
        have HC1 := hidden hc1
        clear hR hT2 hKK hc0 hc1
        obtain ⟨vk, hvk⟩ : ∃ vk, vf k = vk := ⟨_, rfl⟩
        obtain ⟨nk, hnk⟩ : ∃ nk, nf k = nk := ⟨_, rfl⟩
        rw [hvk] at d0 HV0 HR
        rw [hnk] at d1 HR
        have HNK := hidden hnk
        clear hvk hnk
        go_upto_region 8 with fail
        go_cut [] from 29 to 73 (fun wx => WB w wx p (rowB vf nf (k + 1)))
        case first =>
          go_region_with (refine (put_b w _ p _ vk nk (HW.out.later ((Below.refl _ _).drew)) HV0.out (by rw [HT.out]; omega)).mono ?_; rintro e w' ⟨rfl, hW⟩)
          all_goals
            have HW' := hidden hW
            clear hW
            go_wp2_with fail
            go_meet
            case rel => rw [HR.out]; exact HW'.out
        case rest =>
          obtain ⟨w3, rfl⟩ : ∃ w3 : World, w3 = wc := ⟨_, rfl⟩
          obtain ⟨L2, hL2⟩ : ∃ L2, rowB vf nf (k + 1) = L2 := ⟨_, rfl⟩
          have hT2 := HT2.out
          rw [hL2] at hcut hT2 HR
          obtain ⟨T2, hT2d⟩ : ∃ T2, L2.length = T2 := ⟨_, rfl⟩
          rw [hT2d] at hT2
          have hT2e : T2 = T + cl nk := by
            rw [← hT2d, HR.out, List.length_append, low_len, HT.out]
          have HW3 := hidden hcut
          have HL2 := hidden hL2
          have HT2D := hidden hT2d
          have HT2E := hidden hT2e
          have e1 : w3.cell? ⟨b1, o1 + k, none⟩ = some (.int .i64 nk) := by
            rw [HW3.out.bel.cell (p := ⟨b1, o1 + k, none⟩) hb1, HC1.out k q1, HNK.out]
          clear hcut hL2 hT2d hT2e d0 d1 HW HT2
          go_upto_region 9 with fail
          go_cut [9] from 29 to 73 (fun s9 wx => s9 = .int .i64 (T2 : Int) ∧ wx = w3)
          case first =>
            go_wp2_with fail
            all_goals
              go_meet
              case rel =>
                refine ⟨?_, rfl⟩
                have := HT2E.out
                unfold cl at this
                congr 1
                omega
          case rest =>
            obtain ⟨rfl, hwc⟩ := hcut
            obtain rfl := hwc.symm
            clear hwc
            go_wp2_with fail
            refine (put_b w w3 p L2 x 64 HW3.out hx (by rw [HT2D.out]; omega)).mono ?_
            rintro e w4 ⟨rfl, hW4⟩
            have HW4 := hidden hW4
            clear hW4
            have hl64 : (L2 ++ low x (cl 64)).length = T2 + 64 := by rw [List.length_append, low_len, HT2D.out]; rfl
            have HL64 := hidden hl64
            clear hl64
            go_wp2_with fail
            refine (len_b w w4 p _ HW4.out).mono ?_
            rintro e w' ⟨rfl, hw⟩
            obtain rfl := hw.symm
            clear hw
            rw [HL64.out]
            go_wp2_with fail
            refine (cut_b w w4 p _ (T2 : Int) HW4.out (by rw [HL64.out]; omega)).mono ?_
            rintro e w5 ⟨rfl, hW5⟩
            rw [← HT2D.out, cut_back] at hW5
            have HW5 := hidden hW5
            clear hW5
            go_wp2_with fail
            refine ⟨⟨k + 1, by omega, ?_, ?_, ?_⟩, ?_⟩
            · rw [HL2.out, HT2D.out]
            · go_num
            · rw [HL2.out]
              exact HW5.out
            · simp [intOf]
              omega
      · obtain rfl : k = K := by omega
        have hd : decide (k < k) = false := decide_eq_false (by omega)
        clear hkK hk
        go_wp2_with fail
        refine (bytes_b w wr p _ HW.out (by rw [HT.out]; omega)).mono ?_
        rintro e w3 ⟨ad, c, R, rfl, hRl, hS, hno, hRep, hW3⟩
        rw [HT.out] at hRl hS hno ⊢
        obtain ⟨m, hm⟩ : ∃ m, (T + 7) / 8 = m := ⟨_, rfl⟩
        rw [hm] at hRl hS hno ⊢
        have hmi : ((T : Int) + 7) / 8 = (m : Int) := by omega
        have HMM := hidden hm
        have HRL := hidden hRl
        have HS := hidden hS
        have HNO := hidden hno
        have HREP := hidden hRep
        have HB3 := hidden hW3.bel
        clear hm hRl hS hno hRep hW3 HW
        go_wp2_with fail
        refine (reader_b w w3 ad m c R HB3.out HS.out (by have := HMM.out; omega) HNO.out).mono ?_
        rintro e w4 ⟨q, rfl, hR⟩
        have HR4 := hidden hR
        clear hR HS HNO HB3
        go_wp2_with fail
        rw [hmi]
        clear hmi
        go_loopw [13] (fun iv wr => ∃ i : Nat, i ≤ k ∧ iv = .int .i64 (i : Int) ∧ RB w wr q R (rowB vf nf i).length) (fun iv _ => k - (intOf iv).toNat)
        case atStart => exact ⟨0, Nat.zero_le _, rfl, HR4.out⟩
        case round =>
          obtain ⟨i, hi, rfl, hR⟩ := hrel
          have HR := hidden hR
          clear hR HR4
          have hTi := rowB_mono vf nf hi
          rw [HT.out] at hTi
          by_cases hik : i < k
          · have hKK := HK.out
            obtain ⟨b0, o0, rfl, hb0, hc0⟩ := H0.out (by omega)
            obtain ⟨b1, o1, rfl, hb1, hc1⟩ := H1.out (by omega)
            have q0 : i < len0 := by omega
            have q1 : i < len1 := by omega
            have d0 : wr.cell? ⟨b0, o0 + i, none⟩ = some (.int .u64 (vf i : Int)) := by
              rw [HR.out.2.2.cell (p := ⟨b0, o0 + i, none⟩) hb0]
              exact hc0 i q0
            have d1 : wr.cell? ⟨b1, o1 + i, none⟩ = some (.int .i64 (nf i)) := by
              rw [HR.out.2.2.cell (p := ⟨b1, o1 + i, none⟩) hb1]
              exact hc1 i q1
            have HC0 : Hid (w.cell? ⟨b0, o0 + i, none⟩ = some (.int .u64 (vf i : Int))) := hc0 i q0
            have hv0 := HVF.out i q0
            have HG := hidden (fun V => got (V := V) HREP.out hik)
            have hT2 : (rowB vf nf (i + 1)).length = (rowB vf nf i).length + cl (nf i) := by rw [rowB, List.length_append, low_len]
            have hT2m := rowB_mono vf nf (show i + 1 ≤ k from hik)
            rw [HT.out] at hT2m
            have HT2 := hidden hT2
            have HT2M := hidden hT2m
            clear hc0 hc1 hKK hT2 hT2m
            obtain ⟨vi, hvi⟩ : ∃ vi, vf i = vi := ⟨_, rfl⟩
            obtain ⟨ni, hni⟩ : ∃ ni, nf i = ni := ⟨_, rfl⟩
            obtain ⟨mi, hmi2⟩ : ∃ mi, cl ni = mi := ⟨_, rfl⟩
            have hmi64 : mi ≤ 64 := by rw [← hmi2]; exact cl_le ni
            obtain ⟨Ti, hTid⟩ : ∃ Ti, (rowB vf nf i).length = Ti := ⟨_, rfl⟩
            rw [hvi] at d0 HC0 hv0 HG
            rw [hni] at d1 HG HT2
            rw [hmi2] at HG HT2
            rw [hTid] at HG HT2 hTi HR
            have HMI := hidden hmi2
            clear hvi hni hmi2 hTid
            go_upto_region 22 with fail
            go_cut [14] from 88 to 125 (fun s14 wx => s14 = .int .i64 (mi : Int) ∧ wx = wr)
            case first =>
              go_wp2_with fail
              all_goals
                go_meet
                case rel =>
                  refine ⟨?_, rfl⟩
                  have := HMI.out
                  unfold cl at this
                  congr 1
                  omega
            case rest =>
              obtain ⟨rfl, hwc⟩ := hcut
              obtain rfl := hwc.symm
              clear hwc
              go_wp2_with fail
              refine (get_b w wr q Ti R (mi : Int) HR.out (by rw [HRL.out]; have := HMM.out; omega) (by omega) (by omega) (by
                have := HT2.out
                have := HT2M.out
                have := HMM.out
                rw [Int.toNat_natCast, HRL.out]
                omega)).mono ?_
              rintro e w5 ⟨V, rfl, hV, hR5⟩
              rw [Int.toNat_natCast] at hV hR5
              have hVe := HG.out V hV
              rw [← HT2.out] at hR5
              have d5 : w5.cell? ⟨b0, o0 + i, none⟩ = some (.int .u64 (vi : Int)) := by
                rw [hR5.2.2.cell (p := ⟨b0, o0 + i, none⟩) hb0]
                exact HC0.out
              have HR5 := hidden hR5
              have HVE := hidden hVe
              clear hV hR5 hVe d0 d1
              by_cases hm64 : mi < 64
              · go_wp2_with fail
                go_region
                rw [mask_eq vi mi hv0 hm64, ← HVE.out]
                have hR6 : RB w w5.drew q R (rowB vf nf (i + 1)).length := ⟨HR5.out.1.same (Chg.drew _ _), HR5.out.2.1, HR5.out.2.2.drew⟩
                have HR6 := hidden hR6
                clear hR6
                go_wp2_with fail
                refine ⟨⟨i + 1, by omega, ?_, HR6.out⟩, ?_⟩
                · go_num
                · simp [intOf]
                  omega
              · obtain rfl : mi = 64 := by omega
                obtain rfl : V = vi := by
                  have := HVE.out
                  rw [this]
                  exact Nat.mod_eq_of_lt hv0
                clear HVE
                go_wp2_with fail
                refine ⟨⟨i + 1, by omega, ?_, HR5.out⟩, ?_⟩
                · go_num
                · simp [intOf]
                  omega
          · obtain rfl : i = k := by omega
            rw [HT.out] at HR
            go_wp2_with fail
            refine (left_b w wr q T R HR.out (by rw [HRL.out]; have := HMM.out; omega)).mono ?_
            rintro e w5 ⟨rfl, hR5⟩
            obtain ⟨lf, hlf⟩ : ∃ lf, 8 * R.length - T = lf := ⟨_, rfl⟩
            rw [hlf]
            have hlf8 : lf < 8 := by
              have := HMM.out
              rw [HRL.out] at hlf
              omega
            have HR5 := hidden hR5
            have HLF := hidden hlf
            clear hR5 hlf HR
            go_wp2_with fail
            refine (get_b w w5 q T R (lf : Int) HR5.out (by rw [HRL.out]; have := HMM.out; omega) (by omega) (by omega) (by
                have := HLF.out
                have := HMM.out
                have := HRL.out
                rw [Int.toNat_natCast]
                omega)).mono ?_
            rintro e w6 ⟨V, rfl, hV, hR6⟩
            rw [← HT.out] at hV
            obtain rfl := rest_zero HREP.out hV
            have HB6 := hidden hR6.2.2
            clear hV hR6 HR5
            go_wp2_with fail
            go_ret
            exact ⟨rfl, HB6.out⟩

end Go.Proofs.Ythfapajpmcmfeaa
