import Derived.Test.YthfapajpmcmfeaaReadsM
import Derived.Test.YthfapajpmcmfeaaReadsR
namespace Go.Proofs.Ythfapajpmcmfeaa
open Go.RowKit
set_option linter.unusedVariables false

set_option maxRecDepth 100000 in
set_option maxHeartbeats 4000000 in
theorem reads_any (a0 : Option Addr) (len0 cap0 : Nat) (l0 : List Int) (a1 : Option Addr) (len1 cap1 : Nat) (nf : Nat → Int) (w : World) (h0 : Sl w a0 len0 l0) (hcap : len0 ≤ cap0) (hcm : cap0 ≤ 9223372036854775807) (hno : a0 = none → len0 = 0 ∧ cap0 = 0)
    (h1 : Ar .i64 w a1 len1 nf) (hl1 : len1 ≤ 9223372036854775807) :
    Calls Try.prog 4 #[.slice a0 len0 cap0, .slice a1 len1 cap1] w fun e w' => e = .returned (.bool true) ∧ Below w.heap.size w w' := by
  obtain ⟨i0, hi, hz0, hz1, hz2⟩ := info_parts info5
  obtain ⟨n, hn⟩ : ∃ n, min len0 4000 = n := ⟨_, rfl⟩
  have hn4 : n ≤ 4000 := by omega
  have hS := h0.take (N := n) (by omega)
  obtain ⟨l, hl⟩ : ∃ l, l0.take n = l := ⟨_, rfl⟩
  rw [hl] at hS
  have HS := hidden hS
  have H1 := hidden h1
  have HNO : Hid (a0 = none → n = 0 ∧ cap0 = 0) := fun e => by have := hno e; omega
  have HNN := hidden hn
  clear h0 hS h1 hno hl
  go_enter Try.func4, Try.ntmps4
  go_wp2_with fail
  refine (shown_any w).mono ?_
  rintro e w1 ⟨rfl, hb⟩
  have HB1 := hidden hb
  clear hb
  go_upto_if 19 with fail
  go_cut [0] from 20 to 21 (fun s0 wx => s0 = .slice a0 n cap0 ∧ wx = w1)
  case first =>
    by_cases hbig : 4000 < len0
    · obtain rfl : n = 4000 := by omega
      go_wp2_with fail
      all_goals
        go_meet
        case rel => exact ⟨rfl, rfl⟩
    · obtain rfl : n = len0 := by omega
      go_wp2_with fail
      go_meet
      case rel => exact ⟨rfl, rfl⟩
  case rest =>
    obtain ⟨rfl, hwc⟩ := hcut
    obtain rfl := hwc.symm
    clear hwc
    have hcn : n ≤ cap0 := by omega
    have HS1 : Hid (Sl w1 a0 n l) := HS.out.later HB1.out
    go_wp2_with (first
      | (refine wpList_make_room w1 rfl (.tmp 24) (.tmp 24) 29 rfl 5 i0 (.int .u8 0) Try.underlying29 hi hz0 hz1 hz2 rfl .i64 .i64 _ _ (n + 8) (n + 8) rfl rfl ?_ ?_ (Nat.le_refl _) (by omega) ?_; omega; omega; intro w2 B2 hsz2 bl2; have HB2 : Hid (Blk w2 w1.heap.size 5 (cells8 (List.replicate (n + 8) 0))) := (by show Blk w2 w1.heap.size 5 (cells8 (List.replicate (n + 8) 0)); rw [show cells8 (List.replicate (n + 8) 0) = List.replicate (n + 8) (Value.int .u8 0) by simp [cells8]]; exact B2); have HBL2 := hidden bl2; clear B2 bl2 hsz2)
      | (refine wpList_copy_in rfl (.tmp 26) (.tmp 27) rfl w1.heap.size (n + 8) a0 n cap0 rfl rfl l (List.replicate (n + 8) 0) (HS1.out.later HBL2.out) (by omega) (by simp) HB2.out ?_; intro w3 B3 g3; have HB3 := hidden B3; have HG3 := hidden g3; clear B3 g3))
    obtain ⟨g, hg⟩ : ∃ g, w1.heap.size = g := ⟨_, rfl⟩
    have hwg : w.heap.size ≤ g := by rw [← hg]; exact HB1.out.size
    have hS3 : Sl w3 a0 n l := (Chg.of_grown (F := fun i => i = w1.heap.size) HG3.out (fun i h => (Option.some.inj h).symm)).sl (HS1.out.later HBL2.out) (fun x hx hp e => by
      have := HS1.out.lt x hx hp
      omega)
    have hbl3 : Below w.heap.size w w3 := (HB1.out.trans (HBL2.out.mono HB1.out.size)).trans ((Chg.of_grown (F := fun i => i = w1.heap.size) HG3.out (fun i h => (Option.some.inj h).symm)).below (Nat.le_trans HB1.out.size HBL2.out.size) (fun i h => by rw [h]; exact HB1.out.size))
    have hB3 := HB3.out
    rw [List.drop_replicate, show n + 8 - n = 8 by omega] at hB3
    rw [hg] at hB3 ⊢
    have hlen := HS.out.len
    have hgb : ∀ x, a0 = some x → 0 < n → x.block < g := fun x hx hp => by have := HS1.out.lt x hx hp; omega
    have HS3 := hidden hS3
    have HBL3 := hidden hbl3
    have HB3' := hidden hB3
    have HGB := hidden hgb
    have HLEN := hidden hlen
    clear hS3 hbl3 hB3 hg HB3 HG3 HB2 HBL2 HS1 HS HB1 hlen hgb
    obtain ⟨m, hm⟩ : ∃ m, n + 8 = m := ⟨_, rfl⟩
    rw [hm]
    have hmn : n < m := by omega
    have hm8 : m ≤ 4008 := by omega
    have HMM := hidden hm
    clear hm
    go_wp2_with fail
    go_loopw [7] (fun iv wr => ∃ i : Nat, n ≤ i ∧ i ≤ m ∧ iv = .int .i64 (i : Int) ∧ Blk wr g 5 (cells8 (l ++ (List.replicate (i - n) 255 ++ List.replicate (m - i) 0))) ∧ Sl wr a0 n l ∧ Below w.heap.size w wr) (fun iv _ => m - (intOf iv).toNat)
    case atStart => exact ⟨n, Nat.le_refl _, by omega, rfl, by rw [Nat.sub_self, show m - n = 8 by have := HMM.out; omega]; exact HB3'.out, HS3.out, HBL3.out⟩
    case round =>
      rename World => wr
      obtain ⟨i, hni, him, rfl, hB, hS, hbl⟩ := hrel
      clear HS3 HBL3 HB3'
      have HB := hidden hB
      have HS := hidden hS
      have HBL := hidden hbl
      clear hB hS hbl
      by_cases hlt : i < m
      · have ci : wr.cell? ⟨g, i, none⟩ = some (.int .u8 0) := by
          have hln := HLEN.out
          have hz : i - (l ++ List.replicate (i - n) (255 : Int)).length = 0 := by simp; omega
          rw [HB.out.cell, show m - i = (m - (i + 1)) + 1 by omega, List.replicate_succ, ← List.append_assoc, cells8, List.getElem?_map, List.getElem?_append_right (by simp; omega), hz]
          rfl
        have fi := HB.out.frozen i
        have hB2 : Blk (wr.setCell ⟨g, i, none⟩ (.int .u8 255)) g 5 (cells8 (l ++ (List.replicate (i + 1 - n) 255 ++ List.replicate (m - (i + 1)) 0))) := by
          have := HB.out.set i (.int .u8 255)
          have e : (cells8 (l ++ (List.replicate (i - n) 255 ++ List.replicate (m - i) 0))).set i (.int .u8 255) = cells8 (l ++ (List.replicate (i + 1 - n) 255 ++ List.replicate (m - (i + 1)) 0)) := by
            have hln := HLEN.out
            rw [show m - i = (m - (i + 1)) + 1 by omega, List.replicate_succ, show i + 1 - n = (i - n) + 1 by omega, List.replicate_succ', cells8, ← List.map_set, cells8]
            congr 1
            rw [← List.append_assoc, fill_step _ _ _ _ _ (by simp; omega)]
            simp
          rw [e] at this
          exact this
        have hS2 := (Chg.set ⟨g, i, none⟩ (.int .u8 255) wr).sl HS.out (fun x hx hp e => by
          have := HGB.out x hx hp
          simp only at e
          omega)
        have hbl2 := HBL.out.setCell (p := ⟨g, i, none⟩) hwg (.int .u8 255)
        have HB2 := hidden hB2
        have HS2 := hidden hS2
        have HBL2 := hidden hbl2
        clear hB2 hS2 hbl2
        go_wp2_with fail
        refine ⟨⟨i + 1, by omega, by omega, ?_, HB2.out, HS2.out, HBL2.out⟩, ?_⟩
        · go_num
        · simp [intOf]
          omega
      · have him2 : m = i := by omega
        subst him2
        have hB := HB.out
        rw [Nat.sub_self, show m - n = 8 by have := HMM.out; omega, List.replicate_zero, List.append_nil] at hB
        obtain ⟨M, hM⟩ : ∃ M, l ++ List.replicate 8 (255 : Int) = M := ⟨_, rfl⟩
        rw [hM] at hB
        have hln := HLEN.out
        have hMl : M.length = m := by
          have := HMM.out
          rw [← hM]
          simp
          omega
        have hMb : Byte M := by
          rw [← hM]
          exact HS.out.byte.append (fun y hy => by have := List.eq_of_mem_replicate hy; omega)
        have hMt : M.take n = l := by
          rw [← hM, List.take_append_of_le_length (by omega), List.take_of_length_le (by omega)]
        have hMd : ∀ j, n ≤ j → j < m → M.getD j 0 = 255 := by
          intro j h1 h2
          have := HMM.out
          rw [← hM, List.getD_eq_getElem?_getD, List.getElem?_append_right (by omega), List.getElem?_replicate, if_pos (by omega)]
          rfl
        have hMe : ∀ j, j < n → M.getD j 0 = l.getD j 0 := by
          intro j h1
          rw [← hM, List.getD_eq_getElem?_getD, List.getElem?_append_left (by omega), ← List.getD_eq_getElem?_getD]
        have hSl : Sl wr (some ⟨g, 0, none⟩) n l := by
          have := hB.row8 hMb n (by omega)
          rw [hMt] at this
          exact this
        have HB2 := hidden hB
        have HMl := hidden hMl
        have HMd := hidden hMd
        have HMe := hidden hMe
        have HSl := hidden hSl
        clear hB hM hMl hMb hMt hMd hMe hSl HB hln him hni hlt
        go_wp2_with fail
        refine (newReader_apart (some ⟨g, 0, none⟩) n m l wr HSl.out (by omega) (fun h => by cases h)).mono ?_
        rintro e w4 ⟨p, rfl, hp1, hp2, hRS, hb4⟩
        have HS4 := hidden (HS.out.later hb4)
        have HP1 := hidden hp1
        have HP2 := hidden hp2
        have HRS := hidden hRS
        have HB4 := hidden hb4
        clear hp1 hp2 hRS hb4
        go_wp2_with fail
        refine (newReaderR_any a0 n cap0 l w4 HS4.out (by omega)).mono ?_
        rintro e w5 ⟨q, rfl, hq1, hSS, hb5⟩
        have hgl := HB2.out.lt
        have hRS5 : ∀ w'', Chg (fun i => i = g) w5 w'' → RS w'' p l 0 := fun w'' hc => HRS.out w'' ((Chg.of_below (F := fun i => i < wr.heap.size) hb5).trans hc (fun i _ h => by omega))
        have hSS5 : ∀ w'', Chg (fun i => i = g) w5 w'' → SS w'' q ((List.range (8 * n)).map (bt l)) 0 := fun w'' hc => hSS w'' (hc.mono (fun i _ h => by have := HB4.out.size; omega))
        have hbl5 : Below w.heap.size w w5 := (HBL.out.trans (HB4.out.mono HBL.out.size)).trans (hb5.mono (Nat.le_trans HBL.out.size HB4.out.size))
        have hB5 : Blk w5 g 5 (cells8 M) := (HB2.out.later HB4.out).later hb5
        have hS5 := HS4.out.later hb5
        have hwp : w.heap.size ≤ p := Nat.le_trans HBL.out.size HP1.out
        have hwq : w.heap.size ≤ q := Nat.le_trans (Nat.le_trans HBL.out.size HB4.out.size) hq1
        have HWP := hidden hwp
        have HWQ := hidden hwq
        clear hwp hwq
        have HRS5 := hidden hRS5
        have HSS5 := hidden hSS5
        have HBL5 := hidden hbl5
        have HB5 := hidden hB5
        have HS5 := hidden hS5
        clear hq1 hSS hb5 hgl hRS5 hSS5 hbl5 hB5 hS5 HRS HB4 HS4 HP1 HP2 HB2 HSl HBL HS
        go_wp2_with fail
        go_loopw [10] (fun iv wr => ∃ (i : Nat) (X : List Int), i ≤ m ∧ iv = .int .i64 (i : Int) ∧ X.length = m ∧ (∀ j, i ≤ j → j < m → X.getD j 0 = M.getD j 0) ∧ Blk wr g 5 (cells8 X) ∧ Chg (fun i => i = g) w5 wr) (fun iv _ => m - (intOf iv).toNat)
        case atStart => exact ⟨0, M, Nat.zero_le _, rfl, HMl.out, fun _ _ _ => rfl, HB5.out, Chg.refl _ _⟩
        case round =>
          obtain ⟨i, X, him, rfl, hXl, hX, hB, hC⟩ := hrel
          have HXl := hidden hXl
          have HX := hidden hX
          have HB := hidden hB
          have HC := hidden hC
          clear hXl hX hB hC
          by_cases hlt : i < m
          · have hci : wr.cell? ⟨g, i, none⟩ = some (.int .u8 (M.getD i 0)) := by
              have hxl := HXl.out
              rw [HB.out.cell, ← HX.out i (Nat.le_refl _) hlt]
              simp [cells8, List.getD, show i < X.length by omega]
            have hgl := HB.out.lt
            have HCI : Hid (∀ w1, Lat wr w1 → w1.cell? ⟨g, i, none⟩ = some (.int .u8 (M.getD i 0))) := fun w1 hL => by rw [hL.cell (p := ⟨g, i, none⟩) hgl]; exact hci
            clear hci hgl
            go_upto_region 17 with fail
            go_cut [86] from 53 to 89 (fun s86 wx => s86 = .bool false ∧ Lat wr wx)
            case first =>
              by_cases hin : i < n
              · obtain ⟨b, off, rfl, hbt, hcell⟩ := HS5.out.at (by omega)
                have hbg := HGB.out _ rfl (by omega)
                have hcb : ∀ w1, Lat wr w1 → w1.cell? ⟨b, off + i, none⟩ = some (.int .u8 (M.getD i 0)) := fun w1 hL => by
                  rw [hL.cell (p := ⟨b, off + i, none⟩) (Nat.lt_of_lt_of_le hbt HC.out.size), HMe.out i hin]
                  rw [← hcell i hin]
                  exact World.cell?_of_block (HC.out.block b hbt (fun e => by simp only at hbg; omega))
                refine reads_lt g b off n cap0 m i (M.getD i 0) _ _ _ (by rfl) (by rfl) (by rfl) (by rfl) hin hlt HCI.out hcb ?_
                intro v59 v60 v61 v62 v63 v64 v65 v66 v67 v68 v69 v70 v71 v72 v73 v74 v75 v76 v77 v78 v79 v80 v81 v82 v83 v84 v85 w6 hL
                simp only [Act.put, List.setIfInBounds_toArray, List.set_cons_succ, List.set_cons_zero]
                go_wp2_with fail
                go_meet
                case rel => exact ⟨rfl, hL⟩
              · have hcl : ∀ w1, Lat wr w1 → w1.cell? ⟨g, i, none⟩ = some (.int .u8 255) := fun w1 hL => by
                  rw [HCI.out w1 hL, HMd.out i (by omega) hlt]
                refine reads_ge g n cap0 m i a0 _ _ _ (by rfl) (by rfl) (by rfl) (by rfl) (by omega) hlt hcl ?_
                intro v59 v60 v61 v62 v63 v64 v65 v66 v67 v68 v69 v70 v71 v72 v73 v74 v75 v76 v77 v78 v79 v80 v81 v82 v83 v84 v85 w6 hL
                simp only [Act.put, List.setIfInBounds_toArray, List.set_cons_succ, List.set_cons_zero]
                go_wp2_with fail
                go_meet
                case rel => exact ⟨rfl, hL⟩
            case rest =>
              obtain ⟨rfl, hL⟩ := hcut
              have hB6 : Blk wc g 5 (cells8 X) := HB.out.later hL
              have ci : wc.cell? ⟨g, i, none⟩ = some (.int .u8 (M.getD i 0)) := HCI.out wc hL
              have fi := hB6.frozen i
              have hC6 : Chg (fun i => i = g) w5 (wc.setCell ⟨g, i, none⟩ (.int .u8 85)) := (HC.out.trans (Chg.of_below (F := fun _ => False) hL) (fun _ _ h => h.elim)).trans (Chg.set ⟨g, i, none⟩ _ wc) (fun _ _ h => h)
              have hB7 : Blk (wc.setCell ⟨g, i, none⟩ (.int .u8 85)) g 5 (cells8 (X.set i 85)) := by
                have := hB6.set i (.int .u8 85)
                rw [cells8, ← List.map_set] at this
                exact this
              have HC6 := hidden hC6
              have HB7 := hidden hB7
              clear hC6 hB7 hB6 hL HCI HB
              go_wp2_with fail
              refine ⟨⟨i + 1, X.set i 85, by omega, ?_, by rw [List.length_set]; exact HXl.out, fun j h1 h2 => ?_, HB7.out, HC6.out⟩, ?_⟩
              · go_num
              · rw [← HX.out j (by omega) h2, List.getD_eq_getElem?_getD, List.getElem?_set_ne (by omega), ← List.getD_eq_getElem?_getD]
              · simp [intOf]
                omega
          · have hR := HRS5.out wr HC.out
            have hQ := HSS5.out wr HC.out
            have hbl : Below w.heap.size w wr := HBL5.out.trans (HC.out.below HBL5.out.size (fun i h => by rw [h]; exact hwg))
            obtain ⟨L, hL⟩ : ∃ L, (List.range (8 * n)).map (bt l) = L := ⟨_, rfl⟩
            have hLl : L.length = 8 * n := by rw [← hL]; simp
            have hrep : Rep l L := by
              rw [← hL, ← HLEN.out]
              exact rep_range l
            rw [hL] at hQ
            have HR := hidden hR
            have HQ := hidden hQ
            have HBL := hidden hbl
            have HLl := hidden hLl
            have HREP := hidden hrep
            clear hR hQ hbl hL hLl hrep HRS5 HSS5 HBL5 HB5 HS5 HC HB HX HXl
            go_wp2_with fail
            go_loopw [11] (fun iv wr => ∃ (i t : Nat), i ≤ len1 ∧ iv = .int .i64 (i : Int) ∧ RS wr p l t ∧ SS wr q L t ∧ Below w.heap.size w wr) (fun iv _ => len1 - (intOf iv).toNat)
            case atStart => exact ⟨0, 0, Nat.zero_le _, rfl, HR.out, HQ.out, HBL.out⟩
            case round =>
              obtain ⟨i, t, hil, rfl, hR, hQ, hbl⟩ := hrel
              clear HR HQ HBL
              have HR := hidden hR
              have HQ := hidden hQ
              have HBL := hidden hbl
              clear hR hQ hbl
              by_cases hi1 : i < len1
              · obtain ⟨b1, o1, rfl, hb1, hc1⟩ := H1.out (by omega)
                have d1 : wr.cell? ⟨b1, o1 + i, none⟩ = some (.int .i64 (nf i)) := by
                  rw [HBL.out.cell (p := ⟨b1, o1 + i, none⟩) hb1]
                  exact hc1 i hi1
                have HC1 := hidden (hc1 i hi1)
                clear hc1
                obtain ⟨ni, hni⟩ : ∃ ni, nf i = ni := ⟨_, rfl⟩
                rw [hni] at d1 HC1
                clear hni
                by_cases good : 0 ≤ ni ∧ ni ≤ 64 ∧ t + ni.toNat ≤ 8 * n
                · obtain ⟨g1, g2, g3⟩ := good
                  go_wp2_with fail
                  refine (get_any p t l ni wr HR.out (by rw [HLEN.out]; omega) g1 g2 (by rw [HLEN.out]; exact g3)).mono ?_
                  rintro e w6 ⟨V, rfl, hV, hR6, hC6⟩
                  have hQ6 := HQ.out.apart HR.out hC6
                  have hbl6 := HBL.out.trans (hC6.below HBL.out.size (fun i h => by rw [h]; exact HWP.out))
                  have d6 : w6.cell? ⟨b1, o1 + i, none⟩ = some (.int .i64 ni) := by
                    rw [hbl6.cell (p := ⟨b1, o1 + i, none⟩) hb1]
                    exact HC1.out
                  have HV := hidden hV
                  have HR6 := hidden hR6
                  have HQ6 := hidden hQ6
                  have HBL6 := hidden hbl6
                  clear hV hR6 hQ6 hbl6 hC6 d1 HR HQ HBL
                  go_wp2_with fail
                  refine (getR_any q t L ni w6 HQ6.out (by rw [HLl.out]; omega) g1 g2 (by rw [HLl.out]; exact g3)).mono ?_
                  rintro e w7 ⟨U, rfl, hU, hQ7, hC7⟩
                  obtain rfl : V = U := by
                    refine HV.out.unique ?_
                    intro j
                    rw [hU j]
                    show _ = (decide (j < ni.toNat) && bt l (t + (ni.toNat - 1 - j)))
                    rw [HREP.out]
                  obtain ⟨vs, hvB, hvv⟩ := HQ6.out.blk61
                  have hR7 := HR6.out.apart hC7 hvB hvv
                  have hbl7 := HBL6.out.trans (hC7.below HBL6.out.size (fun i h => by rw [h]; exact HWQ.out))
                  have HR7 := hidden hR7
                  have HQ7 := hidden hQ7
                  have HBL7 := hidden hbl7
                  clear hU hQ7 hC7 hR7 hbl7 hvB hvv d6 HR6 HQ6 HBL6
                  go_wp2_with fail
                  refine (left_any p _ l w7 HR7.out (by rw [HLEN.out]; omega)).mono ?_
                  rintro e w8 ⟨rfl, hC8⟩
                  rw [HLEN.out]
                  have hR8 := HR7.out.same hC8
                  have hQ8 := HQ7.out.same hC8
                  have hbl8 := HBL7.out.trans (hC8.below HBL7.out.size (fun _ h => h.elim))
                  have HR8 := hidden hR8
                  have HQ8 := hidden hQ8
                  have HBL8 := hidden hbl8
                  clear hR8 hQ8 hbl8 hC8 HR7 HQ7 HBL7
                  go_wp2_with fail
                  refine (leftR_any q _ L w8 HQ8.out (by rw [HLl.out]; omega)).mono ?_
                  rintro e w9 ⟨rfl, hC9⟩
                  rw [HLl.out]
                  have hR9 := HR8.out.same hC9
                  have hQ9 := HQ8.out.same hC9
                  have hbl9 := HBL8.out.trans (hC9.below HBL8.out.size (fun _ h => h.elim))
                  have HR9 := hidden hR9
                  have HQ9 := hidden hQ9
                  have HBL9 := hidden hbl9
                  clear hR9 hQ9 hbl9 hC9 HR8 HQ8 HBL8
                  generalize 8 * n - (t + ni.toNat) = lf
                  go_wp2_with fail
                  refine ⟨⟨i + 1, _, by omega, ?_, HR9.out, HQ9.out, HBL9.out⟩, ?_⟩
                  · go_num
                  · simp [intOf]
                    omega
                · have htl : t ≤ 8 * n := by
                    have := HR.out.1
                    rw [HLEN.out] at this
                    exact this
                  go_wp2_with fail
                  refine (get_bad p t l ni wr HR.out (by rw [HLEN.out]; omega) (by rw [HLEN.out]; omega)).mono ?_
                  rintro e w6 ⟨rfl, hR6, hC6⟩
                  have hQ6 := HQ.out.same hC6
                  have hbl6 := HBL.out.trans (hC6.below HBL.out.size (fun _ h => h.elim))
                  have d6 : w6.cell? ⟨b1, o1 + i, none⟩ = some (.int .i64 ni) := by
                    rw [hbl6.cell (p := ⟨b1, o1 + i, none⟩) hb1]
                    exact HC1.out
                  have HR6 := hidden hR6
                  have HQ6 := hidden hQ6
                  have HBL6 := hidden hbl6
                  clear hR6 hQ6 hbl6 hC6 d1 HR HQ HBL
                  go_wp2_with fail
                  refine (getR_bad q t L ni w6 HQ6.out (by rw [HLl.out]; omega) (by rw [HLl.out]; omega)).mono ?_
                  rintro e w7 ⟨rfl, hQ7, hC7⟩
                  have hR7 := HR6.out.same hC7
                  have hbl7 := HBL6.out.trans (hC7.below HBL6.out.size (fun _ h => h.elim))
                  have HR7 := hidden hR7
                  have HQ7 := hidden hQ7
                  have HBL7 := hidden hbl7
                  clear hQ7 hC7 hR7 hbl7 d6 HR6 HQ6 HBL6 good
                  go_wp2_with fail
                  refine (left_any p _ l w7 HR7.out (by rw [HLEN.out]; omega)).mono ?_
                  rintro e w8 ⟨rfl, hC8⟩
                  rw [HLEN.out]
                  have hR8 := HR7.out.same hC8
                  have hQ8 := HQ7.out.same hC8
                  have hbl8 := HBL7.out.trans (hC8.below HBL7.out.size (fun _ h => h.elim))
                  have HR8 := hidden hR8
                  have HQ8 := hidden hQ8
                  have HBL8 := hidden hbl8
                  clear hR8 hQ8 hbl8 hC8 HR7 HQ7 HBL7
                  go_wp2_with fail
                  refine (leftR_any q _ L w8 HQ8.out (by rw [HLl.out]; omega)).mono ?_
                  rintro e w9 ⟨rfl, hC9⟩
                  rw [HLl.out]
                  have hR9 := HR8.out.same hC9
                  have hQ9 := HQ8.out.same hC9
                  have hbl9 := HBL8.out.trans (hC9.below HBL8.out.size (fun _ h => h.elim))
                  have HR9 := hidden hR9
                  have HQ9 := hidden hQ9
                  have HBL9 := hidden hbl9
                  clear hR9 hQ9 hbl9 hC9 HR8 HQ8 HBL8
                  generalize 8 * n - t = lf
                  go_wp2_with fail
                  refine ⟨⟨i + 1, _, by omega, ?_, HR9.out, HQ9.out, HBL9.out⟩, ?_⟩
                  · go_num
                  · simp [intOf]
                    omega
              · obtain rfl : i = len1 := by omega
                go_wp2_with fail
                refine (left_any p _ l wr HR.out (by rw [HLEN.out]; omega)).mono ?_
                rintro e w8 ⟨rfl, hC8⟩
                rw [HLEN.out]
                have hR8 := HR.out.same hC8
                have hQ8 := HQ.out.same hC8
                have hbl8 := HBL.out.trans (hC8.below HBL.out.size (fun _ h => h.elim))
                have HR8 := hidden hR8
                have HQ8 := hidden hQ8
                have HBL8 := hidden hbl8
                clear hR8 hQ8 hbl8 hC8 HR HQ HBL
                go_wp2_with fail
                refine (leftR_any q _ L w8 HQ8.out (by rw [HLl.out]; omega)).mono ?_
                rintro e w9 ⟨rfl, hC9⟩
                rw [HLl.out]
                have hR9 := HR8.out.same hC9
                have hQ9 := HQ8.out.same hC9
                have hbl9 := HBL8.out.trans (hC9.below HBL8.out.size (fun _ h => h.elim))
                have HR9 := hidden hR9
                have HQ9 := hidden hQ9
                have HBL9 := hidden hbl9
                clear hR9 hQ9 hbl9 hC9 HR8 HQ8 HBL8
                generalize 8 * n - t = lf
                go_wp2_with fail
                go_ret
                refine ⟨?_, HBL9.out⟩
                simp

end Go.Proofs.Ythfapajpmcmfeaa
