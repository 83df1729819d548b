import Derived.Test.YtfieglepljmmkaaTurnedW
namespace Go.Proofs.Ytfieglepljmmkaa
open Go.RowKit
set_option linter.unusedVariables false

set_option maxRecDepth 100000 in
set_option maxHeartbeats 2000000 in
theorem turned_neg (ad : Option Addr) (len cap : Nat) (l : List Int) (at' : Int) (B : Nat) (w : World) (hs : Sl w ad len l) (hn0 : ad = none → len = 0 ∧ cap = 0) (hlc : len ≤ cap) (hcm : cap ≤ 9223372036854775807) (hb : len ≤ 140737488351232) (ha0 : -9223372036854775808 ≤ at') (ha1 : at' ≤ 9223372036854775807) (hB : B < 4294967296) (hsg : at' < 0) :
    Calls Try.prog 6 #[.slice ad len cap, .int .i64 at', .int .u32 (B : Int)] w fun e w' => e = .returned (.bool true) ∧ Below w.heap.size w w' := by
  obtain ⟨i0, hi, hz0, hz1, hz2⟩ := info_parts info5
  go_enter Try.func6, Try.ntmps6
  go_wp2_with fail
  refine (shown_any w).mono ?_
  rintro e w1 ⟨rfl, hB1⟩
  have hs1 := hs.later hB1
  have HLT := hidden hs.lt
  have HS1 := hidden hs1
  have HB1 := hidden hB1
  have hlen := hs.len
  have HLEN := hidden hlen
  clear hs hs1 hB1 hlen
  by_cases h5 : len < 5
  · go_wp2_with fail
    all_goals go_ret
    all_goals exact ⟨rfl, HB1.out⟩
  · by_cases hB0 : B = 0
    · have hbz : ((B : Int) == 0) = true := by rw [hB0]; rfl
      clear hB0
      go_wp2_with fail
      all_goals go_ret
      all_goals exact ⟨rfl, HB1.out⟩
    · have hbz : ((B : Int) == 0) = false := by
        rw [beq_eq_false_iff_ne]; omega
      have h5' : 5 ≤ len := by omega
      have HB0 := hidden hB0
      clear hB0 h5
      have hmm : ∀ a : Nat, (a : Int) % (8 * (len : Int) - 31) = ((a % (8 * len - 31) : Nat) : Int) := by
        intro a
        have hc : ((8 * len - 31 : Nat) : Int) = 8 * (len : Int) - 31 := by omega
        rw [← hc]
        rfl
      have hnn : ∀ a : Nat, a % (8 * len - 31) < 8 * len - 31 := fun a => Nat.mod_lt _ (by omega)
      obtain ⟨a, ha⟩ : ∃ a : Nat, -(at' + 1) = (a : Int) := ⟨(-(at' + 1)).toNat, by omega⟩
      obtain ⟨n, hn⟩ : ∃ n, a % (8 * len - 31) = n := ⟨_, rfl⟩
      have hm := hmm a
      have hn31 := hnn a
      rw [hn] at hm hn31
      clear hmm hnn hn
      have HAL := hidden (HS1.out.later ((Below.refl w1.heap.size w1).alloc (Nat.le_refl _) (.cells #[] 5)))
      have HOE := hidden (owns_empty w1 w.heap.size HB1.out.size)
      have HSZ : Hid (w.heap.size ≤ (w1.alloc (.cells #[] 5)).heap.size) := by
        show w.heap.size ≤ (w1.alloc (.cells #[] 5)).heap.size
        have := HB1.out.size
        simp
        omega
      have HBA : Hid (Below w.heap.size w (w1.alloc (.cells #[] 5))) := HB1.out.alloc HB1.out.size _
      go_wp2_with (first
        | (at_builtin; refine wpList_append_sl _ rfl (.tmp 36) (.tmp 37) 22 rfl w.heap.size 5 i0 (.int .u8 0) Try.underlying22 hi hz0 hz1 hz2 rfl _ 0 [] rfl HOE.out ad len cap l rfl HAL.out hn0 (by omega) HSZ.out ?_; intro ad2 c2 w2 hown2 hgr2; have hbl2 := grown_below hgr2 HOE.out HSZ.out; rw [Nat.zero_add, List.nil_append] at hown2; have HO2 := hidden hown2; have HBL2 := hidden hbl2; clear hown2 hbl2 hgr2))
      obtain ⟨gc, rfl⟩ := owns_addr HO2.out (by omega)
      have hgc : w.heap.size ≤ gc := (HO2.out.lt gc rfl).1
      have HB2 : Hid (Below w.heap.size w w2) := HBA.out.trans HBL2.out
      have HS2 : Hid (Sl w2 ad len l) := HAL.out.below HBL2.out HLT.out
      have hc2 := (owns_cap HO2.out).2.1
      have hc2m := (owns_cap HO2.out).2.2.1
      have hc63 : c2 ≤ 9223372036854775807 := by unfold maxLen at hc2m; omega
      clear hc2m
      have HBY : Hid (Byte l) := HS1.out.byte
      clear HAL HOE HSZ HBA HBL2 HS1 HB1
      go_loopw [10] (fun iv ws => ∃ (i : Nat) (m : List Int), i ≤ 32 ∧ iv = .int .i64 i ∧ ws.ownsRow w.heap.size 5 1 (.slice (some ⟨gc, 0, none⟩) len c2) len (cells8 m) ∧ Byte m ∧ num m = num l ^^^ (2 ^ n * (B % 2 ^ i)) ∧ Sl ws ad len l ∧ Below w.heap.size w ws) (fun iv _ => 32 - (intOf iv).toNat)
      case atStart => exact ⟨0, l, by omega, rfl, HO2.out, HBY.out, by rw [Nat.pow_zero, Nat.mod_one, Nat.mul_zero, Nat.xor_zero], HS2.out, HB2.out⟩
      case round =>
        rename World => ws
        obtain ⟨i, m, hi32, rfl, ho, hbm, hnum, hsl, hbl⟩ := hrel
        clear HO2 HB2 HS2
        have HO := hidden ho
        have HBM := hidden hbm
        have HNUM := hidden hnum
        have HSL := hidden hsl
        have HBL := hidden hbl
        have HML : Hid (m.length = len) := by
          have := ho.1
          rw [cells8_length] at this
          show m.length = len
          omega
        clear ho hbm hnum hsl hbl
        by_cases hlt : i < 32
        · have hsh := div_pow B i
          have HBS := hidden (bit_step B i)
          obtain ⟨X, hX⟩ : ∃ X, B / 2 ^ i = X := ⟨_, rfl⟩
          have hXl : X < 4294967296 := by
            rw [← hX]
            exact Nat.lt_of_le_of_lt (Nat.div_le_self _ _) hB
          rw [hX] at hsh HBS
          have HX := hidden hX
          clear hX
          have hand := and32_1 X hXl
          by_cases hbit : X % 2 = 1
          · have hbt : (((X % 2 : Nat) : Int) == 1) = true := by rw [hbit]; rfl
            have HBIT := hidden hbit
            clear hbit
            obtain ⟨j, hj⟩ : ∃ j, n + i = j := ⟨_, rfl⟩
            obtain ⟨k, hk⟩ : ∃ k, j / 8 = k := ⟨_, rfl⟩
            obtain ⟨e, he⟩ : ∃ e, j % 8 = e := ⟨_, rfl⟩
            have hkl : k < len := by omega
            have he8 : e < 8 := by omega
            have hjI : (n : Int) + (i : Int) = (j : Int) := by omega
            have hq1 : (j : Int).tdiv 8 = (k : Int) := by
              rw [Int.tdiv_eq_ediv_of_nonneg (by omega)]
              omega
            have hq2 : (j : Int) / 8 = (k : Int) := by omega
            have hr1 : (j : Int).tmod 8 = (e : Int) := by
              rw [Int.tmod_eq_emod_of_nonneg (by omega)]
              omega
            have hr2 : (j : Int) % 8 = (e : Int) := by omega
            have hE8 := wrap_pow e he8
            have hcell : ws.cell? ⟨gc, k, none⟩ = some (.int .u8 (m.getD k 0)) := by
              have h := HO.out.cells rfl k (.int .u8 (m.getD k 0)) (by
                have hml := HML.out
                simp [cells8, List.getD, show k < m.length by omega])
              simpa [Addr.add_lit] using h
            have hmk := HBM.out.at k
            obtain ⟨v, hv⟩ : ∃ v : Nat, m.getD k 0 = (v : Int) := ⟨(m.getD k 0).toNat, by omega⟩
            have hvl : v < 256 := by omega
            rw [hv] at hcell
            have hxor : bits .xor .u8 (v : Int) ((2 ^ e : Nat) : Int) = ((v ^^^ 2 ^ e : Nat) : Int) := u8_xor_nat v (2 ^ e) hvl (Nat.pow_lt_pow_right (by omega) he8)
            have hfr : ws.frozen? ⟨gc, k, none⟩ = false := owns_frozen HO.out k
            have HFL : Hid (num (m.set k ((v ^^^ 2 ^ e : Nat) : Int)) = num m ^^^ 2 ^ j ∧ Byte (m.set k ((v ^^^ 2 ^ e : Nat) : Int))) := by
              have h1 := num_flip m k e (by rw [HML.out]; exact hkl) he8 HBM.out
              have h2 := flip_byte m k e he8 HBM.out
              rw [hv, Int.toNat_natCast] at h1 h2
              rw [show 8 * k + e = j by omega] at h1
              exact ⟨h1, h2⟩
            have HJ := hidden hj
            obtain ⟨Y, hY⟩ : ∃ Y, v ^^^ 2 ^ e = Y := ⟨_, rfl⟩
            obtain ⟨E, hE⟩ : ∃ E, 2 ^ e = E := ⟨_, rfl⟩
            have HJE : Hid (2 ^ n * 2 ^ i = 2 ^ j) := by
              show 2 ^ n * 2 ^ i = 2 ^ j
              rw [← hj, Nat.pow_add]
            have hj60 : (j : Int) < 9223372036854775807 := by omega
            have hwj : IntKind.i64.wrap (j : Int) = (j : Int) := wrap_small j (by omega)
            have hwk : IntKind.i64.wrap (k : Int) = (k : Int) := wrap_small k (by omega)
            have hwe : IntKind.i64.wrap (e : Int) = (e : Int) := wrap_small e (by omega)
            have hk1 : (k : Int) < (len : Int) := by omega
            have HC : Hid (∀ w1, Lat ws w1 → w1.cell? ⟨gc, k, none⟩ = some (.int .u8 (v : Int))) := fun w1 hL => (World.cell?_of_block (Below.block hL gc (World.block_lt_of_cell? ws _ hcell))).trans hcell
            have HFR : Hid (∀ w1, Lat ws w1 → w1.frozen? ⟨gc, k, none⟩ = false) := fun w1 hL => owns_frozen (owns_later HO.out hL) k
            rw [hY] at hxor HFL
            rw [hE] at hxor hE8
            clear hj hk he hmk hv hY hE
            have HEE := hidden hE8
            have HJI := hidden hjI
            have HQ1 := hidden hq1
            have HR1 := hidden hr1
            have HXOR := hidden hxor
            have HW1 := hidden hwj
            have HW2 := hidden hwk
            have HW3 := hidden hwe
            clear hjI hq1 hq2 hr1 hr2 hE8 hcell hxor hfr hwj hwk hwe hj60
            go_wp2_with fail
            refine turned_r12 gc len c2 n i j k e v E Y ws _ _ (by rfl) (by rfl) (by rfl) (by rfl) HJI.out HW1.out HQ1.out HW2.out HR1.out HW3.out (by omega) hk1 HEE.out HXOR.out HC.out HFR.out ?_
            intro v48 v49 v50 v51 v52 v53 v54 v55 v56 v57 v58 v59 v60 v61 v62 v63 v64 v65 v66 w3 hL3
            simp only [Act.put, List.setIfInBounds_toArray, List.set_cons_succ, List.set_cons_zero]
            have ho3 := (owns_later HO.out hL3).stored k (.int .u8 (Y : Int))
            have HO3 : Hid ((w3.setCell ⟨gc, k, none⟩ (.int .u8 (Y : Int))).ownsRow w.heap.size 5 1 (.slice (some ⟨gc, 0, none⟩) len c2) len (cells8 (m.set k (Y : Int)))) := by
              have := ho3.1
              rw [show (cells8 m).set k (.int .u8 (Y : Int)) = cells8 (m.set k (Y : Int)) by simp [cells8]] at this
              exact this
            have HB3 : Hid (Below w.heap.size w (w3.setCell ⟨gc, k, none⟩ (.int .u8 (Y : Int)))) := (HBL.out.trans (Below.mono hL3 HBL.out.size)).setCell hgc _
            have HS3 : Hid (Sl (w3.setCell ⟨gc, k, none⟩ (.int .u8 (Y : Int))) ad len l) := (HSL.out.later hL3).below ((Below.refl w.heap.size w3).setCell hgc _) HLT.out
            clear ho3
            generalize w3.setCell ⟨gc, k, none⟩ (.int .u8 (Y : Int)) = w4 at *
            clear hL3 HC HFR
            go_wp2_with fail
            refine ⟨⟨i + 1, _, by omega, rfl, HO3.out, HFL.out.2, ?_, HS3.out, HB3.out⟩, ?_⟩
            · rw [HFL.out.1, HNUM.out, HBS.out, if_pos HBIT.out, Nat.xor_assoc, ← HJE.out]
              congr 1
              have hd := Nat.shiftLeft_xor_distrib (a := B % 2 ^ i) (b := 2 ^ i) (i := n)
              rw [Nat.shiftLeft_eq, Nat.shiftLeft_eq, Nat.shiftLeft_eq] at hd
              rw [Nat.mul_comm (2 ^ n) (B % 2 ^ i), Nat.mul_comm (2 ^ n) (2 ^ i), Nat.mul_comm (2 ^ n) (B % 2 ^ i ^^^ 2 ^ i)]
              exact hd.symm
            · simp only [intOf]; omega
          · have hbt : (((X % 2 : Nat) : Int) == 1) = false := by rw [show X % 2 = 0 by omega]; rfl
            have HBIT := hidden hbit
            clear hbit
            go_wp2_with fail
            refine ⟨⟨i + 1, m, by omega, rfl, HO.out, HBM.out, ?_, HSL.out, HBL.out⟩, ?_⟩
            · rw [HBS.out, if_neg HBIT.out, Nat.xor_zero]
              exact HNUM.out
            · simp only [intOf]; omega
        · have h32 : (32 : Int) ≤ i := by omega
          have e32 : i = 32 := by omega
          have HNE : Hid (crc m ≠ crc l) := by
            have hnum := HNUM.out
            rw [e32, Nat.mod_eq_of_lt (show B < 2 ^ 32 by omega)] at hnum
            exact crc_turned l m n B HSL.out.byte HBM.out (by rw [HML.out, HLEN.out]) (by rw [HLEN.out]; omega) hB HB0.out hnum
          have HAL := hidden (HSL.out.later ((Below.refl ws.heap.size ws).alloc (Nat.le_refl _) (.cells #[] 5)))
          have HMS := hidden ((sl_of_owns HO.out HBM.out).later ((Below.refl ws.heap.size ws).alloc (Nat.le_refl _) (.cells #[] 5)))
          have HOE := hidden (owns_empty ws w.heap.size HBL.out.size)
          have HOE2 := hidden (owns_empty ws ws.heap.size (Nat.le_refl _))
          have HSZ : Hid (ws.heap.size ≤ (ws.alloc (.cells #[] 5)).heap.size) := by
            show ws.heap.size ≤ (ws.alloc (.cells #[] 5)).heap.size
            simp
          have HBA : Hid (Below ws.heap.size ws (ws.alloc (.cells #[] 5))) := (Below.refl _ _).alloc (Nat.le_refl _) _
          have HLTS := hidden HSL.out.lt
          have HLTM := hidden (sl_of_owns HO.out HBM.out).lt
          clear e32 hi32 hlt HO HBM HNUM
          go_wp2_with (first
            | (at_builtin; refine wpList_append_sl _ rfl (.tmp 67) (.tmp 68) 22 rfl ws.heap.size 5 i0 (.int .u8 0) Try.underlying22 hi hz0 hz1 hz2 rfl _ 0 [] rfl HOE2.out ad len cap l rfl HAL.out hn0 (by omega) HSZ.out ?_; intro ad5 c5 w5 hown5 hgr5; have hbl5 := grown_below hgr5 HOE2.out HSZ.out; rw [Nat.zero_add, List.nil_append] at hown5; have HO5 := hidden hown5; have HBL5 := hidden hbl5; clear hown5 hbl5 hgr5))
          have HM5 : Hid (Sl w5 (some ⟨gc, 0, none⟩) len m) := HMS.out.below HBL5.out HLTM.out
          have HL5 : Hid (Sl w5 ad len l) := HAL.out.below HBL5.out HLTS.out
          have HD5 : Hid (Sl w5 ad5 len l) := sl_of_owns HO5.out HSL.out.byte
          have HB5 : Hid (Below w.heap.size w w5) := (HBL.out.trans (HBA.out.mono HBL.out.size)).trans (HBL5.out.mono HBL.out.size)
          have hc5 := (owns_cap HO5.out).2.1
          have hc5m : c5 ≤ 9223372036854775807 := by
            have := (owns_cap HO5.out).2.2.1
            unfold maxLen at this
            omega
          clear HAL HMS HOE HOE2 HSZ HBA HLTS HLTM HO5 HBL5 HSL HBL
          refine (crc_any _ len c2 m w5 HM5.out (by omega)).mono ?_
          rintro e6 w6 ⟨rfl, bl6⟩
          have HL6 := hidden (HL5.out.later bl6)
          have HD6 := hidden (HD5.out.later bl6)
          have HB6 : Hid (Below w.heap.size w w6) := HB5.out.trans (bl6.mono HB5.out.size)
          clear HM5 HL5 HD5 HB5 bl6
          go_wp2_with fail
          refine (crc_any ad len cap l w6 HL6.out (by omega)).mono ?_
          rintro e7 w7 ⟨rfl, bl7⟩
          have HL7 := hidden (HL6.out.later bl7)
          have HD7 := hidden (HD6.out.later bl7)
          have HB7 : Hid (Below w.heap.size w w7) := HB6.out.trans (bl7.mono HB6.out.size)
          have hne : ¬ (((crc m : Nat) : Int) = ((crc l : Nat) : Int)) := by
            intro h
            exact HNE.out (by omega)
          clear HL6 HD6 HB6 bl7 HNE
          generalize crc m = cm at *
          generalize hcl : crc l = cl at *
          have HCL := hidden hcl
          clear hcl
          go_wp2_with fail
          refine (crc_any ad5 len c5 l w7 HD7.out (by omega)).mono ?_
          rintro e8 w8 ⟨rfl, bl8⟩
          have HL8 := hidden (HL7.out.later bl8)
          have HD8 := hidden (HD7.out.later bl8)
          have HB8 : Hid (Below w.heap.size w w8) := HB7.out.trans (bl8.mono HB7.out.size)
          clear HL7 HD7 HB7 bl8
          rw [HCL.out]
          go_wp2_with fail
          refine (crc_any ad len cap l w8 HL8.out (by omega)).mono ?_
          rintro e9 w9 ⟨rfl, bl9⟩
          have HL9 := hidden (HL8.out.later bl9)
          have HD9 := hidden (HD8.out.later bl9)
          have HB9 : Hid (Below w.heap.size w w9) := HB8.out.trans (bl9.mono HB8.out.size)
          clear HL8 HD8 HB8 bl9
          rw [HCL.out]
          go_wp2_with fail
          refine (of_any ad5 len c5 l w9 HD9.out hc5 hc5m (by omega)).mono ?_
          rintro e10 w10 ⟨rfl, bl10⟩
          have HL10 := hidden (HL9.out.later bl10)
          have HB10 : Hid (Below w.heap.size w w10) := HB9.out.trans (bl10.mono HB9.out.size)
          have hql := fun w => eql8 27 32 Try.underlying27 (digest l) (digest l) (digest_len l) (digest_len l) w
          simp only [decide_true] at hql
          clear HL9 HD9 HB9 bl10
          generalize hT : cells8 (digest l) = T at *
          have HT := hidden hT
          clear hT
          go_wp2_with fail
          refine (of_any ad len cap l w10 HL10.out hlc hcm (by omega)).mono ?_
          rintro e11 w11 ⟨rfl, bl11⟩
          have HB11 : Hid (Below w.heap.size w w11) := HB10.out.trans (bl11.mono HB10.out.size)
          clear HL10 HB10 bl11
          rw [HT.out]
          go_wp2_with fail
          go_ret
          refine ⟨congrArg Ending.returned (congrArg Value.bool ?_), HB11.out⟩
          exact bne_iff_ne.2 hne


end Go.Proofs.Ytfieglepljmmkaa
