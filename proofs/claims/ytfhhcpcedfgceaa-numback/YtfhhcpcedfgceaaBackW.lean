import Derived.Test.YtfhhcpcedfgceaaBackR
import Derived.Deep.QuietTactic
import Derived.BigQuiet
import Derived.Test.YtfhhcpcedfgceaaRowB
import Derived.Test.YtfhhcpcedfgceaaBackM
namespace Go.Proofs.Ytfhhcpcedfgceaa
open Go.RowKit
set_option linter.unusedVariables false

theorem unfold_bound (n : Nat) (h : n ≤ 18446744073709551615) : -9223372036854775808 ≤ unfold' n ∧ unfold' n ≤ 9223372036854775807 := by
  unfold unfold'
  split <;> omega

set_option maxRecDepth 100000 in
set_option maxHeartbeats 4000000 in
theorem back_main (n : Nat) (m : Int) (ae : Option Addr) (len2 cap2 : Nat) (S : List Int) (ab : Option Addr) (len3 cap3 : Nat) (Bl : List Int) (w : World)
    (hn : n ≤ 18446744073709551615) (hm0 : -9223372036854775808 ≤ m) (hm1 : m ≤ 9223372036854775807)
    (hs : Sl w ae len2 S) (hn2 : ae = none → len2 = 0 ∧ cap2 = 0) (hc2 : len2 ≤ cap2) (hd2 : cap2 ≤ 9223372036854775807)
    (hb : Sl w ab len3 Bl) (hn3 : ab = none → len3 = 0 ∧ cap3 = 0) (hc3 : len3 ≤ cap3) (hd3 : cap3 ≤ 9223372036854775807)
    (h2 : len2 ≤ 536870912) (h3 : len3 ≤ 536870912) :
    Calls Try.prog 5 #[.int .u64 n, .int .i64 m, .slice ae len2 cap2, .slice ab len3 cap3] w fun e w' => e = .returned (.bool true) ∧ Below w.heap.size w w' := by
  obtain ⟨i0, hi, hz0, hz1, hz2⟩ := info_parts info5
  go_enter Try.func5, Try.ntmps5
  go_wp2_with fail
  refine (shown_any w).mono ?_
  rintro e w1 ⟨rfl, hB1⟩
  have hs1 := hs.later hB1
  have hb1 := hb.later hB1
  clear hs hb
  go_wp2_with fail
  refine (putUint_out none 0 0 n [] w1 (grp n + 1) (enc n) (Sl.nil _ _) (by omega) hn (by omega) (by simp)).mono ?_
  rintro e w2 ⟨g1, c1, rfl, hf1, hc1, hd1, _, hb2⟩
  have hs2 := hs1.later hb2
  have hbb2 := hb1.later hb2
  have hB2 := hB1.trans (hb2.mono hB1.size)
  clear hs1 hb1 hb2 hB1
  go_wp2_with fail
  refine (putInt_out none 0 0 m [] w2 (grp (fold m) + 1) (enc (fold m)) (Sl.nil _ _) (by omega) hm0 hm1 (by omega) (by simp)).mono ?_
  rintro e w3 ⟨g2, c2, rfl, hf2, hcc2, hdd2, _, hb3⟩
  have hs3 := hs2.later hb3
  have hbb3 := hbb2.later hb3
  have hf13 := hf1.later hb3
  have hB3 := hB2.trans (hb3.mono hB2.size)
  clear hs2 hbb2 hb3 hB2 hf1
  go_wp2_with fail
  refine (putBytes_out none 0 0 [] ae len2 cap2 S w3 (grp len2 + 1 + len2) (enc len2 ++ S) (Sl.nil _ _) hs3 hn2 (by omega) (by omega) (by simp)).mono ?_
  rintro e w4 ⟨g3, c3, rfl, hf3, hcc3, hdd3, _, hb4⟩
  have hs4 := hs3.later hb4
  have hbb4 := hbb3.later hb4
  have hf14 := hf13.later hb4
  have hf24 := hf2.later hb4
  have hB4 := hB3.trans (hb4.mono hB3.size)
  clear hs3 hbb3 hb4 hB3 hf13 hf2
  go_wp2_with fail
  obtain ⟨w5, hw5⟩ : ∃ w5, w4.alloc (.cells #[.slice (some ⟨g1, 0, none⟩) (grp n + 1) c1, .slice (some ⟨g2, 0, none⟩) (grp (fold m) + 1) c2, .slice (some ⟨g3, 0, none⟩) (grp len2 + 1 + len2) c3] 22) = w5 := ⟨_, rfl⟩
  rw [hw5]
  have hz5 : w5.heap.size = w4.heap.size + 1 := by rw [← hw5]; simp
  have hB45 : Below w4.heap.size w4 w5 := by rw [← hw5]; exact (Below.refl _ _).alloc (Nat.le_refl _) _
  have q0 : w5.cell? ⟨w4.heap.size, 0, none⟩ = some (.slice (some ⟨g1, 0, none⟩) (grp n + 1) c1) := by rw [← hw5, World.cell?_alloc_mark]; rfl
  have q1 : w5.cell? ⟨w4.heap.size, 1, none⟩ = some (.slice (some ⟨g2, 0, none⟩) (grp (fold m) + 1) c2) := by rw [← hw5, World.cell?_alloc_mark]; rfl
  have q2 : w5.cell? ⟨w4.heap.size, 2, none⟩ = some (.slice (some ⟨g3, 0, none⟩) (grp len2 + 1 + len2) c3) := by rw [← hw5, World.cell?_alloc_mark]; rfl
  have Q0 := hidden q0
  have Q1 := hidden q1
  have Q2 := hidden q2
  have HZ5 := hidden hz5
  have hs5 := hs4.later hB45
  have hbb5 := hbb4.later hB45
  have hf15 := hf14.later hB45
  have hf25 := hf24.later hB45
  have hf35 := hf3.later hB45
  have hB5 := hB4.trans (hB45.mono hB4.size)
  have hgt : w4.heap.size < w5.heap.size := by omega
  clear hw5 hs4 hbb4 hf14 hf24 hf3 hB4 q0 q1 q2 hB45 hz5
  generalize w4.heap.size = gF at *
  refine (putUint_out none 0 0 n [] w5 (grp n + 1) (enc n) (Sl.nil _ _) (by omega) hn (by omega) (by simp)).mono ?_
  rintro e w6 ⟨g6, c6, rfl, hx6, hc6, hd6, hown6, hb6⟩
  have hbb6 := hbb5.later hb6
  have hg1 := grp_le n
  have hg2 := grp_le (fold m)
  have hg3 := grp_le len2
  go_wp2_with (first
    | (at_builtin; refine wpList_append_sl _ rfl _ _ 22 rfl w5.heap.size 5 i0 (.int .u8 0) Try.underlying22 hi hz0 hz1 hz2 rfl _ (grp n + 1) (enc n) rfl hown6 ab len3 cap3 Bl rfl hbb6 hn3 (by omega) hb6.size ?_; intro ad7 c7 w7 hown7 hgrow7))
  have hS := hs5.len
  have hBl := hbb5.len
  have HS := hidden hS
  have HBl := hidden hBl
  clear hS hBl
  have h57 := hb6.trans (grown_below hgrow7 hown6 hb6.size)
  have hx7 := sl_of_owns hown7 ((enc_byte n (by omega)).append hbb5.byte)
  clear hown7 hgrow7 hown6 hb6 hx6 hbb6
  refine (uint_any ad7 _ c7 _ w7 hx7 (by omega)).mono ?_
  rw [dec_enc n (by omega)]
  rintro e w7' ⟨rfl, rfl⟩
  go_wp2_with fail
  refine (putInt_out none 0 0 m [] w7' (grp (fold m) + 1) (enc (fold m)) (Sl.nil _ _) (by omega) hm0 hm1 (by omega) (by simp)).mono ?_
  rintro e w8 ⟨g8, c8, rfl, _, hc8, hd8, hown8, hb8⟩
  have hbb8 := hbb5.later (h57.trans (hb8.mono h57.size))
  go_wp2_with (first
    | (at_builtin; refine wpList_append_sl _ rfl _ _ 22 rfl w7'.heap.size 5 i0 (.int .u8 0) Try.underlying22 hi hz0 hz1 hz2 rfl _ (grp (fold m) + 1) (enc (fold m)) rfl hown8 ab len3 cap3 Bl rfl hbb8 hn3 (by omega) hb8.size ?_; intro ad9 c9 w9 hown9 hgrow9))
  have h59 := h57.trans ((hb8.trans (grown_below hgrow9 hown8 hb8.size)).mono h57.size)
  have hfm := fold_le m hm0 hm1
  have hx9 := sl_of_owns hown9 ((enc_byte (fold m) (by omega)).append hbb5.byte)
  clear hown9 hgrow9 hown8 hb8 hbb8 h57 hx7
  refine (int_any ad9 _ c9 _ w9 hx9 (by omega)).mono ?_
  rw [dec_enc (fold m) (by omega)]
  rintro e w9' ⟨rfl, rfl⟩
  simp only [unfold_fold]
  go_wp2_with fail
  refine (putBytes_out none 0 0 [] ae len2 cap2 S w9' (grp len2 + 1 + len2) (enc len2 ++ S) (Sl.nil _ _) (hs5.later h59) hn2 (by omega) (by omega) (by simp)).mono ?_
  rintro e w10 ⟨g10, c10, rfl, _, hc10, hd10, hown10, hb10⟩
  have hbb10 := hbb5.later (h59.trans (hb10.mono h59.size))
  go_wp2_with (first
    | (at_builtin; refine wpList_append_sl _ rfl _ _ 22 rfl w9'.heap.size 5 i0 (.int .u8 0) Try.underlying22 hi hz0 hz1 hz2 rfl _ (grp len2 + 1 + len2) (enc len2 ++ S) rfl hown10 ab len3 cap3 Bl rfl hbb10 hn3 (by omega) hb10.size ?_; intro ad11 c11 w11 hown11 hgrow11))
  have h511 := h59.trans ((hb10.trans (grown_below hgrow11 hown10 hb10.size)).mono h59.size)
  have hx11 := sl_of_owns hown11 (((enc_byte len2 (by omega)).append hs5.byte).append hbb5.byte)
  obtain ⟨_, hc11, hd11, _⟩ := owns_cap hown11
  unfold maxLen at hd11
  clear hown11 hgrow11 hown10 hb10 hbb10 h59 hx9
  refine (bytes_good ad11 _ c11 (len2 : Int) _ w11 hx11 hc11 (by omega) (by omega) (by omega) (by omega) (form_good len2 h2 S Bl HS.out)).mono ?_
  rw [dec_form len2 h2 S Bl]
  simp only [form_read len2 S Bl HS.out]
  rintro e w12 ⟨rfl, hown12, hb12⟩
  have hz12 := sl_of_owns hown12 hs5.byte
  have h512 := h511.trans (hb12.mono h511.size)
  clear hown12 hb12 h511 hx11
  have k1 := conv (cap := len2) hz12
  have k2 := conv (cap := cap2) (hs5.later h512)
  have r0 := (h512.cell (p := ⟨gF, 0, none⟩) hgt).trans Q0.out
  have r1 := (h512.cell (p := ⟨gF, 1, none⟩) hgt).trans Q1.out
  have r2 := (h512.cell (p := ⟨gF, 2, none⟩) hgt).trans Q2.out
  have hf1 := hf15.later h512
  have hf2 := hf25.later h512
  have hf3 := hf35.later h512
  have hb12 := hbb5.later h512
  have hs12 := hs5.later h512
  have hB12 := hB5.trans (h512.mono hB5.size)
  clear hf15 hf25 hf35 hbb5 hs5 hB5 h512 Q0 Q1 Q2 HZ5 hgt hz12
  go_wp2_with fail
  refine (bytes_bad (some ⟨g3, 0, none⟩) _ c3 _ _ w12 hf3 (by omega) (by omega) (by omega) (form_less len2 h2 S)).mono ?_
  rintro e w12' ⟨rfl, rfl⟩
  clear k1 k2
  go_wp2_with fail
  go_loop [19] (fun f => ∃ k : Nat, k ≤ 3 ∧ f = .int .i64 k) (fun f => 3 - (intOf f).toNat)
  case atStart => exact ⟨0, by omega, rfl⟩
  case round =>
    obtain ⟨k, hk, rfl⟩ := hrel
    rcases (by omega : k = 0 ∨ k = 1 ∨ k = 2 ∨ k = 3) with rfl | rfl | rfl | rfl
    · go_wp2_with fail
      go_loop [20] (fun c => ∃ j : Nat, j ≤ grp n + 1 ∧ c = .int .i64 j) (fun c => grp n + 1 - (intOf c).toNat)
      case atStart => exact ⟨0, by omega, rfl⟩
      case round =>
        obtain ⟨j, hj, rfl⟩ := hrel
        by_cases hlt : j < grp n + 1
        · go_wp2_with fail
          refine (uint_any (some ⟨g1, 0, none⟩) j c1 ((enc n).take j) _ (hf1.take (by omega)) (by omega)).mono ?_
          rw [dec_short n j hlt]
          rintro e w13 ⟨rfl, rfl⟩
          go_wp2_with fail
          refine (int_any (some ⟨g1, 0, none⟩) j c1 ((enc n).take j) _ (hf1.take (by omega)) (by omega)).mono ?_
          rw [dec_short n j hlt]
          rintro e w14 ⟨rfl, rfl⟩
          go_wp2_with fail
          refine (bytes_bad (some ⟨g1, 0, none⟩) j c1 _ ((enc n).take j) _ (hf1.take (by omega)) (by omega) (by omega) (by omega) (enc_short n j _ hlt)).mono ?_
          rintro e w15 ⟨rfl, rfl⟩
          go_wp2
          exact ⟨⟨j + 1, by omega, by go_num⟩, by simp [intOf]; omega⟩
        · go_wp2
          exact ⟨⟨1, by omega, rfl⟩, by simp [intOf]⟩
    · go_wp2_with fail
      go_loop [20] (fun c => ∃ j : Nat, j ≤ grp (fold m) + 1 ∧ c = .int .i64 j) (fun c => grp (fold m) + 1 - (intOf c).toNat)
      case atStart => exact ⟨0, by omega, rfl⟩
      case round =>
        obtain ⟨j, hj, rfl⟩ := hrel
        by_cases hlt : j < grp (fold m) + 1
        · go_wp2_with fail
          refine (uint_any (some ⟨g2, 0, none⟩) j c2 ((enc (fold m)).take j) _ (hf2.take (by omega)) (by omega)).mono ?_
          rw [dec_short (fold m) j hlt]
          rintro e w13 ⟨rfl, rfl⟩
          go_wp2_with fail
          refine (int_any (some ⟨g2, 0, none⟩) j c2 ((enc (fold m)).take j) _ (hf2.take (by omega)) (by omega)).mono ?_
          rw [dec_short (fold m) j hlt]
          rintro e w14 ⟨rfl, rfl⟩
          go_wp2_with fail
          refine (bytes_bad (some ⟨g2, 0, none⟩) j c2 _ ((enc (fold m)).take j) _ (hf2.take (by omega)) (by omega) (by omega) (by omega) (enc_short (fold m) j _ hlt)).mono ?_
          rintro e w15 ⟨rfl, rfl⟩
          go_wp2
          exact ⟨⟨j + 1, by omega, by go_num⟩, by simp [intOf]; omega⟩
        · go_wp2
          exact ⟨⟨2, by omega, rfl⟩, by simp [intOf]⟩
    · go_wp2_with fail
      go_loop [20] (fun c => ∃ j : Nat, j ≤ 12 ∧ j ≤ grp len2 + 1 + len2 ∧ c = .int .i64 j) (fun c => 12 - (intOf c).toNat)
      case atStart => exact ⟨0, by omega, by omega, rfl⟩
      case round =>
        obtain ⟨j, hj1, hj2, rfl⟩ := hrel
        by_cases hlt : j < grp len2 + 1 + len2
        · by_cases hlt2 : j < 12
          · go_wp2_with fail
            refine (uint_any (some ⟨g3, 0, none⟩) j c3 ((enc len2 ++ S).take j) _ (hf3.take (by omega)) (by omega)).mono ?_
            generalize dec ((enc len2 ++ S).take j) = p
            rintro e w13 ⟨rfl, rfl⟩
            go_wp2_with fail
            refine (int_any (some ⟨g3, 0, none⟩) j c3 ((enc len2 ++ S).take j) _ (hf3.take (by omega)) (by omega)).mono ?_
            generalize dec ((enc len2 ++ S).take j) = q
            rintro e w14 ⟨rfl, rfl⟩
            go_wp2_with fail
            refine (bytes_bad (some ⟨g3, 0, none⟩) j c3 (len2 : Int) ((enc len2 ++ S).take j) _ (hf3.take (by omega)) (by omega) (by omega) (by omega) (form_short len2 j h2 S HS.out hlt)).mono ?_
            rintro e w15 ⟨rfl, rfl⟩
            go_wp2
            exact ⟨⟨j + 1, by omega, by omega, by go_num⟩, by simp [intOf]; omega⟩
          · go_wp2
            exact ⟨⟨3, by omega, rfl⟩, by simp [intOf]⟩
        · go_wp2
          exact ⟨⟨3, by omega, rfl⟩, by simp [intOf]⟩
    · clear hf1 hf2 hf3 r0 r1 r2 hs12
      go_wp2_with fail
      refine (uint_any ab len3 cap3 Bl _ hb12 (by omega)).mono ?_
      rintro e w13 ⟨rfl, rfl⟩
      go_wp2_with fail
      refine (int_any ab len3 cap3 Bl _ hb12 (by omega)).mono ?_
      rintro e w14 ⟨rfl, rfl⟩
      have hd := dec_bound Bl hb12.byte
      have hle := hb12.len
      have hed := enc_dec Bl hb12.byte
      have HE := hidden hed
      rw [hle] at hd
      clear hed
      by_cases hK : (dec Bl).2 = 0
      · have hbad : badB Bl (len3 : Int) = true := by simp [badB, hK]
        rw [hK]
        clear hle
        go_wp2_with fail
        refine (bytes_bad ab len3 cap3 _ Bl _ hb12 (by omega) (by omega) (by omega) hbad).mono ?_
        rintro e w15 ⟨rfl, rfl⟩
        clear hbad
        go_wp2_with fail
        go_quiet (fail)
        go_wp2
        go_ret
        exact ⟨rfl, below_drewN hB12 _⟩
      · obtain ⟨e1, e2⟩ := HE.out hK
        obtain ⟨b, off, rfl, hbl, hcl⟩ := hb12.at (by omega)
        clear hcl HE
        have hfu := fold_unfold (dec Bl).1
        have E1 := hidden e1
        have HF := hidden hfu
        have hus := unfold_bound _ hd.1
        have hK0 : 1 ≤ (dec Bl).2 := by omega
        clear e1 e2 hfu hK
        by_cases hbad : badB Bl (len3 : Int) = true
        · clear hle
          go_wp2_with fail
          refine (bytes_bad _ len3 cap3 _ Bl _ hb12 (by omega) (by omega) (by omega) hbad).mono ?_
          rintro e w15 ⟨rfl, rfl⟩
          clear hbad
          generalize (dec Bl).1 = N at *
          generalize (dec Bl).2 = K at *
          go_wp2_with fail
          refine region29_bad b off len3 cap3 N K _ Bl w15 _ _ hb12 hc3 hd3 hd.1 hK0 hd.2.2 h3 E1.out HF.out hus.1 hus.2 rfl rfl rfl rfl rfl rfl rfl ?_
          intro a wz ha hda hbz
          obtain ⟨tz, dz⟩ := a
          obtain rfl : dz = [] := hda
          have HA := hidden ha
          clear ha
          go_wp2
          go_ret
          exact ⟨congrArg Ending.returned HA.out, hB12.trans (hbz.mono hB12.size)⟩
        · have hbad' : badB Bl (len3 : Int) = false := by simpa using hbad
          have hgd := hbad'
          simp only [badB, Bool.or_eq_false_iff, decide_eq_false_iff_not] at hgd
          rw [hle] at hgd
          have hMl : (dec Bl).2 + (dec Bl).1 ≤ len3 := by omega
          clear hgd hbad hle
          go_wp2_with fail
          refine (bytes_good _ len3 cap3 _ Bl _ hb12 hc3 hd3 (by omega) (by omega) (by omega) hbad').mono ?_
          rintro e w15 ⟨rfl, hown15, hb15⟩
          have hz15 := sl_of_owns hown15 ((hb12.byte.drop _).take _)
          have hbz15 := hb12.later hb15
          have hB15 := hB12.trans (hb15.mono hB12.size)
          clear hbad' hown15 hb12 hB12
          generalize (dec Bl).1 = N at *
          generalize (dec Bl).2 = K at *
          go_wp2_with fail
          refine region29_good b off len3 cap3 N K _ (K + N) _ Bl w15 _ _ hbz15 hc3 hd3 hd.1 hK0 hd.2.2 h3 E1.out HF.out hus.1 hus.2 rfl rfl hMl hz15 rfl rfl rfl rfl rfl rfl rfl ?_
          intro a wz ha hda hbz
          obtain ⟨tz, dz⟩ := a
          obtain rfl : dz = [] := hda
          have HA := hidden ha
          clear ha
          go_wp2
          go_ret
          exact ⟨congrArg Ending.returned HA.out, hB15.trans (hbz.mono hB15.size)⟩

end Go.Proofs.Ytfhhcpcedfgceaa
