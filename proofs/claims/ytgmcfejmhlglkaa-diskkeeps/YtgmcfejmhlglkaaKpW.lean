/-
  The walk of DiskKeeps.
-/
import Derived.Test.YtgmcfejmhlglkaaKpQ
namespace Go.Proofs.Ytgmcfejmhlglkaa
open Go.RowKit
set_option linter.unusedVariables false
set_option linter.unusedSimpArgs false

set_option maxRecDepth 100000 in
set_option maxHeartbeats 8000000 in
theorem keeps_any (a0 : Option Addr) (len0 cap0 : Nat) (kd fd nd : Nat → Int) (o k : Int) (W : World) (hS : Sd W a0 len0 kd fd nd) (hl : len0 ≤ 9223372036854775807) (ho : -9223372036854775808 ≤ o ∧ o ≤ 9223372036854775807) (hk : -9223372036854775808 ≤ k ∧ k ≤ 9223372036854775807) :
    Calls Try.prog 4 #[.slice a0 len0 cap0, .int .i64 o, .int .i64 k] W fun e W' => e = .returned (.bool true) ∧ Below W.heap.size W W' := by
  have HSd := hidden hS
  have HO := hidden ho
  have HKb := hidden hk
  clear hS ho hk
  go_enter Try.func4, Try.ntmps4
  go_wp2_with fail
  refine (shown_any W).mono ?_
  rintro e w1 ⟨rfl, hb⟩
  have Hb1 := hidden hb
  clear hb
  go_wp2_with fail
  refine (new_b 3 W w1 Hb1.out (by decide) (by decide)).mono ?_
  rintro e w2 ⟨p, rfl, hN⟩
  have HN2 := hidden hN
  clear hN Hb1
  go_wp2_with (refine wpList_alloc_blk rfl 48 rfl 10 rfl _ info48 ?_; intro w3 B3 bl3 hz3; have HKX : Hid (KX W w3 p w2.heap.size 0 0) := ⟨_, (HN2.out.more bl3).less (fun i hi => by subst hi; exact .inr ⟨Nat.le_refl _, by omega⟩), B3, rfl, rfl, rfl, rfl, (by intro x hx; simp [St.fresh] at hx; subst hx; simp), HN2.out.bel.size⟩; clear B3 bl3 hz3)
  obtain ⟨lb, hlb⟩ : ∃ lb, w2.heap.size = lb := ⟨_, rfl⟩
  rw [hlb] at HKX
  simp only [hlb]
  clear HN2 hlb
  go_loopw [11, 12] (fun fv iv wr => ∃ i fl : Nat, i ≤ 60 ∧ fl ≤ i ∧ iv = .int .i64 (i : Int) ∧ fv = .int .i64 (fl : Int) ∧ KX W wr p lb fl (9 * i)) (fun _ iv _ => (60 - (intOf iv).toNat))
  case atStart => exact ⟨0, 0, by omega, by omega, rfl, rfl, HKX.out⟩
  case round =>
    rename World => wr
    obtain ⟨i, fl, hle, hfl, rfl, rfl, hK⟩ := hrel
    have HK := hidden hK
    clear hK HKX
    by_cases hi : i < len0 ∧ i < 60
    · obtain ⟨hi1, hi2⟩ := hi
      obtain ⟨b, off, rfl, hbW, hcell⟩ := HSd.out (by omega)
      obtain ⟨d0, d1, d2, b0, b1, b2⟩ := hcell i hi1
      have HHB : Hid (Below W.heap.size W wr) := by obtain ⟨S, hN, _⟩ := HK.out; exact hN.bel
      have hold : ∀ (x : Nat) (v : Value), W.cell? ⟨b, x, none⟩ = some v → wr.cell? ⟨b, x, none⟩ = some v := fun x v hv => by rw [← hv]; exact World.cell?_of_block (HHB.out.block _ hbW)
      have c0 := hold _ _ d0
      have c1 := hold _ _ d1
      have c2 := hold _ _ d2
      clear d0 d1 d2 hold hcell
      go_wp2_with fail
      refine (pick_any (fd i) 3 wr b1 (by decide) (by decide)).mono ?_
      rintro e w' ⟨rfl, hw⟩
      obtain rfl := hw.symm
      clear hw
      have hf := pk_lt (fd i) 3 (by decide)
      generalize pk (fd i) 3 = f at hf ⊢
      go_wp2_with fail
      refine (pick_any (nd i) 9 wr b2 (by decide) (by decide)).mono ?_
      rintro e w' ⟨rfl, hw⟩
      obtain rfl := hw.symm
      clear hw
      have hn := pk_lt (nd i) 9 (by decide)
      generalize pk (nd i) 9 = n at hn ⊢
      go_wp2_with fail
      refine (pick_any (kd i) 5 wr b0 (by decide) (by decide)).mono ?_
      rintro e w' ⟨rfl, hw⟩
      obtain rfl := hw.symm
      clear hw
      have hr := pk_lt (kd i) 5 (by decide)
      generalize pk (kd i) 5 = r at hr ⊢
      obtain ⟨S, hN, hB, h3, hon, hfu, hfa, hbd, hlbW⟩ := HK.out
      obtain ⟨x, hx⟩ : ∃ x, S.L[f]? = some x := ⟨_, List.getElem?_eq_getElem (by omega)⟩
      obtain ⟨hby, hxn, hxt⟩ := hN.file hx
      have hxb := hbd x (List.mem_of_getElem? hx)
      have hsz := str_size x.b
      obtain ⟨m, hm⟩ : ∃ m, x.b.length = m := ⟨_, rfl⟩
      have HMM := hidden hm
      rw [hm] at hxn hxt hxb hsz
      obtain ⟨sv, hsv⟩ : ∃ sv, strOfNums x.b = sv := ⟨_, rfl⟩
      rw [hsv] at hsz
      have HSV := hidden hsv
      have key0 : ∀ w, Blk w lb 48 (tcells S.L) → w.cell? ⟨lb, f * 2, none⟩ = some (.string sv) := fun w hB => by rw [hB.cell, ← hsv]; exact tcells_s _ _ _ hx
      have key1 : ∀ w, Blk w lb 48 (tcells S.L) → w.cell? ⟨lb, f * 2 + 1, none⟩ = some (.int .i64 (x.n : Int)) := fun w hB => by rw [hB.cell]; exact tcells_n _ _ _ hx
      have HK0 := hidden key0
      have HK1 := hidden key1
      have HN := hidden hN
      have HB := hidden hB
      have HBD := hidden hbd
      have HX := hidden hx
      have HBY := hidden hby
      have HON := hidden hon
      have HFU := hidden hfu
      have HFA := hidden hfa
      have H3 := hidden h3
      have HFL : Hid (S.falls ≤ 1099511627776) := by show _ ≤ _; rw [hfa]; omega
      clear hN hB hbd hx hby hon hfu hfa HK hm hsv key0 key1 h3
      rcases (show r = 0 ∨ r = 1 ∨ r = 2 ∨ r = 3 ∨ r = 4 by omega) with rfl | rfl | rfl | rfl | rfl
      · as_aux_lemma =>
          obtain ⟨l, hll, hlb2, hst⟩ : ∃ l : List Int, l.length = n ∧ Byte l ∧ (⟨#[97, 98, 99, 100, 101, 102, 103, 104, 105]⟩ : ByteArray).extract 0 n = strOfNums l := ⟨abc.take n, by simp [abc]; omega, abc_byte.take n, by rw [abc_str, str_take]⟩
          have HLL := hidden hll
          have HLB := hidden hlb2
          clear hll hlb2
          go_wp2_with (refine wpList_bytes_of rfl (.tmp 83) rfl l HLB.out n HLL.out rfl ?_; intro c5 w5 sl5 bl5; have HSL5 := hidden sl5; have HBL5 := hidden bl5; clear sl5 bl5)
          refine (append_b W w5 p S _ (f : Int) (some ⟨wr.heap.size, 0, none⟩) n c5 l (HN.out.later HBL5.out) HFL.out HSL5.out (fun h => by cases h) (by omega)).mono ?_
          rintro e w6 ⟨rfl, hN6, hk6⟩
          rw [append_ok HON.out HFU.out HX.out (by rw [HMM.out, HLL.out]; omega)] at hN6 ⊢
          have HN6 := hidden hN6
          have HB6 := hidden (hk6.blk (HB.out.later HBL5.out) rfl)
          clear hN6 hk6
          have e0 := HK0.out w6 HB6.out
          have g0 := HB6.out.frozen (f * 2)
          obtain ⟨sv2, hsv2⟩ : ∃ sv2, sv ++ strOfNums l = sv2 := ⟨_, rfl⟩
          have hsl := str_size l
          rw [HLL.out] at hsl
          have hadd : sv.size + (strOfNums l).size ≤ 9223372036854775807 := by rw [hsz, hsl]; omega
          have hadd2 : m + n ≤ 9223372036854775807 := by omega
          have HSV2 : Hid (sv2 = strOfNums (x.b ++ l)) := by show _ = _; rw [← hsv2, ← HSV.out, str_append]
          have HKY : Hid (KX W (w6.setCell ⟨lb, f * 2, none⟩ (.string sv2)) p lb fl (9 * (i + 1))) := by
            refine ⟨_, HN6.out.chg (Chg.set ⟨lb, f * 2, none⟩ _ w6) (fun i hi => by subst hi; exact hlbW), ?_, by simpa using H3.out, HON.out, HFU.out, HFA.out, ?_, hlbW⟩
            · rw [HSV2.out]
              exact blk_s HB6.out HX.out (x.b ++ l)
            · intro y hy
              rcases mem_set hy with h | rfl
              · have := HBD.out y h
                omega
              · have h1 := HMM.out
                have h2 := HLL.out
                simp
                omega
          clear HB6 HN6 HSL5 HBL5
          simp only []
          obtain ⟨S9, hN9, hB9, h39, hon9, hfu9, hfa9, hbd9, hlb9⟩ := HKY.out
          have HB9 := hidden hB9
          have HN9 := hidden hN9
          have H39 := hidden h39
          have HON9 := hidden hon9
          have HFA9 := hidden hfa9
          clear hN9 hB9 h39 hon9 hfu9 hfa9 hbd9 hlb9
          go_wp2_with (refine wpList_load_blk rfl 48 (.tmp 10) rfl lb HB9.out rfl Try.underlying48 rfl (by rw [tcells_length, H39.out]; exact size48) ?_)
          refine (same_any W _ p S9 _ HN9.out HON9.out H39.out).mono ?_
          rintro e w9 ⟨rfl, hb9⟩
          have HN10 := hidden (HN9.out.later hb9)
          have HKZ := hidden (HKY.out.later hb9)
          clear hb9
          go_wp2_with fail
          refine (falls_b W w9 p S9 _ HN10.out).mono ?_
          rintro e w' ⟨rfl, hw⟩
          obtain rfl := hw.symm
          clear hw
          rw [HFA9.out]
          go_wp2_with fail
          refine ⟨⟨i + 1, fl, by omega, by omega, by first | rfl | simp, by first | rfl | simp, HKZ.out⟩, ?_⟩
          simp [intOf]
          omega
      · as_aux_lemma =>
          obtain ⟨l, hll, hlb2, hst⟩ : ∃ l : List Int, l.length = n ∧ Byte l ∧ (⟨#[97, 98, 99, 100, 101, 102, 103, 104, 105]⟩ : ByteArray).extract 0 n = strOfNums l := ⟨abc.take n, by simp [abc]; omega, abc_byte.take n, by rw [abc_str, str_take]⟩
          have HLL := hidden hll
          have HLB := hidden hlb2
          clear hll hlb2
          go_wp2_with (refine wpList_bytes_of rfl (.tmp 83) rfl l HLB.out n HLL.out rfl ?_; intro c5 w5 sl5 bl5; have HSL5 := hidden sl5; have HBL5 := hidden bl5; clear sl5 bl5)
          refine (append_b W w5 p S _ (f : Int) (some ⟨wr.heap.size, 0, none⟩) n c5 l (HN.out.later HBL5.out) HFL.out HSL5.out (fun h => by cases h) (by omega)).mono ?_
          rintro e w6 ⟨rfl, hN6, hk6⟩
          rw [append_ok HON.out HFU.out HX.out (by rw [HMM.out, HLL.out]; omega)] at hN6 ⊢
          have HN6 := hidden hN6
          have HB6 := hidden (hk6.blk (HB.out.later HBL5.out) rfl)
          clear hN6 hk6
          have e0 := HK0.out w6 HB6.out
          have g0 := HB6.out.frozen (f * 2)
          obtain ⟨sv2, hsv2⟩ : ∃ sv2, sv ++ strOfNums l = sv2 := ⟨_, rfl⟩
          have hsl := str_size l
          rw [HLL.out] at hsl
          have hadd : sv.size + (strOfNums l).size ≤ 9223372036854775807 := by rw [hsz, hsl]; omega
          have hadd2 : m + n ≤ 9223372036854775807 := by omega
          have HSV2 : Hid (sv2 = strOfNums (x.b ++ l)) := by show _ = _; rw [← hsv2, ← HSV.out, str_append]
          have HKY : Hid (KX W (w6.setCell ⟨lb, f * 2, none⟩ (.string sv2)) p lb fl (9 * (i + 1))) := by
            refine ⟨_, HN6.out.chg (Chg.set ⟨lb, f * 2, none⟩ _ w6) (fun i hi => by subst hi; exact hlbW), ?_, by simpa using H3.out, HON.out, HFU.out, HFA.out, ?_, hlbW⟩
            · rw [HSV2.out]
              exact blk_s HB6.out HX.out (x.b ++ l)
            · intro y hy
              rcases mem_set hy with h | rfl
              · have := HBD.out y h
                omega
              · have h1 := HMM.out
                have h2 := HLL.out
                simp
                omega
          clear HB6 HN6 HSL5 HBL5
          simp only []
          obtain ⟨S9, hN9, hB9, h39, hon9, hfu9, hfa9, hbd9, hlb9⟩ := HKY.out
          have HB9 := hidden hB9
          have HN9 := hidden hN9
          have H39 := hidden h39
          have HON9 := hidden hon9
          have HFA9 := hidden hfa9
          clear hN9 hB9 h39 hon9 hfu9 hfa9 hbd9 hlb9
          go_wp2_with (refine wpList_load_blk rfl 48 (.tmp 10) rfl lb HB9.out rfl Try.underlying48 rfl (by rw [tcells_length, H39.out]; exact size48) ?_)
          refine (same_any W _ p S9 _ HN9.out HON9.out H39.out).mono ?_
          rintro e w9 ⟨rfl, hb9⟩
          have HN10 := hidden (HN9.out.later hb9)
          have HKZ := hidden (HKY.out.later hb9)
          clear hb9
          go_wp2_with fail
          refine (falls_b W w9 p S9 _ HN10.out).mono ?_
          rintro e w' ⟨rfl, hw⟩
          obtain rfl := hw.symm
          clear hw
          rw [HFA9.out]
          go_wp2_with fail
          refine ⟨⟨i + 1, fl, by omega, by omega, by first | rfl | simp, by first | rfl | simp, HKZ.out⟩, ?_⟩
          simp [intOf]
          omega
      · as_aux_lemma =>
          go_wp2_with fail
          refine (sync_b W wr p S _ (f : Int) HN.out HFL.out).mono ?_
          rintro e w6 ⟨rfl, hN6, hk6⟩
          rw [sync_ok HON.out HFU.out HX.out] at hN6 ⊢
          have HN6 := hidden hN6
          have HB6 := hidden (hk6.blk HB.out rfl)
          clear hN6 hk6
          have e0 := HK0.out w6 HB6.out
          have e1 := HK1.out w6 HB6.out
          have g1 := HB6.out.frozen (f * 2 + 1)
          have HKY : Hid (KX W (w6.setCell ⟨lb, f * 2 + 1, none⟩ (.int .i64 (m : Int))) p lb fl (9 * (i + 1))) := by
            refine ⟨_, HN6.out.chg (Chg.set ⟨lb, f * 2 + 1, none⟩ _ w6) (fun i hi => by subst hi; exact hlbW), ?_, by simpa using H3.out, HON.out, HFU.out, HFA.out, ?_, hlbW⟩
            · have := blk_n HB6.out HX.out x.b.length
              rw [HMM.out] at this ⊢
              exact this
            · intro y hy
              rcases mem_set hy with h | rfl
              · have := HBD.out y h
                omega
              · have h1 := HMM.out
                simp
                omega
          clear HB6 HN6
          simp only []
          obtain ⟨S9, hN9, hB9, h39, hon9, hfu9, hfa9, hbd9, hlb9⟩ := HKY.out
          have HB9 := hidden hB9
          have HN9 := hidden hN9
          have H39 := hidden h39
          have HON9 := hidden hon9
          have HFA9 := hidden hfa9
          clear hN9 hB9 h39 hon9 hfu9 hfa9 hbd9 hlb9
          go_wp2_with (refine wpList_load_blk rfl 48 (.tmp 10) rfl lb HB9.out rfl Try.underlying48 rfl (by rw [tcells_length, H39.out]; exact size48) ?_)
          refine (same_any W _ p S9 _ HN9.out HON9.out H39.out).mono ?_
          rintro e w9 ⟨rfl, hb9⟩
          have HN10 := hidden (HN9.out.later hb9)
          have HKZ := hidden (HKY.out.later hb9)
          clear hb9
          go_wp2_with fail
          refine (falls_b W w9 p S9 _ HN10.out).mono ?_
          rintro e w' ⟨rfl, hw⟩
          obtain rfl := hw.symm
          clear hw
          rw [HFA9.out]
          go_wp2_with fail
          refine ⟨⟨i + 1, fl, by omega, by omega, by first | rfl | simp, by first | rfl | simp, HKZ.out⟩, ?_⟩
          simp [intOf]
          omega
      · as_aux_lemma =>
          obtain ⟨t, ht⟩ : ∃ t, pk (nd i) (m + 1) = t := ⟨_, rfl⟩
          have htm : t ≤ m := by have := pk_lt (nd i) (m + 1) (by omega); omega
          have H11 : Hid (∀ w1, Calls Try.prog 11 #[.int .i64 (nd i), .int .i64 ((m + 1 : Nat) : Int)] w1 fun e w2 => e = .returned (.int .i64 (t : Int)) ∧ w2 = w1) := fun w1 => by have := pick_any (nd i) (m + 1) w1 b2 (by omega) (by omega); rw [ht] at this; exact this
          have hnx : x.n ≤ m := hxn
          clear ht
          go_wp2_with fail
          refine keeps_r24 b off len0 cap0 i lb f m (m + 1) t (nd i) sv _ _ _ (by rfl) (by rfl) (by rfl) (by rfl) hi1 (by omega) hl hsz (by omega) (IntWalk.i64_in _ (by omega)) (by omega) (fun w1 hL => by rw [← c2]; exact World.cell?_of_block (hL.block _ (Nat.lt_of_lt_of_le hbW HHB.out.size))) (fun w1 hL => HK0.out w1 (HB.out.later hL)) H11.out ?_
          intros
          rename World => w5
          rename Lat wr w5 => hL5
          have HN5 := hidden (HN.out.later hL5)
          have HB5 := hidden (HB.out.later hL5)
          clear hL5
          simp only [Act.put, List.setIfInBounds_toArray, List.set_cons_succ, List.set_cons_zero]
          go_wp2_with fail
          refine (truncate_b W w5 p S _ (f : Int) (t : Int) HN5.out HFL.out (by omega)).mono ?_
          rintro e w6 ⟨rfl, hN6, hk6⟩
          rw [truncate_ok HON.out HFU.out HX.out (by rw [HMM.out]; exact htm)] at hN6 ⊢
          have HN6 := hidden hN6
          have HB6 := hidden (hk6.blk HB5.out rfl)
          clear hN6 hk6
          have e0 := HK0.out w6 HB6.out
          have e1 := HK1.out w6 HB6.out
          have g0 := HB6.out.frozen (f * 2)
          have g1 := HB6.out.frozen (f * 2 + 1)
          have hts : (t : Int) ≤ (sv.size : Int) := by rw [hsz]; omega
          obtain ⟨sv2, hsv2⟩ : ∃ sv2, sv.extract 0 t = sv2 := ⟨_, rfl⟩
          have HSV2 : Hid (sv2 = strOfNums (x.b.take t)) := by show _ = _; rw [← hsv2, ← HSV.out, str_take]
          obtain ⟨q, hq⟩ : ∃ q, min x.n t = q := ⟨_, rfl⟩
          have HKY : Hid (KX W ((w6.setCell ⟨lb, f * 2, none⟩ (.string sv2)).setCell ⟨lb, f * 2 + 1, none⟩ (.int .i64 (q : Int))) p lb fl (9 * (i + 1))) := by
            refine ⟨_, HN6.out.chg ((Chg.set ⟨lb, f * 2, none⟩ _ w6).trans (Chg.set ⟨lb, f * 2 + 1, none⟩ _ _) (fun _ _ h => h)) (fun i hi => by subst hi; exact hlbW), ?_, by simpa using H3.out, HON.out, HFU.out, HFA.out, ?_, hlbW⟩
            · rw [HSV2.out]
              have h1 := blk_s HB6.out HX.out (x.b.take t)
              have h2 := blk_n (f := f) (x := ⟨x.b.take t, x.n⟩) h1 (by rw [List.getElem?_set, if_pos rfl, if_pos (List.getElem?_eq_some_iff.1 HX.out).1]) q
              rw [List.set_set] at h2
              rw [hq]
              exact h2
            · intro y hy
              rcases mem_set hy with h | rfl
              · have := HBD.out y h
                omega
              · have h1 := HMM.out
                simp
                omega
          clear HB6 HN6
          simp only []
          have hqle : (x.n : Int) ≤ (t : Int) ∧ q = x.n ∨ (t : Int) < (x.n : Int) ∧ q = t := by omega
          clear hq
          rcases hqle with ⟨hqa, rfl⟩ | ⟨hqa, rfl⟩
          · obtain ⟨S9, hN9, hB9, h39, hon9, hfu9, hfa9, hbd9, hlb9⟩ := HKY.out
            have HB9 := hidden hB9
            have HN9 := hidden hN9
            have H39 := hidden h39
            have HON9 := hidden hon9
            have HFA9 := hidden hfa9
            clear hN9 hB9 h39 hon9 hfu9 hfa9 hbd9 hlb9
            go_wp2_with (refine wpList_load_blk rfl 48 (.tmp 10) rfl lb HB9.out rfl Try.underlying48 rfl (by rw [tcells_length, H39.out]; exact size48) ?_)
            refine (same_any W _ p S9 _ HN9.out HON9.out H39.out).mono ?_
            rintro e w9 ⟨rfl, hb9⟩
            have HN10 := hidden (HN9.out.later hb9)
            have HKZ := hidden (HKY.out.later hb9)
            clear hb9
            go_wp2_with fail
            refine (falls_b W w9 p S9 _ HN10.out).mono ?_
            rintro e w' ⟨rfl, hw⟩
            obtain rfl := hw.symm
            clear hw
            rw [HFA9.out]
            go_wp2_with fail
            refine ⟨⟨i + 1, fl, by omega, by omega, by first | rfl | simp, by first | rfl | simp, HKZ.out⟩, ?_⟩
            simp [intOf]
            omega
          · obtain ⟨S9, hN9, hB9, h39, hon9, hfu9, hfa9, hbd9, hlb9⟩ := HKY.out
            have HB9 := hidden hB9
            have HN9 := hidden hN9
            have H39 := hidden h39
            have HON9 := hidden hon9
            have HFA9 := hidden hfa9
            clear hN9 hB9 h39 hon9 hfu9 hfa9 hbd9 hlb9
            go_wp2_with (refine wpList_load_blk rfl 48 (.tmp 10) rfl lb HB9.out rfl Try.underlying48 rfl (by rw [tcells_length, H39.out]; exact size48) ?_)
            refine (same_any W _ p S9 _ HN9.out HON9.out H39.out).mono ?_
            rintro e w9 ⟨rfl, hb9⟩
            have HN10 := hidden (HN9.out.later hb9)
            have HKZ := hidden (HKY.out.later hb9)
            clear hb9
            go_wp2_with fail
            refine (falls_b W w9 p S9 _ HN10.out).mono ?_
            rintro e w' ⟨rfl, hw⟩
            obtain rfl := hw.symm
            clear hw
            rw [HFA9.out]
            go_wp2_with fail
            refine ⟨⟨i + 1, fl, by omega, by omega, by first | rfl | simp, by first | rfl | simp, HKZ.out⟩, ?_⟩
            simp [intOf]
            omega
      · as_aux_lemma =>
          obtain ⟨n2, hn2⟩ : ∃ n2, n / 2 = n2 := ⟨_, rfl⟩
          have hq1 : (n : Int) / 2 = (n2 : Int) := by omega
          have hq2 : (n : Int).tdiv 2 = (n2 : Int) := by rw [Int.tdiv_eq_ediv_of_nonneg (by omega)]; omega
          have hn29 : n2 < 9 := by omega
          clear hn2
          go_wp2_with fail
          refine (crash_b W wr p S _ ⟨wr.heap.size, 0, none⟩ 2 2 [(n : Int), (n2 : Int)] HN.out HFL.out _ ((Below.refl _ _).alloc (Nat.le_refl _) _) (sn_lit wr [(n : Int), (n2 : Int)] (fun z hz => by simp at hz; omega) 3 (0, 0) 2 rfl _ rfl _ rfl) (Nat.le_refl _)).mono ?_
          rintro e w5 ⟨rfl, hN5, hk5⟩
          rw [crash_on HON.out] at hN5
          have HN5 := hidden hN5
          have HB5 := hidden (hk5.blk (HB.out.later ((Below.refl _ _).alloc (Nat.le_refl _) _)) rfl)
          clear hN5 hk5
          go_wp2_with fail
          refine (read_b W w5 p (S.fail [(n : Int), (n2 : Int)]) _ (f : Int) 0 0 HN5.out (by decide) (by decide)).mono ?_
          rintro e w6 ⟨ad6, m6, c6, rfl, _, _, hN6, hb6⟩
          rw [read_dead rfl]
          have HN6 := hidden hN6
          have HB6 := hidden (HB5.out.later hb6)
          clear hN6 hb6 HN5 HB5
          go_wp2_with fail
          refine (alive_b W w6 p (S.fail [(n : Int), (n2 : Int)]) _ HN6.out).mono ?_
          rintro e w' ⟨rfl, hw⟩
          obtain rfl := hw.symm
          clear hw
          rw [show (S.fail [(n : Int), (n2 : Int)]).on = false from rfl]
          go_wp2_with fail
          refine (restart_b W w6 p (S.fail [(n : Int), (n2 : Int)]) _ HN6.out).mono ?_
          rintro e w7 ⟨rfl, hN7, hk7⟩
          have HZ7 : Hid (KZ W w7 p lb (fl + 1) (loseAll S.L [(n : Int), (n2 : Int)]) S.L 0) := ⟨_, hN7, rfl, rfl, rfl, by show S.falls + 1 = _; rw [HFA.out], by rw [mix_zero]; exact hk7.blk HB6.out rfl⟩
          clear hN7 hk7 HN6 HB6
          go_wp2_with fail
          go_loopw [20] (fun jv wz => ∃ j : Nat, j ≤ 3 ∧ jv = .int .i64 (j : Int) ∧ KZ W wz p lb (fl + 1) (loseAll S.L [(n : Int), (n2 : Int)]) S.L j) (fun jv _ => (3 - (intOf jv).toNat))
          case atStart => exact ⟨0, by omega, rfl, HZ7.out⟩
          case round =>
            rename World => wz
            obtain ⟨j, hj3, rfl, hZ⟩ := hrel
            have HZ := hidden hZ
            clear hZ HZ7
            rcases (show j = 0 ∨ j = 1 ∨ j = 2 ∨ j = 3 by omega) with rfl | rfl | rfl | rfl
            · obtain ⟨y, hy⟩ : ∃ y, S.L[0]? = some y := ⟨_, List.getElem?_eq_getElem (by have := H3.out; omega)⟩
              obtain ⟨hyby, hyn, hyt⟩ := HN.out.file hy
              have hyb := HBD.out y (List.mem_of_getElem? hy)
              have hMx : (mix (loseAll S.L [(n : Int), (n2 : Int)]) S.L 0)[0]? = some y := (mix_at (by rw [loseAll_length]; exact H3.out) (by decide)).trans hy
              have HMx := hidden hMx
              have hLo : (loseAll S.L [(n : Int), (n2 : Int)])[0]? = some (y.lose ((n : Nat) : Int)) := by rw [loseAll_at, hy]; rfl
              have HLo := hidden hLo
              have hlz := lose_nat y n hyn
              have HLZ := hidden hlz
              have HBz : Hid (Blk wz lb 48 (tcells (mix (loseAll S.L [(n : Int), (n2 : Int)]) S.L 0))) := by obtain ⟨_, _, _, _, _, _, hB⟩ := HZ.out; exact hB
              have hsy := str_size y.b
              obtain ⟨my, hmy⟩ : ∃ my, y.b.length = my := ⟨_, rfl⟩
              have HMY := hidden hmy
              rw [hmy] at hyn hyt hyb hsy
              obtain ⟨sy, hsyv⟩ : ∃ sy, strOfNums y.b = sy := ⟨_, rfl⟩
              rw [hsyv] at hsy
              have HC0 : Hid (∀ w, Blk w lb 48 (tcells (mix (loseAll S.L [(n : Int), (n2 : Int)]) S.L 0)) → w.cell? ⟨lb, 0 * 2, none⟩ = some (.string sy)) := fun w hB => by rw [← hsyv]; exact (hB.cell _).trans (tcells_s _ _ _ hMx)
              have HC1 : Hid (∀ w, Blk w lb 48 (tcells (mix (loseAll S.L [(n : Int), (n2 : Int)]) S.L 0)) → w.cell? ⟨lb, 0 * 2 + 1, none⟩ = some (.int .i64 (y.n : Int))) := fun w hB => (hB.cell _).trans (tcells_n _ _ _ hMx)
              obtain ⟨tq, htq⟩ : ∃ tq, min my (y.n + n) = tq := ⟨_, rfl⟩
              have hts : tq ≤ sy.size := by rw [hsy]; omega
              obtain ⟨sy2, hsy2⟩ : ∃ sy2, sy.extract 0 tq = sy2 := ⟨_, rfl⟩
              have hsz2 : sy2.size = tq := by rw [← hsy2, ← hsyv, str_take, str_size]; simp; omega
              have HSY2 : Hid (sy2 = strOfNums (y.b.take tq)) := by show _ = _; rw [← hsy2, ← hsyv, str_take]
              have HTQ := hidden htq
              have HSX := hidden hsy2
              clear hy hMx hLo hlz hmy hsyv hyby htq hsy2
              go_wp2_with fail
              refine keeps_r39 lb 0 my y.n n (y.n + n) tq sy sy2 _ _ _ (by rfl) (by rfl) (by rfl) (by rfl) (by decide) (by decide) hsy (by omega) (IntWalk.i64_in _ (by omega)) (by have := HTQ.out; omega) (min_run _ _ _ HTQ.out) (slice_run sy tq sy2 hts HSX.out) (fun w1 hL => HC0.out w1 ((HBz.out.later (below_fresh wz _)).later hL)) (fun w1 hL => HC1.out w1 ((HBz.out.later (below_fresh wz _)).later hL)) (.string sy) (fun w1 hL => HC0.out w1 ((HBz.out.later (below_fresh wz _)).later hL)) (fun w1 hL => ((HBz.out.later (below_fresh wz _)).later hL).frozen _) ?_
              intros
              rename World => wq
              rename Lat _ wq => hLq
              have HBq := hidden ((HBz.out.later (below_fresh wz _)).later hLq)
              have HZq := hidden ((HZ.out.later (below_fresh wz _)).later hLq)
              clear hLq
              have q0 : wq.cell? ⟨lb, 0, none⟩ = some (.string sy) := HC0.out wq HBq.out
              have q1 : wq.cell? ⟨lb, 1, none⟩ = some (.int .i64 (y.n : Int)) := HC1.out wq HBq.out
              have f0 := HBq.out.frozen 0
              have f1 := HBq.out.frozen 1
              have hZ2 : Hid (KZ W ((wq.setCell ⟨lb, 0, none⟩ (.string sy2)).setCell ⟨lb, 1, none⟩ (.int .i64 (tq : Int))) p lb (fl + 1) (loseAll S.L [(n : Int), (n2 : Int)]) S.L 1) := HZq.out.step (by rw [loseAll_length]; exact H3.out) H3.out (by decide) HLo.out hlbW ((Chg.set ⟨lb, 0, none⟩ (.string sy2) wq).trans (Chg.set ⟨lb, 1, none⟩ (.int .i64 (tq : Int)) _) (fun _ _ h => h)) (by rw [HLZ.out, HMY.out, HTQ.out, ← HSY2.out]; exact (HBq.out.set 0 _).set 1 _)
              simp only [Act.put, List.setIfInBounds_toArray, List.set_cons_succ, List.set_cons_zero, Nat.zero_mul, Nat.one_mul, Nat.reduceMul]
              go_wp2_with fail
              refine ⟨⟨1, by omega, by first | rfl | simp, hZ2.out⟩, ?_⟩
              simp [intOf]
            · obtain ⟨y, hy⟩ : ∃ y, S.L[1]? = some y := ⟨_, List.getElem?_eq_getElem (by have := H3.out; omega)⟩
              obtain ⟨hyby, hyn, hyt⟩ := HN.out.file hy
              have hyb := HBD.out y (List.mem_of_getElem? hy)
              have hMx : (mix (loseAll S.L [(n : Int), (n2 : Int)]) S.L 1)[1]? = some y := (mix_at (by rw [loseAll_length]; exact H3.out) (by decide)).trans hy
              have HMx := hidden hMx
              have hLo : (loseAll S.L [(n : Int), (n2 : Int)])[1]? = some (y.lose ((n2 : Nat) : Int)) := by rw [loseAll_at, hy]; rfl
              have HLo := hidden hLo
              have hlz := lose_nat y n2 hyn
              have HLZ := hidden hlz
              have HBz : Hid (Blk wz lb 48 (tcells (mix (loseAll S.L [(n : Int), (n2 : Int)]) S.L 1))) := by obtain ⟨_, _, _, _, _, _, hB⟩ := HZ.out; exact hB
              have hsy := str_size y.b
              obtain ⟨my, hmy⟩ : ∃ my, y.b.length = my := ⟨_, rfl⟩
              have HMY := hidden hmy
              rw [hmy] at hyn hyt hyb hsy
              obtain ⟨sy, hsyv⟩ : ∃ sy, strOfNums y.b = sy := ⟨_, rfl⟩
              rw [hsyv] at hsy
              have HC0 : Hid (∀ w, Blk w lb 48 (tcells (mix (loseAll S.L [(n : Int), (n2 : Int)]) S.L 1)) → w.cell? ⟨lb, 1 * 2, none⟩ = some (.string sy)) := fun w hB => by rw [← hsyv]; exact (hB.cell _).trans (tcells_s _ _ _ hMx)
              have HC1 : Hid (∀ w, Blk w lb 48 (tcells (mix (loseAll S.L [(n : Int), (n2 : Int)]) S.L 1)) → w.cell? ⟨lb, 1 * 2 + 1, none⟩ = some (.int .i64 (y.n : Int))) := fun w hB => (hB.cell _).trans (tcells_n _ _ _ hMx)
              obtain ⟨tq, htq⟩ : ∃ tq, min my (y.n + n2) = tq := ⟨_, rfl⟩
              have hts : tq ≤ sy.size := by rw [hsy]; omega
              obtain ⟨sy2, hsy2⟩ : ∃ sy2, sy.extract 0 tq = sy2 := ⟨_, rfl⟩
              have hsz2 : sy2.size = tq := by rw [← hsy2, ← hsyv, str_take, str_size]; simp; omega
              have HSY2 : Hid (sy2 = strOfNums (y.b.take tq)) := by show _ = _; rw [← hsy2, ← hsyv, str_take]
              have HTQ := hidden htq
              have HSX := hidden hsy2
              clear hy hMx hLo hlz hmy hsyv hyby htq hsy2
              go_wp2_with fail
              refine keeps_r39 lb 1 my y.n n2 (y.n + n2) tq sy sy2 _ _ _ (by rfl) (by rfl) (by rfl) (by rfl) (by decide) (by decide) hsy (by omega) (IntWalk.i64_in _ (by omega)) (by have := HTQ.out; omega) (min_run _ _ _ HTQ.out) (slice_run sy tq sy2 hts HSX.out) (fun w1 hL => HC0.out w1 ((HBz.out.later (below_fresh wz _)).later hL)) (fun w1 hL => HC1.out w1 ((HBz.out.later (below_fresh wz _)).later hL)) (.string sy) (fun w1 hL => HC0.out w1 ((HBz.out.later (below_fresh wz _)).later hL)) (fun w1 hL => ((HBz.out.later (below_fresh wz _)).later hL).frozen _) ?_
              intros
              rename World => wq
              rename Lat _ wq => hLq
              have HBq := hidden ((HBz.out.later (below_fresh wz _)).later hLq)
              have HZq := hidden ((HZ.out.later (below_fresh wz _)).later hLq)
              clear hLq
              have q0 : wq.cell? ⟨lb, 2, none⟩ = some (.string sy) := HC0.out wq HBq.out
              have q1 : wq.cell? ⟨lb, 3, none⟩ = some (.int .i64 (y.n : Int)) := HC1.out wq HBq.out
              have f0 := HBq.out.frozen 2
              have f1 := HBq.out.frozen 3
              have hZ2 : Hid (KZ W ((wq.setCell ⟨lb, 2, none⟩ (.string sy2)).setCell ⟨lb, 3, none⟩ (.int .i64 (tq : Int))) p lb (fl + 1) (loseAll S.L [(n : Int), (n2 : Int)]) S.L 2) := HZq.out.step (by rw [loseAll_length]; exact H3.out) H3.out (by decide) HLo.out hlbW ((Chg.set ⟨lb, 2, none⟩ (.string sy2) wq).trans (Chg.set ⟨lb, 3, none⟩ (.int .i64 (tq : Int)) _) (fun _ _ h => h)) (by rw [HLZ.out, HMY.out, HTQ.out, ← HSY2.out]; exact (HBq.out.set 2 _).set 3 _)
              simp only [Act.put, List.setIfInBounds_toArray, List.set_cons_succ, List.set_cons_zero, Nat.zero_mul, Nat.one_mul, Nat.reduceMul]
              go_wp2_with fail
              refine ⟨⟨2, by omega, by first | rfl | simp, hZ2.out⟩, ?_⟩
              simp [intOf]
            · obtain ⟨y, hy⟩ : ∃ y, S.L[2]? = some y := ⟨_, List.getElem?_eq_getElem (by have := H3.out; omega)⟩
              obtain ⟨hyby, hyn, hyt⟩ := HN.out.file hy
              have hyb := HBD.out y (List.mem_of_getElem? hy)
              have hMx : (mix (loseAll S.L [(n : Int), (n2 : Int)]) S.L 2)[2]? = some y := (mix_at (by rw [loseAll_length]; exact H3.out) (by decide)).trans hy
              have HMx := hidden hMx
              have hLo : (loseAll S.L [(n : Int), (n2 : Int)])[2]? = some (y.lose ((0 : Nat) : Int)) := by rw [loseAll_at, hy]; rfl
              have HLo := hidden hLo
              have hlz := lose_nat y 0 hyn
              have HLZ := hidden hlz
              have HBz : Hid (Blk wz lb 48 (tcells (mix (loseAll S.L [(n : Int), (n2 : Int)]) S.L 2))) := by obtain ⟨_, _, _, _, _, _, hB⟩ := HZ.out; exact hB
              have hsy := str_size y.b
              obtain ⟨my, hmy⟩ : ∃ my, y.b.length = my := ⟨_, rfl⟩
              have HMY := hidden hmy
              rw [hmy] at hyn hyt hyb hsy
              obtain ⟨sy, hsyv⟩ : ∃ sy, strOfNums y.b = sy := ⟨_, rfl⟩
              rw [hsyv] at hsy
              have HC0 : Hid (∀ w, Blk w lb 48 (tcells (mix (loseAll S.L [(n : Int), (n2 : Int)]) S.L 2)) → w.cell? ⟨lb, 2 * 2, none⟩ = some (.string sy)) := fun w hB => by rw [← hsyv]; exact (hB.cell _).trans (tcells_s _ _ _ hMx)
              have HC1 : Hid (∀ w, Blk w lb 48 (tcells (mix (loseAll S.L [(n : Int), (n2 : Int)]) S.L 2)) → w.cell? ⟨lb, 2 * 2 + 1, none⟩ = some (.int .i64 (y.n : Int))) := fun w hB => (hB.cell _).trans (tcells_n _ _ _ hMx)
              obtain ⟨tq, htq⟩ : ∃ tq, min my (y.n + 0) = tq := ⟨_, rfl⟩
              have hts : tq ≤ sy.size := by rw [hsy]; omega
              obtain ⟨sy2, hsy2⟩ : ∃ sy2, sy.extract 0 tq = sy2 := ⟨_, rfl⟩
              have hsz2 : sy2.size = tq := by rw [← hsy2, ← hsyv, str_take, str_size]; simp; omega
              have HSY2 : Hid (sy2 = strOfNums (y.b.take tq)) := by show _ = _; rw [← hsy2, ← hsyv, str_take]
              have HTQ := hidden htq
              have HSX := hidden hsy2
              clear hy hMx hLo hlz hmy hsyv hyby htq hsy2
              go_wp2_with fail
              refine keeps_r39 lb 2 my y.n 0 (y.n + 0) tq sy sy2 _ _ _ (by rfl) (by rfl) (by rfl) (by rfl) (by decide) (by decide) hsy (by omega) (IntWalk.i64_in _ (by omega)) (by have := HTQ.out; omega) (min_run _ _ _ HTQ.out) (slice_run sy tq sy2 hts HSX.out) (fun w1 hL => HC0.out w1 ((HBz.out.later (below_fresh wz _)).later hL)) (fun w1 hL => HC1.out w1 ((HBz.out.later (below_fresh wz _)).later hL)) (.string sy) (fun w1 hL => HC0.out w1 ((HBz.out.later (below_fresh wz _)).later hL)) (fun w1 hL => ((HBz.out.later (below_fresh wz _)).later hL).frozen _) ?_
              intros
              rename World => wq
              rename Lat _ wq => hLq
              have HBq := hidden ((HBz.out.later (below_fresh wz _)).later hLq)
              have HZq := hidden ((HZ.out.later (below_fresh wz _)).later hLq)
              clear hLq
              have q0 : wq.cell? ⟨lb, 4, none⟩ = some (.string sy) := HC0.out wq HBq.out
              have q1 : wq.cell? ⟨lb, 5, none⟩ = some (.int .i64 (y.n : Int)) := HC1.out wq HBq.out
              have f0 := HBq.out.frozen 4
              have f1 := HBq.out.frozen 5
              have hZ2 : Hid (KZ W ((wq.setCell ⟨lb, 4, none⟩ (.string sy2)).setCell ⟨lb, 5, none⟩ (.int .i64 (tq : Int))) p lb (fl + 1) (loseAll S.L [(n : Int), (n2 : Int)]) S.L 3) := HZq.out.step (by rw [loseAll_length]; exact H3.out) H3.out (by decide) HLo.out hlbW ((Chg.set ⟨lb, 4, none⟩ (.string sy2) wq).trans (Chg.set ⟨lb, 5, none⟩ (.int .i64 (tq : Int)) _) (fun _ _ h => h)) (by rw [HLZ.out, HMY.out, HTQ.out, ← HSY2.out]; exact (HBq.out.set 4 _).set 5 _)
              simp only [Act.put, List.setIfInBounds_toArray, List.set_cons_succ, List.set_cons_zero, Nat.zero_mul, Nat.one_mul, Nat.reduceMul]
              go_wp2_with fail
              refine ⟨⟨3, by omega, by first | rfl | simp, hZ2.out⟩, ?_⟩
              simp [intOf]
            · have HKY : Hid (KX W wz p lb (fl + 1) (9 * (i + 1))) := by
                obtain ⟨S2, h1, h2, h4, h5, h6, h7⟩ := HZ.out
                rw [mix_all (by rw [loseAll_length]; exact H3.out) H3.out, ← h2] at h7
                refine ⟨S2, h1, h7, by rw [h2, loseAll_length]; exact H3.out, h4, h5, h6, ?_, hlbW⟩
                rw [h2]
                intro z hz
                have := lose_bound HBD.out z hz
                omega
              clear HZ
              obtain ⟨S9, hN9, hB9, h39, hon9, hfu9, hfa9, hbd9, hlb9⟩ := HKY.out
              have HB9 := hidden hB9
              have HN9 := hidden hN9
              have H39 := hidden h39
              have HON9 := hidden hon9
              have HFA9 := hidden hfa9
              clear hN9 hB9 h39 hon9 hfu9 hfa9 hbd9 hlb9
              go_wp2_with (refine wpList_load_blk rfl 48 (.tmp 10) rfl lb HB9.out rfl Try.underlying48 rfl (by rw [tcells_length, H39.out]; exact size48) ?_)
              refine (same_any W wz p S9 _ HN9.out HON9.out H39.out).mono ?_
              rintro e w9 ⟨rfl, hb9⟩
              have HN10 := hidden (HN9.out.later hb9)
              have HKZ := hidden (HKY.out.later hb9)
              clear hb9
              go_wp2_with fail
              refine (falls_b W w9 p S9 _ HN10.out).mono ?_
              rintro e w' ⟨rfl, hw⟩
              obtain rfl := hw.symm
              clear hw
              rw [HFA9.out]
              go_wp2_with fail
              refine ⟨⟨i + 1, (fl + 1), by omega, by omega, by first | rfl | simp, by first | rfl | simp, HKZ.out⟩, ?_⟩
              simp [intOf]
              omega
    · have hcu : ¬ (i < len0 ∧ i < 60) := hi
      go_upto_region 8 with fail
      go_cut [53] from 46 to 221 (fun s53 wx => s53 = .bool false ∧ wx = wr)
      case first =>
        by_cases hz : i < len0
        · have hz2 : 60 ≤ i := by omega
          go_wp2_with fail
          all_goals
            go_meet
            case rel => exact ⟨by first | rfl | (simp; omega), rfl⟩
        · have hz2 : len0 ≤ i := by omega
          go_wp2_with fail
          all_goals
            go_meet
            case rel => exact ⟨by first | rfl | (simp; omega), rfl⟩
      case rest =>
        obtain ⟨rfl, hwc⟩ := hcut
        obtain rfl := hwc.symm
        clear hwc
        as_aux_lemma =>
          go_wp2_with fail
          refine (pick_any o 5 wr HO.out (by decide) (by decide)).mono ?_
          rintro e w' ⟨rfl, hw⟩
          obtain rfl := hw.symm
          clear hw
          have hn := pk_lt o 5 (by decide)
          generalize pk o 5 = n at hn ⊢
          go_wp2_with fail
          refine (pick_any k 12 wr HKb.out (by decide) (by decide)).mono ?_
          rintro e w' ⟨rfl, hw⟩
          obtain rfl := hw.symm
          clear hw
          have hkk := pk_lt k 12 (by decide)
          generalize pk k 12 = kk at hkk ⊢
          obtain ⟨S, hN, hB, h3, hon, hfu, hfa, hbd, hlbW⟩ := HK.out
          have HN := hidden hN
          have HB := hidden hB
          have HBD := hidden hbd
          have HON := hidden hon
          have HFA := hidden hfa
          have H3 := hidden h3
          clear hN hB hbd hon hfu hfa HK h3
          have kc := constBytes
          go_wp2_with fail
          refine (fuse_b W _ p S _ (n : Int) (some ⟨wr.heap.size, 0, none⟩) 1 1 [(kk : Int)] (HN.out.later (below_fresh wr _)) (sn_lit wr [(kk : Int)] (fun z hz => by simp at hz; omega) 3 (0, 0) 1 rfl _ rfl _ rfl) (by decide) (by omega)).mono ?_
          rintro e w5 ⟨rfl, hN5, hk5⟩
          rw [fuse_ok HON.out] at hN5 ⊢
          have HKY5 : Hid (KY W w5 p lb fl 540 n kk) := ⟨_, hN5, hk5.blk (HB.out.later (below_fresh wr _)) rfl, H3.out, HON.out, (by show some (n, List.take S.L.length [(kk : Int)]) = _; rw [H3.out]; rfl), HFA.out, (fun x hx => by have := HBD.out x hx; omega), hlbW⟩
          clear hN5 hk5 HN HB HBD HON HFA H3
          try simp only []
          go_wp2_with fail
          go_loopw [25] (fun jv wz => ∃ j : Nat, j ≤ n ∧ jv = .int .i64 (j : Int) ∧ KY W wz p lb fl (540 + 2 * j) (n - j) kk) (fun jv _ => (n - (intOf jv).toNat))
          case atStart => exact ⟨0, by omega, rfl, HKY5.out⟩
          case round =>
            rename World => wz
            obtain ⟨j, hjn, rfl, hY⟩ := hrel
            clear HKY5
            obtain ⟨S1, hN, hB, h3, hon, hfu, hfa, hbd, _⟩ := hY
            obtain ⟨x1, hx⟩ : ∃ x, S1.L[0]? = some x := ⟨_, List.getElem?_eq_getElem (by omega)⟩
            obtain ⟨hby, hxn, hxt⟩ := hN.file hx
            have hxb := hbd x1 (List.mem_of_getElem? hx)
            have hsz := str_size x1.b
            obtain ⟨m, hm⟩ : ∃ m, x1.b.length = m := ⟨_, rfl⟩
            have HMM := hidden hm
            rw [hm] at hxn hxt hxb hsz
            obtain ⟨sv, hsv⟩ : ∃ sv, strOfNums x1.b = sv := ⟨_, rfl⟩
            rw [hsv] at hsz
            have HSV := hidden hsv
            have HK0 : Hid (∀ w, Blk w lb 48 (tcells S1.L) → w.cell? ⟨lb, 0, none⟩ = some (.string sv)) := fun w hB => by rw [hB.cell, ← hsv]; exact tcells_s _ _ _ hx
            have HK1 : Hid (∀ w, Blk w lb 48 (tcells S1.L) → w.cell? ⟨lb, 1, none⟩ = some (.int .i64 (x1.n : Int))) := fun w hB => by rw [hB.cell]; exact tcells_n _ _ _ hx
            have HN1 := hidden hN
            have HB1 := hidden hB
            have HBD1 := hidden hbd
            have HX1 := hidden hx
            have HON1 := hidden hon
            have HFU1 := hidden hfu
            have HFA1 := hidden hfa
            have H31 := hidden h3
            have HFL1 : Hid (S1.falls ≤ 1099511627776) := by show _ ≤ _; rw [hfa]; omega
            clear hN hB hbd hx hby hon hfu hfa hm hsv h3
            by_cases hj : j < n
            · go_wp2_with fail
              refine (append_b W _ p S1 _ 0 (some ⟨wz.heap.size, 0, none⟩) 2 2 [120, 121] (HN1.out.later (below_fresh wz _)) HFL1.out (sl_lit wz [120, 121] (fun z hz => by simp at hz; omega) 5 (2, 3) 2 rfl _ rfl _ rfl) (fun h => by cases h) (by decide)).mono ?_
              rintro e w6 ⟨rfl, hN6, hk6⟩
              rw [append_fuse (q := n - j - 1) HON1.out (by rw [HFU1.out, show n - j = n - j - 1 + 1 by omega]; rfl) HX1.out (by rw [HMM.out]; simp; omega)] at hN6 ⊢
              have HN6 := hidden hN6
              have HB6 := hidden (hk6.blk (HB1.out.later (below_fresh wz _)) rfl)
              clear hN6 hk6
              have e0 := HK0.out w6 HB6.out
              have g0 := HB6.out.frozen 0
              obtain ⟨sv2, hsv2⟩ : ∃ sv2, sv ++ (⟨#[120, 121]⟩ : ByteArray) = sv2 := ⟨_, rfl⟩
              have hsl : (⟨#[120, 121]⟩ : ByteArray).size = 2 := rfl
              have hadd : sv.size + (⟨#[120, 121]⟩ : ByteArray).size ≤ 9223372036854775807 := by rw [hsz, hsl]; omega
              have hadd2 : m + 2 ≤ 9223372036854775807 := by omega
              have HSV2 : Hid (sv2 = strOfNums (x1.b ++ [120, 121])) := by show _ = _; rw [← hsv2, ← HSV.out, show (⟨#[120, 121]⟩ : ByteArray) = strOfNums [120, 121] by decide, str_append]
              have HKY : Hid (KY W (w6.setCell ⟨lb, 0, none⟩ (.string sv2)) p lb fl (540 + 2 * (j + 1)) (n - (j + 1)) kk) := by
                refine ⟨_, HN6.out.chg (Chg.set ⟨lb, 0, none⟩ _ w6) (fun i hi => by subst hi; exact hlbW), ?_, by simpa using H31.out, HON1.out, rfl, HFA1.out, ?_, hlbW⟩
                · rw [HSV2.out]
                  exact blk_s HB6.out HX1.out (x1.b ++ [120, 121])
                · intro y hy
                  rcases mem_set hy with h | rfl
                  · have := HBD1.out y h
                    omega
                  · have h1 := HMM.out
                    simp
                    omega
              clear HB6 HN6
              try simp only []
              go_wp2_with fail
              refine ⟨⟨j + 1, by omega, by first | rfl | simp, HKY.out⟩, ?_⟩
              simp [intOf]
              omega
            · have hjq : j = n := by omega
              subst hjq
              go_wp2_with fail
              refine (append_b W _ p S1 _ 0 (some ⟨wz.heap.size, 0, none⟩) 3 3 [122, 122, 122] (HN1.out.later (below_fresh wz _)) HFL1.out (sl_lit wz [122, 122, 122] (fun z hz => by simp at hz; omega) 5 (3, 4) 3 rfl _ rfl _ rfl) (fun h => by cases h) (by decide)).mono ?_
              rintro e w6 ⟨rfl, hN6, hk6⟩
              rw [append_burn HON1.out (by rw [HFU1.out, Nat.sub_self]) HX1.out (by rw [HMM.out]; simp; omega)] at hN6 ⊢
              have HN6 := hidden hN6
              have HB6 := hidden (hk6.blk (HB1.out.later (below_fresh wz _)) rfl)
              clear hN6 hk6
              have e0 := HK0.out w6 HB6.out
              have g0 := HB6.out.frozen 0
              obtain ⟨sv2, hsv2⟩ : ∃ sv2, sv ++ (⟨#[122, 122, 122]⟩ : ByteArray) = sv2 := ⟨_, rfl⟩
              have hsl : (⟨#[122, 122, 122]⟩ : ByteArray).size = 3 := rfl
              have hadd : sv.size + (⟨#[122, 122, 122]⟩ : ByteArray).size ≤ 9223372036854775807 := by rw [hsz, hsl]; omega
              have hadd2 : m + 3 ≤ 9223372036854775807 := by omega
              have HSV2 : Hid (sv2 = strOfNums (x1.b ++ [122, 122, 122])) := by show _ = _; rw [← hsv2, ← HSV.out, show (⟨#[122, 122, 122]⟩ : ByteArray) = strOfNums [122, 122, 122] by decide, str_append]
              have HB7 : Hid (Blk (w6.setCell ⟨lb, 0, none⟩ (.string sv2)) lb 48 (tcells (S1.L.set 0 ⟨x1.b ++ [122, 122, 122], x1.n⟩))) := by
                show Blk _ _ _ _
                rw [HSV2.out]
                exact blk_s HB6.out HX1.out (x1.b ++ [122, 122, 122])
              have HN7 := hidden (HN6.out.chg (Chg.set ⟨lb, 0, none⟩ (.string sv2) w6) (fun i hi => by subst hi; exact hlbW))
              clear HB6 HN6
              try simp only []
              go_wp2_with fail
              refine (sync_b W _ p _ _ 0 HN7.out (by have h1 := HFA1.out; show S1.falls + 1 ≤ 1099511627776; omega)).mono ?_
              rintro e w8 ⟨rfl, hN8, hk8⟩
              rw [sync_dead rfl] at hN8 ⊢
              have HN8 := hidden hN8
              have HB8 := hidden (hk8.blk HB7.out rfl)
              clear hN8 hk8 HN7 HB7
              try simp only []
              go_wp2_with fail
              refine (restart_b W _ p _ _ HN8.out).mono ?_
              rintro e w9 ⟨rfl, hN9, hk9⟩
              have HN9 := hidden hN9
              have HB9 := hidden (hk9.blk HB8.out rfl)
              clear hN9 hk9 HN8 HB8
              have hz0 : w9.cell? ⟨lb, 0, none⟩ = some (.string sv2) := by rw [HB9.out.cell, HSV2.out]; exact tcells_s _ 0 ⟨x1.b ++ [122, 122, 122], x1.n⟩ (by rw [List.getElem?_set, if_pos rfl, if_pos (by have := H31.out; omega)])
              have hz1 : w9.cell? ⟨lb, 1, none⟩ = some (.int .i64 (x1.n : Int)) := by rw [HB9.out.cell]; exact tcells_n _ 0 ⟨x1.b ++ [122, 122, 122], x1.n⟩ (by rw [List.getElem?_set, if_pos rfl, if_pos (by have := H31.out; omega)])
              have gz0 := HB9.out.frozen 0
              have gz1 := HB9.out.frozen 1
              obtain ⟨M, hM⟩ : ∃ M, m + 3 = M := ⟨_, rfl⟩
              have hszM : sv2.size = M := by rw [HSV2.out, str_size]; simp [HMM.out, hM]
              have hlenM : (x1.b ++ [122, 122, 122]).length = M := by simp [HMM.out, hM]
              have HLM := hidden hlenM
              have hxM : x1.n ≤ M := by omega
              obtain ⟨tq, htq⟩ : ∃ tq, min M (x1.n + kk) = tq := ⟨_, rfl⟩
              have HTQ := hidden htq
              have htM : tq ≤ M := by omega
              obtain ⟨sv3, hsv3⟩ : ∃ sv3, sv2.extract 0 tq = sv3 := ⟨_, rfl⟩
              have HSV3 : Hid (sv3 = strOfNums ((x1.b ++ [122, 122, 122]).take tq)) := by show _ = _; rw [← hsv3, HSV2.out, str_take]
              have hsz3 : sv3.size = tq := by rw [HSV3.out, str_size, List.length_take, hlenM]; omega
              have hts : (tq : Int) ≤ (sv2.size : Int) := by rw [hszM]; omega
              have HSX3 := hidden hsv3
              obtain ⟨AA, hAA⟩ : ∃ AA, loseAll (S1.L.set 0 ⟨x1.b ++ [122, 122, 122], x1.n⟩) [(kk : Int)] = AA := ⟨_, rfl⟩
              obtain ⟨BB, hBB⟩ : ∃ BB, S1.L.set 0 ⟨(x1.b ++ [122, 122, 122]).take tq, x1.n⟩ = BB := ⟨_, rfl⟩
              have HAAe := hidden hAA
              have HBBe := hidden hBB
              have HAA3 : Hid (AA.length = 3) := by show _ = _; rw [← hAA, loseAll_length, List.length_set]; exact H31.out
              have HBB3 : Hid (BB.length = 3) := by show _ = _; rw [← hBB, List.length_set]; exact H31.out
              have HZ9 : Hid (KZ W (w9.setCell ⟨lb, 0, none⟩ (.string sv3)) p lb (fl + 1) AA BB 0) := by
                refine ⟨_, HN9.out.chg (Chg.set ⟨lb, 0, none⟩ (.string sv3) w9) (fun i hi => by subst hi; exact hlbW), HAAe.out, rfl, rfl, by show S1.falls + 1 = _; rw [HFA1.out], ?_⟩
                rw [mix_zero, ← HBBe.out, HSV3.out]
                have := blk_s (f := 0) (x := ⟨x1.b ++ [122, 122, 122], x1.n⟩) HB9.out (by rw [List.getElem?_set, if_pos rfl, if_pos (by have := H31.out; omega)]) ((x1.b ++ [122, 122, 122]).take tq)
                rw [List.set_set] at this
                exact this
              clear hAA hBB hlenM htq hsv2 HN9 HB9 hM hadd hadd2 hsl e0 g0
              go_upto_region 58 with fail
              go_cut [] from 262 to 277 (fun wx => wx = w9.setCell ⟨lb, 0, none⟩ (.string sv3))
              case first =>
                by_cases hca : (M : Int) ≤ (x1.n : Int) + (kk : Int)
                · have hcb : tq = M := by have := HTQ.out; omega
                  subst hcb
                  go_wp2_with fail
                  all_goals
                    go_meet
                    case rel => first | rfl | simp [HSX3.out]
                · have hcb : (x1.n : Int) + (kk : Int) = (tq : Int) := by have := HTQ.out; omega
                  have hcd : (tq : Int) < (M : Int) := by omega
                  go_wp2_with fail
                  all_goals
                    go_meet
                    case rel => first | rfl | simp [HSX3.out]
              case rest =>
                have HZc : Hid (KZ W wc p lb (fl + 1) AA BB 0) := by show KZ _ _ _ _ _ _ _ _; rw [hcut]; exact HZ9.out
                clear hcut HZ9 hz0 hz1 gz0 gz1
                go_wp2_with fail
                go_loopw [29] (fun jv wz => ∃ j : Nat, j ≤ 3 ∧ jv = .int .i64 (j : Int) ∧ KZ W wz p lb (fl + 1) AA BB j) (fun jv _ => (3 - (intOf jv).toNat))
                case atStart => exact ⟨0, by omega, rfl, HZc.out⟩
                case round =>
                  rename World => wz
                  obtain ⟨j, hj3, rfl, hZ⟩ := hrel
                  have HZ := hidden hZ
                  clear hZ HZc
                  rcases (show j = 0 ∨ j = 1 ∨ j = 2 ∨ j = 3 by omega) with rfl | rfl | rfl | rfl
                  · have hB0 : BB[0]? = some ⟨(x1.b ++ [122, 122, 122]).take tq, x1.n⟩ := by rw [← HBBe.out, List.getElem?_set, if_pos rfl, if_pos (by have := H31.out; omega)]
                    have hMx : (mix AA BB 0)[0]? = some ⟨(x1.b ++ [122, 122, 122]).take tq, x1.n⟩ := (mix_at HAA3.out (by decide)).trans hB0
                    have HLo : Hid (AA[0]? = some ((⟨x1.b ++ [122, 122, 122], x1.n⟩ : Fl).lose (kk : Int))) := by show _ = _; rw [← HAAe.out, loseAll_at, List.getElem?_set, if_pos rfl, if_pos (by have := H31.out; omega)]; rfl
                    have HLZ := hidden (lose_nat ⟨x1.b ++ [122, 122, 122], x1.n⟩ kk (by show x1.n ≤ _; rw [HLM.out]; exact hxM))
                    have HBz : Hid (Blk wz lb 48 (tcells (mix AA BB 0))) := by obtain ⟨_, _, _, _, _, _, hB⟩ := HZ.out; exact hB
                    have q0 : wz.cell? ⟨lb, 0, none⟩ = some (.string sv3) := by rw [HSV3.out]; exact (HBz.out.cell _).trans (tcells_s _ _ _ hMx)
                    have q1 : wz.cell? ⟨lb, 1, none⟩ = some (.int .i64 (x1.n : Int)) := (HBz.out.cell _).trans (tcells_n _ _ _ hMx)
                    have f1 := HBz.out.frozen 1
                    have HMX := hidden hMx
                    have hZ2 : Hid (KZ W (wz.setCell ⟨lb, 1, none⟩ (.int .i64 (tq : Int))) p lb (fl + 1) AA BB 1) := HZ.out.step HAA3.out HBB3.out (by decide) HLo.out hlbW (Chg.set ⟨lb, 1, none⟩ (.int .i64 (tq : Int)) wz) (by rw [HLZ.out]; simp only [HLM.out, HTQ.out]; rw [set_self (tcells_s _ _ _ HMX.out)]; exact HBz.out.set 1 _)
                    clear hB0 hMx
                    go_wp2_with fail
                    refine ⟨⟨1, by omega, by first | rfl | simp, hZ2.out⟩, ?_⟩
                    simp [intOf]
                  · obtain ⟨y1, hy1⟩ : ∃ y1, S1.L[1]? = some y1 := ⟨_, List.getElem?_eq_getElem (by have := H31.out; omega)⟩
                    obtain ⟨_, hyn, hyt⟩ := HN1.out.file hy1
                    have hB1 : (S1.L.set 0 ⟨(x1.b ++ [122, 122, 122]).take tq, x1.n⟩)[1]? = some y1 := by rw [List.getElem?_set, if_neg (by decide)]; exact hy1
                    have hMx : (mix AA BB 1)[1]? = some y1 := (mix_at HAA3.out (by decide)).trans (by rw [← HBBe.out]; exact hB1)
                    have HLo : Hid (AA[1]? = some (y1.lose ((0 : Nat) : Int))) := by show _ = _; rw [← HAAe.out, loseAll_at, List.getElem?_set, if_neg (by decide), hy1]; rfl
                    have HLZ := hidden (lose_nat y1 0 hyn)
                    have HBz : Hid (Blk wz lb 48 (tcells (mix AA BB 1))) := by obtain ⟨_, _, _, _, _, _, hB⟩ := HZ.out; exact hB
                    have hsy := str_size y1.b
                    obtain ⟨my, hmy⟩ : ∃ my, y1.b.length = my := ⟨_, rfl⟩
                    have HMY := hidden hmy
                    rw [hmy] at hyn hyt hsy
                    obtain ⟨sy, hsyv⟩ : ∃ sy, strOfNums y1.b = sy := ⟨_, rfl⟩
                    rw [hsyv] at hsy
                    have HC0 : Hid (∀ w, Blk w lb 48 (tcells (mix AA BB 1)) → w.cell? ⟨lb, 1 * 2, none⟩ = some (.string sy)) := fun w hB => by rw [← hsyv]; exact (hB.cell _).trans (tcells_s _ _ _ hMx)
                    have HC1 : Hid (∀ w, Blk w lb 48 (tcells (mix AA BB 1)) → w.cell? ⟨lb, 1 * 2 + 1, none⟩ = some (.int .i64 (y1.n : Int))) := fun w hB => (hB.cell _).trans (tcells_n _ _ _ hMx)
                    obtain ⟨sy2, hsy2⟩ : ∃ sy2, sy.extract 0 y1.n = sy2 := ⟨_, rfl⟩
                    have hsz2 : sy2.size = y1.n := by rw [← hsy2, ← hsyv, str_take, str_size]; simp; omega
                    have HSY2 : Hid (sy2 = strOfNums (y1.b.take y1.n)) := by show _ = _; rw [← hsy2, ← hsyv, str_take]
                    have HSX := hidden hsy2
                    clear hy1 hMx hB1 hmy hsyv hsy2
                    go_wp2_with fail
                    refine keeps_r63 lb 1 y1.n sy sy2 _ _ _ (by rfl) (by rfl) (by rfl) (by decide) (by decide) (slice_run sy y1.n sy2 (by rw [hsy]; exact hyn) HSX.out) (fun w1 hL => HC0.out w1 (HBz.out.later hL)) (fun w1 hL => HC1.out w1 (HBz.out.later hL)) (.string sy) (fun w1 hL => HC0.out w1 (HBz.out.later hL)) (fun w1 hL => (HBz.out.later hL).frozen _) ?_
                    intros
                    rename World => wq
                    rename Lat _ wq => hLq
                    have HBq := hidden (HBz.out.later hLq)
                    have HZq := hidden (HZ.out.later hLq)
                    clear hLq
                    have q0 : wq.cell? ⟨lb, 2, none⟩ = some (.string sy) := HC0.out wq HBq.out
                    have q1 : wq.cell? ⟨lb, 3, none⟩ = some (.int .i64 (y1.n : Int)) := HC1.out wq HBq.out
                    have f0 := HBq.out.frozen 2
                    have f1 := HBq.out.frozen 3
                    have hZ2 : Hid (KZ W ((wq.setCell ⟨lb, 2, none⟩ (.string sy2)).setCell ⟨lb, 3, none⟩ (.int .i64 (y1.n : Int))) p lb (fl + 1) AA BB 2) := HZq.out.step HAA3.out HBB3.out (by decide) HLo.out hlbW ((Chg.set ⟨lb, 2, none⟩ (.string sy2) wq).trans (Chg.set ⟨lb, 3, none⟩ (.int .i64 (y1.n : Int)) _) (fun _ _ h => h)) (by rw [HLZ.out, HMY.out, show min my (y1.n + 0) = y1.n by omega, ← HSY2.out]; exact (HBq.out.set 2 _).set 3 _)
                    simp only [Act.put, List.setIfInBounds_toArray, List.set_cons_succ, List.set_cons_zero, Nat.zero_mul, Nat.one_mul, Nat.reduceMul]
                    go_wp2_with fail
                    refine ⟨⟨2, by omega, by first | rfl | simp, hZ2.out⟩, ?_⟩
                    simp [intOf]
                  · obtain ⟨y1, hy1⟩ : ∃ y1, S1.L[2]? = some y1 := ⟨_, List.getElem?_eq_getElem (by have := H31.out; omega)⟩
                    obtain ⟨_, hyn, hyt⟩ := HN1.out.file hy1
                    have hB1 : (S1.L.set 0 ⟨(x1.b ++ [122, 122, 122]).take tq, x1.n⟩)[2]? = some y1 := by rw [List.getElem?_set, if_neg (by decide)]; exact hy1
                    have hMx : (mix AA BB 2)[2]? = some y1 := (mix_at HAA3.out (by decide)).trans (by rw [← HBBe.out]; exact hB1)
                    have HLo : Hid (AA[2]? = some (y1.lose ((0 : Nat) : Int))) := by show _ = _; rw [← HAAe.out, loseAll_at, List.getElem?_set, if_neg (by decide), hy1]; rfl
                    have HLZ := hidden (lose_nat y1 0 hyn)
                    have HBz : Hid (Blk wz lb 48 (tcells (mix AA BB 2))) := by obtain ⟨_, _, _, _, _, _, hB⟩ := HZ.out; exact hB
                    have hsy := str_size y1.b
                    obtain ⟨my, hmy⟩ : ∃ my, y1.b.length = my := ⟨_, rfl⟩
                    have HMY := hidden hmy
                    rw [hmy] at hyn hyt hsy
                    obtain ⟨sy, hsyv⟩ : ∃ sy, strOfNums y1.b = sy := ⟨_, rfl⟩
                    rw [hsyv] at hsy
                    have HC0 : Hid (∀ w, Blk w lb 48 (tcells (mix AA BB 2)) → w.cell? ⟨lb, 2 * 2, none⟩ = some (.string sy)) := fun w hB => by rw [← hsyv]; exact (hB.cell _).trans (tcells_s _ _ _ hMx)
                    have HC1 : Hid (∀ w, Blk w lb 48 (tcells (mix AA BB 2)) → w.cell? ⟨lb, 2 * 2 + 1, none⟩ = some (.int .i64 (y1.n : Int))) := fun w hB => (hB.cell _).trans (tcells_n _ _ _ hMx)
                    obtain ⟨sy2, hsy2⟩ : ∃ sy2, sy.extract 0 y1.n = sy2 := ⟨_, rfl⟩
                    have hsz2 : sy2.size = y1.n := by rw [← hsy2, ← hsyv, str_take, str_size]; simp; omega
                    have HSY2 : Hid (sy2 = strOfNums (y1.b.take y1.n)) := by show _ = _; rw [← hsy2, ← hsyv, str_take]
                    have HSX := hidden hsy2
                    clear hy1 hMx hB1 hmy hsyv hsy2
                    go_wp2_with fail
                    refine keeps_r63 lb 2 y1.n sy sy2 _ _ _ (by rfl) (by rfl) (by rfl) (by decide) (by decide) (slice_run sy y1.n sy2 (by rw [hsy]; exact hyn) HSX.out) (fun w1 hL => HC0.out w1 (HBz.out.later hL)) (fun w1 hL => HC1.out w1 (HBz.out.later hL)) (.string sy) (fun w1 hL => HC0.out w1 (HBz.out.later hL)) (fun w1 hL => (HBz.out.later hL).frozen _) ?_
                    intros
                    rename World => wq
                    rename Lat _ wq => hLq
                    have HBq := hidden (HBz.out.later hLq)
                    have HZq := hidden (HZ.out.later hLq)
                    clear hLq
                    have q0 : wq.cell? ⟨lb, 4, none⟩ = some (.string sy) := HC0.out wq HBq.out
                    have q1 : wq.cell? ⟨lb, 5, none⟩ = some (.int .i64 (y1.n : Int)) := HC1.out wq HBq.out
                    have f0 := HBq.out.frozen 4
                    have f1 := HBq.out.frozen 5
                    have hZ2 : Hid (KZ W ((wq.setCell ⟨lb, 4, none⟩ (.string sy2)).setCell ⟨lb, 5, none⟩ (.int .i64 (y1.n : Int))) p lb (fl + 1) AA BB 3) := HZq.out.step HAA3.out HBB3.out (by decide) HLo.out hlbW ((Chg.set ⟨lb, 4, none⟩ (.string sy2) wq).trans (Chg.set ⟨lb, 5, none⟩ (.int .i64 (y1.n : Int)) _) (fun _ _ h => h)) (by rw [HLZ.out, HMY.out, show min my (y1.n + 0) = y1.n by omega, ← HSY2.out]; exact (HBq.out.set 4 _).set 5 _)
                    simp only [Act.put, List.setIfInBounds_toArray, List.set_cons_succ, List.set_cons_zero, Nat.zero_mul, Nat.one_mul, Nat.reduceMul]
                    go_wp2_with fail
                    refine ⟨⟨3, by omega, by first | rfl | simp, hZ2.out⟩, ?_⟩
                    simp [intOf]
                  · obtain ⟨S9, h1, h2, h4, h5, h6, h7⟩ := HZ.out
                    rw [mix_all HAA3.out HBB3.out, ← h2] at h7
                    have HB9 := hidden h7
                    have HN9 := hidden h1
                    have H39 : Hid (S9.L.length = 3) := by show _ = _; rw [h2]; exact HAA3.out
                    have HON9 := hidden h4
                    have HFA9 := hidden h6
                    clear h1 h2 h4 h5 h6 h7 HZ
                    go_wp2_with (refine wpList_load_blk rfl 48 (.tmp 10) rfl lb HB9.out rfl Try.underlying48 rfl (by rw [tcells_length, H39.out]; exact size48) ?_)
                    refine (same_any W wz p S9 _ HN9.out HON9.out H39.out).mono ?_
                    rintro e w19 ⟨rfl, hb19⟩
                    have HN10 := hidden (HN9.out.later hb19)
                    clear hb19
                    go_wp2_with fail
                    refine (falls_b W w19 p S9 _ HN10.out).mono ?_
                    rintro e w' ⟨rfl, hw⟩
                    obtain rfl := hw.symm
                    clear hw
                    rw [HFA9.out]
                    have hfe : ((fl + 1 : Nat) : Int) = (fl : Int) + 1 := by omega
                    have hfw : IntKind.i64.wrap ((fl : Int) + 1) = (fl : Int) + 1 := IntWalk.i64_in _ (by omega)
                    go_wp2_with fail
                    go_ret
                    refine ⟨?_, HN10.out.bel⟩
                    first | rfl | simp

end Go.Proofs.Ytgmcfejmhlglkaa
