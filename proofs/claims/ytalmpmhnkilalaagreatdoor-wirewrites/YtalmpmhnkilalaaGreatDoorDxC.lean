import Derived.Test.YtalmpmhnkilalaaGreatDoorDxA
import Derived.Test.YtalmpmhnkilalaaGreatDoorRqA
import Derived.Test.YtalmpmhnkilalaaGreatDoorDxD
/-
  The document's writer: writes. By gendxc20.py.
-/
namespace Go.Proofs.YtalmpmhnkilalaaGreatDoor
open Go.RowKit
set_option linter.unusedVariables false
set_option linter.unusedSimpArgs false

theorem oWrites_next (l : List Se) (q : Od × Nat) (i : Nat) (x : Se) (hx : l[i]? = some x) : oWrites (l.take (i + 1)) q = oWrite (oWrites (l.take i) q) x := by
  unfold oWrites
  rw [List.take_add_one, hx, List.foldl_append]
  rfl
theorem oWrites_rest (l : List Se) (q : Od × Nat) (i : Nat) (h : (oWrites (l.take i) q).1.ok = false) : oWrites l q = oWrites (l.take i) q := by
  have e : oWrites l q = oWrites (l.drop i) (oWrites (l.take i) q) := by
    conv => lhs; rw [← List.take_append_drop i l]
    unfold oWrites
    rw [List.foldl_append]
  rw [e, oWrites_no _ _ h]
theorem oWrites_sum (M : Nat) : ∀ (l : List Se) (q : Od × Nat), (∀ x ∈ l, x.2.length ≤ M) → (oWrites l q).2 ≤ q.2 + l.length * M
  | [], q, h => by simp [oWrites]
  | x :: r, q, h => by
    have h1 := oWrites_sum M r (oWrite q x) (fun y hy => h y (by simp [hy]))
    have h2 := h x (by simp)
    have h3 : (oWrite q x).2 ≤ q.2 + x.2.length := by
      unfold oWrite
      split
      · exact Nat.le_refl _
      · omega
    show (oWrites r (oWrite q x)).2 ≤ _
    rw [List.length_cons, Nat.succ_mul]
    omega

set_option maxHeartbeats 4000000 in
set_option maxRecDepth 8000 in
theorem writesO (p : Nat) (rb : Option Nat) (s : Od) (ad : Option Addr) (N c : Nat) (xs : List Ser) (w : World) (h : Ot w p rb s) (hN : xs.length = N) (hN9 : N ≤ 9223372036854775807) (hE : ∀ wx, Chg (fpt p rb) w wx → Es wx ad 2 (xs.map Ser.cells)) (hM : ∀ wx, Chg (fpt p rb) w wx → ∀ x ∈ xs, SerN wx x) (hb : s.b.length ≤ 800000000000) :
    Calls Tryz.prog 62 #[.pointer (some ⟨p, 0, none⟩), .slice ad N c] w (OQ w p rb (s.writes (xs.map prS))) := by
  have HE := hidden hE
  have HN := hidden hN
  have HO := hidden h
  have HM := hidden hM
  have HG : Hid (∀ x ∈ xs.map prS, ∀ y ∈ x.2, OkS y) := hidden (fun x hx y hy => by
    obtain ⟨z, hz, rfl⟩ := List.mem_map.1 hx
    exact (hM w (Chg.refl _ _) z hz).2.2.2.1.sz y hy)
  have HLN : Hid ((xs.map prS).length = N) := hidden (by rw [List.length_map]; exact hN)
  have HSN : Hid (∀ x ∈ xs.map prS, x.2.length ≤ 281474976710656) := hidden (fun x hx => by
    obtain ⟨z, hz, rfl⟩ := List.mem_map.1 hx
    have h1 := (hM w (Chg.refl _ _) z hz).2.2.2.2
    have h2 : (prS z).2.length = z.S.length := rfl
    omega)
  obtain ⟨v, hv⟩ := h
  obtain ⟨B, ok⟩ := s
  have f1 := hv.blk.frozen 1
  have cO : w.cell? ⟨p, 1, none⟩ = some (.bool ok) := hv.blk.cell 1
  have HV := hidden hv
  simp only at hb
  clear hv hE hN hM
  obtain ⟨z, hz⟩ : ∃ z, (ok && decide (0 < N)) = z := ⟨_, rfl⟩
  have HZ := hidden hz
  have HRZ : Hid (∀ w1, w1 = w.setCell ⟨p, 1, none⟩ (.bool z) → Ot w1 p rb ⟨B, z⟩ ∧ Chg (fpt p rb) w w1) := hidden (fun w1 e => by
    subst e
    exact ⟨⟨_, HV.out.setOk z⟩, (Chg.set ⟨p, 1, none⟩ _ w).mono (fun i _ hi => .inl hi)⟩)
  clear hz
  go_enter Tryz.func62, Tryz.ntmps62
  go_upto_region 0 with fail
  go_cut [] from 7 to 18 (fun wx => wx = w.setCell ⟨p, 1, none⟩ (.bool z))
  case first =>
    cases ok with
    | false =>
      go_wp2_with fail
      go_meet
      rw [← HZ.out]
      rfl
    | true =>
      by_cases h0 : 0 < N
      · have h0' : (N : Int) > 0 := by omega
        go_wp2_with fail
        go_meet
        rw [← HZ.out]
        simp [h0]
      · have h0' : ¬ (N : Int) > 0 := by omega
        go_wp2_with fail
        go_meet
        rw [← HZ.out]
        simp [h0]
  case rest =>
    obtain ⟨hOc, hCc⟩ := HRZ.out wc hcut
    have HOc := hidden hOc
    have HCc := hidden hCc
    clear hcut hOc hCc f1 cO
    go_wp2_with fail
    refine (countO p rb ⟨B, z⟩ (N : Int) 64 wc HOc.out ⟨by omega, by omega⟩ ⟨by omega, by omega⟩ (by simp only; omega)).mono ?_
    rintro e w1 ⟨rfl, hR⟩
    obtain ⟨s1, hs1⟩ : ∃ s1, (⟨B, z⟩ : Od).count (N : Int) 64 = s1 := ⟨_, rfl⟩
    rw [hs1] at hR
    have HR1 := hidden (OR.trans HCc.out (Mvn.refl _ _) hR)
    have HL1 : Hid (s1.b.length ≤ 800000000010) := hidden (by rw [← hs1]; have := (dwt_count (N : Int) 64 (by omega)).len ⟨B, z⟩; simp only at this; omega)
    have HS1 := hidden hs1
    clear hR hs1
    go_wp2_with fail
    go_loopw [4, 5, 6] (fun v4 v5 v6 wx => ∃ i : Nat, v5 = .int .i64 (i : Int) ∧ v4 = .int .i64 ((oWrites ((xs.map prS).take i) (s1, 0)).2 : Int) ∧ i ≤ N ∧ Hid (OR w p rb (oWrites ((xs.map prS).take i) (s1, 0)).1 wx)) (fun _ v5 _ _ => N - (intOf v5).toNat)
    case atStart => exact ⟨0, rfl, rfl, by omega, HR1⟩
    case round =>
      obtain ⟨i, rfl, rfl, hi, hI⟩ := hrel
      have hfin : ∀ (hq : i = N ∨ (oWrites ((xs.map prS).take i) (s1, 0)).1.ok = false), OQ w p rb ((⟨B, ok⟩ : Od).writes (xs.map prS)) (.returned (.tuple #[])) wr := fun hq => by
        refine ⟨rfl, ?_⟩
        have e : (⟨B, ok⟩ : Od).writes (xs.map prS) = (oWrites (xs.map prS) (s1, 0)).1 := by
          unfold Od.writes
          rw [HLN.out, must_if]
          simp only [HZ.out]
          rw [HS1.out]
        rw [e]
        rcases hq with hq | hq
        · have := hI.out
          rw [hq, ← HLN.out, List.take_length] at this
          exact this
        · rw [oWrites_rest (xs.map prS) (s1, 0) i hq]
          exact hI.out
      have HFIN := hidden hfin
      clear hfin
      obtain ⟨⟨st, al⟩, hst⟩ : ∃ st, oWrites ((xs.map prS).take i) (s1, 0) = st := ⟨_, rfl⟩
      rw [hst] at hI HFIN
      rw [hst]
      simp only at hI HFIN ⊢
      have HST := hidden hst
      clear hst
      obtain ⟨rb1, hO1, hC1, hM1⟩ := hI.out
      have HO1 := hidden hO1
      have HC1 := hidden hC1
      have HM1 := hidden hM1
      obtain ⟨v1, hv1⟩ := hO1
      have cO : wr.cell? ⟨p, 1, none⟩ = some (.bool st.ok) := hv1.blk.cell 1
      have f1 := hv1.blk.frozen 1
      clear hv1 hC1 hM1
      obtain ⟨ko, hok⟩ : ∃ ko, st.ok = ko := ⟨_, rfl⟩
      rw [hok] at cO
      have HOK := hidden hok
      clear hok
      by_cases hin : i < N
      · have hin' : (i : Int) < (N : Int) := by omega
        cases ko with
        | false =>
          go_wp2_with fail
          go_end0
          exact HFIN.out (.inr HOK.out)
        | true =>
          obtain ⟨x, hx⟩ : ∃ x, xs[i]? = some x := ⟨xs[i]'(by have := HN.out; omega), by simp⟩
          have hxp : (xs.map prS)[i]? = some (prS x) := by rw [List.getElem?_map, hx]; rfl
          have hxm : (xs.map Ser.cells)[i]? = some [.slice x.la x.ln x.lc, .slice x.sa x.sn x.sc] := by rw [List.getElem?_map, hx]; rfl
          have hmx := List.mem_of_getElem? hx
          have hN64 : N ≤ 64 := by
            by_cases h64 : N ≤ 64
            · exact h64
            · exfalso
              have h1 : s1.ok = false := by rw [← HS1.out]; exact count_no (by omega)
              have h2 := oWrites_no ((xs.map prS).take i) (s1, 0) h1
              rw [HST.out] at h2
              have h3 := HOK.out
              injection h2 with h2
              rw [h2, h1] at h3
              cases h3
          have htl : ((xs.map prS).take i).length ≤ 64 := by rw [List.length_take]; omega
          have HLS : Hid (st.b.length ≤ 800000500000) := hidden (by
            have h1 := oWrites_len ((xs.map prS).take i) (s1, 0) (fun x hx => HG.out x (List.mem_of_mem_take hx))
            rw [HST.out] at h1
            have := Nat.mul_le_mul_right 7263 htl
            have := HL1.out
            simp only at h1
            omega)
          have hal : al ≤ 18014398509481984 := by
            have h1 := oWrites_sum 281474976710656 ((xs.map prS).take i) (s1, 0) (fun x hx => HSN.out x (List.mem_of_mem_take hx))
            rw [HST.out] at h1
            have := Nat.mul_le_mul_right 281474976710656 htl
            simp only at h1
            omega
          have HXT : Hid (∀ wx, Chg (fpt p rb) w wx → ∃ b1 o1, ad = some ⟨b1, o1, none⟩ ∧ wx.cell? ⟨b1, o1 + i * 2, none⟩ = some (.slice x.la x.ln x.lc) ∧ wx.cell? ⟨b1, o1 + i * 2 + 1, none⟩ = some (.slice x.sa x.sn x.sc)) := hidden (fun wx hc => by
            obtain ⟨b1, o1, e, _, hcell⟩ := HE.out wx hc (by intro h0; rw [h0] at hxm; simp at hxm)
            have e0 := hcell i _ hxm 0 _ rfl
            have e1 := hcell i _ hxm 1 _ rfl
            rw [Nat.add_zero] at e0
            exact ⟨b1, o1, e, e0, e1⟩)
          have HXL : Hid (∀ wx, Chg (fpt p rb) w wx → Es wx x.la 2 (x.L.map La.cells)) := hidden (fun wx hc => (HM.out wx hc x hmx).1)
          have HXS : Hid (∀ wx, Chg (fpt p rb) w wx → Ss wx x.sa x.S) := hidden (fun wx hc => (HM.out wx hc x hmx).2.2.2.1)
          have hx0 := HM.out w (Chg.refl _ _) x hmx
          have HXN : Hid (x.L.length = x.ln ∧ x.ln ≤ 9223372036854775807) := hidden ⟨hx0.2.1, hx0.2.2.1⟩
          have HXM : Hid (x.S.length = x.sn ∧ x.sn ≤ 281474976710656) := hidden ⟨hx0.2.2.2.2.1, hx0.2.2.2.2.2⟩
          have hsn := hx0.2.2.2.2.2
          have HNX : Hid (oWrites ((xs.map prS).take (i + 1)) (s1, 0) = (((⟨st.b, decide (0 < x.sn) && decide (x.sn + al ≤ 256)⟩ : Od).labels x.L).samples x.S, al + x.sn)) := hidden (by
            rw [oWrites_next (xs.map prS) (s1, 0) i (prS x) hxp, HST.out]
            unfold oWrite
            rw [if_pos HOK.out]
            show (((⟨st.b, decide (0 < x.S.length) && decide (x.S.length + al ≤ 256)⟩ : Od).labels x.L).samples x.S, al + x.S.length) = _
            rw [hx0.2.2.2.2.1])
          obtain ⟨b1, o1, rfl, k0, k1⟩ := HXT.out wr HC1.out
          clear hx hxp hxm hmx hx0
          generalize x.la = xla at *
          generalize x.ln = xln at *
          generalize x.lc = xlc at *
          generalize x.sa = xsa at *
          generalize x.sn = xsn at *
          generalize x.sc = xsc at *
          generalize x.L = xL at *
          generalize x.S = xS at *
          clear x
          by_cases hg1 : 0 < xsn
          · have hg1' : (xsn : Int) > 0 := by omega
            by_cases hg2 : xsn + al ≤ 256
            · have hg2' : (xsn : Int) ≤ 256 - (al : Int) := by omega
              have hcb : (decide (0 < xsn) && decide (xsn + al ≤ 256)) = true := by simp [hg1, hg2]
              rw [hcb] at HNX
              clear hcb
              have HC5 : Hid (Chg (fpt p rb) w (wr.setCell ⟨p, 1, none⟩ (.bool true))) := hidden (HC1.out.trans (Chg.set ⟨p, 1, none⟩ _ wr) (fun i _ hi => .inl hi))
              obtain ⟨b2, o2, hbe, m0, m1⟩ := HXT.out _ HC5.out
              simp only [Option.some.injEq, Addr.mk.injEq, and_true] at hbe
              obtain ⟨rfl, rfl⟩ := hbe
              go_wp2_with fail
              obtain ⟨w5, hw5⟩ : ∃ w5, wr.setCell ⟨p, 1, none⟩ (.bool true) = w5 := ⟨_, rfl⟩
              have HO5 : Hid (Ot w5 p rb1 ⟨st.b, true⟩) := hidden (by obtain ⟨v1, hv1⟩ := HO1.out; rw [← hw5]; exact ⟨_, hv1.setOk true⟩)
              rw [hw5] at HC5
              rw [hw5]
              clear hw5 k0 k1 m0 m1
              refine (labelsO p rb1 ⟨st.b, true⟩ xla xln xlc xL w5 HO5.out HXN.out.1 HXN.out.2 (keep_om (Q := fun wx => Es wx xla 2 (xL.map La.cells)) HXL.out HC5.out HM1.out) (by have := HLS.out; simp only; omega)).mono ?_
              rintro e w6 ⟨rfl, hR6⟩
              have HR6 := hidden (OR.trans HC5.out HM1.out hR6)
              clear hR6
              obtain ⟨rb6, hO6, hC6, hM6⟩ := HR6.out
              have HO6 := hidden hO6
              have HC6 := hidden hC6
              have HM6 := hidden hM6
              clear hO6 hC6 hM6
              obtain ⟨b2, o2, hbe, k0, k1⟩ := HXT.out w6 HC6.out
              simp only [Option.some.injEq, Addr.mk.injEq, and_true] at hbe
              obtain ⟨rfl, rfl⟩ := hbe
              go_wp2_with fail
              refine (samplesO p rb6 ((⟨st.b, true⟩ : Od).labels xL) xsa xsn xsc xS w6 HO6.out HXM.out.1 (fun _ => by omega) (HXS.out w6 HC6.out) (by have h1 := (dwt_labels xL).len ⟨st.b, true⟩; simp only at h1; have := HLS.out; omega)).mono ?_
              rintro e w7 ⟨rfl, hR7⟩
              have HR7 := hidden (OR.trans HC6.out HM6.out hR7)
              clear hR7 k0 k1
              go_wp2_with fail
              refine ⟨⟨i + 1, by first | rfl | simp, by rw [HNX.out]; first | rfl | (simp only [Int.natCast_add]; done) | simp, by omega, hidden (by rw [HNX.out]; exact HR7.out)⟩, ?_⟩
              show N - ((i : Int) + 1).toNat < N - (i : Int).toNat
              omega
            · have hg2' : ¬ (xsn : Int) ≤ 256 - (al : Int) := by omega
              have hcb : (decide (0 < xsn) && decide (xsn + al ≤ 256)) = false := by simp [hg2]
              rw [hcb] at HNX
              clear hcb
              have HC5 : Hid (Chg (fpt p rb) w (wr.setCell ⟨p, 1, none⟩ (.bool false))) := hidden (HC1.out.trans (Chg.set ⟨p, 1, none⟩ _ wr) (fun i _ hi => .inl hi))
              obtain ⟨b2, o2, hbe, m0, m1⟩ := HXT.out _ HC5.out
              simp only [Option.some.injEq, Addr.mk.injEq, and_true] at hbe
              obtain ⟨rfl, rfl⟩ := hbe
              go_wp2_with fail
              obtain ⟨w5, hw5⟩ : ∃ w5, wr.setCell ⟨p, 1, none⟩ (.bool false) = w5 := ⟨_, rfl⟩
              have HO5 : Hid (Ot w5 p rb1 ⟨st.b, false⟩) := hidden (by obtain ⟨v1, hv1⟩ := HO1.out; rw [← hw5]; exact ⟨_, hv1.setOk false⟩)
              rw [hw5] at HC5
              rw [hw5]
              clear hw5 k0 k1 m0 m1
              refine (labelsO p rb1 ⟨st.b, false⟩ xla xln xlc xL w5 HO5.out HXN.out.1 HXN.out.2 (keep_om (Q := fun wx => Es wx xla 2 (xL.map La.cells)) HXL.out HC5.out HM1.out) (by have := HLS.out; simp only; omega)).mono ?_
              rintro e w6 ⟨rfl, hR6⟩
              have HR6 := hidden (OR.trans HC5.out HM1.out hR6)
              clear hR6
              obtain ⟨rb6, hO6, hC6, hM6⟩ := HR6.out
              have HO6 := hidden hO6
              have HC6 := hidden hC6
              have HM6 := hidden hM6
              clear hO6 hC6 hM6
              obtain ⟨b2, o2, hbe, k0, k1⟩ := HXT.out w6 HC6.out
              simp only [Option.some.injEq, Addr.mk.injEq, and_true] at hbe
              obtain ⟨rfl, rfl⟩ := hbe
              go_wp2_with fail
              refine (samplesO p rb6 ((⟨st.b, false⟩ : Od).labels xL) xsa xsn xsc xS w6 HO6.out HXM.out.1 (fun h => by have h2 := (dwt_labels xL).no ⟨st.b, false⟩ rfl; rw [h2] at h; cases h) (HXS.out w6 HC6.out) (by have h1 := (dwt_labels xL).len ⟨st.b, false⟩; simp only at h1; have := HLS.out; omega)).mono ?_
              rintro e w7 ⟨rfl, hR7⟩
              have HR7 := hidden (OR.trans HC6.out HM6.out hR7)
              clear hR7 k0 k1
              go_wp2_with fail
              refine ⟨⟨i + 1, by first | rfl | simp, by rw [HNX.out]; first | rfl | (simp only [Int.natCast_add]; done) | simp, by omega, hidden (by rw [HNX.out]; exact HR7.out)⟩, ?_⟩
              show N - ((i : Int) + 1).toNat < N - (i : Int).toNat
              omega
          · have hg1' : ¬ (xsn : Int) > 0 := by omega
            have hcb : (decide (0 < xsn) && decide (xsn + al ≤ 256)) = false := by simp [hg1]
            rw [hcb] at HNX
            clear hcb
            have HC5 : Hid (Chg (fpt p rb) w (wr.setCell ⟨p, 1, none⟩ (.bool false))) := hidden (HC1.out.trans (Chg.set ⟨p, 1, none⟩ _ wr) (fun i _ hi => .inl hi))
            obtain ⟨b2, o2, hbe, m0, m1⟩ := HXT.out _ HC5.out
            simp only [Option.some.injEq, Addr.mk.injEq, and_true] at hbe
            obtain ⟨rfl, rfl⟩ := hbe
            go_wp2_with fail
            obtain ⟨w5, hw5⟩ : ∃ w5, wr.setCell ⟨p, 1, none⟩ (.bool false) = w5 := ⟨_, rfl⟩
            have HO5 : Hid (Ot w5 p rb1 ⟨st.b, false⟩) := hidden (by obtain ⟨v1, hv1⟩ := HO1.out; rw [← hw5]; exact ⟨_, hv1.setOk false⟩)
            rw [hw5] at HC5
            rw [hw5]
            clear hw5 k0 k1 m0 m1
            refine (labelsO p rb1 ⟨st.b, false⟩ xla xln xlc xL w5 HO5.out HXN.out.1 HXN.out.2 (keep_om (Q := fun wx => Es wx xla 2 (xL.map La.cells)) HXL.out HC5.out HM1.out) (by have := HLS.out; simp only; omega)).mono ?_
            rintro e w6 ⟨rfl, hR6⟩
            have HR6 := hidden (OR.trans HC5.out HM1.out hR6)
            clear hR6
            obtain ⟨rb6, hO6, hC6, hM6⟩ := HR6.out
            have HO6 := hidden hO6
            have HC6 := hidden hC6
            have HM6 := hidden hM6
            clear hO6 hC6 hM6
            obtain ⟨b2, o2, hbe, k0, k1⟩ := HXT.out w6 HC6.out
            simp only [Option.some.injEq, Addr.mk.injEq, and_true] at hbe
            obtain ⟨rfl, rfl⟩ := hbe
            go_wp2_with fail
            refine (samplesO p rb6 ((⟨st.b, false⟩ : Od).labels xL) xsa xsn xsc xS w6 HO6.out HXM.out.1 (fun h => by have h2 := (dwt_labels xL).no ⟨st.b, false⟩ rfl; rw [h2] at h; cases h) (HXS.out w6 HC6.out) (by have h1 := (dwt_labels xL).len ⟨st.b, false⟩; simp only at h1; have := HLS.out; omega)).mono ?_
            rintro e w7 ⟨rfl, hR7⟩
            have HR7 := hidden (OR.trans HC6.out HM6.out hR7)
            clear hR7 k0 k1
            go_wp2_with fail
            refine ⟨⟨i + 1, by first | rfl | simp, by rw [HNX.out]; first | rfl | (simp only [Int.natCast_add]; done) | simp, by omega, hidden (by rw [HNX.out]; exact HR7.out)⟩, ?_⟩
            show N - ((i : Int) + 1).toNat < N - (i : Int).toNat
            omega
      · obtain rfl : i = N := by omega
        go_wp2_with fail
        go_end0
        exact HFIN.out (.inl (by first | rfl | trivial))

end Go.Proofs.YtalmpmhnkilalaaGreatDoor

/-
  The document's writer: a field. By gendxg20.py.
-/
namespace Go.Proofs.YtalmpmhnkilalaaGreatDoor
open Go.RowKit
set_option linter.unusedVariables false
set_option linter.unusedSimpArgs false

set_option maxHeartbeats 8000000 in
set_option maxRecDepth 20000 in
theorem fieldO (p : Nat) (rb : Option Nat) (s : Od) (k : Int) (fm : Nat → FM) (f : Nat) (hf : f < 10) (w : World) (h : Ot w p rb s) (hk : ∀ i, i < 12 → (fm i).fv.kd = kdQ i) (hm : ∀ wx, Chg (fpt p rb) w wx → ∀ i, i < 12 → (fm i).mem wx) (hb : s.b.length ≤ 700000000000) :
    Calls Tryz.prog 31 #[.pointer (some ⟨p, 0, none⟩), .agg (cQ k fm).toArray, .int .i64 (f : Int)] w (OQ w p rb (fieldD (fm (f + 2)).fv s)) := by
  have HB := hidden (Blk.new w 26 (cQ k fm))
  obtain ⟨w2, hw2⟩ : ∃ w2, w.alloc (.cells (cQ k fm).toArray 26) = w2 := ⟨_, rfl⟩
  have HL2 : Hid (Below w.heap.size w w2) := hidden (by rw [← hw2]; exact (Below.refl _ _).alloc (Nat.le_refl _) _)
  rw [hw2] at HB
  have HO2 := hidden (h.later HL2.out)
  have HK := hidden hk
  have HM2 : Hid (∀ wx, Chg (fpt p rb) w2 wx → ∀ i, i < 12 → (fm i).mem wx) := hidden (keep_om hm (Chg.of_below HL2.out) (Mvn.refl _ _))
  clear h hk hm
  have hcf : ∀ i, i < 12 → w2.cell? ⟨w.heap.size, i + 1, none⟩ = some (fm i).val := fun i hi => by rw [HB.out.cell]; exact cQ_at k fm i hi
  rcases (show f = 0 ∨ f = 1 ∨ f = 2 ∨ f = 3 ∨ f = 4 ∨ f = 5 ∨ f = 6 ∨ f = 7 ∨ f = 8 ∨ f = 9 by omega) with rfl | rfl | rfl | rfl | rfl | rfl | rfl | rfl | rfl | rfl
  · obtain ⟨a, c, l, q⟩ : ∃ a c l, fm 2 = .ws a c l := by have := HK.out 2 (by omega); cases h : fm 2 <;> rw [h] at this <;> first | (cases this; done) | exact ⟨_, _, _, rfl⟩
    have y := hcf 2 (by omega)
    have hmm := fun wx hx => HM2.out wx hx 2 (by omega)
    rw [q] at y
    simp only [FM.val] at y
    rw [show (0 : Nat) + 2 = 2 from rfl, q]
    simp only [q] at hmm
    clear hcf
    obtain ⟨N, hN⟩ : ∃ N, l.length = N := ⟨_, rfl⟩
    rw [hN] at y
    have HMM := hidden hmm
    have HN := hidden hN
    have hN9 : N ≤ 9223372036854775807 := by rw [← hN]; exact (hmm w2 (Chg.refl _ _)).1
    clear hmm hN
    go_enter Tryz.func31, Tryz.ntmps31
    go_wp2_with fail
    try rw [hw2]
    refine (writesO p rb s a N c l w2 HO2.out HN.out hN9 (fun wx hx => (HMM.out wx hx).2.1) (fun wx hx => (HMM.out wx hx).2.2) (by omega)).mono ?_
    rintro e w3 ⟨rfl, hR⟩
    have HR := hidden (OR.after HL2.out hR)
    clear hR
    go_wp2_with fail
    go_end0
    exact ⟨rfl, HR.out⟩
  · obtain ⟨a, c, l, q⟩ : ∃ a c l, fm 3 = .ms a c l := by have := HK.out 3 (by omega); cases h : fm 3 <;> rw [h] at this <;> first | (cases this; done) | exact ⟨_, _, _, rfl⟩
    have y := hcf 3 (by omega)
    have hmm := fun wx hx => HM2.out wx hx 3 (by omega)
    rw [q] at y
    simp only [FM.val] at y
    rw [show (1 : Nat) + 2 = 3 from rfl, q]
    simp only [q] at hmm
    clear hcf
    obtain ⟨N, hN⟩ : ∃ N, l.length = N := ⟨_, rfl⟩
    rw [hN] at y
    have HMM := hidden hmm
    have HN := hidden hN
    have hN9 : N ≤ 9223372036854775807 := by rw [← hN]; exact (hmm w2 (Chg.refl _ _)).1
    clear hmm hN
    go_enter Tryz.func31, Tryz.ntmps31
    go_wp2_with fail
    try rw [hw2]
    refine (matchersO p rb s a N c l w2 HO2.out HN.out hN9 (fun wx hx => (HMM.out wx hx).2.1) (by omega)).mono ?_
    rintro e w3 ⟨rfl, hR⟩
    have HR := hidden (OR.after HL2.out hR)
    clear hR
    go_wp2_with fail
    go_end0
    exact ⟨rfl, HR.out⟩
  · obtain ⟨m, q⟩ : ∃ d, fm 4 = .tm d := by have := HK.out 4 (by omega); cases h : fm 4 <;> rw [h] at this <;> first | (cases this; done) | exact ⟨_, rfl⟩
    have y := hcf 4 (by omega)
    have hmm := fun wx hx => HM2.out wx hx 4 (by omega)
    rw [q] at y
    simp only [FM.val] at y
    rw [show (2 : Nat) + 2 = 4 from rfl, q]
    simp only [q] at hmm
    clear hcf
    have HMM := hidden hmm
    clear hmm
    have hI : I64n m := HMM.out w2 (Chg.refl _ _)
    obtain ⟨v, hv⟩ := HO2.out
    obtain ⟨a1, c1, rfl⟩ := owns_form hv.row
    obtain ⟨kk, hkk⟩ : ∃ kk, s.b.length = kk := ⟨_, rfl⟩
    rw [hkk] at hv
    have HV := hidden hv
    have HKK := hidden hkk
    have HCV : Hid (∀ wx, Below w2.heap.size w2 wx → OV wx p rb s (.slice a1 kk c1)) := hidden (fun wx hb => HV.out.chg (Chg.of_below (F := fun _ => False) hb) (fun _ _ e => e))
    have hfl := Q.fold_le m hI.1 hI.2
    have hgrp := Q.grp_le (Q.fold m)
    have k0 : w2.cell? ⟨p, 0, none⟩ = some (.slice a1 kk c1) := hv.blk.cell 0
    have k1 : w2.drew.cell? ⟨p, 0, none⟩ = some (.slice a1 kk c1) := k0
    have y1 : w2.drew.cell? ⟨w.heap.size, 5, none⟩ = some (.int .i64 m) := y
    have HP : Hid (∀ wx, Below w2.heap.size w2 wx → Calls Tryz.prog 64 #[.slice a1 kk c1, .int .i64 m] wx (fun e w' => ∃ v, e = .returned v ∧ (∃ ad3 c3, v = .slice ad3 (kk + Q.grp (Q.fold m) + 1) c3) ∧ w'.ownsRow wx.heap.size 5 1 v (kk + Q.grp (Q.fold m) + 1) (cells8 (s.b ++ Q.enc (Q.fold m))) ∧ Below wx.heap.size wx w')) := hidden (fun wx hb => by
      have hv := HCV.out wx hb
      have hrow := hv.row
      simp only [HKK.out] at hrow
      refine (Q.refPutInt_any a1 kk c1 m s.b wx (sl_of_owns hrow hv.byte) (owns_cap hrow).2.2.2 (by have := HKK.out; omega) hI.1 hI.2).mono ?_
      rintro e w' ⟨ad3, c3, h1, h2, h3⟩
      exact ⟨_, h1, ⟨_, _, rfl⟩, h2, h3⟩)
    clear hv hkk
    go_enter Tryz.func31, Tryz.ntmps31
    go_wp2_with fail
    try rw [hw2]
    go_region_law (first
      | (refine step_go (by rfl) 64 #[.slice a1 kk c1, .int .i64 m] (by simp [execOp, resolve, Act.eval, go_sem]) _ (HP.out _ (by first | exact Below.refl _ _ | exact (Below.refl _ _).drew)) ?_
         rintro v2 w5 ⟨⟨ad3, c3, rfl⟩, o2, b2⟩
         have O2 := hidden o2
         have B2 := hidden b2
         have B3 : Hid (Below w2.heap.size w2 w5) := hidden (((Below.refl _ _).drew).trans b2)
         have d1 : w5.cell? ⟨p, 0, none⟩ = some (.slice a1 kk c1) := (HCV.out _ B3.out).blk.cell 0
         have f1 := (HCV.out _ B3.out).blk.frozen 0
         clear o2 b2))
    all_goals
      go_wp2_with fail
      go_end0
      exact ⟨rfl, (HV.out.fresh B3.out O2.out (HV.out.byte.append (Q.enc_byte _ (by omega))) (by omega)).1.after HL2.out⟩
  · obtain ⟨m, q⟩ : ∃ d, fm 5 = .tm d := by have := HK.out 5 (by omega); cases h : fm 5 <;> rw [h] at this <;> first | (cases this; done) | exact ⟨_, rfl⟩
    have y := hcf 5 (by omega)
    have hmm := fun wx hx => HM2.out wx hx 5 (by omega)
    rw [q] at y
    simp only [FM.val] at y
    rw [show (3 : Nat) + 2 = 5 from rfl, q]
    simp only [q] at hmm
    clear hcf
    have HMM := hidden hmm
    clear hmm
    have hI : I64n m := HMM.out w2 (Chg.refl _ _)
    obtain ⟨v, hv⟩ := HO2.out
    obtain ⟨a1, c1, rfl⟩ := owns_form hv.row
    obtain ⟨kk, hkk⟩ : ∃ kk, s.b.length = kk := ⟨_, rfl⟩
    rw [hkk] at hv
    have HV := hidden hv
    have HKK := hidden hkk
    have HCV : Hid (∀ wx, Below w2.heap.size w2 wx → OV wx p rb s (.slice a1 kk c1)) := hidden (fun wx hb => HV.out.chg (Chg.of_below (F := fun _ => False) hb) (fun _ _ e => e))
    have hfl := Q.fold_le m hI.1 hI.2
    have hgrp := Q.grp_le (Q.fold m)
    have k0 : w2.cell? ⟨p, 0, none⟩ = some (.slice a1 kk c1) := hv.blk.cell 0
    have k1 : w2.drew.cell? ⟨p, 0, none⟩ = some (.slice a1 kk c1) := k0
    have y1 : w2.drew.cell? ⟨w.heap.size, 6, none⟩ = some (.int .i64 m) := y
    have HP : Hid (∀ wx, Below w2.heap.size w2 wx → Calls Tryz.prog 64 #[.slice a1 kk c1, .int .i64 m] wx (fun e w' => ∃ v, e = .returned v ∧ (∃ ad3 c3, v = .slice ad3 (kk + Q.grp (Q.fold m) + 1) c3) ∧ w'.ownsRow wx.heap.size 5 1 v (kk + Q.grp (Q.fold m) + 1) (cells8 (s.b ++ Q.enc (Q.fold m))) ∧ Below wx.heap.size wx w')) := hidden (fun wx hb => by
      have hv := HCV.out wx hb
      have hrow := hv.row
      simp only [HKK.out] at hrow
      refine (Q.refPutInt_any a1 kk c1 m s.b wx (sl_of_owns hrow hv.byte) (owns_cap hrow).2.2.2 (by have := HKK.out; omega) hI.1 hI.2).mono ?_
      rintro e w' ⟨ad3, c3, h1, h2, h3⟩
      exact ⟨_, h1, ⟨_, _, rfl⟩, h2, h3⟩)
    clear hv hkk
    go_enter Tryz.func31, Tryz.ntmps31
    go_wp2_with fail
    try rw [hw2]
    go_region_law (first
      | (refine step_go (by rfl) 64 #[.slice a1 kk c1, .int .i64 m] (by simp [execOp, resolve, Act.eval, go_sem]) _ (HP.out _ (by first | exact Below.refl _ _ | exact (Below.refl _ _).drew)) ?_
         rintro v2 w5 ⟨⟨ad3, c3, rfl⟩, o2, b2⟩
         have O2 := hidden o2
         have B2 := hidden b2
         have B3 : Hid (Below w2.heap.size w2 w5) := hidden (((Below.refl _ _).drew).trans b2)
         have d1 : w5.cell? ⟨p, 0, none⟩ = some (.slice a1 kk c1) := (HCV.out _ B3.out).blk.cell 0
         have f1 := (HCV.out _ B3.out).blk.frozen 0
         clear o2 b2))
    all_goals
      go_wp2_with fail
      go_end0
      exact ⟨rfl, (HV.out.fresh B3.out O2.out (HV.out.byte.append (Q.enc_byte _ (by omega))) (by omega)).1.after HL2.out⟩
  · obtain ⟨t, q⟩ : ∃ d, fm 6 = .qu d := by have := HK.out 6 (by omega); cases h : fm 6 <;> rw [h] at this <;> first | (cases this; done) | exact ⟨_, rfl⟩
    have y := hcf 6 (by omega)
    have hmm := fun wx hx => HM2.out wx hx 6 (by omega)
    rw [q] at y
    simp only [FM.val] at y
    rw [show (4 : Nat) + 2 = 6 from rfl, q]
    simp only [q] at hmm
    clear hcf
    have HMM := hidden hmm
    clear hmm
    go_enter Tryz.func31, Tryz.ntmps31
    go_wp2_with fail
    try rw [hw2]
    refine (textO p rb s t 4096 w2 HO2.out (by omega) (by omega)).mono ?_
    rintro e w3 ⟨rfl, hR⟩
    have HR := hidden (OR.after HL2.out hR)
    clear hR
    go_wp2_with fail
    go_end0
    exact ⟨rfl, HR.out⟩
  · obtain ⟨t, q⟩ : ∃ d, fm 7 = .tx d := by have := HK.out 7 (by omega); cases h : fm 7 <;> rw [h] at this <;> first | (cases this; done) | exact ⟨_, rfl⟩
    have y := hcf 7 (by omega)
    have hmm := fun wx hx => HM2.out wx hx 7 (by omega)
    rw [q] at y
    simp only [FM.val] at y
    rw [show (5 : Nat) + 2 = 7 from rfl, q]
    simp only [q] at hmm
    clear hcf
    have HMM := hidden hmm
    clear hmm
    go_enter Tryz.func31, Tryz.ntmps31
    go_wp2_with fail
    try rw [hw2]
    refine (textO p rb s t 64 w2 HO2.out (by omega) (by omega)).mono ?_
    rintro e w3 ⟨rfl, hR⟩
    have HR := hidden (OR.after HL2.out hR)
    clear hR
    go_wp2_with fail
    go_end0
    exact ⟨rfl, HR.out⟩
  · obtain ⟨m, q⟩ : ∃ d, fm 8 = .am d := by have := HK.out 8 (by omega); cases h : fm 8 <;> rw [h] at this <;> first | (cases this; done) | exact ⟨_, rfl⟩
    have y := hcf 8 (by omega)
    have hmm := fun wx hx => HM2.out wx hx 8 (by omega)
    rw [q] at y
    simp only [FM.val] at y
    rw [show (6 : Nat) + 2 = 8 from rfl, q]
    simp only [q] at hmm
    clear hcf
    have HMM := hidden hmm
    clear hmm
    go_enter Tryz.func31, Tryz.ntmps31
    go_wp2_with fail
    try rw [hw2]
    refine (countO p rb s m 1099511627775 w2 HO2.out (by have := HMM.out w2 (Chg.refl _ _); exact ⟨this.1, by have := this.2; omega⟩) ⟨by omega, by omega⟩ (by omega)).mono ?_
    rintro e w3 ⟨rfl, hR⟩
    have HR := hidden (OR.after HL2.out hR)
    clear hR
    go_wp2_with fail
    go_end0
    exact ⟨rfl, HR.out⟩
  · obtain ⟨m, q⟩ : ∃ d, fm 9 = .am d := by have := HK.out 9 (by omega); cases h : fm 9 <;> rw [h] at this <;> first | (cases this; done) | exact ⟨_, rfl⟩
    have y := hcf 9 (by omega)
    have hmm := fun wx hx => HM2.out wx hx 9 (by omega)
    rw [q] at y
    simp only [FM.val] at y
    rw [show (7 : Nat) + 2 = 9 from rfl, q]
    simp only [q] at hmm
    clear hcf
    have HMM := hidden hmm
    clear hmm
    go_enter Tryz.func31, Tryz.ntmps31
    go_wp2_with fail
    try rw [hw2]
    refine (countO p rb s m 1099511627775 w2 HO2.out (by have := HMM.out w2 (Chg.refl _ _); exact ⟨this.1, by have := this.2; omega⟩) ⟨by omega, by omega⟩ (by omega)).mono ?_
    rintro e w3 ⟨rfl, hR⟩
    have HR := hidden (OR.after HL2.out hR)
    clear hR
    go_wp2_with fail
    go_end0
    exact ⟨rfl, HR.out⟩
  · obtain ⟨m, q⟩ : ∃ d, fm 10 = .am d := by have := HK.out 10 (by omega); cases h : fm 10 <;> rw [h] at this <;> first | (cases this; done) | exact ⟨_, rfl⟩
    have y := hcf 10 (by omega)
    have hmm := fun wx hx => HM2.out wx hx 10 (by omega)
    rw [q] at y
    simp only [FM.val] at y
    rw [show (8 : Nat) + 2 = 10 from rfl, q]
    simp only [q] at hmm
    clear hcf
    have HMM := hidden hmm
    clear hmm
    go_enter Tryz.func31, Tryz.ntmps31
    go_wp2_with fail
    try rw [hw2]
    refine (countO p rb s m 1099511627775 w2 HO2.out (by have := HMM.out w2 (Chg.refl _ _); exact ⟨this.1, by have := this.2; omega⟩) ⟨by omega, by omega⟩ (by omega)).mono ?_
    rintro e w3 ⟨rfl, hR⟩
    have HR := hidden (OR.after HL2.out hR)
    clear hR
    go_wp2_with fail
    go_end0
    exact ⟨rfl, HR.out⟩
  · obtain ⟨a, n, c, l, q⟩ : ∃ a n c l, fm 11 = .tk a n c l := by have := HK.out 11 (by omega); cases h : fm 11 <;> rw [h] at this <;> first | (cases this; done) | exact ⟨_, _, _, _, rfl⟩
    have y := hcf 11 (by omega)
    have hmm := fun wx hx => HM2.out wx hx 11 (by omega)
    rw [q] at y
    simp only [FM.val] at y
    rw [show (9 : Nat) + 2 = 11 from rfl, q]
    simp only [q] at hmm
    clear hcf
    have HMM := hidden hmm
    clear hmm
    have hs1 := run_string_of (P := Tryz.prog) 22 5 9 Tryz.underlying22 Tryz.underlying5 Tryz.underlying9 (cap := c) (HMM.out w2 (Chg.refl _ _)).1
    go_enter Tryz.func31, Tryz.ntmps31
    go_wp2_with fail
    try rw [hw2]
    refine (textO p rb s (strOfNums l) 64 w2 HO2.out (by omega) (by omega)).mono ?_
    rintro e w3 ⟨rfl, hR⟩
    have HR := hidden (OR.after HL2.out hR)
    clear hR
    go_wp2_with fail
    go_end0
    exact ⟨rfl, HR.out⟩

end Go.Proofs.YtalmpmhnkilalaaGreatDoor

/-
  The document's Encode.
-/
namespace Go.Proofs.YtalmpmhnkilalaaGreatDoor
open Go.RowKit
set_option linter.unusedVariables false
set_option linter.unusedSimpArgs false

theorem built80 (ad : Option Addr) (n c : Nat) (b : Bool) : Tryz.prog.built 80 [(0, .slice ad n c), (1, .bool b)] = some #[.slice ad n c, .bool b] := by kernel_rfl
theorem fieldsD_next (f : Nat → FV) (L : List Nat) (s : Od) (i x : Nat) (hx : L[i]? = some x) : fieldsD f ((L.take (i + 1)).map (· + 2)) s = fieldD (f (x + 2)) (fieldsD f ((L.take i).map (· + 2)) s) := by
  unfold fieldsD
  rw [List.take_add_one, hx, List.map_append, List.foldl_append]
  rfl
/-- Small lists of samples. -/
theorem small_of {w : World} {m : FM} (h : m.mem w) (hk : ∃ i, i < 12 ∧ m.fv.kd = kdQ i) : Small m.fv := by
  obtain ⟨i, hi, hk⟩ := hk
  cases m with
  | ws a c l =>
    intro x hx
    obtain ⟨z, hz, rfl⟩ := List.mem_map.1 hx
    have h1 := (h.2.2 z hz).2.2.2.2
    have h2 : (prS z).2.length = z.S.length := rfl
    omega
  | se a c l => exact absurd hk (by rcases (show i = 0 ∨ i = 1 ∨ i = 2 ∨ i = 3 ∨ i = 4 ∨ i = 5 ∨ i = 6 ∨ i = 7 ∨ i = 8 ∨ i = 9 ∨ i = 10 ∨ i = 11 by omega) with rfl | rfl | rfl | rfl | rfl | rfl | rfl | rfl | rfl | rfl | rfl | rfl <;> (intro h; cases h))
  | ro a c l => exact absurd hk (by rcases (show i = 0 ∨ i = 1 ∨ i = 2 ∨ i = 3 ∨ i = 4 ∨ i = 5 ∨ i = 6 ∨ i = 7 ∨ i = 8 ∨ i = 9 ∨ i = 10 ∨ i = 11 by omega) with rfl | rfl | rfl | rfl | rfl | rfl | rfl | rfl | rfl | rfl | rfl | rfl <;> (intro h; cases h))
  | nu n => exact absurd hk (by rcases (show i = 0 ∨ i = 1 ∨ i = 2 ∨ i = 3 ∨ i = 4 ∨ i = 5 ∨ i = 6 ∨ i = 7 ∨ i = 8 ∨ i = 9 ∨ i = 10 ∨ i = 11 by omega) with rfl | rfl | rfl | rfl | rfl | rfl | rfl | rfl | rfl | rfl | rfl | rfl <;> (intro h; cases h))
  | ts a c l => exact absurd hk (by rcases (show i = 0 ∨ i = 1 ∨ i = 2 ∨ i = 3 ∨ i = 4 ∨ i = 5 ∨ i = 6 ∨ i = 7 ∨ i = 8 ∨ i = 9 ∨ i = 10 ∨ i = 11 by omega) with rfl | rfl | rfl | rfl | rfl | rfl | rfl | rfl | rfl | rfl | rfl | rfl <;> (intro h; cases h))
  | _ => trivial
/-- A writer that was made behind w0. -/
def WI (B p : Nat) (w0 w : World) (s : Od) : Prop := ∃ rb, Ot w p rb s ∧ Below B w0 w ∧ ∀ g, rb = some g → B ≤ g
theorem WI.next {B p : Nat} {w0 w w' : World} {s : Od} {rb : Option Nat} (h : OR w p rb s w') (hb : Below B w0 w) (hg : ∀ g, rb = some g → B ≤ g) (hp : B ≤ p) (hB : B ≤ w0.heap.size) : WI B p w0 w' s := by
  obtain ⟨rb', h1, h2, h3⟩ := h
  have hs := hb.size
  refine ⟨rb', h1, hb.trans (h2.below (by omega) (fun i hi => ?_)), fun g e => ?_⟩
  · rcases hi with rfl | hi
    · exact hp
    · exact hg i hi
  · rcases h3 g e with e | e
    · exact hg g e
    · omega
/-- What the document's Encode leaves. -/
def EnD (w : World) (r : Int × List Int) (e : Ending) (w' : World) : Prop := ∃ ad n c, e = .returned (.tuple #[.slice ad n c, .int .i64 r.1]) ∧ w'.ownsRow w.heap.size 5 1 (.slice ad n c) n (cells8 r.2) ∧ Byte r.2 ∧ Below w.heap.size w w'

set_option maxHeartbeats 8000000 in
set_option maxRecDepth 20000 in
theorem encodeR (k : Int) (fm : Nat → FM) (w : World) (hk : ∀ i, i < 12 → (fm i).fv.kd = kdQ i) (hm : ∀ i, i < 12 → (fm i).mem w) (hkk : I64n k) :
    Calls Tryz.prog 13 #[.agg (cQ k fm).toArray] w (EnD w (docEnc k (fun i => (fm i).fv))) := by
  have HK := hidden hk
  have HM := hidden hm
  have HB := hidden (Blk.new w 26 (cQ k fm))
  obtain ⟨w2, hw2⟩ : ∃ w2, w.alloc (.cells (cQ k fm).toArray 26) = w2 := ⟨_, rfl⟩
  have HL2 : Hid (Below w.heap.size w w2) := hidden (by rw [← hw2]; exact (Below.refl _ _).alloc (Nat.le_refl _) _)
  rw [hw2] at HB
  obtain ⟨t0, q0⟩ : ∃ d, fm 0 = .tx d := by have := hk 0 (by omega); cases h : fm 0 <;> rw [h] at this <;> first | (cases this; done) | exact ⟨_, rfl⟩
  obtain ⟨a1, n1, c1, l1, q1⟩ : ∃ a n c l, fm 1 = .tk a n c l := by have := hk 1 (by omega); cases h : fm 1 <;> rw [h] at this <;> first | (cases this; done) | exact ⟨_, _, _, _, rfl⟩
  have HLAY : Hid (∀ wx, Lat w2 wx → wx.cell? ⟨w.heap.size, 0, none⟩ = some (.int .i64 k) ∧ wx.cell? ⟨w.heap.size, 1, none⟩ = some (.string t0) ∧ wx.cell? ⟨w.heap.size, 2, none⟩ = some (.slice a1 n1 c1)) := hidden (fun wx hx => by
    have A := HB.out.later hx
    rw [A.cell, A.cell, A.cell]
    refine ⟨rfl, ?_, ?_⟩
    · rw [show (1 : Nat) = 0 + 1 from rfl, cQ_at k fm 0 (by omega), q0]; rfl
    · rw [show (2 : Nat) = 1 + 1 from rfl, cQ_at k fm 1 (by omega), q1]; rfl)
  have HF01 : Hid ((fm 0).fv = .tx t0 ∧ (fm 1).fv = .tk l1) := hidden (by rw [q0, q1]; exact ⟨rfl, rfl⟩)
  have HS1 : Hid (Sl w a1 n1 l1) := hidden (by have := hm 1 (by omega); rw [q1] at this; exact this.1)
  obtain ⟨y0, y1, y2⟩ := HLAY.out w2 (Below.refl _ _)
  clear hk hm q0 q1
  go_enter Tryz.func13, Tryz.ntmps13
  go_wp2_with fail
  try rw [hw2]
  refine (usesD k w2 hkk.1 hkk.2).mono ?_
  rintro e w3 ⟨b3, hU⟩
  have HL3 := hidden (HL2.out.trans (b3.mono HL2.out.size))
  have HX3 : Hid (Lat w2 w3) := hidden b3
  clear b3 y0 y1 y2
  obtain ⟨y0, y1, y2⟩ := HLAY.out w3 HX3.out
  have HDF := hidden (docL_fields k)
  cases hd : docL k with
  | none =>
    rw [hd] at hU HDF
    subst hU
    have HN : Hid (docEnc k (fun i => (fm i).fv) = (180, [])) := hidden (by unfold docEnc; rw [HDF.out]; rfl)
    go_wp2_with fail
    go_ret2
    rw [HN.out]
    exact ⟨none, 0, 0, rfl, World.ownsRow_nil _ _ _ _, fun n hn => (by cases hn), HL3.out⟩
  | some L =>
    rw [hd] at hU HDF
    obtain ⟨adL, cL, rfl, hIn⟩ := hU
    have HIN := hidden hIn
    obtain ⟨hL10, hL3⟩ := docL_lt hd
    have HL10 := hidden hL10
    obtain ⟨nL, hnL⟩ : ∃ nL, L.length = nL := ⟨_, rfl⟩
    rw [hnL] at hL3
    have HNL := hidden hnL
    rw [hnL]
    clear hIn hL10 hnL hd
    have HB3 := hidden (HB.out.later HX3.out)
    go_wp2_with (first
      | (refine wpList_load_blk rfl 26 (.tmp 1) rfl w.heap.size HB3.out rfl rfl rfl rfl ?_))
    refine (bareD k fm adL nL cL L w3 HK.out (fun i hi => (HM.out i hi).later HL3.out) HIN.out HNL.out (by omega)).mono ?_
    rintro e w4 ⟨rfl, b4⟩
    obtain ⟨zb, hzb⟩ : ∃ zb, bareB (fun i => (fm i).fv) (0 :: 1 :: L.map (· + 2)) = zb := ⟨_, rfl⟩
    rw [hzb]
    have HZB := hidden hzb
    have HX4 : Hid (Lat w2 w4) := hidden (Lat.trans _ _ _ HX3.out b4)
    have H34 := hidden b4
    have HL4 := hidden (HL3.out.trans (b4.mono HL3.out.size))
    clear b4 y0 y1 y2 hzb
    obtain ⟨y0, y1, y2⟩ := HLAY.out w4 HX4.out
    obtain ⟨w5, hw5⟩ : ∃ w5, (w4.alloc (.cells #[.int .u8 (k % 256)] 5)).alloc (.cells #[.slice (some ⟨w4.heap.size, 0, none⟩) 1 1, .bool zb] 80) = w5 := ⟨_, rfl⟩
    have H45 : Hid (Below w4.heap.size w4 w5) := hidden (by rw [← hw5]; exact ((Below.refl _ _).alloc (Nat.le_refl _) _).alloc (by simp) _)
    have HX5 : Hid (Lat w2 w5) := hidden (Lat.trans _ _ _ HX4.out H45.out)
    have HL5 := hidden (HL4.out.trans (H45.out.mono HL4.out.size))
    have HO5 : Hid (Ot w5 (w4.heap.size + 1) (some w4.heap.size) ⟨[u8 k], zb⟩) := hidden (by
      have hb := Blk.new (w4.alloc (.cells #[.int .u8 (k % 256)] 5)) 80 [.slice (some ⟨w4.heap.size, 0, none⟩) 1 1, .bool zb]
      rw [World.size_alloc, hw5] at hb
      refine ⟨_, ⟨by simp, rfl, hb, ?_, u8_byte k⟩⟩
      rw [← hw5]
      refine World.ownsRow.alloc ?_ _
      refine ⟨rfl, .inr ⟨w4.heap.size, 1, _, rfl, Nat.zero_le _, heap_alloc_new w4 _, Nat.le_refl _, by unfold maxLen; omega, rfl, rfl⟩⟩)
    obtain ⟨z0, z1, z2⟩ := HLAY.out w5 HX5.out
    go_wp2_with (first
      | (refine wpList_build_to rfl 80 #[(0, .tmp 23), (1, .tmp 24)] rfl [(0, .slice (some ⟨w4.heap.size, 0, none⟩) 1 1), (1, .bool zb)] #[.slice (some ⟨w4.heap.size, 0, none⟩) 1 1, .bool zb] rfl (built80 _ _ _ _) ?_))
    try rw [hw5]
    clear hw5 y0 y1 y2
    obtain ⟨p, hp⟩ : ∃ p, w4.heap.size + 1 = p := ⟨_, rfl⟩
    rw [hp] at HO5
    have hpw : w.heap.size < p := by have := HL4.out.size; omega
    have hB4 : w4.heap.size ≤ p := by omega
    rw [hp]
    clear hp
    refine (textO p _ ⟨[u8 k], zb⟩ t0 64 w5 HO5.out (by omega) (by simp)).mono ?_
    rintro e w6 ⟨rfl, hR6⟩
    have HW6 : Hid (WI w4.heap.size p w4 w6 ((⟨[u8 k], zb⟩ : Od).text t0 64)) := hidden (WI.next hR6 H45.out (fun g e => by injection e with e; omega) hB4 (Nat.le_refl _))
    clear hR6 z0 z1 z2
    obtain ⟨rb6, hO6, hb6, hg6⟩ := HW6.out
    have HO6 := hidden hO6
    have Hb6 := hidden hb6
    have Hg6 := hidden hg6
    clear hO6 hb6 hg6
    obtain ⟨z0, z1, z2⟩ := HLAY.out w6 (Lat.trans _ _ _ HX4.out Hb6.out)
    have hs6 := run_string_of (P := Tryz.prog) 22 5 9 Tryz.underlying22 Tryz.underlying5 Tryz.underlying9 (cap := c1) ((Chg.of_below (F := fun _ => False) (HL4.out.trans (Hb6.out.mono HL4.out.size))).sl HS1.out (fun _ _ _ e => e))
    go_wp2_with fail
    refine (textO p rb6 _ (strOfNums l1) 64 w6 HO6.out (by omega) (by have := (dwt_text t0 64 (by omega)).len ⟨[u8 k], zb⟩; simp only [List.length_cons, List.length_nil] at this; omega)).mono ?_
    rintro e w7 ⟨rfl, hR7⟩
    have HW7 := hidden (WI.next hR7 Hb6.out Hg6.out hB4 (Nat.le_refl _))
    obtain ⟨s7, hs7⟩ : ∃ s7, ((⟨[u8 k], zb⟩ : Od).text t0 64).text (strOfNums l1) 64 = s7 := ⟨_, rfl⟩
    rw [hs7] at HW7
    have HS7 := hidden hs7
    have hl7 : s7.b.length ≤ 149 := by
      rw [← hs7]
      have h1 := (dwt_text t0 64 (by omega)).len ⟨[u8 k], zb⟩
      have h2 := (dwt_text (strOfNums l1) 64 (by omega)).len ((⟨[u8 k], zb⟩ : Od).text t0 64)
      simp only [List.length_cons, List.length_nil] at h1
      omega
    have HLEN : Hid (∀ i, (fieldsD (fun i => (fm i).fv) ((L.take i).map (· + 2)) s7).b.length ≤ 10000000) := hidden (fun i => by
      have h1 := (dwt_fields (fun i => (fm i).fv) ((L.take i).map (· + 2)) (fun j hj => by
        obtain ⟨x, hx, rfl⟩ := List.mem_map.1 hj
        have h10 := HL10.out x (List.mem_of_mem_take hx)
        have hmm := HM.out (x + 2) (by omega)
        exact ⟨hmm.good, small_of hmm ⟨x + 2, by omega, HK.out (x + 2) (by omega)⟩⟩)).len s7
      have h2 : ((L.take i).map (· + 2)).length ≤ 3 := by rw [List.length_map, List.length_take]; have := HNL.out; omega
      have := Nat.mul_le_mul_right 464842 h2
      omega)
    clear hR7 z0 z1 z2 hs7 hs6
    go_wp2_with fail
    go_loopw [8] (fun v8 wx => ∃ i : Nat, v8 = .int .i64 (i : Int) ∧ i ≤ nL ∧ Hid (WI w4.heap.size p w4 wx (fieldsD (fun i => (fm i).fv) ((L.take i).map (· + 2)) s7))) (fun v8 _ => nL - (intOf v8).toNat)
    case atStart => exact ⟨0, rfl, by omega, HW7⟩
    case round =>
      obtain ⟨i, rfl, hi, hW⟩ := hrel
      obtain ⟨rbr, hOr, hbr, hgr⟩ := hW.out
      have HOr := hidden hOr
      have Hbr := hidden hbr
      have Hgr := hidden hgr
      have HXr : Hid (Lat w2 wr) := hidden (Lat.trans _ _ _ HX4.out hbr)
      by_cases hin : i < nL
      · obtain ⟨x, hx⟩ : ∃ x, L[i]? = some x := ⟨L[i]'(by have := HNL.out; omega), by simp⟩
        have hx10 := HL10.out x (List.mem_of_getElem? hx)
        have hxm : (L.map (fun (n : Nat) => [Value.int .i64 (n : Int)]))[i]? = some [.int .i64 (x : Int)] := by rw [List.getElem?_map, hx]; rfl
        obtain ⟨bL, oL, rfl, _, hcell⟩ := (HIN.out.later (Lat.trans _ _ _ H34.out hbr)) (by intro h0; rw [h0] at hxm; simp at hxm)
        have cL0 := hcell i _ hxm 0 _ rfl
        rw [Nat.add_zero, Nat.mul_one] at cL0
        have cL1 : wr.drew.cell? ⟨bL, oL + i, none⟩ = some (.int .i64 (x : Int)) := cL0
        have HNX := hidden (fieldsD_next (fun i => (fm i).fv) L s7 i x hx)
        have HC : Hid (∀ wx, Below wr.heap.size wr wx → Calls Tryz.prog 31 #[.pointer (some ⟨p, 0, none⟩), .agg (cQ k fm).toArray, .int .i64 (x : Int)] wx (OQ wx p rbr (fieldsD (fun i => (fm i).fv) ((L.take (i + 1)).map (· + 2)) s7))) := hidden (fun wx hb => by
          rw [HNX.out]
          refine fieldO p rbr _ k fm x hx10 wx (HOr.out.later hb) HK.out (fun wy hy j hj => ?_) (by have := HLEN.out i; omega)
          have h1 : Below w4.heap.size w4 wx := Hbr.out.trans (hb.mono Hbr.out.size)
          have h2 : Below w4.heap.size w4 wy := h1.trans (hy.below h1.size (fun q hq => by
            rcases hq with rfl | hq
            · exact hB4
            · exact Hgr.out q hq))
          exact (HM.out j hj).later (HL4.out.trans (h2.mono HL4.out.size)))
        have HBr := hidden (HB.out.later HXr.out)
        have hin' : (i : Int) < (nL : Int) := by omega
        have e0 := HBr.out.cell 0
        have e1 := HBr.out.cell 1
        have e2 := HBr.out.cell 2
        have e3 := HBr.out.cell 3
        have e4 := HBr.out.cell 4
        have e5 := HBr.out.cell 5
        have e6 := HBr.out.cell 6
        have e7 := HBr.out.cell 7
        have e8 := HBr.out.cell 8
        have e9 := HBr.out.cell 9
        have e10 := HBr.out.cell 10
        have e11 := HBr.out.cell 11
        have e12 := HBr.out.cell 12
        simp only [cQ, List.getElem?_cons_zero, List.getElem?_cons_succ] at e0 e1 e2 e3 e4 e5 e6 e7 e8 e9 e10 e11 e12
        clear hcell hx hxm hOr hbr hgr
        go_wp2_with fail
        go_region_with (refine (HC.out _ (by first | exact Below.refl _ _ | exact (Below.refl _ _).drew)).mono ?_; rintro e w8 ⟨rfl, hR8⟩; have HW8 := hidden (WI.next (OR.after (by first | exact Below.refl _ _ | exact (Below.refl _ _).drew) hR8) Hbr.out Hgr.out hB4 (Nat.le_refl _)); clear hR8)
        all_goals
          go_wp2_with fail
          refine ⟨⟨i + 1, by first | rfl | simp, by omega, HW8⟩, ?_⟩
          show nL - ((i : Int) + 1).toNat < nL - (i : Int).toNat
          omega
      · obtain rfl : i = nL := by omega
        have HFD : Hid (fieldsD (fun i => (fm i).fv) (0 :: 1 :: L.map (· + 2)) ⟨[u8 k], bareB (fun i => (fm i).fv) (0 :: 1 :: L.map (· + 2))⟩ = fieldsD (fun i => (fm i).fv) ((L.take i).map (· + 2)) s7) := hidden (by
          rw [HZB.out, ← HNL.out, List.take_length]
          show fieldsD (fun i => (fm i).fv) (L.map (· + 2)) (fieldD (fm 1).fv (fieldD (fm 0).fv ⟨[u8 k], zb⟩)) = _
          rw [HF01.out.1, HF01.out.2]
          show fieldsD _ _ (((⟨[u8 k], zb⟩ : Od).text t0 64).text (strOfNums l1) 64) = _
          rw [HS7.out])
        obtain ⟨st, hst⟩ : ∃ st, fieldsD (fun i => (fm i).fv) ((L.take i).map (· + 2)) s7 = st := ⟨_, rfl⟩
        rw [hst] at HFD
        have HOt : Hid (Ot wr p rbr st) := hidden (by rw [← hst]; exact hOr)
        have HDE : Hid (docEnc k (fun i => (fm i).fv) = if st.ok = false ∨ 65536 < st.b.length then (180, []) else (0, st.b)) := hidden (by
          unfold docEnc
          rw [HDF.out]
          simp only [Option.map_some, HFD.out])
        clear hst hOr hbr hgr
        obtain ⟨v, hv⟩ := HOt.out
        obtain ⟨ar, cr, rfl⟩ := owns_form hv.row
        obtain ⟨kk, hkk⟩ : ∃ kk, st.b.length = kk := ⟨_, rfl⟩
        rw [hkk] at hv HDE
        have HV := hidden hv
        have HKK := hidden hkk
        have g0 : wr.cell? ⟨p, 0, none⟩ = some (.slice ar kk cr) := hv.blk.cell 0
        have g1 : wr.cell? ⟨p, 1, none⟩ = some (.bool st.ok) := hv.blk.cell 1
        have HLr : Hid (Below w.heap.size w wr) := hidden (HL4.out.trans (Hbr.out.mono HL4.out.size))
        obtain ⟨ok, hok⟩ : ∃ ok, st.ok = ok := ⟨_, rfl⟩
        rw [hok] at g1 HDE
        clear hv hkk hok
        cases ok with
        | false =>
          have HN : Hid (docEnc k (fun i => (fm i).fv) = (180, [])) := hidden (by rw [HDE.out]; simp)
          go_wp2_with fail
          go_ret2
          rw [HN.out]
          exact ⟨none, 0, 0, rfl, World.ownsRow_nil _ _ _ _, fun n hn => (by cases hn), HLr.out⟩
        | true =>
          by_cases hbig : 65536 < kk
          · have hbig' : (kk : Int) > 65536 := by omega
            have HN : Hid (docEnc k (fun i => (fm i).fv) = (180, [])) := hidden (by rw [HDE.out]; simp [hbig])
            go_wp2_with fail
            go_ret2
            rw [HN.out]
            exact ⟨none, 0, 0, rfl, World.ownsRow_nil _ _ _ _, fun n hn => (by cases hn), HLr.out⟩
          · have hbig' : ¬ (kk : Int) > 65536 := by omega
            have HN : Hid (docEnc k (fun i => (fm i).fv) = (0, st.b)) := hidden (by rw [HDE.out]; simp [hbig])
            go_wp2_with fail
            go_ret2
            rw [HN.out]
            have hrow := HV.out.row
            simp only [HKK.out] at hrow
            exact ⟨ar, kk, cr, rfl, owns_base hrow (fun g hg => by
              have h1 := Hgr.out g (by rw [← HV.out.own]; exact hg)
              have := HL4.out.size
              omega), HV.out.byte, HLr.out⟩

end Go.Proofs.YtalmpmhnkilalaaGreatDoor
