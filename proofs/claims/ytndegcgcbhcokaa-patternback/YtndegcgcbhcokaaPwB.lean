/-
  PatternBack: the walk.
-/
import Derived.Test.YtndegcgcbhcokaaPwA
import Derived.Test.YtndegcgcbhcokaaPvF
import Derived.Deep.CutRange
namespace Go.Proofs.Ytndegcgcbhcokaa
open Go.RowKit
set_option linter.unusedVariables false
set_option linter.unusedSimpArgs false

/-- The beginning of a text, of two hundred bytes at most. -/
def cut200 (x : ByteArray) : ByteArray := x.extract 0 (min x.size 200)
theorem cut200_size (x : ByteArray) : (cut200 x).size ≤ 200 := by
  unfold cut200
  rw [size_bts, bts_pre, List.length_take]
  omega
theorem PaR.bd {F : Nat → Prop} {w : World} {p : Nat} {l : List (List Pt)} (h : PaR F w p l) : rowsBd l := by
  obtain ⟨ad, c, b, off, sa, sc, vs, h⟩ := h
  exact RowsV.bd _ _ _ h.rows

set_option maxRecDepth 100000 in
set_option maxHeartbeats 0 in
theorem back_main (s : ByteArray) (ad : Option Addr) (n c : Nat) (l : Wl) (w : World) (hl : Wr (fun _ => True) w ad l) (hn : l.length = n) (t : List (List Pt)) (bt : Nat) (hs : prs (bts s) = .ok t bt) :
    Calls Try.prog 3 #[.string s, .slice ad n c] w fun e w' => e = .returned (.bool true) ∧ Below w.heap.size w w' := by
  have k5 := shownP w
  have kS := fun w => parse_ok hs w
  obtain ⟨hb1, hb2⟩ := prs_back hs
  have h64 := (prs_ok hs).1
  obtain ⟨T, hT⟩ : ∃ T : ByteArray, bts T = rowsT t := ⟨⟨(rowsT t).toArray⟩, by simp [bts]⟩
  have kT := fun w => parse_ok (s := T) (l := t) (b := (rowsT t).length) (by rw [hT]; exact hb1) w
  have HPr : Hid (∀ F w p, PaR F w p t → Calls Try.prog 8 #[.pointer (some ⟨p, 0, none⟩)] w fun e w' => e = .returned (.string T) ∧ Below w.heap.size w w') := hidden (fun F w p h => by
    refine (printP F w p t h (by omega)).mono ?_
    rintro e w' ⟨s', rfl, h1, h2⟩
    rw [bts_inj (h1.trans hT.symm)]
    exact ⟨rfl, h2⟩)
  obtain ⟨lr, ok, hlr⟩ : ∃ lr ok, ((ok = true ∧ rowsW t [] = some lr) ∨ (ok = false ∧ rowsW t [] = none ∧ lr = [])) := by
    cases h : rowsW t [] with
    | none => exact ⟨[], false, .inr ⟨rfl, rfl, rfl⟩⟩
    | some lr => exact ⟨lr, true, .inl ⟨rfl, rfl⟩⟩
  obtain ⟨m, hm⟩ : ∃ m, lr.length = m := ⟨_, rfl⟩
  have HWd : Hid (∀ F w p, PaR F w p t → Calls Try.prog 9 #[.pointer (some ⟨p, 0, none⟩)] w fun e w' => ∃ a' c', e = .returned (.tuple #[.slice a' m c', .bool ok]) ∧ Wr (fun _ => True) w' a' lr ∧ m ≤ 16 ∧ Below w.heap.size w w') := hidden (fun F w p h => by have := words_any2 h hlr; rw [hm] at this; exact this)
  have hlen : ¬ ((s.size : Int) < (T.size : Int)) := by rw [size_bts s, size_bts T, hT]; omega
  have HLR := hidden hlr
  have HM := hidden hm
  have HL := hidden hl
  have HN := hidden hn
  clear hb1 hb2 h64 hT hs hlr hm hl hn
  go_enter Try.func3, Try.ntmps3
  go_upto_region 14 with (first
    | (go_at_call 5; refine k5.mono ?_; rintro e w1 ⟨rfl, h1⟩; have H1 := hidden h1; clear k5 h1)
    | (go_at_call 6; refine (kS w1).mono ?_; rintro e w2 ⟨p2, F2, rfl, hp2, h2⟩; have H2 := hidden (H1.out.trans (h2.mono H1.out.size)); have P2 := hidden hp2; have k8 := HPr.out _ _ _ hp2; clear kS h2 hp2)
    | (go_at_call 8; refine k8.mono ?_; rintro e w3 ⟨rfl, h3⟩; have H3 := hidden (H2.out.trans (h3.mono H2.out.size)); have P3 := hidden (P2.out.later h3); clear k8 h3)
    | (go_at_call 6; refine (kT w3).mono ?_; rintro e w4 ⟨p4, F4, rfl, hp4, h4⟩; have H4 := hidden (H3.out.trans (h4.mono H3.out.size)); have P4 := hidden (P3.out.later h4); have Q4 := hidden hp4; have k8 := HPr.out _ _ _ hp4; clear kT h4 hp4)
    | (go_at_call 8; refine k8.mono ?_; rintro e w5 ⟨rfl, h5⟩; have H5 := hidden (H4.out.trans (h5.mono H4.out.size)); have P5 := hidden (P4.out.later h5); have Q5 := hidden (Q4.out.later h5); have k9 := HWd.out _ _ _ P5.out; clear k8 h5)
    | (go_at_call 9; refine k9.mono ?_; rintro e w6 ⟨a6, c6, rfl, hr6, hm6, h6⟩; have H6 := hidden (H5.out.trans (h6.mono H5.out.size)); have P6 := hidden (P5.out.later h6); have Q6 := hidden (Q5.out.later h6); have R6 := hidden hr6; have k9 := HWd.out _ _ _ Q6.out; clear hr6 h6)
    | (go_at_call 9; refine k9.mono ?_; rintro e w7 ⟨a7, c7, rfl, hr7, hm7, h7⟩; have H7 := hidden (H6.out.trans (h7.mono H6.out.size)); have P7 := hidden (P6.out.later h7); have Q7 := hidden (Q6.out.later h7); have R7 := hidden (R6.out.later h7); have S7 := hidden hr7; clear k9 hr7 h7))
  have k10 := sameP w7 a6 a7 m c6 c7 lr R7.out S7.out HM.out (by omega)
  have hmz : ¬ (16 : Int) < (m : Int) := by omega
  have HBD := hidden P7.out.bd
  clear H1 H2 H3 H4 H5 H6 P2 P3 P4 P5 P6 Q4 Q5 Q6 R6 S7 HPr HWd hlen
  rcases HLR.out with ⟨rfl, hlr⟩ | ⟨rfl, hlr, rfl⟩
  · -- its words are told
    have HWM : Hid (∀ v : ByteArray, mB t (bts v) = true ↔ v ∈ lr) := hidden (fun v => by
      rw [mB_iff, words_mean HBD.out hlr]
      constructor
      · rintro ⟨x, hx, e⟩
        rw [← bts_inj e]; exact hx
      · exact fun h => ⟨v, h, rfl⟩)
    clear hlr
    go_wp2_with (go_at_call 10; refine k10.mono ?_; rintro e w8 ⟨rfl, h8⟩; have H8 := hidden (H7.out.trans (h8.mono H7.out.size)); have P8 := hidden (P7.out.later h8); have Q8 := hidden (Q7.out.later h8); have R8 := hidden (R7.out.later h8); clear k10 h8)
    go_loopw [18] (fun s18 wx => ∃ i : Nat, s18 = .int .i64 (i : Int) ∧ i ≤ 100 ∧ Hid (Below w8.heap.size w8 wx)) (fun s18 _ => 100 - (intOf s18).toNat)
    case atStart => exact ⟨0, rfl, by omega, hidden (Below.refl _ _)⟩
    case round =>
      rename World => wr
      obtain ⟨i, rfl, hi, hbel⟩ := hrel
      have HBA : Hid (Below w.heap.size w wr) := hidden (H8.out.trans (hbel.out.mono H8.out.size))
      by_cases hin : i < n
      · have hinz : (i : Int) < (n : Int) := by omega
        by_cases hih : i < 100
        · have hihz : (i : Int) < 100 := by omega
          have hll : i < l.length := by have := HN.out; omega
          have hne : l ≠ [] := fun e => by rw [e] at hll; simp at hll
          obtain ⟨b1, o1, rfl, _, hc1⟩ := (HL.out.later HBA.out) hne
          obtain ⟨x, hx⟩ : ∃ x, l[i]? = some x := ⟨_, List.getElem?_eq_getElem hll⟩
          have k1 := hc1 i x hx
          clear hc1 hx hll hne
          go_upto_region 19 with fail
          go_cut [19] from 119 to 167 (fun s wx => s = .string (cut200 x) ∧ Hid (Below wr.heap.size wr wx))
          case first =>
            by_cases hx2 : x.size ≤ 200
            · have hxz : (x.size : Int) ≤ 200 := by omega
              have HV : Hid (cut200 x = x) := hidden (by unfold cut200; rw [Nat.min_eq_left hx2]; simp)
              go_region
              all_goals
                go_wp2
                go_meet
                exact ⟨by rw [HV.out], hidden (below_drew _ _)⟩
            · have hxz : ¬ (x.size : Int) ≤ 200 := by omega
              have hxy : (200 : Int) ≤ (x.size : Int) := by omega
              have HV : Hid (cut200 x = x.extract 0 200) := hidden (by unfold cut200; rw [Nat.min_eq_right (by omega)])
              go_region
              all_goals
                go_wp2
                go_meet
                exact ⟨by rw [HV.out], hidden (below_drew _ _)⟩
          case rest =>
            obtain ⟨rfl, hb9⟩ := hcut
            rename World => w9
            have HB9 := hidden (hbel.out.trans (hb9.out.mono hbel.out.size))
            obtain ⟨v, hv⟩ : ∃ v, cut200 x = v := ⟨_, rfl⟩
            have hvs : v.size ≤ 100000 := by rw [← hv]; have := cut200_size x; omega
            rw [hv]
            obtain ⟨R, hR⟩ : ∃ R, mB t (bts v) = R := ⟨_, rfl⟩
            have HR := hidden hR
            have kP := match_mB (P8.out.later HB9.out) v hvs R hR
            have HKQ : Hid (∀ wx, Below w8.heap.size w8 wx → Calls Try.prog 11 #[.pointer (some ⟨p4, 0, none⟩), .string v] wx fun e w' => e = .returned (.bool R) ∧ Below wx.heap.size wx w') := hidden (fun wx hb => match_mB (Q8.out.later hb) v hvs R HR.out)
            have HKP : Hid (∀ wx, Below w8.heap.size w8 wx → Calls Try.prog 11 #[.pointer (some ⟨p2, 0, none⟩), .string v] wx fun e w' => e = .returned (.bool R) ∧ Below wx.heap.size wx w') := hidden (fun wx hb => match_mB (P8.out.later hb) v hvs R HR.out)
            clear hR hv hvs k1 hb9
            go_wp2_with (first
              | (go_at_call 11; refine kP.mono ?_; rintro e u1 ⟨rfl, g1⟩; have G1 := hidden (HB9.out.trans (g1.mono HB9.out.size)); have kQ := HKQ.out u1 G1.out; clear kP HKQ g1)
              | (go_at_call 11; refine kQ.mono ?_; rintro e u2 ⟨rfl, g2⟩; have G2 := hidden (G1.out.trans (g2.mono G1.out.size)); clear kQ g2))
            go_loopw [20, 21] (fun s20 s21 wx => ∃ (k : Nat) (kn : Bool), s20 = .bool kn ∧ s21 = .int .i64 (k : Int) ∧ k ≤ m ∧ Hid (kn = true ↔ v ∈ lr.take k) ∧ Hid (Below w8.heap.size w8 wx)) (fun _ s21 _ => m - (intOf s21).toNat)
            case atStart => exact ⟨0, false, rfl, rfl, by omega, hidden (by simp), G2⟩
            case round =>
              rename World => wk
              obtain ⟨k, kn, rfl, rfl, hk, hkn, hbk⟩ := hrel
              by_cases hkm : k < m
              · have hkz : (k : Int) < (m : Int) := by omega
                have hll : k < lr.length := by have := HM.out; omega
                have hne : lr ≠ [] := fun e => by rw [e] at hll; simp at hll
                obtain ⟨b2, o2, rfl, _, hc2⟩ := (R8.out.later hbk.out) hne
                obtain ⟨y, hy⟩ : ∃ y, lr[k]? = some y := ⟨_, List.getElem?_eq_getElem hll⟩
                have k2 := hc2 k y hy
                have HT : Hid (lr.take (k + 1) = lr.take k ++ [y]) := hidden (by rw [List.take_add_one, hy]; rfl)
                clear hc2 hy hll hne
                cases kn with
                | true =>
                  go_wp2
                  refine ⟨⟨k + 1, true, by first | rfl | simp, by first | rfl | simp, by omega, hidden (by rw [HT.out]; simp [hkn.out.1 rfl]), hbk⟩, ?_⟩
                  simp [intOf]
                  omega
                | false =>
                  have HNO : Hid (¬ v ∈ lr.take k) := hidden (fun h => by have := hkn.out.2 h; cases this)
                  by_cases hyv : y = v
                  · subst hyv
                    go_wp2
                    refine ⟨⟨k + 1, true, by first | rfl | simp, by first | rfl | simp, by omega, hidden (by rw [HT.out]; simp), hbk⟩, ?_⟩
                    simp [intOf]
                    omega
                  · have hyl : ¬ y.toList = v.toList := fun e => hyv (bts_inj (by rw [ByteArray.toList_eq, ByteArray.toList_eq] at e; exact e))
                    go_wp2
                    refine ⟨⟨k + 1, false, by first | rfl | simp [hyl], by first | rfl | simp, by omega, hidden (by rw [HT.out]; simp [HNO.out]; exact fun e => hyv e.symm), hbk⟩, ?_⟩
                    simp [intOf]
                    omega
              · have hkz : ¬ (k : Int) < (m : Int) := by omega
                have HE : Hid (R = kn) := hidden (by
                  rw [Bool.eq_iff_iff, ← HR.out, HWM.out, hkn.out, List.take_of_length_le (by have := HM.out; omega)])
                have kP := HKP.out wk hbk.out
                obtain rfl := HE.out
                clear HE hkn
                go_wp2_with (go_at_call 11; refine kP.mono ?_; rintro e u3 ⟨rfl, g3⟩; have G3 := hidden (hbk.out.trans (g3.mono hbk.out.size)); clear kP g3)
                refine ⟨⟨i + 1, by first | rfl | simp, by omega, G3⟩, ?_⟩
                simp [intOf]
                omega
        · have hihz : ¬ (i : Int) < 100 := by omega
          go_wp2
          go_ret
          exact ⟨rfl, HBA.out⟩
      · have hinz : ¬ (i : Int) < (n : Int) := by omega
        go_wp2
        go_ret
        exact ⟨rfl, HBA.out⟩
  · -- more than sixteen
    obtain rfl : m = 0 := by have := HM.out; simp at this; omega
    clear hlr
    go_wp2_with (go_at_call 10; refine k10.mono ?_; rintro e w8 ⟨rfl, h8⟩; have H8 := hidden (H7.out.trans (h8.mono H7.out.size)); have P8 := hidden (P7.out.later h8); have Q8 := hidden (Q7.out.later h8); have R8 := hidden (R7.out.later h8); clear k10 h8)
    go_loopw [18] (fun s18 wx => ∃ i : Nat, s18 = .int .i64 (i : Int) ∧ i ≤ 100 ∧ Hid (Below w8.heap.size w8 wx)) (fun s18 _ => 100 - (intOf s18).toNat)
    case atStart => exact ⟨0, rfl, by omega, hidden (Below.refl _ _)⟩
    case round =>
      rename World => wr
      obtain ⟨i, rfl, hi, hbel⟩ := hrel
      have HBA : Hid (Below w.heap.size w wr) := hidden (H8.out.trans (hbel.out.mono H8.out.size))
      by_cases hin : i < n
      · have hinz : (i : Int) < (n : Int) := by omega
        by_cases hih : i < 100
        · have hihz : (i : Int) < 100 := by omega
          have hll : i < l.length := by have := HN.out; omega
          have hne : l ≠ [] := fun e => by rw [e] at hll; simp at hll
          obtain ⟨b1, o1, rfl, _, hc1⟩ := (HL.out.later HBA.out) hne
          obtain ⟨x, hx⟩ : ∃ x, l[i]? = some x := ⟨_, List.getElem?_eq_getElem hll⟩
          have k1 := hc1 i x hx
          clear hc1 hx hll hne
          go_upto_region 19 with fail
          go_cut [19] from 119 to 167 (fun s wx => s = .string (cut200 x) ∧ Hid (Below wr.heap.size wr wx))
          case first =>
            by_cases hx2 : x.size ≤ 200
            · have hxz : (x.size : Int) ≤ 200 := by omega
              have HV : Hid (cut200 x = x) := hidden (by unfold cut200; rw [Nat.min_eq_left hx2]; simp)
              go_region
              all_goals
                go_wp2
                go_meet
                exact ⟨by rw [HV.out], hidden (below_drew _ _)⟩
            · have hxz : ¬ (x.size : Int) ≤ 200 := by omega
              have hxy : (200 : Int) ≤ (x.size : Int) := by omega
              have HV : Hid (cut200 x = x.extract 0 200) := hidden (by unfold cut200; rw [Nat.min_eq_right (by omega)])
              go_region
              all_goals
                go_wp2
                go_meet
                exact ⟨by rw [HV.out], hidden (below_drew _ _)⟩
          case rest =>
            obtain ⟨rfl, hb9⟩ := hcut
            rename World => w9
            have HB9 := hidden (hbel.out.trans (hb9.out.mono hbel.out.size))
            obtain ⟨v, hv⟩ : ∃ v, cut200 x = v := ⟨_, rfl⟩
            have hvs : v.size ≤ 100000 := by rw [← hv]; have := cut200_size x; omega
            rw [hv]
            obtain ⟨R, hR⟩ : ∃ R, mB t (bts v) = R := ⟨_, rfl⟩
            have HR := hidden hR
            have kP := match_mB (P8.out.later HB9.out) v hvs R hR
            have HKQ : Hid (∀ wx, Below w8.heap.size w8 wx → Calls Try.prog 11 #[.pointer (some ⟨p4, 0, none⟩), .string v] wx fun e w' => e = .returned (.bool R) ∧ Below wx.heap.size wx w') := hidden (fun wx hb => match_mB (Q8.out.later hb) v hvs R HR.out)
            clear hR hv hvs k1 hb9
            go_wp2_with (first
              | (go_at_call 11; refine kP.mono ?_; rintro e u1 ⟨rfl, g1⟩; have G1 := hidden (HB9.out.trans (g1.mono HB9.out.size)); have kQ := HKQ.out u1 G1.out; clear kP HKQ g1)
              | (go_at_call 11; refine kQ.mono ?_; rintro e u2 ⟨rfl, g2⟩; have G2 := hidden (G1.out.trans (g2.mono G1.out.size)); clear kQ g2))
            refine ⟨⟨i + 1, by first | rfl | simp, by omega, G2⟩, ?_⟩
            simp [intOf]
            omega
        · have hihz : ¬ (i : Int) < 100 := by omega
          go_wp2
          go_ret
          exact ⟨rfl, HBA.out⟩
      · have hinz : ¬ (i : Int) < (n : Int) := by omega
        go_wp2
        go_ret
        exact ⟨rfl, HBA.out⟩

set_option maxRecDepth 100000 in
set_option maxHeartbeats 0 in
theorem back_any (s : ByteArray) (ad : Option Addr) (n c : Nat) (l : Wl) (w : World) (hl : Wr (fun _ => True) w ad l) (hn : l.length = n) :
    Calls Try.prog 3 #[.string s, .slice ad n c] w fun e w' => e = .returned (.bool true) ∧ Below w.heap.size w w' := by
  have k5 := shownP w
  cases hs : prs (bts s) with
  | out => exact absurd hs (prs_no _)
  | bad k =>
    have kS := fun w => parse_badC hs w
    clear hs
    go_enter Try.func3, Try.ntmps3
    go_wp2_with (first
      | (go_at_call 5; refine k5.mono ?_; rintro e w1 ⟨rfl, h1⟩; have H1 := hidden h1; clear k5 h1)
      | (go_at_call 6; refine (kS w1).mono ?_; rintro e w2 ⟨g2, rfl, hb2, h2, hk2⟩; have H2 := hidden h2; have k7 := faultP g2 k w2 hb2; have hk0 : (0 : Int) ≤ (k : Int) := (by omega); have hk1 : (k : Int) ≤ (s.size : Int) := (by omega); clear kS h2 hb2)
      | (go_at_call 7; refine k7.mono ?_; rintro e w3 ⟨rfl, h3⟩; have H3 := hidden h3; clear k7 h3))
    go_ret
    have q := H1.out.trans (H2.out.mono H1.out.size)
    exact ⟨rfl, q.trans (H3.out.mono q.size)⟩
  | ok t bt => exact back_main s ad n c l w hl hn t bt hs

end Go.Proofs.Ytndegcgcbhcokaa
