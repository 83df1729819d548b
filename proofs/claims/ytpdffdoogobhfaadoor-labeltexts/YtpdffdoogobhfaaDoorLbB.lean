/-
  Cmp.
-/
import Derived.Test.YtpdffdoogobhfaaDoorLbC
import Derived.Shelf.RegionOpen
namespace Go.Proofs.YtpdffdoogobhfaaDoor
open Go.RowKit
set_option linter.unusedVariables false
set_option linter.unusedSimpArgs false

set_option maxRecDepth 100000 in
set_option maxHeartbeats 4000000 in
theorem cmpP (ad bd : Option Addr) (c d : Nat) (l m : List Lb) (w : World) (hL : Ls w ad l) (hM : Ls w bd m) (hl : l.length ≤ 9223372036854775807) (hm : m.length ≤ 9223372036854775807) :
    Calls Tryd.prog 18 #[.slice ad l.length c, .slice bd m.length d] w fun e w' => e = .returned (.int .i64 (cmpL l m)) ∧ Below w.heap.size w w' := by
  obtain ⟨n, hn⟩ : ∃ n, l.length = n := ⟨_, rfl⟩
  obtain ⟨k, hk⟩ : ∃ k, m.length = k := ⟨_, rfl⟩
  rw [hn] at hl ⊢
  rw [hk] at hm ⊢
  obtain ⟨R, hR⟩ : ∃ R, cmpL l m = R := ⟨_, rfl⟩
  have HR := hidden hR
  have HL := hidden hL
  have HM := hidden hM
  have HN := hidden hn
  have HK := hidden hk
  rw [hR]
  clear hR hL hM hn hk
  go_enter Tryd.func18, Tryd.ntmps18
  go_upto_region 1 with fail
  go_cut [11, 12] from 7 to 12 (fun s t wx => s = .int .i64 ((min n k : Nat) : Int) ∧ t = .int .i64 0 ∧ wx = w)
  case first =>
    by_cases h : n ≤ k
    · have z : (n : Int) ≤ (k : Int) := by omega
      go_wp2
      go_meet
      exact ⟨by rw [Nat.min_eq_left h], rfl, rfl⟩
    · have z : ¬ (n : Int) ≤ (k : Int) := by omega
      go_wp2
      go_meet
      exact ⟨by rw [Nat.min_eq_right (by omega)], rfl, rfl⟩
  case rest =>
    obtain ⟨rfl, rfl, hwc⟩ := hcut
    obtain rfl := hwc.symm
    clear hwc
    obtain ⟨mn, hmn⟩ : ∃ mn, min n k = mn := ⟨_, rfl⟩
    rw [hmn]
    have HMN := hidden hmn
    clear hmn
    go_wp2
    go_loopw [12] (fun s0 wx => ∃ i : Nat, s0 = .int .i64 (i : Int) ∧ i ≤ mn ∧ Hid (cmpL (l.drop i) (m.drop i) = R) ∧ Hid (Below w.heap.size w wx)) (fun s0 _ => mn - (intOf s0).toNat)
    case atStart => exact ⟨0, rfl, by omega, hidden (by simpa using HR.out), hidden (Below.refl _ _)⟩
    case round =>
      rename World => wr
      obtain ⟨i, rfl, hi, hrel, hbel⟩ := hrel
      by_cases hlt : i < mn
      · have hltz : (i : Int) < (mn : Int) := by omega
        have hin : i < n := by have := HMN.out; omega
        have hik : i < k := by have := HMN.out; omega
        have hinz : (i : Int) < (n : Int) := by omega
        have hikz : (i : Int) < (k : Int) := by omega
        obtain ⟨b, off, x, rfl, hb, hx, hx', c0, c1, z0, z1⟩ := (HL.out.later hbel.out).get (i := i) (by rw [HN.out]; exact hin)
        obtain ⟨b', off', y, rfl, hb', hy, hy', d0, d1, y0, y1⟩ := (HM.out.later hbel.out).get (i := i) (by rw [HK.out]; exact hik)
        have hdx : Hid (l.drop i = x :: l.drop (i + 1)) := by rw [← hx']; exact List.drop_eq_getElem_cons _
        have hdy : Hid (m.drop i = y :: m.drop (i + 1)) := by rw [← hy']; exact List.drop_eq_getElem_cons _
        clear hx hx' hy hy'
        obtain ⟨o1, ho1⟩ : ∃ o, cmpS (bts x.n) (bts y.n) = o := ⟨_, rfl⟩
        obtain ⟨o2, ho2⟩ : ∃ o, cmpS (bts x.v) (bts y.v) = o := ⟨_, rfl⟩
        have HO1 := hidden ho1
        have HO2 := hidden ho2
        clear ho1 ho2
        go_upto_region 4 with fail
        refine cmp_r4 b off n c b' off' k d i x.n x.v y.n y.v wr _ _ (by rfl) (by rfl) (by rfl) (by rfl) hinz hin hikz hik (fun w1 hl => (hl.cell (p := ⟨b, off + i * 2, none⟩) hb).trans c0) (fun w1 hl => (hl.cell (p := ⟨b, off + i * 2 + 1, none⟩) hb).trans c1) (fun w1 hl => (hl.cell (p := ⟨b', off' + i * 2, none⟩) hb').trans d0) (fun w1 hl => (hl.cell (p := ⟨b', off' + i * 2 + 1, none⟩) hb').trans d1) ?_
        intro v15 v16 v17 v18 v19 v20 v21 v22 v23 v24 v25 v26 v27 v28 v29 v30 v31 v32 v33 v34 v35 v36 v37 v38 v6 w1 hl1 h6
        rw [h6, HO1.out, HO2.out]
        simp only [Act.put, List.setIfInBounds_toArray, List.set_cons_succ, List.set_cons_zero]
        have HB3 := hidden (hbel.out.trans (hl1.mono hbel.out.size))
        clear hl1 h6
        by_cases h0 : orV o1 o2 = 0
        · have zz : (orV o1 o2 == 0) = true := by simp [h0]
          have H2 : Hid (cmpL (l.drop (i + 1)) (m.drop (i + 1)) = R) := by
            show cmpL (l.drop (i + 1)) (m.drop (i + 1)) = R
            have := hrel.out
            rw [hdx.out, hdy.out, cmpL, HO1.out, HO2.out] at this
            unfold orV at h0
            by_cases e : o1 = 0
            · rw [if_neg (by simp [e])] at h0; simpa [e, h0] using this
            · rw [if_pos e] at h0; exact absurd h0 e
          clear h0
          go_wp2
          refine ⟨⟨i + 1, by first | rfl | simp, by omega, H2, HB3⟩, ?_⟩
          simp [intOf]
          omega
        · have zz : (orV o1 o2 == 0) = false := by simp [h0]
          have H2 : Hid (orV o1 o2 = R) := by
            show orV o1 o2 = R
            have := hrel.out
            rw [hdx.out, hdy.out, cmpL, HO1.out, HO2.out] at this
            unfold orV at h0 ⊢
            by_cases e : o1 = 0
            · rw [if_neg (by simp [e])] at h0 ⊢; simpa [e, h0] using this
            · rw [if_pos e]; simpa [e] using this
          clear h0
          go_wp2
          go_ret
          exact ⟨by rw [← H2.out]; rfl, HB3.out⟩
      · have hltz : ¬ (i : Int) < (mn : Int) := by omega
        have hend : Hid ((if n < k then (-1 : Int) else if k < n then 1 else 0) = R) := by
          have := hrel.out
          have e1 : n - i = (l.drop i).length := by rw [List.length_drop, HN.out]
          have e2 : k - i = (m.drop i).length := by rw [List.length_drop, HK.out]
          have e3 := HMN.out
          generalize l.drop i = l' at this e1
          generalize m.drop i = m' at this e2
          cases l' with
          | nil => cases m' with
            | nil => simp at e1 e2; rw [cmpL] at this; rw [if_neg (by omega), if_neg (by omega)]; exact this
            | cons y t => simp at e1 e2; rw [cmpL] at this; rw [if_pos (by omega)]; exact this
          | cons x t => cases m' with
            | nil => simp at e1 e2; rw [cmpL] at this; rw [if_neg (by omega), if_pos (by omega)]; exact this
            | cons y t => simp at e1 e2; exfalso; omega
        have hC := cmpIP n k wr
        rw [hend.out] at hC
        go_wp2_with (go_at_call 34; refine hC.mono ?_; rintro e w' ⟨rfl, rfl⟩)
        go_ret
        exact ⟨rfl, hbel.out⟩

end Go.Proofs.YtpdffdoogobhfaaDoor
