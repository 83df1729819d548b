/-
  LabelSets: the walk.
-/
import Derived.Test.YtpdffdoogobhfaaDoorLwO
namespace Go.Proofs.YtpdffdoogobhfaaDoor
open Go.RowKit
set_option linter.unusedVariables false
set_option linter.unusedSimpArgs false

set_option maxRecDepth 100000 in
set_option maxHeartbeats 40000000 in
theorem sets_walk (a0 a1 : Option Addr) (c0 c1 : Nat) (l m : List Lb) (nm : ByteArray) (W : World) (h0 : Ar W a0 c0 l) (h1 : Ar W a1 c1 m) (s0 : Sm l) (s1 : Sm m) (hT : Tb W.heap.size W) :
    Calls Tryd.prog 3 #[.slice a0 l.length c0, .slice a1 m.length c1, .string nm] W fun e w' => e = .returned (.bool true) ∧ Below W.heap.size W w' := by
  have kS := shownP W.heap.size W hT
  have HA0 := hidden h0
  have HA1 := hidden h1
  have HS0 := hidden s0
  have HS1 := hidden s1
  have HT := hidden hT
  obtain ⟨n0, hn0⟩ : ∃ n0, l.length = n0 := ⟨_, rfl⟩
  obtain ⟨n1, hn1⟩ : ∃ n1, m.length = n1 := ⟨_, rfl⟩
  have hsm0 := h0.len
  rw [hn0] at hsm0
  rw [hn0, hn1]
  have HN0 := hidden hn0
  have HN1 := hidden hn1
  clear h0 h1 s0 s1 hT hn0 hn1
  go_enter Tryd.func3, Tryd.ntmps3
  go_wp2_with (go_at_call 7; refine kS.mono ?_; rintro e w1 ⟨rfl, hb1⟩; clear kS)
  have HB1 := hidden hb1
  clear hb1
  have k2 := LE.lent (HA0.out.later HB1.out) HS0.out HB1.out
  rw [HN0.out] at k2
  go_wp2_with (go_at_call 8; refine k2.mono ?_; rintro e w2 ⟨gx, cx, rfl, hle2, hb2⟩; clear k2)
  have HB2 := hidden (HB1.out.trans (hb2.mono HB1.out.size))
  have HX2 := hidden hle2
  clear hb2 hle2 HB1
  have k3 := LE.lent (HA1.out.later HB2.out) HS1.out HB2.out
  rw [HN1.out] at k3
  go_wp2_with (go_at_call 8; refine k3.mono ?_; rintro e w3 ⟨gy, cy, rfl, hle3, hb3⟩; clear k3)
  have HB3 := hidden (HB2.out.trans (hb3.mono HB2.out.size))
  have HX : Hid (LE W w3 a0 c0 l gx cx) := hidden (HX2.out.later hb3)
  have HY : Hid (LE W w3 a1 c1 m gy cy) := hidden hle3
  have HTB : Hid (Tb W.heap.size w3) := hidden (HT.out.later HB3.out)
  clear hb3 hle3 HB2 HX2
  have HB : Hid (Below w3.heap.size w3 w3) := hidden (Below.refl _ _)
  obtain ⟨P, hP⟩ : ∃ P, srtO l = P := ⟨_, rfl⟩
  obtain ⟨Q, hQ⟩ : ∃ Q, srtO m = Q := ⟨_, rfl⟩
  obtain ⟨E, hE⟩ : ∃ E, eS l = E := ⟨_, rfl⟩
  obtain ⟨F, hF⟩ : ∃ F, eS m = F := ⟨_, rfl⟩
  obtain ⟨p, hp⟩ : ∃ p, P.length = p := ⟨_, rfl⟩
  obtain ⟨q, hq⟩ : ∃ q, Q.length = q := ⟨_, rfl⟩
  have HPZ : Hid (Szs P ∧ P.length ≤ 8 ∧ P.length = p) := hidden ⟨by rw [← hP]; exact srtO_szs HS0.out.szs, by rw [← hP]; exact srtO_len l, hp⟩
  have HQZ : Hid (Szs Q ∧ Q.length ≤ 8 ∧ Q.length = q) := hidden ⟨by rw [← hQ]; exact srtO_szs HS1.out.szs, by rw [← hQ]; exact srtO_len m, hq⟩
  have HRX : Hid (srtO l = P ∧ eS l = E ∧ P.length = p ∧ l.length = n0) := hidden ⟨hP, hE, hp, HN0.out⟩
  have HRY : Hid (srtO m = Q ∧ eS m = F ∧ Q.length = q ∧ m.length = n1) := hidden ⟨hQ, hF, hq, HN1.out⟩
  clear hP hQ hE hF hp hq
  have SZa : Hid (w3.heap.size ≤ w3.heap.size) := hidden HB.out.size
  have k4 := sortK W.heap.size (HX.out.later HB.out).arg (HTB.out.later HB.out)
  rw [HRX.out.1, HRX.out.2.1, HRX.out.2.2.1, HRX.out.2.2.2] at k4
  go_wp2_with (go_at_call 9; refine k4.mono ?_; rintro e w4 ⟨a4, c4, rfl, ho4, hb4⟩; clear k4)
  replace HB := hidden (HB.out.trans (hb4.mono HB.out.size))
  clear hb4
  have HO4 := hidden ho4
  clear ho4
  have HL4 : Hid (∀ g, (Value.slice a4 p c4).ownBlock = some g → g < w4.heap.size) := hidden (fun g hg => owns_lt HO4.out g hg)
  have SZb : Hid (w3.heap.size ≤ w4.heap.size) := hidden HB.out.size
  have k5 := sortK W.heap.size (HY.out.later HB.out).arg (HTB.out.later HB.out)
  rw [HRY.out.1, HRY.out.2.1, HRY.out.2.2.1, HRY.out.2.2.2] at k5
  go_wp2_with (go_at_call 9; refine k5.mono ?_; rintro e w5 ⟨a5, c5, rfl, ho5, hb5⟩; clear k5)
  replace HO4 := hidden (owl HO4.out hb5)
  replace HB := hidden (HB.out.trans (hb5.mono HB.out.size))
  have SZc : Hid (w4.heap.size ≤ w5.heap.size) := hidden hb5.size
  clear hb5
  have HO5 := hidden ho5
  clear ho5
  have HL5 : Hid (∀ g, (Value.slice a5 q c5).ownBlock = some g → g < w5.heap.size) := hidden (fun g hg => owns_lt HO5.out g hg)
  have k6 := sortK W.heap.size (HX.out.later HB.out).arg (HTB.out.later HB.out)
  rw [HRX.out.1, HRX.out.2.1, HRX.out.2.2.1, HRX.out.2.2.2] at k6
  go_wp2_with (go_at_call 9; refine k6.mono ?_; rintro e w6 ⟨a6, c6, rfl, ho6, hb6⟩; clear k6)
  replace HO4 := hidden (owl HO4.out hb6)
  replace HO5 := hidden (owl HO5.out hb6)
  replace HB := hidden (HB.out.trans (hb6.mono HB.out.size))
  clear hb6
  have HO6 := hidden ho6
  clear ho6
  have HL6 : Hid (∀ g, (Value.slice a6 p c6).ownBlock = some g → g < w6.heap.size) := hidden (fun g hg => owns_lt HO6.out g hg)
  have k7 := (HX.out.later HB.out).still
  rw [HN0.out] at k7
  go_wp2_with (go_at_call 10; refine k7.mono ?_; rintro e w7 ⟨rfl, hb7⟩; clear k7)
  replace HO4 := hidden (owl HO4.out hb7)
  replace HO5 := hidden (owl HO5.out hb7)
  replace HO6 := hidden (owl HO6.out hb7)
  replace HB := hidden (HB.out.trans (hb7.mono HB.out.size))
  clear hb7
  have k8 := (HY.out.later HB.out).still
  rw [HN1.out] at k8
  go_wp2_with (go_at_call 10; refine k8.mono ?_; rintro e w8 ⟨rfl, hb8⟩; clear k8)
  replace HO4 := hidden (owl HO4.out hb8)
  replace HO5 := hidden (owl HO5.out hb8)
  replace HO6 := hidden (owl HO6.out hb8)
  replace HB := hidden (HB.out.trans (hb8.mono HB.out.size))
  clear hb8
  have k9 := rsortK (HX.out.later HB.out).ar HS0.out
  rw [HRX.out.1, HRX.out.2.1, HRX.out.2.2.1, HRX.out.2.2.2] at k9
  go_wp2_with (go_at_call 11; refine k9.mono ?_; rintro e w9 ⟨a9, c9, rfl, ho9, hb9⟩; clear k9)
  replace HO4 := hidden (owl HO4.out hb9)
  replace HO5 := hidden (owl HO5.out hb9)
  replace HO6 := hidden (owl HO6.out hb9)
  replace HB := hidden (HB.out.trans (hb9.mono HB.out.size))
  clear hb9
  have HO9 := hidden ho9
  clear ho9
  have k10 := rsortK (HY.out.later HB.out).ar HS1.out
  rw [HRY.out.1, HRY.out.2.1, HRY.out.2.2.1, HRY.out.2.2.2] at k10
  go_wp2_with (go_at_call 11; refine k10.mono ?_; rintro e w10 ⟨a10, c10, rfl, ho10, hb10⟩; clear k10)
  replace HO4 := hidden (owl HO4.out hb10)
  replace HO5 := hidden (owl HO5.out hb10)
  replace HO6 := hidden (owl HO6.out hb10)
  replace HO9 := hidden (owl HO9.out hb10)
  replace HB := hidden (HB.out.trans (hb10.mono HB.out.size))
  clear hb10
  have HO10 := hidden ho10
  clear ho10
  have k11 := sameK (l := P) (a1 := a4) (a2 := a9) (c1 := c4) (c2 := c9) HPZ.out.1 HPZ.out.2.1 (by rw [HPZ.out.2.2]; exact HO4.out) (by rw [HPZ.out.2.2]; exact HO9.out)
  rw [HPZ.out.2.2] at k11
  go_wp2_with (go_at_call 12; refine k11.mono ?_; rintro e w11 ⟨rfl, hb11⟩; clear k11)
  replace HO4 := hidden (owl HO4.out hb11)
  replace HO5 := hidden (owl HO5.out hb11)
  replace HO6 := hidden (owl HO6.out hb11)
  replace HO9 := hidden (owl HO9.out hb11)
  replace HO10 := hidden (owl HO10.out hb11)
  replace HB := hidden (HB.out.trans (hb11.mono HB.out.size))
  clear hb11
  have k12 := sameK (l := Q) (a1 := a5) (a2 := a10) (c1 := c5) (c2 := c10) HQZ.out.1 HQZ.out.2.1 (by rw [HQZ.out.2.2]; exact HO5.out) (by rw [HQZ.out.2.2]; exact HO10.out)
  rw [HQZ.out.2.2] at k12
  go_wp2_with (go_at_call 12; refine k12.mono ?_; rintro e w12 ⟨rfl, hb12⟩; clear k12)
  replace HO4 := hidden (owl HO4.out hb12)
  replace HO5 := hidden (owl HO5.out hb12)
  replace HO6 := hidden (owl HO6.out hb12)
  replace HO9 := hidden (owl HO9.out hb12)
  replace HO10 := hidden (owl HO10.out hb12)
  replace HB := hidden (HB.out.trans (hb12.mono HB.out.size))
  clear hb12
  have k13 := sameK (l := P) (a1 := a6) (a2 := a9) (c1 := c6) (c2 := c9) HPZ.out.1 HPZ.out.2.1 (by rw [HPZ.out.2.2]; exact HO6.out) (by rw [HPZ.out.2.2]; exact HO9.out)
  rw [HPZ.out.2.2] at k13
  go_wp2_with (go_at_call 12; refine k13.mono ?_; rintro e w13 ⟨rfl, hb13⟩; clear k13)
  replace HO4 := hidden (owl HO4.out hb13)
  replace HO5 := hidden (owl HO5.out hb13)
  replace HO6 := hidden (owl HO6.out hb13)
  replace HO9 := hidden (owl HO9.out hb13)
  replace HO10 := hidden (owl HO10.out hb13)
  replace HB := hidden (HB.out.trans (hb13.mono HB.out.size))
  clear hb13
  have k14 : Calls Tryd.prog 13 #[.slice (some ⟨w13.heap.size, 0, none⟩) 3 3] (w13.alloc (.cells #[.slice a4 p c4, .slice a5 q c5, .slice a6 p c6] 22)) fun e w' => e = .returned (.bool true) ∧ Below w3.heap.size w13 w' := ownedK w3.heap.size a4 a5 a6 p q p c4 c5 c6 w3.heap.size w4.heap.size w5.heap.size P Q P w13 HO4.out HO5.out HO6.out (Nat.le_refl _) SZb.out SZc.out HL4.out HL5.out HB.out.size (by have := HPZ.out; omega) (by have := HQZ.out; omega) (by have := HPZ.out; omega)
  go_wp2_with (go_at_call 13; refine k14.mono ?_; rintro e w14 ⟨rfl, hb14⟩; clear k14)
  replace HB := hidden (HB.out.trans hb14)
  clear hb14
  clear HO4
  clear HO5
  clear HO6
  clear HO9
  clear HO10
  obtain ⟨r0, hr0⟩ : ∃ r0, errL (right l) = r0 := ⟨_, rfl⟩
  obtain ⟨r1, hr1⟩ : ∃ r1, errL (right m) = r1 := ⟨_, rfl⟩
  have HR0 := hidden hr0
  have HR1 := hidden hr1
  clear hr0 hr1
  have hsm1 : n1 * 32 ≤ 140737488351232 := by have := HA1.out.len; rw [HN1.out] at this; exact this
  have k15 := rightP W.heap.size _ cx l _ (HX.out.later HB.out).arg.ls (by rw [HN0.out]; omega) (HTB.out.later HB.out)
  rw [HN0.out] at k15
  rw [HR0.out] at k15
  go_wp2_with (go_at_call 14; refine k15.mono ?_; rintro e w15 ⟨rfl, hb15⟩; clear k15)
  replace HB := hidden (HB.out.trans (hb15.mono HB.out.size))
  clear hb15
  have k16 := rrightP _ c0 l _ (HX.out.later HB.out).ar.ls (by rw [HN0.out]; omega) HS0.out
  rw [HN0.out] at k16
  rw [HR0.out] at k16
  go_wp2_with (go_at_call 15; refine k16.mono ?_; rintro e w16 ⟨rfl, hb16⟩; clear k16)
  replace HB := hidden (HB.out.trans (hb16.mono HB.out.size))
  clear hb16
  have k17 := rightP W.heap.size _ cy m _ (HY.out.later HB.out).arg.ls (by rw [HN1.out]; omega) (HTB.out.later HB.out)
  rw [HN1.out] at k17
  rw [HR1.out] at k17
  go_wp2_with (go_at_call 14; refine k17.mono ?_; rintro e w17 ⟨rfl, hb17⟩; clear k17)
  replace HB := hidden (HB.out.trans (hb17.mono HB.out.size))
  clear hb17
  have k18 := rrightP _ c1 m _ (HY.out.later HB.out).ar.ls (by rw [HN1.out]; omega) HS1.out
  rw [HN1.out] at k18
  rw [HR1.out] at k18
  go_wp2_with (go_at_call 15; refine k18.mono ?_; rintro e w18 ⟨rfl, hb18⟩; clear k18)
  replace HB := hidden (HB.out.trans (hb18.mono HB.out.size))
  clear hb18
  have k19 := getP _ cx l nm _ (HX.out.later HB.out).arg.ls (by rw [HN0.out]; omega)
  rw [HN0.out] at k19
  go_wp2_with (go_at_call 16; refine k19.mono ?_; rintro e w19 ⟨t19, rfl, ht19, hb19⟩; clear k19)
  replace HB := hidden (HB.out.trans (hb19.mono HB.out.size))
  clear hb19
  have k20 := rgetP _ c0 l nm _ (HX.out.later HB.out).ar.ls (by rw [HN0.out]; omega)
  rw [HN0.out] at k20
  go_wp2_with (go_at_call 17; refine k20.mono ?_; rintro e w20 ⟨t20, rfl, ht20, hb20⟩; clear k20; obtain rfl : t19 = t20 := bts_inj (ht19.trans ht20.symm); clear ht19 ht20)
  replace HB := hidden (HB.out.trans (hb20.mono HB.out.size))
  clear hb20
  have k21 := getP _ cy m nm _ (HY.out.later HB.out).arg.ls (by rw [HN1.out]; omega)
  rw [HN1.out] at k21
  go_wp2_with (go_at_call 16; refine k21.mono ?_; rintro e w21 ⟨t21, rfl, ht21, hb21⟩; clear k21)
  replace HB := hidden (HB.out.trans (hb21.mono HB.out.size))
  clear hb21
  have k22 := rgetP _ c1 m nm _ (HY.out.later HB.out).ar.ls (by rw [HN1.out]; omega)
  rw [HN1.out] at k22
  go_wp2_with (go_at_call 17; refine k22.mono ?_; rintro e w22 ⟨t22, rfl, ht22, hb22⟩; clear k22; obtain rfl : t21 = t22 := bts_inj (ht21.trans ht22.symm); clear ht21 ht22)
  replace HB := hidden (HB.out.trans (hb22.mono HB.out.size))
  clear hb22
  obtain ⟨u0, hu0⟩ : ∃ u0, cmpL l m = u0 := ⟨_, rfl⟩
  obtain ⟨u1, hu1⟩ : ∃ u1, cmpL m l = u1 := ⟨_, rfl⟩
  have HU0 := hidden hu0
  have HU1 := hidden hu1
  clear hu0 hu1
  have k23 := cmpP _ _ cx cy l m _ (HX.out.later HB.out).arg.ls (HY.out.later HB.out).arg.ls (by rw [HN0.out]; omega) (by rw [HN1.out]; omega)
  rw [HN0.out, HN1.out] at k23
  rw [HU0.out] at k23
  go_wp2_with (go_at_call 18; refine k23.mono ?_; rintro e w23 ⟨rfl, hb23⟩; clear k23)
  replace HB := hidden (HB.out.trans (hb23.mono HB.out.size))
  clear hb23
  have k24 := rcmpP _ _ c0 c1 l m _ (HX.out.later HB.out).ar.ls (HY.out.later HB.out).ar.ls (by rw [HN0.out]; omega) (by rw [HN1.out]; omega)
  rw [HN0.out, HN1.out] at k24
  rw [HU0.out] at k24
  go_wp2_with (go_at_call 19; refine k24.mono ?_; rintro e w24 ⟨rfl, hb24⟩; clear k24)
  replace HB := hidden (HB.out.trans (hb24.mono HB.out.size))
  clear hb24
  have k25 := cmpP _ _ cy cx m l _ (HY.out.later HB.out).arg.ls (HX.out.later HB.out).arg.ls (by rw [HN1.out]; omega) (by rw [HN0.out]; omega)
  rw [HN0.out, HN1.out] at k25
  rw [HU1.out] at k25
  go_wp2_with (go_at_call 18; refine k25.mono ?_; rintro e w25 ⟨rfl, hb25⟩; clear k25)
  replace HB := hidden (HB.out.trans (hb25.mono HB.out.size))
  clear hb25
  have k26 := rcmpP _ _ c1 c0 m l _ (HY.out.later HB.out).ar.ls (HX.out.later HB.out).ar.ls (by rw [HN1.out]; omega) (by rw [HN0.out]; omega)
  rw [HN0.out, HN1.out] at k26
  rw [HU1.out] at k26
  go_wp2_with (go_at_call 19; refine k26.mono ?_; rintro e w26 ⟨rfl, hb26⟩; clear k26)
  replace HB := hidden (HB.out.trans (hb26.mono HB.out.size))
  clear hb26
  have k27 := (HX.out.later HB.out).still
  rw [HN0.out] at k27
  go_wp2_with (go_at_call 10; refine k27.mono ?_; rintro e w27 ⟨rfl, hb27⟩; clear k27)
  replace HB := hidden (HB.out.trans (hb27.mono HB.out.size))
  clear hb27
  have k28 := (HY.out.later HB.out).still
  rw [HN1.out] at k28
  go_wp2_with (go_at_call 10; refine k28.mono ?_; rintro e w28 ⟨rfl, hb28⟩; clear k28)
  replace HB := hidden (HB.out.trans (hb28.mono HB.out.size))
  clear hb28
  have HLW : Hid (LW W w28 n0 gx cx l) := hidden ⟨HN0.out, by have := (HX.out.later HB.out).own; rw [HN0.out] at this; exact this, HS0.out, hsm0, HB3.out.trans (HB.out.mono HB3.out.size)⟩
  clear HX HY HB HRX HRY HPZ HQZ HR0 HR1 HU0 HU1
  go_loopw [27] (fun s wx => ∃ (k : Nat) (l' : List Lb), s = .int .i64 (k : Int) ∧ k ≤ n0 ∧ Hid (LW W wx n0 gx cx l')) (fun s _ => n0 - (intOf s).toNat)
  case atStart => exact ⟨0, l, rfl, by omega, HLW⟩
  case round =>
    rename World => wx
    obtain ⟨k, l', rfl, hk, hL⟩ := hrel
    clear HLW
    by_cases hkl : k < n0 ∧ k < 20
    · have hkz : (k : Int) < (n0 : Int) := by omega
      have hk2 : (k : Int) < 20 := by omega
      have hkn := hkl.1
      obtain ⟨b, off, x, e1, hb, hx, hx', d0, d1, _, _⟩ := hL.out.arg.ls.get (i := k) (by rw [hL.out.len]; exact hkl.1)
      injection e1 with e1
      injection e1 with e1 e2
      subst e1 e2
      rw [Nat.zero_add] at d0 d1
      obtain ⟨y0, y1⟩ := hL.out.sm x (List.mem_of_getElem? hx)
      have f1 : wx.frozen? ⟨gx, k * 2 + 1, none⟩ = false := by
        rcases hL.out.own.2 with ⟨h0, _⟩ | ⟨g', cp, cur, hv, _, hh, _⟩
        · simp at h0
        · simp only [Value.slice.injEq, Option.some.injEq, Addr.mk.injEq] at hv
          obtain ⟨⟨rfl, _⟩, _⟩ := hv
          exact frozen_of_row wx gx _ _ 35 hh
      have HXX := hidden hx
      clear hx hx' hkl d0
      by_cases hv : x.v.size < 200
      · have hvz : (x.v.size : Int) < 200 := by omega
        have hsz2 : x.v.size + 1 ≤ 9223372036854775807 := by omega
        have HZ : Hid ((x.v ++ ⟨#[120]⟩ : ByteArray).size ≤ 4611686018427387904) := hidden (by rw [size_app, show (⟨#[120]⟩ : ByteArray).size = 1 from rfl]; omega)
        have HN := hidden (hL.out.set HXX.out HZ.out)
        go_wp2
        refine ⟨⟨k + 1, _, by first | rfl | simp, by omega, HN⟩, ?_⟩
        simp [intOf]
        omega
      · have hvz : ¬ (x.v.size : Int) < 200 := by omega
        go_wp2
        refine ⟨⟨k + 1, l', by first | rfl | simp, by omega, hL⟩, ?_⟩
        simp [intOf]
        omega
    · have HTX : Hid (Tb W.heap.size wx) := hidden (HT.out.later hL.out.bel)
      have hout : decide ((k : Int) < (n0 : Int)) = false ∨ decide ((k : Int) < 20) = false := by
        rcases Nat.lt_or_ge k n0 with h | h
        · right; exact decide_eq_false (by omega)
        · left; exact decide_eq_false (by omega)
      have HOUT := hidden hkl
      clear hkl
      rcases Nat.lt_or_ge k n0 with h | h
      · have hkz : (k : Int) < (n0 : Int) := by omega
        have hk2 : ¬ (k : Int) < 20 := by have := HOUT.out; omega
        have hk2' : decide ((k : Int) < 20) = false := decide_eq_false hk2
        clear hout
        have HB : Hid (Below wx.heap.size wx wx) := hidden (Below.refl _ _)
        obtain ⟨P, hP⟩ : ∃ P, srtO l' = P := ⟨_, rfl⟩
        obtain ⟨E, hE⟩ : ∃ E, eS l' = E := ⟨_, rfl⟩
        obtain ⟨p, hp⟩ : ∃ p, P.length = p := ⟨_, rfl⟩
        have HPZ : Hid (Szs P ∧ P.length ≤ 8 ∧ P.length = p) := hidden ⟨by rw [← hP]; exact srtO_szs hL.out.sm.szs, by rw [← hP]; exact srtO_len l', hp⟩
        have HRX : Hid (srtO l' = P ∧ eS l' = E ∧ P.length = p ∧ l'.length = n0) := hidden ⟨hP, hE, hp, hL.out.len⟩
        clear hP hE hp
        have k29 := sortK W.heap.size (hL.out.later HB.out).arg (HTX.out.later HB.out)
        rw [HRX.out.1, HRX.out.2.1, HRX.out.2.2.1, HRX.out.2.2.2] at k29
        go_wp2_with (go_at_call 9; refine k29.mono ?_; rintro e w29 ⟨a29, c29, rfl, ho29, hb29⟩; clear k29)
        replace HB := hidden (HB.out.trans (hb29.mono HB.out.size))
        clear hb29
        have HO29 := hidden ho29
        clear ho29
        have k30 := rsortK (hL.out.later HB.out).arg hL.out.sm
        rw [HRX.out.1, HRX.out.2.1, HRX.out.2.2.1, HRX.out.2.2.2] at k30
        go_wp2_with (go_at_call 11; refine k30.mono ?_; rintro e w30 ⟨a30, c30, rfl, ho30, hb30⟩; clear k30)
        replace HO29 := hidden (owl HO29.out hb30)
        replace HB := hidden (HB.out.trans (hb30.mono HB.out.size))
        clear hb30
        have HO30 := hidden ho30
        clear ho30
        have k31 := sameK (l := P) (a1 := a29) (a2 := a30) (c1 := c29) (c2 := c30) HPZ.out.1 HPZ.out.2.1 (by rw [HPZ.out.2.2]; exact HO29.out) (by rw [HPZ.out.2.2]; exact HO30.out)
        rw [HPZ.out.2.2] at k31
        go_wp2_with (go_at_call 12; refine k31.mono ?_; rintro e w31 ⟨rfl, hb31⟩; clear k31)
        replace HO29 := hidden (owl HO29.out hb31)
        replace HO30 := hidden (owl HO30.out hb31)
        replace HB := hidden (HB.out.trans (hb31.mono HB.out.size))
        clear hb31
        clear HO29
        clear HO30
        obtain ⟨r0, hr0⟩ : ∃ r0, errL (right l') = r0 := ⟨_, rfl⟩
        obtain ⟨t0, ht0⟩ : ∃ t0, oft (printL l') = t0 := ⟨_, rfl⟩
        have HR0 := hidden hr0
        have HT0 := hidden ht0
        clear hr0 ht0
        have k32 := rightP W.heap.size _ cx l' _ (hL.out.later HB.out).arg.ls (by rw [hL.out.len]; omega) (HTX.out.later HB.out)
        rw [hL.out.len, HR0.out] at k32
        go_wp2_with (go_at_call 14; refine k32.mono ?_; rintro e w32 ⟨rfl, hb32⟩; clear k32)
        replace HB := hidden (HB.out.trans (hb32.mono HB.out.size))
        clear hb32
        have k33 := rrightP _ cx l' _ (hL.out.later HB.out).arg.ls (by rw [hL.out.len]; omega) hL.out.sm
        rw [hL.out.len, HR0.out] at k33
        go_wp2_with (go_at_call 15; refine k33.mono ?_; rintro e w33 ⟨rfl, hb33⟩; clear k33)
        replace HB := hidden (HB.out.trans (hb33.mono HB.out.size))
        clear hb33
        have k34 := printP W.heap.size _ cx l' _ (hL.out.later HB.out).arg.ls (by rw [hL.out.len]; omega) (HTX.out.later HB.out)
        rw [hL.out.len, HT0.out] at k34
        go_wp2_with (go_at_call 20; refine k34.mono ?_; rintro e w34 ⟨rfl, hb34⟩; clear k34)
        replace HB := hidden (HB.out.trans (hb34.mono HB.out.size))
        clear hb34
        have k35 := rprintP _ cx l' _ (hL.out.later HB.out).arg.ls (by rw [hL.out.len]; omega) hL.out.sm
        rw [hL.out.len, HT0.out] at k35
        go_wp2_with (go_at_call 21; refine k35.mono ?_; rintro e w35 ⟨rfl, hb35⟩; clear k35)
        replace HB := hidden (HB.out.trans (hb35.mono HB.out.size))
        clear hb35
        go_ret
        exact ⟨rfl, hL.out.bel.trans (HB.out.mono hL.out.bel.size)⟩
      · have hkz : ¬ (k : Int) < (n0 : Int) := by omega
        have hkz' : decide ((k : Int) < (n0 : Int)) = false := decide_eq_false hkz
        clear hout
        have HB : Hid (Below wx.heap.size wx wx) := hidden (Below.refl _ _)
        obtain ⟨P, hP⟩ : ∃ P, srtO l' = P := ⟨_, rfl⟩
        obtain ⟨E, hE⟩ : ∃ E, eS l' = E := ⟨_, rfl⟩
        obtain ⟨p, hp⟩ : ∃ p, P.length = p := ⟨_, rfl⟩
        have HPZ : Hid (Szs P ∧ P.length ≤ 8 ∧ P.length = p) := hidden ⟨by rw [← hP]; exact srtO_szs hL.out.sm.szs, by rw [← hP]; exact srtO_len l', hp⟩
        have HRX : Hid (srtO l' = P ∧ eS l' = E ∧ P.length = p ∧ l'.length = n0) := hidden ⟨hP, hE, hp, hL.out.len⟩
        clear hP hE hp
        have k36 := sortK W.heap.size (hL.out.later HB.out).arg (HTX.out.later HB.out)
        rw [HRX.out.1, HRX.out.2.1, HRX.out.2.2.1, HRX.out.2.2.2] at k36
        go_wp2_with (go_at_call 9; refine k36.mono ?_; rintro e w36 ⟨a36, c36, rfl, ho36, hb36⟩; clear k36)
        replace HB := hidden (HB.out.trans (hb36.mono HB.out.size))
        clear hb36
        have HO36 := hidden ho36
        clear ho36
        have k37 := rsortK (hL.out.later HB.out).arg hL.out.sm
        rw [HRX.out.1, HRX.out.2.1, HRX.out.2.2.1, HRX.out.2.2.2] at k37
        go_wp2_with (go_at_call 11; refine k37.mono ?_; rintro e w37 ⟨a37, c37, rfl, ho37, hb37⟩; clear k37)
        replace HO36 := hidden (owl HO36.out hb37)
        replace HB := hidden (HB.out.trans (hb37.mono HB.out.size))
        clear hb37
        have HO37 := hidden ho37
        clear ho37
        have k38 := sameK (l := P) (a1 := a36) (a2 := a37) (c1 := c36) (c2 := c37) HPZ.out.1 HPZ.out.2.1 (by rw [HPZ.out.2.2]; exact HO36.out) (by rw [HPZ.out.2.2]; exact HO37.out)
        rw [HPZ.out.2.2] at k38
        go_wp2_with (go_at_call 12; refine k38.mono ?_; rintro e w38 ⟨rfl, hb38⟩; clear k38)
        replace HO36 := hidden (owl HO36.out hb38)
        replace HO37 := hidden (owl HO37.out hb38)
        replace HB := hidden (HB.out.trans (hb38.mono HB.out.size))
        clear hb38
        clear HO36
        clear HO37
        obtain ⟨r0, hr0⟩ : ∃ r0, errL (right l') = r0 := ⟨_, rfl⟩
        obtain ⟨t0, ht0⟩ : ∃ t0, oft (printL l') = t0 := ⟨_, rfl⟩
        have HR0 := hidden hr0
        have HT0 := hidden ht0
        clear hr0 ht0
        have k39 := rightP W.heap.size _ cx l' _ (hL.out.later HB.out).arg.ls (by rw [hL.out.len]; omega) (HTX.out.later HB.out)
        rw [hL.out.len, HR0.out] at k39
        go_wp2_with (go_at_call 14; refine k39.mono ?_; rintro e w39 ⟨rfl, hb39⟩; clear k39)
        replace HB := hidden (HB.out.trans (hb39.mono HB.out.size))
        clear hb39
        have k40 := rrightP _ cx l' _ (hL.out.later HB.out).arg.ls (by rw [hL.out.len]; omega) hL.out.sm
        rw [hL.out.len, HR0.out] at k40
        go_wp2_with (go_at_call 15; refine k40.mono ?_; rintro e w40 ⟨rfl, hb40⟩; clear k40)
        replace HB := hidden (HB.out.trans (hb40.mono HB.out.size))
        clear hb40
        have k41 := printP W.heap.size _ cx l' _ (hL.out.later HB.out).arg.ls (by rw [hL.out.len]; omega) (HTX.out.later HB.out)
        rw [hL.out.len, HT0.out] at k41
        go_wp2_with (go_at_call 20; refine k41.mono ?_; rintro e w41 ⟨rfl, hb41⟩; clear k41)
        replace HB := hidden (HB.out.trans (hb41.mono HB.out.size))
        clear hb41
        have k42 := rprintP _ cx l' _ (hL.out.later HB.out).arg.ls (by rw [hL.out.len]; omega) hL.out.sm
        rw [hL.out.len, HT0.out] at k42
        go_wp2_with (go_at_call 21; refine k42.mono ?_; rintro e w42 ⟨rfl, hb42⟩; clear k42)
        replace HB := hidden (HB.out.trans (hb42.mono HB.out.size))
        clear hb42
        go_ret
        exact ⟨rfl, hL.out.bel.trans (HB.out.mono hL.out.bel.size)⟩

end Go.Proofs.YtpdffdoogobhfaaDoor
