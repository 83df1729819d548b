/-
  MatchSets: the walk.
-/
import Derived.Test.YtanlgplgplncdaaGreatDoorMsB
import Derived.Test.YtanlgplgplncdaaGreatDoorMtK
namespace Go.Proofs.YtanlgplgplncdaaGreatDoor
open Go.RowKit
set_option linter.unusedVariables false
set_option linter.unusedSimpArgs false

/-- Lists of labels that came in. -/
def LL (w : World) (ad : Option Addr) (ls : List (List L.Lb)) : Prop :=
  ∀ (k : Nat) lb, ls[k]? = some lb → ∃ b off la lc, ad = some ⟨b, off, none⟩ ∧ b < w.heap.size ∧ w.cell? ⟨b, off + k, none⟩ = some (.slice la lb.length lc) ∧ L.Ls w la lb ∧ lb.length ≤ 9223372036854775807 ∧ ∀ y ∈ lb, y.v.size ≤ 1048576
theorem LL.later {w w' : World} {ad : Option Addr} {ls : List (List L.Lb)} (h : LL w ad ls) (hb : Below w.heap.size w w') : LL w' ad ls := by
  intro k lb hk
  obtain ⟨b, off, la, lc, e, h1, h2, h3, h4, h5⟩ := h k lb hk
  exact ⟨b, off, la, lc, e, Nat.lt_of_lt_of_le h1 hb.size, by rw [hb.cell (p := ⟨b, off + k, none⟩) h1]; exact h2, h3.later hb, h4, h5⟩
/-- Two sets that are one, of one row. -/
def Pr4 (w : World) (gs gr i : Nat) : Prop :=
  ∃ s p ll F G, w.cell? ⟨gs, i, none⟩ = some (.pointer (some ⟨s, 0, none⟩)) ∧ w.cell? ⟨gr, i, none⟩ = some (.pointer (some ⟨p, 0, none⟩)) ∧ StR F w s ll ∧ StN G w p ll ∧ ll.length ≤ 100 ∧ ll.all Mt.may = true
theorem all_may {l : List Mt} (h : newOk l = true) : l.length ≤ 8 ∧ l.all Mt.may = true := by
  unfold newOk at h
  rw [Bool.and_eq_true] at h
  exact ⟨of_decide_eq_true h.1, h.2⟩

set_option maxRecDepth 100000 in
set_option maxHeartbeats 0 in
theorem sets_any (B : Nat) (w : World) (hT : L.Tb B w)
    (a0 : Option Addr) (n0 c0 : Nat) (l0 : List Mt) (hl0 : l0.length = n0) (hM0 : Ms w a0 l0) (hz0 : Tz l0) (hc0 : n0 ≤ c0) (hm0 : c0 ≤ 9223372036854775807) (hno0 : a0 = none → n0 = 0 ∧ c0 = 0)
    (a1 : Option Addr) (n1 c1 : Nat) (l1 : List Mt) (hl1 : l1.length = n1) (hM1 : Ms w a1 l1) (hz1 : Tz l1) (hc1 : n1 ≤ c1) (hm1 : c1 ≤ 9223372036854775807) (hno1 : a1 = none → n1 = 0 ∧ c1 = 0)
    (a2 : Option Addr) (n2 c2 : Nat) (ls : List (List L.Lb)) (hls : ls.length = n2) (hLL : LL w a2 ls) (hn2 : n2 ≤ 9223372036854775807) :
    Calls Tryz.prog 3 #[.slice a0 n0 c0, .slice a1 n1 c1, .slice a2 n2 c2] w fun e w' => e = .returned (.bool true) ∧ Below w.heap.size w w' := by
  have key : ∀ (a0 : Option Addr) (n0 c0 : Nat) (l0 : List Mt), l0.length = n0 → Ms w a0 l0 → Tz l0 → n0 ≤ c0 → c0 ≤ 9223372036854775807 → (a0 = none → n0 = 0 ∧ c0 = 0) →
      ∃ (n : Nat) (l : List Mt), (∀ wx, Calls Tryz.prog 7 #[.slice a0 n0 c0] wx fun e w' => e = .returned (.slice a0 n c0) ∧ w' = wx) ∧ ∀ wx, Below w.heap.size w wx → Calls Tryz.prog 6 #[.slice a0 n c0] wx (MadeR wx l) := by
    intro a0 n0 c0 l0 hl0 hM0 hz0 hc0 hm0 hno0
    refine ⟨min n0 30, l0.take (min n0 30), fun wx => fewP a0 n0 c0 wx hc0 hm0 hno0, fun wx hb => ?_⟩
    exact madeP B a0 (min n0 30) c0 (l0.take (min n0 30)) wx (ms_take (hM0.later hb) _) (by rw [List.length_take]; omega) (by omega) (fun h => by have := hno0 h; omega) (fun x hx => hz0 x (List.mem_of_mem_take hx)) (hT.later hb)
  obtain ⟨n, l, hfl, hml⟩ := key a0 n0 c0 l0 hl0 hM0 hz0 hc0 hm0 hno0
  obtain ⟨n', m, hfm, hmm⟩ := key a1 n1 c1 l1 hl1 hM1 hz1 hc1 hm1 hno1
  have HFL := hidden hfl
  have HFM := hidden hfm
  have HML := hidden hml
  have HMM := hidden hmm
  have HLL := hidden hLL
  have HLS := hidden hls
  have HT := hidden hT
  have k0 := shownP B w hT
  clear key hfl hfm hml hmm hLL hls hT hM0 hz0 hl0 hno0 hM1 hz1 hl1 hno1 hc0 hm0 hc1 hm1
  go_enter Tryz.func3, Tryz.ntmps3
  go_wp2_with (go_at_call 5; refine k0.mono ?_; rintro e w1 ⟨rfl, b1⟩; have B1 := hidden b1; clear k0 b1)
  have k1 := HFL.out w1
  go_wp2_with (go_at_call 7; refine k1.mono ?_; rintro e w1' ⟨rfl, hw⟩; obtain rfl := hw.symm; clear k1 hw)
  have k2 := HML.out w1 B1.out
  unfold MadeR at k2
  refine k2.mono ?_
  clear k2 HFL HML
  rintro e w2 ⟨b2, ⟨ho, s, F, p, G, rfl, hS, hP, hF, hG⟩ | ⟨ho, rfl⟩⟩
  · have B2w : Hid (Below w.heap.size w w2) := hidden (B1.out.trans (b2.mono B1.out.size))
    have HS := hidden hS
    have HP := hidden hP
    have HO := hidden (all_may ho)
    clear b2 hS hP hF hG ho
    have k3 := HFM.out w2
    go_wp2_with (go_at_call 7; refine k3.mono ?_; rintro e w2' ⟨rfl, hw⟩; obtain rfl := hw.symm; clear k3 hw)
    have k4 := HMM.out w2 B2w.out
    unfold MadeR at k4
    refine k4.mono ?_
    clear k4 HFM HMM
    rintro e w3 ⟨b3, ⟨ho3, t, F3, q, G3, rfl, hS3, hQ3, hF3, hG3⟩ | ⟨ho3, rfl⟩⟩
    · have B3w : Hid (Below w.heap.size w w3) := hidden (B2w.out.trans (b3.mono B2w.out.size))
      replace HS := hidden (HS.out.later b3)
      replace HP := hidden (HP.out.later b3)
      have HS3 := hidden hS3
      have HQ3 := hidden hQ3
      have HO3 := hidden (all_may ho3)
      clear b3 hS3 hQ3 hF3 hG3 ho3
      have k5 := andP F F3 w3 s t l m HS.out HS3.out (by have := HO.out.1; omega) (by have := HO3.out.1; omega)
      go_wp2_with fail
      refine k5.mono ?_
      rintro e w4 ⟨u, K4, rfl, hU, _, b4⟩
      have B4w : Hid (Below w.heap.size w w4) := hidden (B3w.out.trans (b4.mono B3w.out.size))
      replace HS := hidden (HS.out.later b4)
      replace HP := hidden (HP.out.later b4)
      replace HS3 := hidden (HS3.out.later b4)
      replace HQ3 := hidden (HQ3.out.later b4)
      have HU := hidden hU
      clear k5 b4 hU
      have k6 := randP G G3 w4 p q l m HP.out HQ3.out (by have := HO.out.1; omega) (by have := HO3.out.1; omega)
      go_wp2_with fail
      refine k6.mono ?_
      rintro e w5 ⟨v, K5, rfl, hV, _, b5⟩
      have B5w : Hid (Below w.heap.size w w5) := hidden (B4w.out.trans (b5.mono B4w.out.size))
      replace HS := hidden (HS.out.later b5)
      replace HP := hidden (HP.out.later b5)
      replace HS3 := hidden (HS3.out.later b5)
      replace HQ3 := hidden (HQ3.out.later b5)
      replace HU := hidden (HU.out.later b5)
      have HV := hidden hV
      clear k6 b5 hV
      have k7 := andP K4 F w5 u s (l ++ m) l HU.out HS.out (by have := HO.out.1; have := HO3.out.1; simp; omega) (by have := HO.out.1; omega)
      go_wp2_with fail
      refine k7.mono ?_
      rintro e w6 ⟨x, K6, rfl, hX, _, b6⟩
      have B6w : Hid (Below w.heap.size w w6) := hidden (B5w.out.trans (b6.mono B5w.out.size))
      replace HS := hidden (HS.out.later b6)
      replace HP := hidden (HP.out.later b6)
      replace HS3 := hidden (HS3.out.later b6)
      replace HQ3 := hidden (HQ3.out.later b6)
      replace HU := hidden (HU.out.later b6)
      replace HV := hidden (HV.out.later b6)
      have HX := hidden hX
      clear k7 b6 hX
      have k8 := randP K5 G w6 v p (l ++ m) l HV.out HP.out (by have := HO.out.1; have := HO3.out.1; simp; omega) (by have := HO.out.1; omega)
      go_wp2_with fail
      refine k8.mono ?_
      rintro e w7 ⟨y, K7, rfl, hY, _, b7⟩
      have B7w : Hid (Below w.heap.size w w7) := hidden (B6w.out.trans (b7.mono B6w.out.size))
      replace HS := hidden (HS.out.later b7)
      replace HP := hidden (HP.out.later b7)
      replace HS3 := hidden (HS3.out.later b7)
      replace HQ3 := hidden (HQ3.out.later b7)
      replace HU := hidden (HU.out.later b7)
      replace HV := hidden (HV.out.later b7)
      replace HX := hidden (HX.out.later b7)
      have HY := hidden hY
      clear k8 b7 hY
      go_upto_region 16 with fail
      have e8 : Below w7.heap.size w7 (w7.alloc (.cells #[.pointer (some ⟨s, 0, none⟩), .pointer (some ⟨t, 0, none⟩), .pointer (some ⟨u, 0, none⟩), .pointer (some ⟨x, 0, none⟩)] 25)) := (Below.refl _ _).alloc (Nat.le_refl _) _
      have hk8 : Blk (w7.alloc (.cells #[.pointer (some ⟨s, 0, none⟩), .pointer (some ⟨t, 0, none⟩), .pointer (some ⟨u, 0, none⟩), .pointer (some ⟨x, 0, none⟩)] 25)) w7.heap.size 25 [.pointer (some ⟨s, 0, none⟩), .pointer (some ⟨t, 0, none⟩), .pointer (some ⟨u, 0, none⟩), .pointer (some ⟨x, 0, none⟩)] := Blk.new w7 25 _
      have hs8 : (w7.alloc (.cells #[.pointer (some ⟨s, 0, none⟩), .pointer (some ⟨t, 0, none⟩), .pointer (some ⟨u, 0, none⟩), .pointer (some ⟨x, 0, none⟩)] 25)).heap.size = w7.heap.size + 1 := by simp
      generalize w7.alloc (.cells #[.pointer (some ⟨s, 0, none⟩), .pointer (some ⟨t, 0, none⟩), .pointer (some ⟨u, 0, none⟩), .pointer (some ⟨x, 0, none⟩)] 25) = w8 at *
      have e9 : Below w8.heap.size w8 (w8.alloc (.cells #[.pointer (some ⟨p, 0, none⟩), .pointer (some ⟨q, 0, none⟩), .pointer (some ⟨v, 0, none⟩), .pointer (some ⟨y, 0, none⟩)] 26)) := (Below.refl _ _).alloc (Nat.le_refl _) _
      have hk9 : Blk (w8.alloc (.cells #[.pointer (some ⟨p, 0, none⟩), .pointer (some ⟨q, 0, none⟩), .pointer (some ⟨v, 0, none⟩), .pointer (some ⟨y, 0, none⟩)] 26)) w8.heap.size 26 [.pointer (some ⟨p, 0, none⟩), .pointer (some ⟨q, 0, none⟩), .pointer (some ⟨v, 0, none⟩), .pointer (some ⟨y, 0, none⟩)] := Blk.new w8 26 _
      rw [hs8] at hk9
      generalize w8.alloc (.cells #[.pointer (some ⟨p, 0, none⟩), .pointer (some ⟨q, 0, none⟩), .pointer (some ⟨v, 0, none⟩), .pointer (some ⟨y, 0, none⟩)] 26) = W0 at *
      have b79 : Below w7.heap.size w7 W0 := e8.trans (e9.mono e8.size)
      have BW : Hid (Below w.heap.size w W0) := hidden (B7w.out.trans (b79.mono B7w.out.size))
      have hk8' := hk8.later e9
      have H4 : Hid (∀ i, i < 4 → Pr4 W0 w7.heap.size (w7.heap.size + 1) i) := hidden (fun i hi => by
        have hl := HO.out
        have hm := HO3.out
        have hlm : (l ++ m).length ≤ 100 ∧ (l ++ m).all Mt.may = true := ⟨by simp; omega, by rw [List.all_append, hl.2, hm.2]; rfl⟩
        have hlml : ((l ++ m) ++ l).length ≤ 100 ∧ ((l ++ m) ++ l).all Mt.may = true := ⟨by simp; omega, by rw [List.all_append, hlm.2, hl.2]; rfl⟩
        rcases (show i = 0 ∨ i = 1 ∨ i = 2 ∨ i = 3 by omega) with rfl | rfl | rfl | rfl
        · exact ⟨s, p, l, F, G, hk8'.cell 0, hk9.cell 0, HS.out.later b79, HP.out.later b79, by omega, hl.2⟩
        · exact ⟨t, q, m, F3, G3, hk8'.cell 1, hk9.cell 1, HS3.out.later b79, HQ3.out.later b79, by omega, hm.2⟩
        · exact ⟨u, v, l ++ m, K4, K5, hk8'.cell 2, hk9.cell 2, HU.out.later b79, HV.out.later b79, hlm.1, hlm.2⟩
        · exact ⟨x, y, (l ++ m) ++ l, K6, K7, hk8'.cell 3, hk9.cell 3, HX.out.later b79, HY.out.later b79, hlml.1, hlml.2⟩)
      have hltg : w7.heap.size < W0.heap.size ∧ w7.heap.size + 1 < W0.heap.size := ⟨hk8'.lt, hk9.lt⟩
      clear e8 e9 hs8 hk8 hk9 hk8' b79 HS HP HS3 HQ3 HU HV HX HY B7w B6w B5w B4w B3w B2w B1 HO HO3
      generalize w7.heap.size + 1 = gr at *
      generalize w7.heap.size = gs at *
      go_wp2_with fail
      go_loopw [20] (fun s20 wx => ∃ i : Nat, s20 = .int .i64 (i : Int) ∧ i ≤ 4 ∧ Hid (Below W0.heap.size W0 wx)) (fun s20 _ => 4 - (intOf s20).toNat)
      case atStart => exact ⟨0, rfl, by omega, hidden (Below.refl _ _)⟩
      case round =>
        rename World => wr
        obtain ⟨i, rfl, hi, hBl⟩ := hrel
        by_cases hi4 : i < 4
        · have hi4z : (i : Int) < 4 := by omega
          obtain ⟨s9, p9, ll, F9, G9, hcs, hcr, hS9, hP9, hl9, hm9⟩ := H4.out i hi4
          have HCS : Hid (∀ wx, Below W0.heap.size W0 wx → wx.cell? ⟨gs, i, none⟩ = some (.pointer (some ⟨s9, 0, none⟩))) := hidden (fun wx hb => by rw [hb.cell (p := ⟨gs, i, none⟩) hltg.1]; exact hcs)
          have HCR : Hid (∀ wx, Below W0.heap.size W0 wx → wx.cell? ⟨gr, i, none⟩ = some (.pointer (some ⟨p9, 0, none⟩))) := hidden (fun wx hb => by rw [hb.cell (p := ⟨gr, i, none⟩) hltg.2]; exact hcr)
          obtain ⟨vv, g1, g2, g3, g4, g5⟩ := id hP9
          obtain ⟨ad, cc, rfl, hno⟩ := owns_form3 g4
          have HRM := hidden (L.ms_of_owns g4 g5)
          obtain ⟨nn, hnn⟩ : ∃ nn, ll.length = nn := ⟨_, rfl⟩
          rw [hnn] at g3 hl9
          have HNN := hidden hnn
          have HPC : Hid (∀ wx, Below W0.heap.size W0 wx → wx.cell? ⟨p9, 0, none⟩ = some (.slice ad nn cc)) := hidden (fun wx hb => (g3.later hb).cell 0)
          have HS9 := hidden hS9
          have HP9 := hidden hP9
          have HM9 := hidden hm9
          have KL : Hid (∀ wx, Below W0.heap.size W0 wx → Calls Tryz.prog 10 #[.pointer (some ⟨s9, 0, none⟩)] wx fun e w' => e = .returned (.slice (some ⟨wx.heap.size, 0, none⟩) nn nn) ∧ w'.ownsRow wx.heap.size 58 3 (.slice (some ⟨wx.heap.size, 0, none⟩) nn nn) nn (L.cM ll) ∧ Below wx.heap.size wx w') := hidden (fun wx hb => by
            have := listP F9 wx s9 ll (HS9.out.later hb) (by rw [HNN.out]; omega)
            rw [HNN.out] at this
            exact this)
          have KE : Hid (∀ wx g, Below W0.heap.size W0 wx → Ms wx (some ⟨g, 0, none⟩) ll → Calls Tryz.prog 11 #[.slice (some ⟨g, 0, none⟩) nn nn, .slice ad nn cc] wx fun e w' => e = .returned (.bool true) ∧ Below wx.heap.size wx w') := hidden (fun wx g hb hM => by
            have := L.sameMP (some ⟨g, 0, none⟩) ad nn cc ll ll wx hM (HRM.out.later hb) (by rw [HNN.out]; omega) (by rw [HNN.out]; omega)
            rw [decide_eq_true rfl, HNN.out] at this
            exact this)
          have HOK := hidden g5
          clear hcs hcr g1 g2 g3 g4 g5 hno hnn hS9 hP9 hm9
          have d0 := HCS.out wr hBl.out
          have k1 := KL.out wr hBl.out
          obtain ⟨g1, hg1⟩ : ∃ g1, wr.heap.size = g1 := ⟨_, rfl⟩
          rw [hg1] at k1
          have HG1 : Hid (W0.heap.size ≤ g1 ∧ wr.heap.size = g1) := hidden ⟨by rw [← hg1]; exact hBl.out.size, hg1⟩
          clear hg1
          go_upto_region 20 with (go_at_call 10; refine k1.mono ?_; rintro e wA ⟨rfl, hoA, bA⟩; have OA := hidden hoA; have BA : Hid (Below W0.heap.size W0 wA) := hidden (hBl.out.trans (by rw [HG1.out.2] at *; exact bA.mono HG1.out.1)); clear k1 hoA bA d0)
          have d0 := HCS.out wA BA.out
          have k2 := KL.out wA BA.out
          obtain ⟨g2, hg2⟩ : ∃ g2, wA.heap.size = g2 := ⟨_, rfl⟩
          have hg12 : g1 < g2 := by rw [← hg2]; exact owns_lt OA.out g1 (by simp [Value.ownBlock])
          rw [hg2] at k2
          have HG2 : Hid (W0.heap.size ≤ g2 ∧ wA.heap.size = g2) := hidden ⟨by rw [← hg2]; exact BA.out.size, hg2⟩
          clear hg2
          go_upto_region 21 with (go_at_call 10; refine k2.mono ?_; rintro e wB ⟨rfl, hoB, bB⟩; have OB := hidden hoB; have BB : Hid (Below W0.heap.size W0 wB) := hidden (BA.out.trans (by rw [HG2.out.2] at *; exact bB.mono HG2.out.1)); have OA2 : Hid (wB.ownsRow g1 58 3 (.slice (some ⟨g1, 0, none⟩) nn nn) nn (L.cM ll)) := hidden (owl OA.out (by rw [HG2.out.2]; exact bB)); clear k2 hoB bB d0)
          have d1 := HCR.out wB BB.out
          have d2 := HPC.out wB BB.out
          have k3 := KE.out wB g1 BB.out (L.ms_of_owns (by rw [← HNN.out] at OA2; exact OA2.out) HOK.out)
          go_upto_region 22 with (first
            | (go_at_call 11; refine k3.mono ?_; rintro e wC ⟨rfl, bC⟩; have BC : Hid (Below W0.heap.size W0 wC) := hidden (BB.out.trans (bC.mono BB.out.size)); have OAC := hidden (owl OA2.out bC); have OBC := hidden (owl OB.out bC); have d3 := HCR.out wC BC.out; have d4 := HPC.out wC BC.out; have k4 := KE.out wC g2 BC.out (L.ms_of_owns (by rw [← HNN.out] at OBC; exact OBC.out) HOK.out); clear k3 bC d1 d2)
            | (go_at_call 11; refine k4.mono ?_; rintro e wD ⟨rfl, bD⟩; have BD : Hid (Below W0.heap.size W0 wD) := hidden (BC.out.trans (bD.mono BC.out.size)); have OAD := hidden (owl OAC.out bD); have OBD := hidden (owl OBC.out bD); clear k4 bD d3 d4))
          have k5 := ownedP g1 nn nn wD ⟨_, owns_low OAD.out (Nat.zero_le _)⟩ (by omega)
          go_wp2_with (go_at_call 12; refine k5.mono ?_; rintro e wE ⟨rfl, hcE⟩; have BE : Hid (Below W0.heap.size W0 wE) := hidden (BD.out.trans (hcE.below BD.out.size (fun j e => by have e' : j = g1 := e; rw [e']; exact HG1.out.1))); have OBE : Hid (wE.ownsRow g2 58 3 (.slice (some ⟨g2, 0, none⟩) nn nn) nn (L.cM ll)) := hidden (hcE.owns OBD.out (fun j hj e => by have e' : j = g1 := e; have := (OBD.out.lt j hj).1; omega)); have d5 := HCR.out wE BE.out; have d6 := HPC.out wE BE.out; have k6 := KE.out wE g2 BE.out (L.ms_of_owns (by rw [← HNN.out] at OBE; exact OBE.out) HOK.out); clear k5 hcE)
          go_wp2_with (go_at_call 11; refine k6.mono ?_; rintro e wG ⟨rfl, bG⟩; have BG : Hid (Below W0.heap.size W0 wG) := hidden (BE.out.trans (bG.mono BE.out.size)); clear k6 bG d5 d6)
          clear OA OB OA2 OAC OBC OAD OBD OBE BA BB BC BD BE KL KE HPC
          go_loopw [25] (fun s25 wx => ∃ k : Nat, s25 = .int .i64 (k : Int) ∧ k ≤ n2 ∧ Hid (Below W0.heap.size W0 wx)) (fun s25 _ => n2 - (intOf s25).toNat)
          case atStart => exact ⟨0, rfl, by omega, BG⟩
          case round =>
            rename World => wk
            obtain ⟨k, rfl, hk, hBk⟩ := hrel
            clear BG
            by_cases hkn : k < n2
            · have hknz : (k : Int) < (n2 : Int) := by omega
              obtain ⟨lb, hlb⟩ : ∃ lb, ls[k]? = some lb := ⟨ls[k]'(by rw [HLS.out]; exact hkn), by simp⟩
              have HW : Hid (∀ wx, Below wk.heap.size wk wx → Below W0.heap.size W0 wx ∧ Below w.heap.size w wx) := hidden (fun wx hb => ⟨hBk.out.trans (hb.mono hBk.out.size), BW.out.trans ((hBk.out.trans (hb.mono hBk.out.size)).mono BW.out.size)⟩)
              obtain ⟨lbk, lof, la, lc, rfl, q1, q2, q3, q4, q5⟩ := (HLL.out.later (HW.out wk (Below.refl _ _)).2) k lb hlb
              have HQ3 := hidden q3
              have HQ5 := hidden q5
              obtain ⟨mm, hmm⟩ : ∃ mm, lb.length = mm := ⟨_, rfl⟩
              have HMM := hidden hmm
              rw [hmm] at q2 q4
              obtain ⟨H, hH⟩ : ∃ H, holdsL ll lb = H := ⟨_, rfl⟩
              have HH := hidden hH
              have HQ2 : Hid (∀ wx, Below wk.heap.size wk wx → wx.cell? ⟨lbk, lof + k, none⟩ = some (.slice la mm lc)) := hidden (fun wx hb => by rw [hb.cell (p := ⟨lbk, lof + k, none⟩) q1]; exact q2)
              have h13 : Hid (∀ wx, Lat wk wx → Calls Tryz.prog 13 #[.pointer (some ⟨s9, 0, none⟩), .slice la mm lc] wx fun e w' => e = .returned (.bool H) ∧ Lat wx w') := hidden (fun wx hb => by
                have := holdsP F9 wx s9 ll (HS9.out.later (HW.out wx hb).1) (by rw [HNN.out]; omega) la lc lb (HQ3.out.later hb) (by rw [HMM.out]; omega) (fun x hx => by have := HQ5.out x hx; omega)
                rw [HH.out, HMM.out] at this
                exact this)
              have h14 : Hid (∀ wx, Lat wk wx → Calls Tryz.prog 14 #[.pointer (some ⟨p9, 0, none⟩), .slice la mm lc] wx fun e w' => e = .returned (.bool H) ∧ Lat wx w') := hidden (fun wx hb => by
                have := rHoldsP B G9 wx p9 ll (HP9.out.later (HW.out wx hb).1) (by rw [HNN.out]; omega) HM9.out la lc lb (HQ3.out.later hb) (by rw [HMM.out]; omega) HQ5.out (HT.out.later (HW.out wx hb).2)
                rw [HH.out, HMM.out] at this
                exact this)
              clear q1 q2 q3 q5 hmm hH hlb
              go_upto_region 29 with fail
              refine sets_r29 gs gr i s9 p9 lbk lof n2 c2 k mm lc la H wk _ _ (by rfl) (by rfl) (by rfl) (by rfl) (by rfl) (by rfl) hi4z hi4 hknz hkn (fun w1 h1 => HCS.out w1 (HW.out w1 h1).1) (fun w1 h1 => HCR.out w1 (HW.out w1 h1).1) HQ2.out h13.out h14.out ?_
              intros
              rename_i wz hLz hvz
              subst hvz
              simp only [Act.put, List.setIfInBounds_toArray, List.set_cons_succ, List.set_cons_zero]
              have BZ : Hid (Below W0.heap.size W0 wz) := hidden (HW.out wz hLz).1
              clear hLz
              go_wp2
              refine ⟨⟨k + 1, by first | rfl | simp, by omega, BZ⟩, ?_⟩
              simp [intOf]
              omega
            · have hknz : ¬ (k : Int) < (n2 : Int) := by omega
              go_wp2
              refine ⟨⟨i + 1, by first | rfl | simp, by omega, hBk⟩, ?_⟩
              simp [intOf]
              omega
        · have hi4z : ¬ (i : Int) < 4 := by omega
          go_wp2
          go_ret
          exact ⟨rfl, BW.out.trans (hBl.out.mono BW.out.size)⟩
    · have B3w : Hid (Below w.heap.size w w3) := hidden (B2w.out.trans (b3.mono B2w.out.size))
      clear b3
      go_wp2
      go_ret
      exact ⟨rfl, B3w.out⟩
  · have B2w : Hid (Below w.heap.size w w2) := hidden (B1.out.trans (b2.mono B1.out.size))
    clear b2 ho
    have k3 := HFM.out w2
    go_wp2_with (go_at_call 7; refine k3.mono ?_; rintro e w2' ⟨rfl, hw⟩; obtain rfl := hw.symm; clear k3 hw)
    have k4 := HMM.out w2 B2w.out
    unfold MadeR at k4
    refine k4.mono ?_
    clear k4 HFM HMM
    rintro e w3 ⟨b3, ⟨ho3, t, F3, q, G3, rfl, -⟩ | ⟨ho3, rfl⟩⟩
    all_goals
      have B3w : Hid (Below w.heap.size w w3) := hidden (B2w.out.trans (b3.mono B2w.out.size))
      clear b3
      go_wp2
      go_ret
      exact ⟨rfl, B3w.out⟩

end Go.Proofs.YtanlgplgplncdaaGreatDoor
