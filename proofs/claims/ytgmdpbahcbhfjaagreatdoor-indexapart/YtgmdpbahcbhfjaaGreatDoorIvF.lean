import Derived.Test.YtgmdpbahcbhfjaaGreatDoorIzC
set_option linter.unusedSimpArgs false
set_option linter.unusedVariables false
set_option maxHeartbeats 40000000
set_option maxRecDepth 100000
/-
  IndexApart.
-/
namespace Go.Proofs.YtgmdpbahcbhfjaaGreatDoor.X
open Go.RowKit

def ptV (p : Nat × Nat × Nat) : Value := .pointer (some ⟨p.1, 0, none⟩)
def X5 (q0 p1 p2 p3 q4 : Nat × Nat × Nat) (j : Nat) : Nat × Nat × Nat := if j = 0 then q0 else if j = 1 then p1 else if j = 2 then p2 else if j = 3 then p3 else q4
/-- Deeds that came in. -/
structure Dd where
  k : Int
  dr : Bool
  l : List L.Lb
def Dds (w : World) (ad : Option Addr) (ds : List Dd) : Prop := ∀ (i : Nat) (d : Dd), ds[i]? = some d → -9223372036854775808 ≤ d.k ∧ d.k ≤ 9223372036854775807 ∧ ∃ b off ai ci, ad = some ⟨b, off, none⟩ ∧ b < w.heap.size ∧ w.cell? ⟨b, off + i * 3, none⟩ = some (.int .i64 d.k) ∧ w.cell? ⟨b, off + i * 3 + 1, none⟩ = some (.bool d.dr) ∧ w.cell? ⟨b, off + i * 3 + 2, none⟩ = some (.slice ai d.l.length ci) ∧ L.Ls w ai d.l ∧ (ai = none → d.l = [] ∧ ci = 0) ∧ d.l.length ≤ ci ∧ ci ≤ 9223372036854775807
theorem XM.congr2 {B arr : Nat} {w : World} {cs : List Value} {P P' : Nat → Prop} {X X' : Nat → Nat × Nat × Nat} {R R' : Nat → Rr} (h : XM B w arr cs P X R) (hR : ∀ j, P' j → P j ∧ R' j = R j ∧ X' j = X j) : XM B w arr cs P' X' R' := by
  obtain ⟨c, h1, h2, h3, h4⟩ := h
  exact ⟨c, fun j hj => by rw [(hR j hj).2.1, (hR j hj).2.2]; exact h1 j (hR j hj).1, h2, h3, h4⟩
theorem drop_out {R : Rr} (h : ∀ t, ¬ t = tN 0 → ¬ t = tN 1 → ¬ t = tN 2 → R t = []) (t0 : ByteArray) : ∀ t, ¬ t = tN 0 → ¬ t = tN 1 → ¬ t = tN 2 → rdrop R t0 t = [] := fun t a b c => by
  unfold rdrop
  split
  · rfl
  · exact h t a b c
theorem drop_len {R : Rr} {n : Nat} (h : ∀ t, (R t).length ≤ n) (t0 : ByteArray) : ∀ t, (rdrop R t0 t).length ≤ n + 1 := fun t => by
  unfold rdrop
  split
  · simp
  · have := h t
    omega
theorem add_out {R : Rr} (h : ∀ t, ¬ t = tN 0 → ¬ t = tN 1 → ¬ t = tN 2 → R t = []) {t0 : ByteArray} (h0 : t0 = tN 0 ∨ t0 = tN 1 ∨ t0 = tN 2) (l : List L.Lb) : ∀ t, ¬ t = tN 0 → ¬ t = tN 1 → ¬ t = tN 2 → addR R t0 l t = [] := fun t a b c => by
  rw [addR_off R l (fun e => by rcases h0 with h0 | h0 | h0; exact a (e.trans h0); exact b (e.trans h0); exact c (e.trans h0))]
  exact h t a b c
theorem add_len {R : Rr} {n : Nat} (h : ∀ t, (R t).length ≤ n) (t0 : ByteArray) (l : List L.Lb) : ∀ t, (addR R t0 l t).length ≤ n + 1 := fun t => by
  by_cases e : t = t0
  · subst e
    rw [addR_at]
    unfold addS
    have := h t
    split
    · rw [List.length_append, List.length_singleton]; omega
    · omega
  · rw [addR_off R l e]
    have := h t
    omega
/-- How much the first so many hold. -/
def SumK (R : Rr) : Nat → Nat → Nat → Prop
  | 0, a, b => a = 0 ∧ b = 0
  | k + 1, a, b => ∃ a1 b1 a2 b2, SumK R k a1 b1 ∧ SzR (entF (RM R (k + 1))) a2 b2 ∧ a = a1 + a2 ∧ b = b1 + b2
theorem RX.later {w w' : World} {x : Nat} {t nm : ByteArray} {S : List (List L.Lb)} {s : Nat} {ms : List Mt} (h : RX w x t S s ms nm) (hb : Below w.heap.size w w') : RX w' x t S s ms nm where
  right := h.right
  n9 := h.n9
  len wx hx := h.len wx (hb.trans (hx.mono hb.size))
  lab wx hx id := h.lab wx (hb.trans (hx.mono hb.size)) id
  sel wx hx := h.sel wx (hb.trans (hx.mono hb.size))
  nam wx hx := h.nam wx (hb.trans (hx.mono hb.size))
  val wx hx := h.val wx (hb.trans (hx.mono hb.size))
theorem sz_rm {R : Rr} {k : Nat} (hk : k < 3) (h : ROk (RM R (k + 1))) : ∀ a b, SzR (entF (RM R (k + 1))) a b → a ≤ 1000000 ∧ b ≤ 1000000000 := by
  refine sz_small h [tN k] ?_ (by simp)
  have h1 : ¬ k + 1 = 0 := by omega
  have h2 : ¬ k + 1 = 4 := by omega
  unfold RM
  rw [if_neg h1, if_neg h2, Nat.add_sub_cancel]
  exact rs_out _ _
theorem sz_all {R : Rr} (h : ROk R) (ho : ∀ t, ¬ t = tN 0 → ¬ t = tN 1 → ¬ t = tN 2 → R t = []) : ∀ a b, SzR (entF R) a b → a ≤ 1000000 ∧ b ≤ 1000000000 :=
  sz_small h [tN 0, tN 1, tN 2] (fun t ht => by
    simp only [List.mem_cons, List.not_mem_nil, or_false, not_or] at ht
    exact ho t ht.1 ht.2.1 ht.2.2) (by simp)
theorem sum_three {R : Rr} (ho : ∀ t, ¬ t = tN 0 → ¬ t = tN 1 → ¬ t = tN 2 → R t = []) {a b a0 b0 : Nat} (hs : SumK R 3 a b) (h : SzR (entF R) a0 b0) : a0 = a ∧ b0 = b := by
  obtain ⟨x3, y3, a3, b3, ⟨x2, y2, a2, b2, ⟨x1, y1, a1, b1, ⟨rfl, rfl⟩, h1, rfl, rfl⟩, h2, rfl, rfl⟩, h3, rfl, rfl⟩ := hs
  have := SzR.three tn01 tn02 tn12 h h1 h2 h3 (fun k => ent_rs R (tN 0) k) (fun k => ent_rs R (tN 1) k) (fun k => ent_rs R (tN 2) k) (fun k n0 n1 n2 => by
    unfold entF
    rw [ho k.t n0 n1 n2]
    split
    · split <;> rfl
    · rfl)
  omega
set_option maxRecDepth 100000 in
set_option maxHeartbeats 0 in
theorem apart_any (w : World) (B : Nat) (hT : L.Tb B w) (al : Option Addr) (nl cl : Nat) (ds : List Dd) (hds : Dds w al ds) (hnl : ds.length = nl) (hn9 : nl ≤ 9223372036854775807) (am : Option Addr) (nm cm : Nat) (lm : List Mt) (hm : Ms w am lm) (hnm : lm.length = nm) (hmo : am = none → nm = 0 ∧ cm = 0) (hmc : nm ≤ cm) (hm9 : cm ≤ 9223372036854775807) (of : ByteArray) :
    Calls Tryz.prog 4 #[.slice al nl cl, .slice am nm cm, .string of] w fun e w' => e = .returned (.bool true) ∧ Below w.heap.size w w' := by
  have HDS := hidden hds
  have HNL := hidden hnl
  have HM := hidden hm
  have HNM := hidden hnm
  have HT := hidden hT
  have hB := hT.size
  have HMO := hidden (And.intro hmo (And.intro hmc hm9))
  clear hds hnl hm hnm hT hmo hmc hm9
  go_enter Tryz.func4, Tryz.ntmps4
  go_wp2_with fail
  refine (shownP B w HT.out).mono ?_
  rintro e w1 ⟨rfl, b1⟩
  have B1 := hidden b1
  clear b1
  go_wp2_with fail
  refine (someP am nm cm w1 HMO.out.2.1 HMO.out.2.2 HMO.out.1).mono ?_
  rintro e w1 ⟨rfl, rfl⟩
  obtain ⟨ml, hml⟩ : ∃ ml, lm.take 20 = ml := ⟨_, rfl⟩
  have hml2 : min nm 20 = ml.length := by rw [← hml, List.length_take, HNM.out, Nat.min_comm]
  have HML := hidden (show Ms w1 am ml by rw [← hml]; exact ms_take (HM.out.later B1.out) 20)
  rw [hml2]
  have hml9 : ml.length ≤ 20 := by omega
  clear hml hml2
  go_wp2_with fail
  refine (setP B am cm ml w1 HML.out (by omega) (HT.out.later B1.out)).mono ?_
  rintro e w2 ⟨s, F, rfl, hs, hF, hb2⟩
  have HSTR := hidden hs
  have B2 : Hid (Below w.heap.size w w2) := hidden (B1.out.trans (hb2.mono B1.out.size))
  have HOKM : Hid (∀ m ∈ setL ml, m.may = true ∧ OkM m) := hidden (fun m hm => ⟨setL_may m hm, HML.out.sz m (setL_sub m hm)⟩)
  have HSL := hidden (setL_len ml)
  generalize setL ml = ms at *
  clear hs hF hb2 HML hml9
  obtain ⟨B0, hB0⟩ : ∃ B0, w2.heap.size = B0 := ⟨_, rfl⟩
  have HB0 := hidden hB0
  have hwB : w.heap.size ≤ B0 := by have := B2.out.size; omega
  have HTB : Hid (∀ wx, Below B0 w2 wx → L.Tb B wx) := hidden (fun wx hb => (HT.out.below B2.out hB).later (by rw [HB0.out]; exact hb))
  have HSS : Hid (∀ wx, Below B0 w2 wx → ∃ F, StR F wx s ms) := hidden (fun wx hb => ⟨F, HSTR.out.later (by rw [HB0.out]; exact hb)⟩)
  have HBW : Hid (∀ wx, Below B0 w2 wx → Below w.heap.size w wx) := hidden (fun wx hb => B2.out.trans (hb.mono hwB))
  clear HT HSTR hB
  go_wp2_with fail
  refine (newIxP2 w2 (fun _ => none) 0).mono ?_
  rintro e w3 ⟨x, eb, rb, c1, rfl, h1, h2, h3, h4, h5, h6, h7, b3⟩
  have H1 := hidden h1
  have H2 : Hid (∀ i, i < B0 → c1 i = none) := hidden (fun i hi => h2 i (by omega))
  have B3 : Hid (Below B0 w2 w3) := hidden (by rw [← hB0]; exact b3)
  clear h1 h2 h3 h4 h5 h6 h7 b3 hB0
  go_wp2_with fail
  obtain ⟨w4, hw4, k4, b4, z4⟩ := one_new w3 49 [.pointer none, .pointer none, .pointer none]
  have hw4' : w3.alloc (.cells #[.pointer none, .pointer none, .pointer none] 49) = w4 := hw4
  rw [hw4']
  obtain ⟨arr, harr⟩ : ∃ arr, w3.heap.size = arr := ⟨_, rfl⟩
  have hx4 := XM.start H1.out H2.out (by have := B3.out.size; have := HB0.out; omega) (Nat.le_of_eq harr) b4 (by rw [← harr]; exact k4)
  rw [harr]
  have B4 : Hid (Below B0 w2 w4) := hidden (B3.out.trans (b4.mono (by have := B3.out.size; have := HB0.out; omega)))
  have hba : B0 ≤ arr := by have := B3.out.size; have := HB0.out; omega
  have HX4 := hidden hx4
  clear k4 b4 z4 hx4 harr H1 H2 hw4 hw4'
  have hs4 : B0 ≤ w4.heap.size := Nat.le_trans (by have := HB0.out; omega) B4.out.size
  refine (HX4.out.new hs4 4 (by decide)).mono ?_
  rintro e w5 ⟨q4, rfl, hx5, hb5⟩
  have B5 : Hid (Below B0 w2 w5) := hidden (B4.out.trans (hb5.mono hs4))
  have HX5 : Hid (∃ X : Nat → Nat × Nat × Nat, X 0 = (x, eb, rb) ∧ X 4 = q4 ∧ XM B0 w5 arr [.pointer none, .pointer none, .pointer none] (fun q => q = 4 ∨ q = 0) X (fun _ _ => [])) := hidden ⟨_, by rw [fset_off _ _ (by decide)], by rw [fset_at], hx5.congr (fun j hj => ⟨hj, by unfold fset; split <;> rfl⟩)⟩
  clear hx5 hb5 HX4 B4 B3 hs4
  go_upto_block 0 with fail
  go_cut [12] from 54 to 68 (fun s12 wx => ∃ p1 p2 p3 : Nat × Nat × Nat, Hid (Below B0 w2 wx) ∧ Hid (XM B0 wx arr [ptV p1, ptV p2, ptV p3] (fun q => q < 5) (X5 (x, eb, rb) p1 p2 p3 q4) (fun _ _ => [])))
  case first =>
    as_aux_lemma =>
      go_wp2_with fail
      go_loopw [12] (fun s12 wx => ∃ (k : Nat) (cs : List Value) (X : Nat → Nat × Nat × Nat), s12 = .int .i64 (k : Int) ∧ k ≤ 3 ∧ Hid (X 0 = (x, eb, rb)) ∧ Hid (X 4 = q4) ∧ Hid (cs.length = 3) ∧ Hid (∀ q, q < k → cs[q]? = some (ptV (X (q + 1)))) ∧ Hid (Below B0 w2 wx) ∧ Hid (XM B0 wx arr cs (fun q => q = 0 ∨ q = 4 ∨ (1 ≤ q ∧ q ≤ k)) X (fun _ _ => []))) (fun s12 _ => 3 - (intOf s12).toNat)
      case atStart =>
        obtain ⟨X, e0, e4, hx⟩ := HX5.out
        exact ⟨0, _, X, rfl, by omega, hidden e0, hidden e4, hidden rfl, hidden (fun q hq => by omega), B5, hidden (hx.congr (fun j hj => ⟨by omega, rfl⟩))⟩
      case round =>
        clear HX5 B5
        rename World => wx
        obtain ⟨k, cs, X, rfl, hk3, HX0, HX4, HCL, HCS, HBX, HXM⟩ := hrel
        by_cases hlt : k < 3
        · have hltz : (k : Int) < 3 := by omega
          have hk0 : (0 : Int) ≤ (k : Int) := by omega
          have hsx : B0 ≤ wx.heap.size := Nat.le_trans (by have := HB0.out; omega) HBX.out.size
          go_wp2_with fail
          refine (HXM.out.new hsx (k + 1) (by omega)).mono ?_
          rintro e w6 ⟨p, rfl, hx6, hb6⟩
          have HBX6 : Hid (Below B0 w2 w6) := hidden (HBX.out.trans (hb6.mono hsx))
          have hbk := hx6.blk
          have ck : w6.cell? ⟨arr, k, none⟩ = some (cs[k]'(by rw [HCL.out]; exact hlt)) := by rw [hbk.cell, List.getElem?_eq_getElem]
          have fk := hbk.frozen k
          have hbs := hbk.set k (ptV p)
          have hx7 := hx6.set (Chg.set ⟨arr, k, none⟩ (ptV p) w6) hbs
          have HX7 := hidden hx7
          have HBX7 : Hid (Below B0 w2 (w6.setCell ⟨arr, k, none⟩ (ptV p))) := hidden (HBX6.out.trans ((Chg.set ⟨arr, k, none⟩ (ptV p) w6).below (Nat.le_trans hsx hb6.size) (fun i hi => by have e : i = arr := hi; omega)))
          have ck7 : (w6.setCell ⟨arr, k, none⟩ (ptV p)).cell? ⟨arr, k, none⟩ = some (ptV p) := by rw [hbs.cell, List.getElem?_set_self (by rw [HCL.out]; exact hlt)]
          unfold ptV at ck7 HX7 HBX7
          clear hx6 hb6 hbk hbs hx7 HXM HBX HBX6
          go_wp2_with fail
          refine ⟨⟨k + 1, _, _, by first | rfl | simp, by omega, hidden (by rw [fset_off _ _ (by omega)]; exact HX0.out), hidden (by rw [fset_off _ _ (by omega)]; exact HX4.out), hidden (by rw [List.length_set]; exact HCL.out), hidden (fun q hq => ?_), HBX7, hidden (HX7.out.congr (fun j hj => ⟨by omega, by unfold fset; split <;> rfl⟩))⟩, ?_⟩
          · by_cases e : q = k
            · subst e
              rw [List.getElem?_set_self (by rw [HCL.out]; exact hlt), fset_at]
              rfl
            · rw [List.getElem?_set_ne (fun e2 => e e2.symm), fset_off _ _ (by omega)]
              exact HCS.out q (by omega)
          · simp [intOf]
            omega
        · have hltz : ¬ (k : Int) < 3 := by omega
          have hke : k = 3 := by omega
          subst hke
          go_wp2_with fail
          go_meet
          refine ⟨X 1, X 2, X 3, HBX, hidden ?_⟩
          have hc := HCS.out
          have hl := HCL.out
          match cs, hl with
          | [v0, v1, v2], _ =>
            have q0 := hc 0 (by omega)
            have q1 := hc 1 (by omega)
            have q2 := hc 2 (by omega)
            simp at q0 q1 q2
            subst q0 q1 q2
            refine HXM.out.congr2 (fun j hj => ⟨by omega, rfl, ?_⟩)
            have : j = 0 ∨ j = 1 ∨ j = 2 ∨ j = 3 ∨ j = 4 := by omega
            rcases this with rfl | rfl | rfl | rfl | rfl
            · exact HX0.out.symm
            · rfl
            · rfl
            · rfl
            · exact HX4.out.symm
  case rest =>
    rename World => wa
    obtain ⟨p1, p2, p3, HBA, HXA⟩ := hcut
    as_aux_lemma =>
      go_upto_block 2 with fail
      go_cut [13, 14, 15, 16, 17, 18, 19, 20, 21, 22, 23] from 69 to 157 (fun s13 s14 s15 s16 s17 s18 s19 s20 s21 s22 s23 wx => ∃ R : Rr, Hid (∀ t, ¬ t = tN 0 → ¬ t = tN 1 → ¬ t = tN 2 → R t = []) ∧ Hid (∀ t, (R t).length ≤ 300) ∧ Hid (Below B0 w2 wx) ∧ Hid (XM B0 wx arr [ptV p1, ptV p2, ptV p3] (fun q => q < 5) (X5 (x, eb, rb) p1 p2 p3 q4) (RM R)))
      case first =>
        as_aux_lemma =>
          go_wp2_with fail
          go_loopw [13] (fun s13 wx => ∃ (i : Nat) (R : Rr), s13 = .int .i64 (i : Int) ∧ i ≤ 300 ∧ Hid (∀ t, ¬ t = tN 0 → ¬ t = tN 1 → ¬ t = tN 2 → R t = []) ∧ Hid (∀ t, (R t).length ≤ i) ∧ Hid (Below B0 w2 wx) ∧ Hid (XM B0 wx arr [ptV p1, ptV p2, ptV p3] (fun q => q < 5) (X5 (x, eb, rb) p1 p2 p3 q4) (RM R))) (fun s13 _ => 300 - (intOf s13).toNat)
          case atStart => exact ⟨0, fun _ => [], rfl, by omega, hidden (fun _ _ _ _ => rfl), hidden (fun _ => by simp), HBA, hidden (HXA.out.congr (fun j hj => ⟨hj, by
            have : j = 0 ∨ j = 1 ∨ j = 2 ∨ j = 3 ∨ j = 4 := by omega
            rcases this with rfl | rfl | rfl | rfl | rfl <;> (funext t; simp [RM, RS, rdrop])⟩))⟩
          case round =>
            clear HBA HXA
            rename World => wx
            obtain ⟨i, R, rfl, hi3, HRO, HRL, HBX, HX⟩ := hrel
            by_cases hlt : i < nl ∧ i < 300
            · have hltz : (i : Int) < (nl : Int) := by omega
              have hltz2 : (i : Int) < 300 := by omega
              have hi0 : (0 : Int) ≤ (i : Int) := by omega
              obtain ⟨d, hd⟩ : ∃ d, ds[i]? = some d := ⟨ds[i]'(by rw [HNL.out]; exact hlt.1), List.getElem?_eq_getElem _⟩
              obtain ⟨hk1, hk2, b, off, ai, ci, rfl, hb, hc0, hc1, hc2, hLs, hno, hlc, hci⟩ := HDS.out i d hd
              obtain ⟨dk, dr, l⟩ := d
              simp only at hk1 hk2 hc0 hc1 hc2 hLs hno hlc
              rw [← (HBW.out wx HBX.out).cell (p := ⟨b, off + i * 3, none⟩) hb] at hc0
              have HC1 : Hid (∀ wx, Below B0 w2 wx → wx.cell? ⟨b, off + i * 3 + 1, none⟩ = some (.bool dr)) := hidden (fun wx hbx => by rw [(HBW.out wx hbx).cell (p := ⟨b, off + i * 3 + 1, none⟩) hb]; exact hc1)
              obtain ⟨f, hf⟩ : ∃ f, l.take 20 = f := ⟨_, rfl⟩
              obtain ⟨ln, hln⟩ : ∃ ln, l.length = ln := ⟨_, rfl⟩
              rw [hln] at hc2 hlc
              have HC2 : Hid (∀ wx, Below B0 w2 wx → wx.cell? ⟨b, off + i * 3 + 2, none⟩ = some (.slice ai ln ci)) := hidden (fun wx hbx => by rw [(HBW.out wx hbx).cell (p := ⟨b, off + i * 3 + 2, none⟩) hb]; exact hc2)
              have hfl : min ln 20 = f.length := by rw [← hf, List.length_take, hln, Nat.min_comm]
              have hLf : L.Ls w ai f := by rw [← hf]; exact ls_take hLs 20
              have HFLW : Hid (∀ wx, Below B0 w2 wx → L.Ls wx ai f) := hidden (fun wx hbx => hLf.later (HBW.out wx hbx))
              have HNO : Hid (ai = none → f = [] ∧ ci = 0) := hidden (fun e => ⟨by rw [← hf, (hno e).1]; rfl, (hno e).2⟩)
              have HLNO : Hid (ai = none → ln = 0 ∧ ci = 0) := hidden (fun e => ⟨by rw [← hln, (hno e).1]; rfl, (hno e).2⟩)
              have hf20 : f.length ≤ 20 := by omega
              have HFL := hidden hfl
              have HLC := hidden (And.intro hlc hci)
              have HAP : Hid (¬ f = [] → ∀ a, ai = some a → a.block < B0) := hidden (fun hne a ha => by
                obtain ⟨b2, o2, e2, hlt2, _⟩ := hLf.at' hne
                rw [e2] at ha
                obtain rfl := Option.some.inj ha
                exact Nat.lt_of_lt_of_le hlt2 hwB)
              have hL9 : ∀ t, (R t).length < 1000 := fun t => by have := HRL.out t; omega
              have HL9 := hidden hL9
              obtain ⟨hlt1, hlt2⟩ := hlt
              obtain ⟨kk, hk3, hnm⟩ := nm_any dk
              clear hd hb hc1 hc2 hLs hno hf hln hfl hlc hci hLf hL9
              go_wp2_with fail
              refine (nameP wx dk hk1 hk2).mono ?_
              rw [hnm]
              rintro e w6 ⟨rfl, hb6⟩
              have hsx : B0 ≤ wx.heap.size := Nat.le_trans (by have := HB0.out; omega) HBX.out.size
              have HB6 : Hid (Below B0 w2 w6) := hidden (HBX.out.trans (hb6.mono hsx))
              have HX6 := hidden (HX.out.later hb6)
              have hc1 := HC1.out w6 HB6.out
              have hs6 : B0 ≤ w6.heap.size := Nat.le_trans (by have := HB0.out; omega) HB6.out.size
              clear hb6 hc0 HBX HX HC1 hnm hsx hk1 hk2
              have hk3' : kk = 0 ∨ kk = 1 ∨ kk = 2 := by omega
              clear hk3
              rcases hk3' with rfl | rfl | rfl
              · rw [show tN 0 = ⟨#[97]⟩ from rfl]
                have e1 : ∀ v, fset (RM R) 0 v 1 (tN 0) = R (tN 0) := fun v => by rw [fset_off _ _ (by decide)]; exact rm_at R (by decide)
                obtain ⟨S, hS⟩ : ∃ S, R (tN 0) = S := ⟨_, rfl⟩
                rw [hS] at e1
                have e0 : RM R 0 (tN 0) = S := hS
                have E0 := hidden e0
                have E1 := hidden e1
                have HS9 : Hid (S.length < 1000) := hidden (by rw [← hS]; exact HL9.out _)
                clear e0 e1 hS HL9
                have h15 : (((⟨#[97]⟩ : ByteArray)[0]'(by decide)).toNat : Int) = 97 := by decide
                cases dr with
                | true =>
                  go_wp2_with fail
                  refine (HX6.out.drop hs6 (j := 0) (by decide) (tN 0) (tn_size 0)).mono ?_
                  rintro e wa ⟨rfl, hxa, hba1⟩
                  rw [E0.out]
                  have HBa : Hid (Below B0 w2 wa) := hidden (HB6.out.trans hba1)
                  have hsa : B0 ≤ wa.heap.size := Nat.le_trans hs6 hba1.size
                  have HXa := hidden hxa
                  have ca := hxa.blk.cell 0
                  simp only [List.getElem?_cons_zero, List.getElem?_cons_succ] at ca
                  unfold ptV at ca
                  clear hxa hba1 HX6 HB6 hc1
                  go_wp2_with fail
                  refine (HXa.out.drop hsa (j := 1) (by decide) (tN 0) (tn_size 0)).mono ?_
                  rintro e wc ⟨rfl, hxc, hbc1⟩
                  rw [E1.out]
                  have HBN : Hid (Below B0 w2 wc) := hidden (HBa.out.trans hbc1)
                  have HXN := hidden hxc
                  clear hxc hbc1 HXa HBa ca
                  go_wp2_with fail
                  refine ⟨⟨i + 1, rdrop R (tN 0), by first | rfl | simp, by omega, hidden (drop_out HRO.out _), hidden (drop_len HRL.out _), HBN, hidden (HXN.out.congr (fun j hj => ⟨hj, ?_⟩))⟩, ?_⟩
                  · have := rm_drop R (k := 0) (by decide) j hj
                    rw [if_pos rfl] at this
                    exact this
                  · simp [intOf]
                    omega
                | false =>
                  have hc2 := HC2.out w6 HB6.out
                  go_wp2_with fail
                  refine (fewP ai ln ci w6 HLC.out.1 HLC.out.2 HLNO.out).mono ?_
                  rintro e w7 ⟨rfl, rfl⟩
                  rw [HFL.out]
                  obtain ⟨ra, hra⟩ : ∃ z, addI S f = z := ⟨_, rfl⟩
                  obtain ⟨rb2, hrb⟩ : ∃ z, addB S f = z := ⟨_, rfl⟩
                  obtain ⟨re, hre⟩ : ∃ z, L.errL (L.right f) = z := ⟨_, rfl⟩
                  have HRA := hidden hra
                  have HRB := hidden hrb
                  have HRE := hidden hre
                  clear hra hrb hre
                  go_wp2_with fail
                  refine (HX6.out.add hs6 (j := 0) (by decide) (HTB.out _ HB6.out) (tN 0) (tn_size 0) ai ci f (HFLW.out _ HB6.out) HNO.out (by omega) (by rw [E0.out]; exact HS9.out) HAP.out).mono ?_
                  rintro e wa ⟨rfl, hx8, hb8⟩
                  rw [E0.out, HRA.out, HRB.out, HRE.out]
                  have HBa : Hid (Below B0 w2 wa) := hidden (HB6.out.trans hb8)
                  have hsa : B0 ≤ wa.heap.size := Nat.le_trans hs6 hb8.size
                  have HXa := hidden hx8
                  have ca := hx8.blk.cell 0
                  simp only [List.getElem?_cons_zero, List.getElem?_cons_succ] at ca
                  unfold ptV at ca
                  clear hx8 hb8 HX6 HB6 hc1 hc2
                  go_wp2_with fail
                  refine (HXa.out.add hsa (j := 1) (by decide) (HTB.out _ HBa.out) (tN 0) (tn_size 0) ai ci f (HFLW.out _ HBa.out) HNO.out (by omega) (by rw [E1.out]; exact HS9.out) HAP.out).mono ?_
                  rintro e wc ⟨rfl, hx8, hb8⟩
                  rw [E1.out, HRA.out, HRB.out, HRE.out]
                  have HBN : Hid (Below B0 w2 wc) := hidden (HBa.out.trans hb8)
                  have HXN := hidden hx8
                  clear hx8 hb8 HXa HBa ca
                  go_wp2_with fail
                  refine ⟨⟨i + 1, addR R (tN 0) f, by first | rfl | simp, by omega, hidden (add_out HRO.out (by simp) f), hidden (add_len HRL.out _ f), HBN, hidden (HXN.out.congr (fun j hj => ⟨hj, ?_⟩))⟩, ?_⟩
                  · have := rm_add R f (k := 0) (by decide) j hj
                    rw [if_pos rfl] at this
                    exact this
                  · simp [intOf]
                    omega
              · rw [show tN 1 = ⟨#[98]⟩ from rfl]
                have e1 : ∀ v, fset (RM R) 0 v 2 (tN 1) = R (tN 1) := fun v => by rw [fset_off _ _ (by decide)]; exact rm_at R (by decide)
                have e4 : ∀ v v2, fset (fset (RM R) 0 v) 2 v2 4 (tN 1) = R (tN 1) := fun v v2 => by rw [fset_off _ _ (by decide), fset_off _ _ (by decide)]; exact rm_rest R (by decide) (by decide)
                obtain ⟨S, hS⟩ : ∃ S, R (tN 1) = S := ⟨_, rfl⟩
                rw [hS] at e1 e4
                have e0 : RM R 0 (tN 1) = S := hS
                have E0 := hidden e0
                have E1 := hidden e1
                have E4 := hidden e4
                have HS9 : Hid (S.length < 1000) := hidden (by rw [← hS]; exact HL9.out _)
                clear e0 e1 e4 hS HL9
                have h15 : (((⟨#[98]⟩ : ByteArray)[0]'(by decide)).toNat : Int) = 98 := by decide
                cases dr with
                | true =>
                  go_wp2_with fail
                  refine (HX6.out.drop hs6 (j := 0) (by decide) (tN 1) (tn_size 1)).mono ?_
                  rintro e wa ⟨rfl, hxa, hba1⟩
                  rw [E0.out]
                  have HBa : Hid (Below B0 w2 wa) := hidden (HB6.out.trans hba1)
                  have hsa : B0 ≤ wa.heap.size := Nat.le_trans hs6 hba1.size
                  have HXa := hidden hxa
                  have ca := hxa.blk.cell 1
                  simp only [List.getElem?_cons_zero, List.getElem?_cons_succ] at ca
                  unfold ptV at ca
                  clear hxa hba1 HX6 HB6 hc1
                  go_wp2_with fail
                  refine (HXa.out.drop hsa (j := 2) (by decide) (tN 1) (tn_size 1)).mono ?_
                  rintro e wc ⟨rfl, hxc, hbc1⟩
                  rw [E1.out]
                  have HBc : Hid (Below B0 w2 wc) := hidden (HBa.out.trans hbc1)
                  have hsc : B0 ≤ wc.heap.size := Nat.le_trans hsa hbc1.size
                  have HXc := hidden hxc
                  clear hxc hbc1 HXa HBa ca
                  go_wp2_with fail
                  refine (HXc.out.drop hsc (j := 4) (by decide) (tN 1) (tn_size 1)).mono ?_
                  rintro e we ⟨rfl, hxe, hbe1⟩
                  rw [E4.out]
                  have HBN : Hid (Below B0 w2 we) := hidden (HBc.out.trans hbe1)
                  have HXN := hidden hxe
                  clear hxe hbe1 HXc HBc
                  go_wp2_with fail
                  refine ⟨⟨i + 1, rdrop R (tN 1), by first | rfl | simp, by omega, hidden (drop_out HRO.out _), hidden (drop_len HRL.out _), HBN, hidden (HXN.out.congr (fun j hj => ⟨hj, ?_⟩))⟩, ?_⟩
                  · have := rm_drop R (k := 1) (by decide) j hj
                    rw [if_neg (by decide)] at this
                    exact this
                  · simp [intOf]
                    omega
                | false =>
                  have hc2 := HC2.out w6 HB6.out
                  go_wp2_with fail
                  refine (fewP ai ln ci w6 HLC.out.1 HLC.out.2 HLNO.out).mono ?_
                  rintro e w7 ⟨rfl, rfl⟩
                  rw [HFL.out]
                  obtain ⟨ra, hra⟩ : ∃ z, addI S f = z := ⟨_, rfl⟩
                  obtain ⟨rb2, hrb⟩ : ∃ z, addB S f = z := ⟨_, rfl⟩
                  obtain ⟨re, hre⟩ : ∃ z, L.errL (L.right f) = z := ⟨_, rfl⟩
                  have HRA := hidden hra
                  have HRB := hidden hrb
                  have HRE := hidden hre
                  clear hra hrb hre
                  go_wp2_with fail
                  refine (HX6.out.add hs6 (j := 0) (by decide) (HTB.out _ HB6.out) (tN 1) (tn_size 1) ai ci f (HFLW.out _ HB6.out) HNO.out (by omega) (by rw [E0.out]; exact HS9.out) HAP.out).mono ?_
                  rintro e wa ⟨rfl, hx8, hb8⟩
                  rw [E0.out, HRA.out, HRB.out, HRE.out]
                  have HBa : Hid (Below B0 w2 wa) := hidden (HB6.out.trans hb8)
                  have hsa : B0 ≤ wa.heap.size := Nat.le_trans hs6 hb8.size
                  have HXa := hidden hx8
                  have ca := hx8.blk.cell 1
                  simp only [List.getElem?_cons_zero, List.getElem?_cons_succ] at ca
                  unfold ptV at ca
                  clear hx8 hb8 HX6 HB6 hc1 hc2
                  go_wp2_with fail
                  refine (HXa.out.add hsa (j := 2) (by decide) (HTB.out _ HBa.out) (tN 1) (tn_size 1) ai ci f (HFLW.out _ HBa.out) HNO.out (by omega) (by rw [E1.out]; exact HS9.out) HAP.out).mono ?_
                  rintro e wc ⟨rfl, hx8, hb8⟩
                  rw [E1.out, HRA.out, HRB.out, HRE.out]
                  have HBc : Hid (Below B0 w2 wc) := hidden (HBa.out.trans hb8)
                  have hsc : B0 ≤ wc.heap.size := Nat.le_trans hsa hb8.size
                  have HXc := hidden hx8
                  clear hx8 hb8 HXa HBa ca
                  go_wp2_with fail
                  refine (HXc.out.add hsc (j := 4) (by decide) (HTB.out _ HBc.out) (tN 1) (tn_size 1) ai ci f (HFLW.out _ HBc.out) HNO.out (by omega) (by rw [E4.out]; exact HS9.out) HAP.out).mono ?_
                  rintro e we ⟨rfl, hx8, hb8⟩
                  rw [E4.out, HRA.out, HRB.out, HRE.out]
                  have HBN : Hid (Below B0 w2 we) := hidden (HBc.out.trans hb8)
                  have HXN := hidden hx8
                  clear hx8 hb8 HXc HBc
                  go_wp2_with fail
                  refine ⟨⟨i + 1, addR R (tN 1) f, by first | rfl | simp, by omega, hidden (add_out HRO.out (by simp) f), hidden (add_len HRL.out _ f), HBN, hidden (HXN.out.congr (fun j hj => ⟨hj, ?_⟩))⟩, ?_⟩
                  · have := rm_add R f (k := 1) (by decide) j hj
                    rw [if_neg (by decide)] at this
                    exact this
                  · simp [intOf]
                    omega
              · rw [show tN 2 = ⟨#[99]⟩ from rfl]
                have e1 : ∀ v, fset (RM R) 0 v 3 (tN 2) = R (tN 2) := fun v => by rw [fset_off _ _ (by decide)]; exact rm_at R (by decide)
                have e4 : ∀ v v2, fset (fset (RM R) 0 v) 3 v2 4 (tN 2) = R (tN 2) := fun v v2 => by rw [fset_off _ _ (by decide), fset_off _ _ (by decide)]; exact rm_rest R (by decide) (by decide)
                obtain ⟨S, hS⟩ : ∃ S, R (tN 2) = S := ⟨_, rfl⟩
                rw [hS] at e1 e4
                have e0 : RM R 0 (tN 2) = S := hS
                have E0 := hidden e0
                have E1 := hidden e1
                have E4 := hidden e4
                have HS9 : Hid (S.length < 1000) := hidden (by rw [← hS]; exact HL9.out _)
                clear e0 e1 e4 hS HL9
                have h15 : (((⟨#[99]⟩ : ByteArray)[0]'(by decide)).toNat : Int) = 99 := by decide
                cases dr with
                | true =>
                  go_wp2_with fail
                  refine (HX6.out.drop hs6 (j := 0) (by decide) (tN 2) (tn_size 2)).mono ?_
                  rintro e wa ⟨rfl, hxa, hba1⟩
                  rw [E0.out]
                  have HBa : Hid (Below B0 w2 wa) := hidden (HB6.out.trans hba1)
                  have hsa : B0 ≤ wa.heap.size := Nat.le_trans hs6 hba1.size
                  have HXa := hidden hxa
                  have ca := hxa.blk.cell 2
                  simp only [List.getElem?_cons_zero, List.getElem?_cons_succ] at ca
                  unfold ptV at ca
                  clear hxa hba1 HX6 HB6 hc1
                  go_wp2_with fail
                  refine (HXa.out.drop hsa (j := 3) (by decide) (tN 2) (tn_size 2)).mono ?_
                  rintro e wc ⟨rfl, hxc, hbc1⟩
                  rw [E1.out]
                  have HBc : Hid (Below B0 w2 wc) := hidden (HBa.out.trans hbc1)
                  have hsc : B0 ≤ wc.heap.size := Nat.le_trans hsa hbc1.size
                  have HXc := hidden hxc
                  clear hxc hbc1 HXa HBa ca
                  go_wp2_with fail
                  refine (HXc.out.drop hsc (j := 4) (by decide) (tN 2) (tn_size 2)).mono ?_
                  rintro e we ⟨rfl, hxe, hbe1⟩
                  rw [E4.out]
                  have HBN : Hid (Below B0 w2 we) := hidden (HBc.out.trans hbe1)
                  have HXN := hidden hxe
                  clear hxe hbe1 HXc HBc
                  go_wp2_with fail
                  refine ⟨⟨i + 1, rdrop R (tN 2), by first | rfl | simp, by omega, hidden (drop_out HRO.out _), hidden (drop_len HRL.out _), HBN, hidden (HXN.out.congr (fun j hj => ⟨hj, ?_⟩))⟩, ?_⟩
                  · have := rm_drop R (k := 2) (by decide) j hj
                    rw [if_neg (by decide)] at this
                    exact this
                  · simp [intOf]
                    omega
                | false =>
                  have hc2 := HC2.out w6 HB6.out
                  go_wp2_with fail
                  refine (fewP ai ln ci w6 HLC.out.1 HLC.out.2 HLNO.out).mono ?_
                  rintro e w7 ⟨rfl, rfl⟩
                  rw [HFL.out]
                  obtain ⟨ra, hra⟩ : ∃ z, addI S f = z := ⟨_, rfl⟩
                  obtain ⟨rb2, hrb⟩ : ∃ z, addB S f = z := ⟨_, rfl⟩
                  obtain ⟨re, hre⟩ : ∃ z, L.errL (L.right f) = z := ⟨_, rfl⟩
                  have HRA := hidden hra
                  have HRB := hidden hrb
                  have HRE := hidden hre
                  clear hra hrb hre
                  go_wp2_with fail
                  refine (HX6.out.add hs6 (j := 0) (by decide) (HTB.out _ HB6.out) (tN 2) (tn_size 2) ai ci f (HFLW.out _ HB6.out) HNO.out (by omega) (by rw [E0.out]; exact HS9.out) HAP.out).mono ?_
                  rintro e wa ⟨rfl, hx8, hb8⟩
                  rw [E0.out, HRA.out, HRB.out, HRE.out]
                  have HBa : Hid (Below B0 w2 wa) := hidden (HB6.out.trans hb8)
                  have hsa : B0 ≤ wa.heap.size := Nat.le_trans hs6 hb8.size
                  have HXa := hidden hx8
                  have ca := hx8.blk.cell 2
                  simp only [List.getElem?_cons_zero, List.getElem?_cons_succ] at ca
                  unfold ptV at ca
                  clear hx8 hb8 HX6 HB6 hc1 hc2
                  go_wp2_with fail
                  refine (HXa.out.add hsa (j := 3) (by decide) (HTB.out _ HBa.out) (tN 2) (tn_size 2) ai ci f (HFLW.out _ HBa.out) HNO.out (by omega) (by rw [E1.out]; exact HS9.out) HAP.out).mono ?_
                  rintro e wc ⟨rfl, hx8, hb8⟩
                  rw [E1.out, HRA.out, HRB.out, HRE.out]
                  have HBc : Hid (Below B0 w2 wc) := hidden (HBa.out.trans hb8)
                  have hsc : B0 ≤ wc.heap.size := Nat.le_trans hsa hb8.size
                  have HXc := hidden hx8
                  clear hx8 hb8 HXa HBa ca
                  go_wp2_with fail
                  refine (HXc.out.add hsc (j := 4) (by decide) (HTB.out _ HBc.out) (tN 2) (tn_size 2) ai ci f (HFLW.out _ HBc.out) HNO.out (by omega) (by rw [E4.out]; exact HS9.out) HAP.out).mono ?_
                  rintro e we ⟨rfl, hx8, hb8⟩
                  rw [E4.out, HRA.out, HRB.out, HRE.out]
                  have HBN : Hid (Below B0 w2 we) := hidden (HBc.out.trans hb8)
                  have HXN := hidden hx8
                  clear hx8 hb8 HXc HBc
                  go_wp2_with fail
                  refine ⟨⟨i + 1, addR R (tN 2) f, by first | rfl | simp, by omega, hidden (add_out HRO.out (by simp) f), hidden (add_len HRL.out _ f), HBN, hidden (HXN.out.congr (fun j hj => ⟨hj, ?_⟩))⟩, ?_⟩
                  · have := rm_add R f (k := 2) (by decide) j hj
                    rw [if_neg (by decide)] at this
                    exact this
                  · simp [intOf]
                    omega
            · have hltz : ¬ (i : Int) < (nl : Int) ∨ ¬ (i : Int) < 300 := by omega
              by_cases h1 : (i : Int) < (nl : Int)
              · have h2 : ¬ (i : Int) < 300 := by omega
                have h2' : decide ((i : Int) < 300) = false := by simpa using h2
                go_wp2_with fail
                go_meet
                exact ⟨R, HRO, hidden (fun t => Nat.le_trans (HRL.out t) hi3), HBX, HX⟩
              · have h1' : decide ((i : Int) < (nl : Int)) = false := by simpa using h1
                go_wp2_with fail
                go_meet
                exact ⟨R, HRO, hidden (fun t => Nat.le_trans (HRL.out t) hi3), HBX, HX⟩
      case rest =>
        rename World => wb
        obtain ⟨R, HRO, HRL, HBB, HXB⟩ := hcut
        as_aux_lemma =>
          have hsb : B0 ≤ wb.heap.size := Nat.le_trans (by have := HB0.out; omega) HBB.out.size
          go_upto_block 4 with fail
          go_cut [24, 25] from 158 to 172 (fun s24 s25 wx => Hid (Below wb.heap.size wb wx))
          case first =>
            as_aux_lemma =>
              go_wp2_with fail
              go_loopw [24, 25] (fun s24 s25 wx => ∃ k : Nat, s24 = .int .i64 (k : Int) ∧ k ≤ 3 ∧ Hid (Below wb.heap.size wb wx)) (fun s24 _ _ => 3 - (intOf s24).toNat)
              case atStart => exact ⟨0, rfl, by omega, hidden (Below.refl _ _)⟩
              case round =>
                rename World => wx
                obtain ⟨k, rfl, hk3, HBX⟩ := hrel
                by_cases hlt : k < 3
                · have HXX := hidden (HXB.out.later HBX.out)
                  have HBB2 : Hid (Below B0 w2 wx) := hidden (HBB.out.trans (HBX.out.mono hsb))
                  have hk3' : k = 0 ∨ k = 1 ∨ k = 2 := by omega
                  rcases hk3' with rfl | rfl | rfl
                  · have hltz : ((0 : Nat) : Int) < 3 := by omega
                    have ca := HXX.out.blk.cell 0
                    simp only [List.getElem?_cons_zero, List.getElem?_cons_succ] at ca
                    unfold ptV at ca
                    have HCA : Hid (∀ wy, Below wx.heap.size wx wy → wy.cell? ⟨arr, 0, none⟩ = some (.pointer (some ⟨p1.1, 0, none⟩))) := hidden (fun wy hb => by rw [hb.cell (p := ⟨arr, 0, none⟩) HXX.out.blk.lt]; exact ca)
                    have HR1 : Hid (RX wx x (tN 0) (R (tN 0)) s ms of) := hidden (HXX.out.rx (j := 0) (by decide) (HTB.out _ HBB2.out) (tN 0) (tn_size 0) s ms (HSS.out _ HBB2.out) HOKM.out (by have := HSL.out; omega) of)
                    have HR2 : Hid (RX wx p1.1 (tN 0) (R (tN 0)) s ms of) := hidden (by
                      have := HXX.out.rx (j := 1) (by decide) (HTB.out _ HBB2.out) (tN 0) (tn_size 0) s ms (HSS.out _ HBB2.out) HOKM.out (by have := HSL.out; omega) of
                      rw [rm_at R (k := 0) (by decide)] at this
                      exact this)
                    have ca0 := HCA.out wx.drew ((Below.refl wx.heap.size wx).drew)
                    have HAL : Hid (∀ wy, Below wx.heap.size wx wy → Calls Tryz.prog 17 #[.pointer (some ⟨x, 0, none⟩), .pointer (some ⟨p1.1, 0, none⟩), .string ⟨#[97]⟩, .pointer (some ⟨s, 0, none⟩), .string of] wy fun e w' => e = .returned (.bool true) ∧ Below wy.heap.size wy w') := hidden (fun wy hb => alikeP (t := tN 0) (HR1.out.later hb) (HR2.out.later hb))
                    have HNA : Hid (∀ wy, Calls Tryz.prog 14 #[.int .i64 0] wy fun e w' => e = .returned (.string ⟨#[97]⟩) ∧ Below wy.heap.size wy w') := hidden (fun wy => nameP wy 0 (by decide) (by decide))
                    clear HXX HBB2 HR1 HR2 ca ca0
                    go_wp2_with fail
                    refine apart_r33 x p1.1 arr s 0 ⟨#[97]⟩ of _ _ _ (by rfl) (by rfl) (by rfl) (by rfl) (by rfl) (by rfl) (by decide) (by decide) (fun w1 hl => HCA.out w1 hl) (fun w1 hl => HNA.out w1) (fun w1 hl => HAL.out w1 hl) ?_
                    intro v162 v163 v164 v165 v166 v167 v168 v169 v170 w7 hl7
                    have BN7 : Hid (Below wx.heap.size wx w7) := hidden hl7
                    clear hl7 HCA HAL HNA
                    simp only [Act.put, List.setIfInBounds_toArray, List.set_cons_succ, List.set_cons_zero]
                    go_wp2_with fail
                    refine ⟨⟨1, by first | rfl | simp, by omega, hidden (HBX.out.trans (BN7.out.mono HBX.out.size))⟩, ?_⟩
                    simp [intOf]
                  · have hltz : ((1 : Nat) : Int) < 3 := by omega
                    have ca := HXX.out.blk.cell 1
                    simp only [List.getElem?_cons_zero, List.getElem?_cons_succ] at ca
                    unfold ptV at ca
                    have HCA : Hid (∀ wy, Below wx.heap.size wx wy → wy.cell? ⟨arr, 1, none⟩ = some (.pointer (some ⟨p2.1, 0, none⟩))) := hidden (fun wy hb => by rw [hb.cell (p := ⟨arr, 1, none⟩) HXX.out.blk.lt]; exact ca)
                    have HR1 : Hid (RX wx x (tN 1) (R (tN 1)) s ms of) := hidden (HXX.out.rx (j := 0) (by decide) (HTB.out _ HBB2.out) (tN 1) (tn_size 1) s ms (HSS.out _ HBB2.out) HOKM.out (by have := HSL.out; omega) of)
                    have HR2 : Hid (RX wx p2.1 (tN 1) (R (tN 1)) s ms of) := hidden (by
                      have := HXX.out.rx (j := 2) (by decide) (HTB.out _ HBB2.out) (tN 1) (tn_size 1) s ms (HSS.out _ HBB2.out) HOKM.out (by have := HSL.out; omega) of
                      rw [rm_at R (k := 1) (by decide)] at this
                      exact this)
                    have ca0 := HCA.out wx.drew ((Below.refl wx.heap.size wx).drew)
                    have HAL : Hid (∀ wy, Below wx.heap.size wx wy → Calls Tryz.prog 17 #[.pointer (some ⟨x, 0, none⟩), .pointer (some ⟨p2.1, 0, none⟩), .string ⟨#[98]⟩, .pointer (some ⟨s, 0, none⟩), .string of] wy fun e w' => e = .returned (.bool true) ∧ Below wy.heap.size wy w') := hidden (fun wy hb => alikeP (t := tN 1) (HR1.out.later hb) (HR2.out.later hb))
                    have HNA : Hid (∀ wy, Calls Tryz.prog 14 #[.int .i64 1] wy fun e w' => e = .returned (.string ⟨#[98]⟩) ∧ Below wy.heap.size wy w') := hidden (fun wy => nameP wy 1 (by decide) (by decide))
                    clear HXX HBB2 HR1 HR2 ca ca0
                    go_wp2_with fail
                    refine apart_r33 x p2.1 arr s 1 ⟨#[98]⟩ of _ _ _ (by rfl) (by rfl) (by rfl) (by rfl) (by rfl) (by rfl) (by decide) (by decide) (fun w1 hl => HCA.out w1 hl) (fun w1 hl => HNA.out w1) (fun w1 hl => HAL.out w1 hl) ?_
                    intro v162 v163 v164 v165 v166 v167 v168 v169 v170 w7 hl7
                    have BN7 : Hid (Below wx.heap.size wx w7) := hidden hl7
                    clear hl7 HCA HAL HNA
                    simp only [Act.put, List.setIfInBounds_toArray, List.set_cons_succ, List.set_cons_zero]
                    go_wp2_with fail
                    refine ⟨⟨2, by first | rfl | simp, by omega, hidden (HBX.out.trans (BN7.out.mono HBX.out.size))⟩, ?_⟩
                    simp [intOf]
                  · have hltz : ((2 : Nat) : Int) < 3 := by omega
                    have ca := HXX.out.blk.cell 2
                    simp only [List.getElem?_cons_zero, List.getElem?_cons_succ] at ca
                    unfold ptV at ca
                    have HCA : Hid (∀ wy, Below wx.heap.size wx wy → wy.cell? ⟨arr, 2, none⟩ = some (.pointer (some ⟨p3.1, 0, none⟩))) := hidden (fun wy hb => by rw [hb.cell (p := ⟨arr, 2, none⟩) HXX.out.blk.lt]; exact ca)
                    have HR1 : Hid (RX wx x (tN 2) (R (tN 2)) s ms of) := hidden (HXX.out.rx (j := 0) (by decide) (HTB.out _ HBB2.out) (tN 2) (tn_size 2) s ms (HSS.out _ HBB2.out) HOKM.out (by have := HSL.out; omega) of)
                    have HR2 : Hid (RX wx p3.1 (tN 2) (R (tN 2)) s ms of) := hidden (by
                      have := HXX.out.rx (j := 3) (by decide) (HTB.out _ HBB2.out) (tN 2) (tn_size 2) s ms (HSS.out _ HBB2.out) HOKM.out (by have := HSL.out; omega) of
                      rw [rm_at R (k := 2) (by decide)] at this
                      exact this)
                    have ca0 := HCA.out wx.drew ((Below.refl wx.heap.size wx).drew)
                    have HAL : Hid (∀ wy, Below wx.heap.size wx wy → Calls Tryz.prog 17 #[.pointer (some ⟨x, 0, none⟩), .pointer (some ⟨p3.1, 0, none⟩), .string ⟨#[99]⟩, .pointer (some ⟨s, 0, none⟩), .string of] wy fun e w' => e = .returned (.bool true) ∧ Below wy.heap.size wy w') := hidden (fun wy hb => alikeP (t := tN 2) (HR1.out.later hb) (HR2.out.later hb))
                    have HNA : Hid (∀ wy, Calls Tryz.prog 14 #[.int .i64 2] wy fun e w' => e = .returned (.string ⟨#[99]⟩) ∧ Below wy.heap.size wy w') := hidden (fun wy => nameP wy 2 (by decide) (by decide))
                    clear HXX HBB2 HR1 HR2 ca ca0
                    go_wp2_with fail
                    refine apart_r33 x p3.1 arr s 2 ⟨#[99]⟩ of _ _ _ (by rfl) (by rfl) (by rfl) (by rfl) (by rfl) (by rfl) (by decide) (by decide) (fun w1 hl => HCA.out w1 hl) (fun w1 hl => HNA.out w1) (fun w1 hl => HAL.out w1 hl) ?_
                    intro v162 v163 v164 v165 v166 v167 v168 v169 v170 w7 hl7
                    have BN7 : Hid (Below wx.heap.size wx w7) := hidden hl7
                    clear hl7 HCA HAL HNA
                    simp only [Act.put, List.setIfInBounds_toArray, List.set_cons_succ, List.set_cons_zero]
                    go_wp2_with fail
                    refine ⟨⟨3, by first | rfl | simp, by omega, hidden (HBX.out.trans (BN7.out.mono HBX.out.size))⟩, ?_⟩
                    simp [intOf]
                · have hltz : ¬ (k : Int) < 3 := by omega
                  go_wp2_with fail
                  go_meet
                  exact HBX
          case rest =>
            rename World => wc
            have HBC := hcut
            clear hcut
            as_aux_lemma =>
              have HXC := hidden (HXB.out.later HBC.out)
              have HBB3 : Hid (Below B0 w2 wc) := hidden (HBB.out.trans (HBC.out.mono hsb))
              have hsc : B0 ≤ wc.heap.size := Nat.le_trans hsb HBC.out.size
              clear HXB HBB HBC hsb
              go_upto_block 6 with fail
              go_cut [26, 27, 28, 29, 30] from 173 to 189 (fun s26 s27 s28 s29 s30 wx => ∃ a b : Nat, s26 = .int .i64 (a : Int) ∧ s27 = .int .i64 (b : Int) ∧ a ≤ 3000000 ∧ b ≤ 3000000000 ∧ Hid (SumK R 3 a b) ∧ Hid (Below wc.heap.size wc wx))
              case first =>
                as_aux_lemma =>
                  go_wp2_with fail
                  go_loopw [26, 27, 28, 29, 30] (fun s26 s27 s28 s29 s30 wx => ∃ k a b : Nat, s26 = .int .i64 (a : Int) ∧ s27 = .int .i64 (b : Int) ∧ s28 = .int .i64 (k : Int) ∧ k ≤ 3 ∧ a ≤ k * 1000000 ∧ b ≤ k * 1000000000 ∧ Hid (SumK R k a b) ∧ Hid (Below wc.heap.size wc wx)) (fun _ _ s28 _ _ _ => 3 - (intOf s28).toNat)
                  case atStart => exact ⟨0, 0, 0, rfl, rfl, rfl, by omega, by omega, by omega, hidden ⟨rfl, rfl⟩, hidden (Below.refl _ _)⟩
                  case round =>
                    rename World => wx
                    obtain ⟨k, a, b, rfl, rfl, rfl, hk3, ha9, hb9, HSK, HBX⟩ := hrel
                    by_cases hlt : k < 3
                    · have HXX := hidden (HXC.out.later HBX.out)
                      have hk3' : k = 0 ∨ k = 1 ∨ k = 2 := by omega
                      rcases hk3' with rfl | rfl | rfl
                      · have hltz : ((0 : Nat) : Int) < 3 := by omega
                        have ca := HXX.out.blk.cell 0
                        simp only [List.getElem?_cons_zero, List.getElem?_cons_succ] at ca
                        unfold ptV at ca
                        go_wp2_with fail
                        refine (HXX.out.sizes (j := 1) (by decide) (fun a b h => by have := sz_rm (k := 0) (by decide) (HXX.out.ok (j := 1) (by decide)) a b h; omega)).mono ?_
                        rintro e w6 ⟨⟨a2, b2, hsz, rfl⟩, b6⟩
                        have hbd := sz_rm (k := 0) (by decide) (HXX.out.ok (j := 1) (by decide)) a2 b2 hsz
                        have HS2 : Hid (SumK R 1 (a + a2) (b + b2)) := hidden ⟨a, b, a2, b2, HSK.out, hsz, rfl, rfl⟩
                        have HB6 := hidden (HBX.out.trans (b6.mono HBX.out.size))
                        clear hsz b6 HXX HSK
                        go_wp2_with fail
                        refine ⟨⟨1, a + a2, b + b2, by first | rfl | simp, by first | rfl | simp, by first | rfl | simp, by omega, by omega, by omega, HS2, HB6⟩, ?_⟩
                        simp [intOf]
                      · have hltz : ((1 : Nat) : Int) < 3 := by omega
                        have ca := HXX.out.blk.cell 1
                        simp only [List.getElem?_cons_zero, List.getElem?_cons_succ] at ca
                        unfold ptV at ca
                        go_wp2_with fail
                        refine (HXX.out.sizes (j := 2) (by decide) (fun a b h => by have := sz_rm (k := 1) (by decide) (HXX.out.ok (j := 2) (by decide)) a b h; omega)).mono ?_
                        rintro e w6 ⟨⟨a2, b2, hsz, rfl⟩, b6⟩
                        have hbd := sz_rm (k := 1) (by decide) (HXX.out.ok (j := 2) (by decide)) a2 b2 hsz
                        have HS2 : Hid (SumK R 2 (a + a2) (b + b2)) := hidden ⟨a, b, a2, b2, HSK.out, hsz, rfl, rfl⟩
                        have HB6 := hidden (HBX.out.trans (b6.mono HBX.out.size))
                        clear hsz b6 HXX HSK
                        go_wp2_with fail
                        refine ⟨⟨2, a + a2, b + b2, by first | rfl | simp, by first | rfl | simp, by first | rfl | simp, by omega, by omega, by omega, HS2, HB6⟩, ?_⟩
                        simp [intOf]
                      · have hltz : ((2 : Nat) : Int) < 3 := by omega
                        have ca := HXX.out.blk.cell 2
                        simp only [List.getElem?_cons_zero, List.getElem?_cons_succ] at ca
                        unfold ptV at ca
                        go_wp2_with fail
                        refine (HXX.out.sizes (j := 3) (by decide) (fun a b h => by have := sz_rm (k := 2) (by decide) (HXX.out.ok (j := 3) (by decide)) a b h; omega)).mono ?_
                        rintro e w6 ⟨⟨a2, b2, hsz, rfl⟩, b6⟩
                        have hbd := sz_rm (k := 2) (by decide) (HXX.out.ok (j := 3) (by decide)) a2 b2 hsz
                        have HS2 : Hid (SumK R 3 (a + a2) (b + b2)) := hidden ⟨a, b, a2, b2, HSK.out, hsz, rfl, rfl⟩
                        have HB6 := hidden (HBX.out.trans (b6.mono HBX.out.size))
                        clear hsz b6 HXX HSK
                        go_wp2_with fail
                        refine ⟨⟨3, a + a2, b + b2, by first | rfl | simp, by first | rfl | simp, by first | rfl | simp, by omega, by omega, by omega, HS2, HB6⟩, ?_⟩
                        simp [intOf]
                    · have hltz : ¬ (k : Int) < 3 := by omega
                      obtain rfl : k = 3 := by omega
                      go_wp2_with fail
                      go_meet
                      exact ⟨a, b, rfl, rfl, by omega, by omega, HSK, HBX⟩
              case rest =>
                rename World => wd
                obtain ⟨a, b, rfl, rfl, ha9, hb9, HSK, HBD⟩ := hcut
                as_aux_lemma =>
                  have HXD := hidden (HXC.out.later HBD.out)
                  have HBB4 : Hid (Below B0 w2 wd) := hidden (HBB3.out.trans (HBD.out.mono hsc))
                  have hsd : B0 ≤ wd.heap.size := Nat.le_trans hsc HBD.out.size
                  clear HXC HBD HBB3 hsc
                  go_wp2_with fail
                  have hok0 : ROk R := HXD.out.ok (j := 0) (by decide)
                  refine (HXD.out.sizes (j := 0) (by decide) (fun a b h => by have := sz_all hok0 HRO.out a b h; omega)).mono ?_
                  rintro e we ⟨⟨a0, b0, hsz, rfl⟩, be⟩
                  obtain ⟨rfl, rfl⟩ : a0 = a ∧ b0 = b := sum_three HRO.out HSK.out hsz
                  have HXE := hidden (HXD.out.later be)
                  have hse : B0 ≤ we.heap.size := Nat.le_trans hsd be.size
                  have HBE : Hid (Below B0 w2 we) := hidden (HBB4.out.trans (be.mono hsd))
                  clear hsz be HXD HBB4 HSK
                  go_wp2_with fail
                  refine (HXE.out.drop hse (j := 0) (by decide) (tN 0) (tn_size 0)).mono ?_
                  rintro e wf ⟨rfl, hxf, bf⟩
                  have HXF := hidden hxf
                  have hsf : B0 ≤ wf.heap.size := Nat.le_trans hse bf.size
                  have HBF : Hid (Below B0 w2 wf) := hidden (HBE.out.trans bf)
                  clear hxf bf HXE HBE
                  have hok1 : ROk (rdrop R (tN 0)) := rOk_drop hok0
                  have hsz1 := sz_all hok1 (drop_out HRO.out (tN 0))
                  have HSZ1 := hidden hsz1
                  clear hsz1 hok1
                  go_wp2_with fail
                  refine (HXF.out.sizes (j := 0) (by decide) (fun a b h => by have := HSZ1.out a b h; omega)).mono ?_
                  rintro e wg ⟨⟨a1, b1, hsz1, rfl⟩, bg⟩
                  have HXG := hidden (HXF.out.later bg)
                  have hsg : B0 ≤ wg.heap.size := Nat.le_trans hsf bg.size
                  have HBG : Hid (Below B0 w2 wg) := hidden (HBF.out.trans (bg.mono hsf))
                  have HZ1 : Hid (SzR (entF (rdrop R (tN 0))) a1 b1) := hidden hsz1
                  clear hsz1 bg HXF HBF
                  go_wp2_with fail
                  refine (HXG.out.sizes (j := 4) (by decide) (fun a b h => by have := HSZ1.out a b h; omega)).mono ?_
                  rintro e wh ⟨⟨a2, b2, hsz2, rfl⟩, bh⟩
                  have HXH := hidden (HXG.out.later bh)
                  have hsh : B0 ≤ wh.heap.size := Nat.le_trans hsg bh.size
                  have HBH : Hid (Below B0 w2 wh) := hidden (HBG.out.trans (bh.mono hsg))
                  obtain ⟨rfl, rfl⟩ : a1 = a2 ∧ b1 = b2 := HZ1.out.eq hsz2
                  clear hsz2 bh HXG HBG HZ1 HSZ1
                  go_wp2_with fail
                  have hr1 : RX wh x (tN 0) (rdrop R (tN 0) (tN 0)) s ms of := HXH.out.rx (j := 0) (by decide) (HTB.out _ HBH.out) (tN 0) (tn_size 0) s ms (HSS.out _ HBH.out) HOKM.out (by have := HSL.out; omega) of
                  have hr2 : RX wh q4.1 (tN 0) (rdrop R (tN 0) (tN 0)) s ms of := HXH.out.rx (j := 4) (by decide) (HTB.out _ HBH.out) (tN 0) (tn_size 0) s ms (HSS.out _ HBH.out) HOKM.out (by have := HSL.out; omega) of
                  refine (alikeP (t := tN 0) hr1 hr2).mono ?_
                  rintro e wi ⟨rfl, bi⟩
                  have HXI := hidden (HXH.out.later bi)
                  have HBI : Hid (Below B0 w2 wi) := hidden (HBH.out.trans (bi.mono hsh))
                  have hsi : B0 ≤ wi.heap.size := Nat.le_trans hsh bi.size
                  clear hr1 hr2 bi HXH HBH
                  go_wp2_with (first
                    | (go_at_call 19
                       refine (HXI.out.len (j := 0) (by decide) (tN 0)).mono ?_
                       rintro e wj ⟨rfl, bj⟩
                       have HBJ : Hid (Below B0 w2 wj) := hidden (HBI.out.trans (bj.mono hsi))
                       rw [show (fset (RM R) 0 (rdrop (RM R 0) (tN 0)) 0 (tN 0)).length = 0 by rw [fset_at]; unfold rdrop; rw [if_pos rfl]; rfl]
                       clear bj))
                  go_ret
                  exact ⟨by rfl, HBW.out _ HBJ.out⟩
end Go.Proofs.YtgmdpbahcbhfjaaGreatDoor.X
