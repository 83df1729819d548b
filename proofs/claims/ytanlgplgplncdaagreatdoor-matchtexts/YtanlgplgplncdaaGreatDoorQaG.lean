/-
  The document's reader: what any, row and atom leave; atom.
-/
import Derived.Test.YtanlgplgplncdaaGreatDoorQaF
import Derived.Test.YtanlgplgplncdaaGreatDoorPtX
namespace Go.Proofs.YtanlgplgplncdaaGreatDoor
open Go.RowKit
set_option linter.unusedVariables false
set_option linter.unusedSimpArgs false

/-- What a call leaves that answers a node. -/
def NodeP {α : Type} (V : (Nat → Prop) → World → α → List Value → Prop) (X : Rx) (S : List UInt8) (i d g : Nat) (w : World) (R : Pr α) (e : Ending) (w' : World) : Prop :=
  Chg (fun b => b = g) w w' ∧ ∃ (u : List Value) (j : Nat) (bad : Int), e = .returned (.agg (List.toArray u)) ∧ Sh u ∧ Rr w' g X j d bad ∧ ((∃ x b, R = .ok x b ∧ bad = -1 ∧ V (FW w w') w' x u ∧ At X S j b ∧ i ≤ j) ∨ (∃ k : Nat, R = .bad k ∧ bad = (k : Int) ∧ j < X.al.length))
def Stop (S : List UInt8) (a : Nat) : Prop := S[a]? = none ∨ S[a]? = some 124 ∨ S[a]? = some 41
/-- What atom leaves. -/
def AtomP (X : Rx) (S : List UInt8) (i d g a : Nat) (w : World) (R : Pr Pt) (e : Ending) (w' : World) : Prop :=
  Chg (fun b => b = g) w w' ∧ ∃ (u : List Value) (is : Bool) (j : Nat) (bad : Int), e = .returned (.tuple #[.agg (List.toArray u), .bool is]) ∧ Sh u ∧ Rr w' g X j d bad ∧ ((is = false ∧ bad = -1 ∧ Stop S a ∧ At X S j a ∧ i ≤ j) ∨ (is = true ∧ bad = -1 ∧ ¬ Stop S a ∧ ∃ p b, R = .ok p b ∧ NdV (FW w w') w' p u ∧ At X S j b ∧ i < j) ∨ (¬ Stop S a ∧ ∃ k : Nat, R = .bad k ∧ bad = (k : Int) ∧ j < X.al.length))
def AnyC (f : Nat) : Prop := ∀ (g : Nat) (X : Rx) (S : List UInt8) (i d a : Nat) (w : World), Rr w g X i d (-1) → At X S i a → X.rb < w.heap.size → X.ab < w.heap.size → d ≤ 16 → rowsF S f d a ≠ .out → Calls Tryz.prog 60 #[.pointer (some ⟨g, 0, none⟩)] w (NodeP AnV X S i d g w (rowsF S f d a))
def RoC (f : Nat) : Prop := ∀ (g : Nat) (X : Rx) (S : List UInt8) (i d a : Nat) (w : World), Rr w g X i d (-1) → At X S i a → X.rb < w.heap.size → X.ab < w.heap.size → d ≤ 16 → rowF S f d a ≠ .out → Calls Tryz.prog 78 #[.pointer (some ⟨g, 0, none⟩)] w (NodeP RwV X S i d g w (rowF S f d a))
def AtC (f : Nat) : Prop := ∀ (g : Nat) (X : Rx) (S : List UInt8) (i d a : Nat) (w : World), Rr w g X i d (-1) → At X S i a → X.rb < w.heap.size → X.ab < w.heap.size → d ≤ 16 → (¬ Stop S a → atomF S f d a ≠ .out) → Calls Tryz.prog 95 #[.pointer (some ⟨g, 0, none⟩)] w (AtomP X S i d g a w (atomF S f d a))

/-- A node laid into the result. -/
theorem fin_store {w wx : World} {g gr : Nat} {u0 u : List Value} (hc : Chg (fun b => b = g) w wx) (hb : Blk wx gr 123 u0) (h0 : w.heap.size ≤ gr) (hl : u0.length = u.length) (hg : g < w.heap.size) : Blk (wx.setCells gr 0 u) gr 123 u ∧ Chg (fun b => b = g) w (wx.setCells gr 0 u) ∧ Chg (fun b => b = gr) wx (wx.setCells gr 0 u) ∧
    (∀ X i d bad, X.rb < w.heap.size → X.ab < w.heap.size → Rr wx g X i d bad → Rr (wx.setCells gr 0 u) g X i d bad) := by
  have cs := Chg.sets gr u 0 wx
  exact ⟨blk_stored hb hl.symm, hc.trans cs (fun i hi e => by have e' : i = gr := e; omega), cs, fun X i d bad hr ha hR => hR.chg cs (by omega) (fun e => by have e' : X.rb = gr := e; omega) (fun e => by have e' : X.ab = gr := e; omega)⟩

theorem ClsP.node {X : Rx} {S : List UInt8} {i d g : Nat} {w : World} {neg : Bool} {R : Pr Sn} {e : Ending} {w' : World} (h : ClsP X S i d g w neg R e w') : NodeP (fun F w l u => NdV F w (.cls neg l) u) X S i d g w R e w' := by
  obtain ⟨hc, ⟨l, b, j, u, h1, h2, h3, h4, h5, h6⟩ | ⟨k, j, u, h1, h2, h3, h4, h5⟩⟩ := h
  · exact ⟨hc, u, j, -1, h2, h3.sh, h4, .inl ⟨l, b, h1, rfl, h3, h5, by omega⟩⟩
  · exact ⟨hc, u, j, k, h2, h3, h4, .inr ⟨k, h1, rfl, h5⟩⟩
theorem sz6 {u : List Value} (h : Sh u) : (Tryz.prog.info? 123).map (·.size) = some u.length := by rw [h.one.1]; exact info70s
/-- A node that is told of later memory, with what has changed since. -/
theorem nd_fin {w wa wb wc : World} {p : Pt} {u : List Value} {G : Nat → Prop} (h : NdV (FW wa wb) wb p u) (hw : w.heap.size ≤ wa.heap.size) (hc : Chg G wb wc) (hG : ∀ b, wa.heap.size ≤ b → ¬ G b) : NdV (FW w wc) wc p u :=
  NdV.mono (fun b hb => ⟨Nat.le_trans hw hb.1, Nat.lt_of_lt_of_le hb.2 hc.size⟩) p u (NdV.keep hc (fun b hb => hG b hb.1) p u h)
theorem at_any {S : List UInt8} {f d a : Nat} (h : S[a]? = some 46) : atomF S (f + 1) d a = .ok .any (a + 1) := by rw [atomF, if_pos h]
theorem at_cls {S : List UInt8} {f d a : Nat} (h : S[a]? = some 91) : atomF S (f + 1) d a = match clsF S (S.length + 2) (tkN S (a + 1) 94) [] with
      | .ok l b => .ok (.cls (decide (S[a + 1]? = some 94)) l) b
      | .bad k => .bad k
      | .out => .out := by
  rw [atomF, if_neg (by rw [h]; decide), if_pos h]
  unfold tkN
  cases clsF S (S.length + 2) (if S[a + 1]? = some 94 then a + 2 else a + 1) [] <;> rfl
theorem at_grp {S : List UInt8} {f d a : Nat} (h : S[a]? = some 40) (hd : d < 16) : atomF S (f + 1) d a = match rowsF S f (d + 1) (a + 1) with
      | .ok l b => if S[b]? = some 41 then .ok (.grp l) (b + 1) else .bad b
      | .bad k => .bad k
      | .out => .out := by
  rw [atomF, if_neg (by rw [h]; decide), if_neg (by rw [h]; decide), if_pos ⟨hd, h⟩]
  cases rowsF S f (d + 1) (a + 1) <;> rfl
theorem at_grp16 {S : List UInt8} {f d a : Nat} (h : S[a]? = some 40) (hd : ¬ d < 16) : atomF S (f + 1) d a = .bad a := by
  rw [atomF, if_neg (by rw [h]; decide), if_neg (by rw [h]; decide), if_neg (fun x => hd x.1), char_sign h]
theorem at_chr {S : List UInt8} {f d a : Nat} (h1 : ¬ S[a]? = some 46) (h2 : ¬ S[a]? = some 91) (h3 : ¬ S[a]? = some 40) : atomF S (f + 1) d a = match charF S a with
      | .ok c b => .ok (.chr c) b
      | .bad k => .bad k
      | .out => .out := by
  rw [atomF, if_neg h1, if_neg h2, if_neg (fun x => h3 x.2)]
  cases charF S a <;> rfl

set_option maxRecDepth 100000 in
set_option maxHeartbeats 0 in
theorem atom_of_any (f : Nat) (hANY : AnyC f) : AtC (f + 1) := by
  intro g X S i d a w h hA hXr hXa hd hno
  have hgw : g < w.heap.size := h.blk.lt
  have hi := h.sz.2.2.1
  have hal := hA.lt
  have hal2 := h.sz.2.1
  obtain ⟨R, hR⟩ : ∃ R, atomF S (f + 1) d a = R := ⟨_, rfl⟩
  rw [hR] at hno ⊢
  have HR := hidden hR
  have HNO := hidden hno
  have HA := hidden hA
  obtain ⟨w1, hw1, hB1, hb1, hs1⟩ : ∃ w1, w.alloc (.cells #[.int .i64 0, .int .i32 0, .bool false, .int .u8 0, .slice none 0 0, .slice none 0 0] 123) = w1 ∧ Blk w1 w.heap.size 123 (nV 0 0 false 0 sN sN) ∧ Below w.heap.size w w1 ∧ w1.heap.size = w.heap.size + 1 := one_new w 123 (nV 0 0 false 0 sN sN)
  have h1 := h.later hb1
  obtain ⟨c0, hc0⟩ : ∃ c0, pk X i (-1) = c0 := ⟨_, rfl⟩
  have k1 := peekR w1 h1 c0 hc0
  have HP : Hid (∀ x : UInt8, x.toNat < 128 → (c0 = (x.toNat : Int) ↔ S[a]? = some x)) := hidden (fun x hx => by rw [← hc0]; exact hA.pk_eq x hx)
  have HPN : Hid (c0 = -1 ↔ S[a]? = none) := hidden (by rw [← hc0, hA.pk]; exact Rn.hd_none hA)
  have H1 := hidden h1
  have B1 := hidden hB1
  have C1 : Hid (Chg (fun b => b = g) w w1) := hidden (Chg.of_below hb1)
  have HW1 := hidden hw1
  have hgr : ¬ w.heap.size = g := by omega
  clear hR hno h hA hw1 hB1 hb1 hs1 h1 hc0
  go_enter Tryz.func95, Tryz.ntmps95
  go_upto_region 1 with fail
  rw [HW1.out]
  clear HW1
  go_upto_region 2 with (go_at_call 79; refine k1.mono ?_; rintro e w2 ⟨rfl, g2⟩; have H2 := hidden (H1.out.later g2); have B2 := hidden (B1.out.later g2); have C2 := hidden (C1.out.bel g2); clear k1 g2 H1 B1 C1)
  by_cases h46 : S[a]? = some 46
  · -- any one
    obtain rfl : c0 = 46 := (HP.out 46 (by decide)).2 h46
    have HE : Hid (R = .ok .any (a + 1)) := hidden (by rw [← HR.out, at_any h46])
    have HNS : Hid (¬ Stop S a) := hidden (by rintro (e | e | e) <;> (rw [h46] at e; revert e; decide))
    have HA2 := hidden (HA.out.next 46 (by decide) h46)
    have hal3 := HA2.out.lt
    have e2 : w2.cell? ⟨g, 2, none⟩ = some (.int .i64 (i : Int)) := H2.out.blk.cell 2
    have f2 := H2.out.blk.frozen 2
    have H3 := hidden (H2.out.setI (i + 1) (by omega))
    have B3 : Hid (Blk (w2.setCell ⟨g, 2, none⟩ (.int .i64 ((i : Int) + 1))) w.heap.size 123 (nV 0 0 false 0 sN sN)) := hidden (B2.out.setOff _ _ hgr)
    have C3 := hidden (C2.out.put 2 (.int .i64 ((i : Int) + 1)))
    clear h46 HP HPN HR H2 B2 C2 HA
    go_wp2_with (refine wpList_store_blk (l := nV 2 0 false 0 sN sN) rfl 123 (.tmp 2) (.tmp 18) rfl rfl w.heap.size B3.out rfl rfl rfl info70s (sh_nV _ _ _ _ _ _ _ _ _ _).one.2 ?_)
    obtain ⟨y1, y2, y3, y4⟩ := fin_store (u := nV 2 0 false 0 sN sN) C3.out B3.out (Nat.le_refl _) rfl hgw
    refine bodyPost_ret (res_node2 res48 _ _ w.heap.size _ (sh_nV _ _ _ _ _ _ _ _ _ _) true rfl rfl y1) rfl ?_
    exact ⟨y2, _, true, i + 1, -1, rfl, sh_nV _ _ _ _ _ _ _ _ _ _, y4 _ _ _ _ hXr hXa H3.out, .inr (.inl ⟨rfl, rfl, HNS.out, .any, a + 1, HE.out, by simp only [NdV]; rfl, HA2.out, by omega⟩)⟩
  · have hc46 : ¬ c0 = 46 := fun e => h46 ((HP.out 46 (by decide)).1 e)
    by_cases h91 : S[a]? = some 91
    · -- a class
      obtain rfl : c0 = 91 := (HP.out 91 (by decide)).2 h91
      have HNS : Hid (¬ Stop S a) := hidden (by rintro (e | e | e) <;> (rw [h91] at e; revert e; decide))
      have hE : R = _ := (HR.out.symm.trans (at_cls h91))
      have hcn : clsF S (S.length + 2) (tkN S (a + 1) 94) [] ≠ .out := fun e => HNO.out HNS.out (by rw [hE, e])
      have HE := hidden hE
      have HA2 := hidden (HA.out.next 91 (by decide) h91)
      have hal3 := HA2.out.lt
      have e2 : w2.cell? ⟨g, 2, none⟩ = some (.int .i64 (i : Int)) := H2.out.blk.cell 2
      have f2 := H2.out.blk.frozen 2
      have H3 := hidden (H2.out.setI (i + 1) (by omega))
      have B3 : Hid (Blk (w2.setCell ⟨g, 2, none⟩ (.int .i64 ((i : Int) + 1))) w.heap.size 123 (nV 0 0 false 0 sN sN)) := hidden (B2.out.setOff _ _ hgr)
      have C3 := hidden (C2.out.put 2 (.int .i64 ((i : Int) + 1)))
      have k64 := classR _ H3.out HA2.out (Nat.lt_of_lt_of_le hXr C3.out.size) (Nat.lt_of_lt_of_le hXa C3.out.size) hcn
      clear hE hcn h91 HP HPN HR H2 B2 C2 HA
      have k64' := k64.mono (fun e w' hh => hh.node)
      clear k64
      go_wp2_with (first
        | (go_at_call 103; refine k64'.mono ?_; rintro e w4 ⟨ch4, u4, j4, bad4, rfl, sh4, r4, or4⟩; have B4 := hidden (ch4.blk B3.out hgr); have C4 := hidden (C3.out.seq ch4); have SH4 := hidden sh4; have R4 := hidden r4; have O4 := hidden or4; clear k64' ch4 sh4 r4 or4)
        | (refine wpList_store_blk (l := u4) rfl 123 (.tmp 2) (.tmp 29) rfl rfl w.heap.size B4.out rfl rfl SH4.out.one.1 (sz6 SH4.out) SH4.out.one.2 ?_))
      obtain ⟨y1, y2, y3, y4⟩ := fin_store (u := u4) C4.out B4.out (Nat.le_refl _) SH4.out.one.1.symm hgw
      refine bodyPost_ret (res_node2 res48 _ _ w.heap.size _ SH4.out true rfl rfl y1) rfl ?_
      refine ⟨y2, _, true, j4, bad4, rfl, SH4.out, y4 _ _ _ _ hXr hXa R4.out, ?_⟩
      rcases O4.out with ⟨l, b, q1, q2, q3, q4, q5⟩ | ⟨k, q1, q2, q3⟩
      · refine .inr (.inl ⟨rfl, q2, HNS.out, .cls _ l, b, by rw [HE.out, q1], nd_fin q3 C3.out.size y3 (fun b hb e => ?_), q4, by omega⟩)
        have e' : b = w.heap.size := e
        exact Nat.lt_irrefl _ (Nat.lt_of_lt_of_le B3.out.lt (e' ▸ hb))
      · exact .inr (.inr ⟨HNS.out, k, by rw [HE.out, q1], q2, q3⟩)
    · have hc91 : ¬ c0 = 91 := fun e => h91 ((HP.out 91 (by decide)).1 e)
      by_cases h40 : S[a]? = some 40
      · obtain rfl : c0 = 40 := (HP.out 40 (by decide)).2 h40
        have HNS : Hid (¬ Stop S a) := hidden (by rintro (e | e | e) <;> (rw [h40] at e; revert e; decide))
        have e3 : w2.cell? ⟨g, 3, none⟩ = some (.int .i64 (d : Int)) := H2.out.blk.cell 3
        by_cases hd16 : d < 16
        · have hdz : ¬ (d : Int) = 16 := by omega
          have hE : R = _ := (HR.out.symm.trans (at_grp h40 hd16))
          have hcn : rowsF S f (d + 1) (a + 1) ≠ .out := fun e => HNO.out HNS.out (by rw [hE, e])
          have HE := hidden hE
          have HA2 := hidden (HA.out.next 40 (by decide) h40)
          have hal3 := HA2.out.lt
          have e2 : w2.cell? ⟨g, 2, none⟩ = some (.int .i64 (i : Int)) := H2.out.blk.cell 2
          have f2 := H2.out.blk.frozen 2
          have H3 := hidden (H2.out.setI (i + 1) (by omega))
          have e3b : (w2.setCell ⟨g, 2, none⟩ (.int .i64 ((i : Int) + 1))).cell? ⟨g, 3, none⟩ = some (.int .i64 (d : Int)) := H3.out.blk.cell 3
          have f3 : (w2.setCell ⟨g, 2, none⟩ (.int .i64 ((i : Int) + 1))).frozen? ⟨g, 3, none⟩ = false := H3.out.blk.frozen 3
          have H4 := hidden (H3.out.setD (d + 1) (by omega))
          have B4 : Hid (Blk ((w2.setCell ⟨g, 2, none⟩ (.int .i64 ((i : Int) + 1))).setCell ⟨g, 3, none⟩ (.int .i64 ((d : Int) + 1))) w.heap.size 123 (nV 0 0 false 0 sN sN)) := hidden ((B2.out.setOff _ _ hgr).setOff _ _ hgr)
          have C4 := hidden ((C2.out.put 2 (.int .i64 ((i : Int) + 1))).put 3 (.int .i64 ((d : Int) + 1)))
          have kA := hANY g X S (i + 1) (d + 1) (a + 1) _ H4.out HA2.out (Nat.lt_of_lt_of_le hXr C4.out.size) (Nat.lt_of_lt_of_le hXa C4.out.size) (by omega) hcn
          clear hE hcn h40 HP HPN HR H2 B2 C2 HA hANY H3
          go_upto_region 16 with (go_at_call 60; refine kA.mono ?_; rintro e w5 ⟨ch5, u5, j5, bad5, rfl, sh5, r5, or5⟩; have B5 := hidden (ch5.blk B4.out hgr); have C5 := hidden (C4.out.seq ch5); have R5 := hidden r5; have O5 := hidden or5; obtain ⟨K, A, N, G, ad, n, c, ad2, n2, c2, hu5⟩ := sh5; have HU5 := hidden hu5; rw [hu5]; simp only [nV]; clear kA ch5 r5 or5 hu5)
          obtain ⟨w6, hw6, hB6, hN6, hb6, hs6⟩ : ∃ w6, (w5.alloc (.cells #[.int .i64 (K : Int), .int .i32 (A : Int), .bool N, .int .u8 (G : Int), .slice ad n c, .slice ad2 n2 c2] 123)).alloc (.cells #[.int .i64 4, .int .i32 0, .bool false, .int .u8 0, .slice none 0 0, .slice (some ⟨w5.heap.size, 0, none⟩) 1 1] 123) = w6 ∧ Blk w6 w5.heap.size 123 (nV K A N G (.slice ad n c) (.slice ad2 n2 c2)) ∧ Blk w6 (w5.heap.size + 1) 123 (nV 4 0 false 0 sN (.slice (some ⟨w5.heap.size, 0, none⟩) 1 1)) ∧ Below w5.heap.size w5 w6 ∧ w6.heap.size = w5.heap.size + 2 := two_new w5 123 123 (nV K A N G (.slice ad n c) (.slice ad2 n2 c2)) (nV 4 0 false 0 sN (.slice (some ⟨w5.heap.size, 0, none⟩) 1 1))
          rw [hw6]
          clear hw6
          have H6 := hidden (R5.out.later hb6)
          have B6 := hidden (B5.out.later hb6)
          have C6 := hidden (C5.out.bel hb6)
          have S6 := hidden hB6
          have N6 := hidden hN6
          have hg5 : g < w5.heap.size := R5.out.blk.lt
          have hr5 : w.heap.size < w5.heap.size := B5.out.lt
          obtain ⟨c6, hc6⟩ : ∃ c6, pk X j5 bad5 = c6 := ⟨_, rfl⟩
          have k30 := peekR w6 H6.out c6 hc6
          have HC6 := hidden hc6
          have hj5 : j5 < X.al.length := by
            rcases O5.out with ⟨x, b, q1, q2, q3, q4, q5⟩ | ⟨k, q1, q2, q3⟩
            · exact q4.lt
            · exact q3
          obtain ⟨p5, hp5⟩ : ∃ p, X.al[j5]? = some p := ⟨_, List.getElem?_eq_getElem hj5⟩
          have HP5 := hidden hp5
          have HB6 : Hid (Below w5.heap.size w5 w6) := hidden hb6
          clear hB6 hN6 hb6 hs6 hc6 hp5
          go_upto_if 63 with (go_at_call 79; refine k30.mono ?_; rintro e w7 ⟨rfl, g7⟩; have D7 : Hid (Chg (fun b => b = g) w6 w7) := hidden (Chg.of_below g7); have H7 := hidden (H6.out.later g7); clear k30 g7)
          obtain ⟨bo, hbo⟩ : ∃ bo, (c6 != 41) = bo := ⟨_, rfl⟩
          rw [hbo]
          have HBO := hidden hbo
          clear hbo
          go_cut [] from 64 to 74 (fun wx => Hid (Chg (fun b => b = g) w6 wx) ∧ ∃ (j8 : Nat) (bad8 : Int), Hid (Rr wx g X j8 (d + 1) bad8 ∧ ((∃ l b, rowsF S f (d + 1) (a + 1) = .ok l b ∧ S[b]? = some 41 ∧ bad5 = -1 ∧ bad8 = -1 ∧ AnV (FW ((w2.setCell ⟨g, 2, none⟩ (.int .i64 ((i : Int) + 1))).setCell ⟨g, 3, none⟩ (.int .i64 ((d : Int) + 1))) w5) w5 l u5 ∧ At X S j8 (b + 1) ∧ i < j8) ∨ (∃ k : Nat, R = .bad k ∧ bad8 = (k : Int) ∧ j8 < X.al.length))))
          case first =>
            have k17 := placeR p5 w7 H7.out HP5.out
            have HF : Hid (∀ wx, Below w7.heap.size w7 wx → Calls Tryz.prog 61 #[.pointer (some ⟨g, 0, none⟩), .int .i64 (p5 : Int)] wx fun e w' => e = .returned (.tuple #[]) ∧ Rr w' g X j5 (d + 1) (if bad5 < 0 then (p5 : Int) else bad5) ∧ Chg (fun b => b = g) wx w') := hidden (fun wx hb => failR (p5 : Int) wx (H7.out.later hb))
            cases bo with
            | false =>
              have hcc : c6 = 41 := by simpa using HBO.out
              rcases O5.out with ⟨x, b, q1, q2, q3, q4, q5⟩ | ⟨k, q1, q2, q3⟩
              · have h41 : S[b]? = some 41 := by
                  refine (q4.pk_eq 41 (by decide)).1 ?_
                  rw [q2] at HC6
                  rw [HC6.out, hcc]; rfl
                have HX : Hid (∃ l b, rowsF S f (d + 1) (a + 1) = .ok l b ∧ S[b]? = some 41 ∧ bad5 = -1 ∧ AnV (FW ((w2.setCell ⟨g, 2, none⟩ (.int .i64 ((i : Int) + 1))).setCell ⟨g, 3, none⟩ (.int .i64 ((d : Int) + 1))) w5) w5 l u5 ∧ At X S (j5 + 1) (b + 1) ∧ i < j5 + 1) := hidden ⟨x, b, q1, h41, q2, q3, q4.next 41 (by decide) h41, by omega⟩
                have hj5b : j5 + 1 < X.al.length := (q4.next 41 (by decide) h41).lt
                have e2 : w7.cell? ⟨g, 2, none⟩ = some (.int .i64 (j5 : Int)) := H7.out.blk.cell 2
                have f2 := H7.out.blk.frozen 2
                have HQ2 := hidden q2
                clear q1 q2 q3 q4 h41 k17 HF hcc
                go_wp2_with fail
                go_meet
                obtain ⟨l, b, z1, z2, z3, z4, z5, z6⟩ := HX.out
                have H8 := H7.out.setI (j5 + 1) (by omega)
                exact ⟨hidden (D7.out.put 2 _), j5 + 1, bad5, hidden ⟨H8, .inl ⟨l, b, z1, z2, z3, HQ2.out, z4, z5, z6⟩⟩⟩
              · exfalso
                have := HC6.out
                unfold pk at this
                rw [if_pos (by omega)] at this
                omega
            | true =>
              have hcc : ¬ c6 = 41 := by simpa using HBO.out
              have HX : Hid (∃ k : Nat, R = .bad k ∧ (if bad5 < 0 then (p5 : Int) else bad5) = (k : Int)) := hidden (by
                rcases O5.out with ⟨x, b, q1, q2, q3, q4, q5⟩ | ⟨k, q1, q2, q3⟩
                · have h41 : ¬ S[b]? = some 41 := fun e => hcc (by
                    have := (q4.pk_eq 41 (by decide)).2 e
                    rw [q2] at HC6
                    rw [HC6.out] at this
                    exact this)
                  have hpb : p5 = b := by
                    have := HP5.out
                    rw [q4.al] at this
                    injection this with this
                    exact this.symm
                  exact ⟨b, by rw [HE.out, q1]; simp only; rw [if_neg h41], by rw [if_pos (by omega), hpb]⟩
                · exact ⟨k, by rw [HE.out, q1], by rw [if_neg (by omega), q2]⟩)
              clear hcc
              go_wp2_with (first
                | (go_at_call 62; refine k17.mono ?_; rintro e w8 ⟨rfl, g8⟩; have D8 := hidden (D7.out.bel g8); have k16 := HF.out w8 g8; clear k17 g8 HF)
                | (go_at_call 61; refine k16.mono ?_; rintro e w9 ⟨rfl, g9, d9⟩; have R9 := hidden g9; have D9 := hidden (D8.out.seq d9); clear k16 g9 d9))
              go_meet
              obtain ⟨k, z1, z2⟩ := HX.out
              exact ⟨D9, j5, _, hidden ⟨R9.out, .inr ⟨k, z1, z2, hj5⟩⟩⟩
          case rest =>
            obtain ⟨hD, j8, bad8, h8⟩ := hcut
            rename World => w8
            have R8 := hidden h8.out.1
            have e3 : w8.cell? ⟨g, 3, none⟩ = some (.int .i64 ((d + 1 : Nat) : Int)) := R8.out.blk.cell 3
            have f3 := R8.out.blk.frozen 3
            obtain ⟨w9, hw9⟩ : ∃ w9, w8.setCell ⟨g, 3, none⟩ (.int .i64 (d : Int)) = w9 := ⟨_, rfl⟩
            have HW9 := hidden hw9
            have R9 : Hid (Rr w9 g X j8 d bad8) := hidden (by rw [← hw9]; exact R8.out.setD d (by omega))
            have D9 : Hid (Chg (fun b => b = g) w6 w9) := hidden (by rw [← hw9]; exact hD.out.put 3 _)
            have N9 := hidden (D9.out.blk N6.out (fun e => by have e' : w5.heap.size + 1 = g := e; omega))
            have B9 := hidden (D9.out.blk B6.out hgr)
            have S9 := hidden (D9.out.blk S6.out (fun e => by have e' : w5.heap.size = g := e; omega))
            have C9 := hidden (C6.out.seq D9.out)
            have hdd : ((d : Int) + 1 - 1) = (d : Int) := by omega
            have HH8 := hidden h8.out.2
            clear hw9 hD h8
            go_upto_region 21 with fail
            rw [HW9.out]
            clear HW9 e3 f3
            go_wp2_with (first
              | (refine wpList_load_blk rfl 123 (.tmp 5) rfl (w5.heap.size + 1) N9.out rfl Tryz.underlying123 rfl info70s ?_)
              | (refine wpList_store_blk (l := nV 4 0 false 0 sN (.slice (some ⟨w5.heap.size, 0, none⟩) 1 1)) rfl 123 (.tmp 2) (.tmp 82) rfl rfl w.heap.size B9.out rfl rfl rfl info70s (sh_nV _ _ _ _ _ _ _ _ _ _).one.2 ?_))
            obtain ⟨y1, y2, y3, y4⟩ := fin_store (u := nV 4 0 false 0 sN (.slice (some ⟨w5.heap.size, 0, none⟩) 1 1)) C9.out B9.out (Nat.le_refl _) rfl hgw
            refine bodyPost_ret (res_node2 res48 _ _ w.heap.size _ (sh_nV _ _ _ _ _ _ _ _ _ _) true rfl rfl y1) rfl ?_
            refine ⟨y2, _, true, j8, bad8, rfl, sh_nV _ _ _ _ _ _ _ _ _ _, y4 _ _ _ _ hXr hXa R9.out, ?_⟩
            rcases HH8.out with ⟨l, b, q1, q2, q3, q4, q5, q6, q7⟩ | ⟨k, q1, q2, q3⟩
            · refine .inr (.inl ⟨rfl, q4, HNS.out, .grp l, b + 1, by rw [HE.out, q1]; simp only; rw [if_pos q2], ?_, q6, q7⟩)
              have c56 : Chg (fun b => b = g) w5 w9 := (Chg.of_below HB6.out).seq D9.out
              have c59 : Chg (fun b => b = g ∨ b = w.heap.size) w5 (w9.setCells w.heap.size 0 (nV 4 0 false 0 sN (.slice (some ⟨w5.heap.size, 0, none⟩) 1 1))) := (c56.mono (G := fun b => b = g ∨ b = w.heap.size) (fun _ _ h => .inl h)).trans y3 (fun _ _ h => .inr h)
              have hlow : ∀ b, FW ((w2.setCell ⟨g, 2, none⟩ (.int .i64 ((i : Int) + 1))).setCell ⟨g, 3, none⟩ (.int .i64 ((d : Int) + 1))) w5 b → w.heap.size < b := fun b hb => Nat.lt_of_lt_of_le B4.out.lt hb.1
              obtain ⟨ad7, c7, b7, off7, z1, z2, z3⟩ := (q5.keep c59 (fun b hb e => by
                have := hlow b hb
                rcases e with e | e <;> omega)).mono (G := FW w (w9.setCells w.heap.size 0 (nV 4 0 false 0 sN (.slice (some ⟨w5.heap.size, 0, none⟩) 1 1)))) (fun b hb => ⟨Nat.le_of_lt (hlow b hb), Nat.lt_of_lt_of_le hb.2 c59.size⟩)
              simp only [NdV]
              have s10 := y3.blk S9.out (fun e => by have e' : w5.heap.size = w.heap.size := e; omega)
              refine ⟨w5.heap.size, 0, 1, ad7, c7, b7, off7, rfl, ⟨by omega, s10.lt⟩, ?_, z2, z3⟩
              have hu : nV K A N G (.slice ad n c) (.slice ad2 n2 c2) = nV 7 0 false 0 sN (.slice ad7 l.length c7) := by rw [← HU5.out]; exact z1
              rw [hu] at s10
              exact fun j x hx => by rw [Nat.zero_add, s10.cell]; exact hx
            · exact .inr (.inr ⟨HNS.out, k, q1, q2, q3⟩)
        · have hd0 : d = 16 := by omega
          subst hd0
          have HE : Hid (R = .bad a) := hidden (by rw [← HR.out, at_grp16 h40 hd16])
          have k17 := placeR a w2 H2.out HA.out.al
          clear h40 HP HPN HR
          go_wp2_with (first
            | (go_at_call 62; refine k17.mono ?_; rintro e w3 ⟨rfl, g3⟩; have H3 := hidden (H2.out.later g3); have B3 := hidden (B2.out.later g3); have C3 := hidden (C2.out.bel g3); have k16 := failR (a : Int) w3 H3.out; rw [if_pos (by omega)] at k16; clear k17 g3)
            | (go_at_call 61; refine k16.mono ?_; rintro e w4 ⟨rfl, g4, d4⟩; have H4 := hidden g4; have B4 := hidden (d4.blk B3.out hgr); have C4 := hidden (C3.out.seq d4); clear k16 g4 d4)
            | (refine wpList_store_blk (l := nV 0 0 false 0 sN sN) rfl 123 (.tmp 2) (.tmp 41) rfl rfl w.heap.size B4.out rfl rfl rfl info70s (sh_nV _ _ _ _ _ _ _ _ _ _).one.2 ?_))
          obtain ⟨y1, y2, y3, y4⟩ := fin_store (u := nV 0 0 false 0 sN sN) C4.out B4.out (Nat.le_refl _) rfl hgw
          refine bodyPost_ret (res_node2 res48 _ _ w.heap.size _ (sh_nV _ _ _ _ _ _ _ _ _ _) false rfl rfl y1) rfl ?_
          exact ⟨y2, _, false, i, a, rfl, sh_nV _ _ _ _ _ _ _ _ _ _, y4 _ _ _ _ hXr hXa H4.out, .inr (.inr ⟨HNS.out, a, HE.out, rfl, hal⟩)⟩
      · have hc40 : ¬ c0 = 40 := fun e => h40 ((HP.out 40 (by decide)).1 e)
        by_cases hst : Stop S a
        · have hc3 : c0 = -1 ∨ c0 = 41 ∨ c0 = 124 := by
            rcases hst with e | e | e
            · exact .inl (HPN.out.2 e)
            · exact .inr (.inr ((HP.out 124 (by decide)).2 e))
            · exact .inr (.inl ((HP.out 41 (by decide)).2 e))
          have HST := hidden hst
          clear hst HP HPN HR
          rcases hc3 with rfl | rfl | rfl
          all_goals
            go_wp2_with (refine wpList_store_blk (l := nV 0 0 false 0 sN sN) rfl 123 (.tmp 2) (.tmp 87) rfl rfl w.heap.size B2.out rfl rfl rfl info70s (sh_nV _ _ _ _ _ _ _ _ _ _).one.2 ?_)
            obtain ⟨y1, y2, y3, y4⟩ := fin_store (u := nV 0 0 false 0 sN sN) C2.out B2.out (Nat.le_refl _) rfl hgw
            refine bodyPost_ret (res_node2 res48 _ _ w.heap.size _ (sh_nV _ _ _ _ _ _ _ _ _ _) false rfl rfl y1) rfl ?_
            exact ⟨y2, _, false, i, -1, rfl, sh_nV _ _ _ _ _ _ _ _ _ _, y4 _ _ _ _ hXr hXa H2.out, .inl ⟨rfl, rfl, HST.out, HA.out, Nat.le_refl _⟩⟩
        · have hcm : ¬ c0 = -1 := fun e => hst (.inl (HPN.out.1 e))
          have hc41 : ¬ c0 = 41 := fun e => hst (.inr (.inr ((HP.out 41 (by decide)).1 e)))
          have hc124 : ¬ c0 = 124 := fun e => hst (.inr (.inl ((HP.out 124 (by decide)).1 e)))
          have HNS := hidden hst
          have HE : Hid (R = match charF S a with
            | .ok c b => .ok (.chr c) b
            | .bad k => .bad k
            | .out => .out) := hidden (HR.out.symm.trans (at_chr h46 h91 h40))
          have k65 := charR2 w2 H2.out HA.out
          clear hst HP HPN HR h46 h91 h40
          go_wp2_with (first
            | (go_at_call 104; refine k65.mono ?_; rintro e w4 ⟨cc, j4, bad4, rfl, ch4, hQ⟩; have B4 := hidden (ch4.blk B2.out hgr); have C4 := hidden (C2.out.seq ch4); have Q4 := hidden hQ; clear k65 ch4 hQ)
            | (refine wpList_store_blk (l := nV 1 cc false 0 sN sN) rfl 123 (.tmp 2) (.tmp 90) rfl rfl w.heap.size B4.out rfl rfl rfl info70s (sh_nV _ _ _ _ _ _ _ _ _ _).one.2 ?_))
          obtain ⟨y1, y2, y3, y4⟩ := fin_store (u := nV 1 cc false 0 sN sN) C4.out B4.out (Nat.le_refl _) rfl hgw
          refine bodyPost_ret (res_node2 res48 _ _ w.heap.size _ (sh_nV _ _ _ _ _ _ _ _ _ _) true rfl rfl y1) rfl ?_
          refine ⟨y2, _, true, j4, bad4, rfl, sh_nV _ _ _ _ _ _ _ _ _ _, y4 _ _ _ _ hXr hXa Q4.out.1, ?_⟩
          rcases Q4.out.2.2 with ⟨b, q1, q2, q3, q4, q5⟩ | ⟨k, q1, q2, q3⟩
          · exact .inr (.inl ⟨rfl, q2, HNS.out, .chr cc, b, by rw [HE.out, q1], by simp only [NdV]; exact ⟨rfl, q4⟩, q3, q5⟩)
          · exact .inr (.inr ⟨HNS.out, k, by rw [HE.out, q1], q2, q3⟩)

end Go.Proofs.YtanlgplgplncdaaGreatDoor
