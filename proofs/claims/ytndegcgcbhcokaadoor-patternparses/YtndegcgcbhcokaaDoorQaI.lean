import Derived.Test.YtndegcgcbhcokaaDoorQaG
import Derived.Test.YtndegcgcbhcokaaDoorPuI
/-
  The document's reader: row's walk.
-/
namespace Go.Proofs.YtndegcgcbhcokaaDoor
open Go.RowKit
set_option linter.unusedVariables false
set_option linter.unusedSimpArgs false

theorem RJ.finRow {w wx : World} {g gr gn : Nat} {ad : Option Addr} {n c : Nat} {us : List (List Value)} {F : Nat → Prop} {acc : List Pt} {P : Prop} (h : RJ 6 NdV w wx g gr gn ad n c us F acc P) (hp : P) (v : List Value) : RwV (FW w (wx.setCells gr 0 v)) (wx.setCells gr 0 v) acc (nV 6 0 false 0 sN (.slice ad n c)) := by
  have cs := Chg.sets gr v 0 wx
  obtain ⟨hl, hn⟩ := h.nds hp
  by_cases h0 : us = []
  · have ha : acc = [] := List.eq_nil_of_length_eq_zero (by rw [hl, ← h.len, h0]; rfl)
    subst ha
    exact ⟨ad, c, 0, 0, by rw [← hl], fun e => absurd rfl e, by simp only [NdsV]⟩
  · obtain ⟨b, e, h1, h2, h3, h4, h5⟩ := h.spots h0
    refine ⟨ad, c, b, 0, by rw [hl], fun _ => ⟨e, h1, by have := cs.size; omega⟩, nds_of acc us 0 (by rw [hl, h.len]) (fun i u hu => (h5 i u hu).keep cs h3) (fun i p u hi hu => ?_)⟩
    refine NdV.mono (fun b hb => ?_) p u (NdV.keep cs (fun b hb e => (h.fb b hb).2.2.1 e) p u (hn i p u hi hu))
    have := h.fb b hb
    have := cs.size
    exact ⟨by omega, by omega⟩
/-- How the reader stands in a round of row where all is well. -/
def RG (wx : World) (g : Nat) (X : Rx) (S : List UInt8) (i d n N : Nat) (R : Pr (List Pt)) (acc : List Pt) : Prop :=
  ∃ j b f, Rr wx g X j d (-1) ∧ At X S j b ∧ appP acc (rowF S f d b) = R ∧ f ≤ N ∧ i ≤ j ∧ n ≤ j
def RB {α : Type} (wx : World) (g : Nat) (X : Rx) (d : Nat) (R : Pr α) : Prop := ∃ j k : Nat, Rr wx g X j d (k : Int) ∧ R = .bad k ∧ j < X.al.length

/-- What stands ahead of the append in a round of row. -/
def RA (w wx wr : World) (g g4 : Nat) (X : Rx) (S : List UInt8) (j d f1 : Nat) (ad : Option Addr) (n c : Nat) (us : List (List Value)) (F : Nat → Prop) (R : Pr (List Pt)) (acc : List Pt) : Prop :=
  ∃ u3 F3 p, Sh u3 ∧ Blk wx g4 70 u3 ∧ RJ 6 NdV w wx g w.heap.size (w.heap.size + 1) ad n c us F acc True ∧ (∀ b, F3 b → w.heap.size ≤ b ∧ b < wx.heap.size ∧ b ≠ w.heap.size ∧ b ≠ w.heap.size + 1 ∧ (Value.slice ad n c).ownBlock ≠ some b) ∧ ((∃ j3 b3, Rr wx g X j3 d (-1) ∧ At X S j3 b3 ∧ NdV F3 wx p u3 ∧ appP (acc ++ [p]) (rowF S f1 d b3) = R ∧ j < j3) ∨ RB wx g X d R)

set_option maxRecDepth 100000 in
set_option maxHeartbeats 0 in
theorem row_of_atom (N : Nat) (hAT : ∀ f, f < N → AtC f) : RoC N := by
  intro g X S i d a w h hA hXr hXa hd hno
  have hgw : g < w.heap.size := h.blk.lt
  have hi := h.sz.2.2.1
  have hal := hA.lt
  have hal2 := h.sz.2.1
  obtain ⟨R, hR⟩ : ∃ R, rowF S N d a = R := ⟨_, rfl⟩
  rw [hR] at hno ⊢
  have HNO := hidden hno
  have HAT := hidden hAT
  obtain ⟨w1, hw1, hB2, hB3, hbel, hsz⟩ : ∃ w1, (w.alloc (.cells #[.int .i64 0, .int .i32 0, .bool false, .int .u8 0, .slice none 0 0, .slice none 0 0] 70)).alloc (.cells #[.int .i64 6, .int .i32 0, .bool false, .int .u8 0, .slice none 0 0, .slice none 0 0] 70) = w1 ∧ Blk w1 w.heap.size 70 (nV 0 0 false 0 sN sN) ∧ Blk w1 (w.heap.size + 1) 70 (nV 6 0 false 0 sN sN) ∧ Below w.heap.size w w1 ∧ w1.heap.size = w.heap.size + 2 := two_new w 70 70 (nV 0 0 false 0 sN sN) (nV 6 0 false 0 sN sN)
  have HJ : Hid (RJ 6 NdV w w1 g w.heap.size (w.heap.size + 1) none 0 0 [] (fun _ => False) [] True) := hidden ⟨Chg.of_below hbel, hB2, hB3, rfl, World.ownsRow_nil _ _ _ _, (fun u hu => by cases hu), ⟨Nat.le_refl _, by omega, by omega, by simp [Value.ownBlock], by simp [Value.ownBlock]⟩, (fun b hb => hb.elim), fun _ => ⟨rfl, fun i p u hp => by simp at hp⟩⟩
  have HG : Hid (RG w1 g X S i d 0 N R []) := hidden ⟨i, a, N, h.later hbel, hA, by rw [hR]; cases R <;> rfl, Nat.le_refl _, Nat.le_refl _, Nat.zero_le _⟩
  have HW1 := hidden hw1
  clear hR hno h hA hw1 hB2 hB3 hbel hsz hAT
  obtain ⟨M, hM⟩ : ∃ M, X.al.length = M := ⟨_, rfl⟩
  have HM := hidden hM
  go_enter Tryd.func29, Tryd.ntmps29
  go_wp2_with fail
  rw [HW1.out]
  clear HW1
  go_loopw [] (fun wx => ∃ (ad : Option Addr) (n c : Nat), n ≤ 1002 ∧ Hid (∃ us F acc, (RJ 6 NdV w wx g w.heap.size (w.heap.size + 1) ad n c us F acc True ∧ RG wx g X S i d n N R acc) ∨ (RJ 6 NdV w wx g w.heap.size (w.heap.size + 1) ad n c us F acc False ∧ RB wx g X d R))) (fun wx => rrM g M wx)
  case atStart => exact ⟨none, 0, 0, by omega, hidden ⟨[], _, [], .inl ⟨HJ.out, HG.out⟩⟩⟩
  case round =>
    rename World => wr
    obtain ⟨ad, n, c, hn2, hex⟩ := hrel
    clear HJ HG
    obtain ⟨us, F, acc, hor⟩ := hex.out
    clear hex
    rcases hor with ⟨hJ, j, b, f, r1, r2, r3, r4, r5, r6⟩ | ⟨hJ, j, k, r1, r2, r3⟩
    · have hjl := r2.lt
      have c4 : wr.cell? ⟨g, 4, none⟩ = some (.int .i64 (-1)) := r1.blk.cell 4
      obtain ⟨f1, rfl, hf2⟩ := row_steps r3 HNO.out
      have hsw : w.heap.size + 2 ≤ wr.heap.size := hJ.nod.lt
      have kA := HAT.out (f1 - 1) (by omega) g X S j d b wr r1 r2 (by omega) (by omega) hd (fun hs => by obtain ⟨f2, e, hh⟩ := hf2 hs; rw [e]; exact hh)
      have HM0 : Hid (rrM g M wr = M + 1 - j) := hidden (by rw [r1.m]; simp)
      have HJ := hidden hJ
      have H3 := hidden r3
      have HF2 := hidden hf2
      clear hJ r1 r2 r3 hf2
      go_upto_region 4 with (go_at_call 48; refine kA.mono ?_; rintro e w2 ⟨ch2, u2, is, j2, bad2, rfl, sh2, rr2, or2⟩; have J2 := hidden (HJ.out.later vk_nd hgw ch2); have R2 := hidden rr2; have O2 := hidden or2; have HC2 := hidden ch2; obtain ⟨K, A, N', G, ad1, n1, c1, ad2, n2, c2, hu2⟩ := sh2; have HU2 := hidden hu2; rw [hu2]; simp only [nV]; clear kA ch2 rr2 or2 hu2)
      obtain ⟨w3, hw3, hB4, hb3, hs3⟩ : ∃ w3, w2.alloc (.cells #[.int .i64 (K : Int), .int .i32 (A : Int), .bool N', .int .u8 (G : Int), .slice ad1 n1 c1, .slice ad2 n2 c2] 70) = w3 ∧ Blk w3 w2.heap.size 70 (nV K A N' G (.slice ad1 n1 c1) (.slice ad2 n2 c2)) ∧ Below w2.heap.size w2 w3 ∧ w3.heap.size = w2.heap.size + 1 := one_new w2 70 (nV K A N' G (.slice ad1 n1 c1) (.slice ad2 n2 c2))
      rw [hw3]
      clear hw3
      have J3 := hidden (J2.out.later vk_nd hgw (Chg.of_below hb3))
      have R3 := hidden (R2.out.later hb3)
      have B3 := hidden hB4
      have HB3 := hidden hb3
      have h22 : wr.heap.size ≤ w2.heap.size := HC2.out.size
      clear hB4 hb3 hs3
      cases is with
      | false =>
        have HX : Hid ((R = .ok acc b ∧ bad2 = -1 ∧ At X S j2 b ∧ j ≤ j2) ∨ (∃ k : Nat, R = .bad k ∧ bad2 = (k : Int) ∧ j2 < X.al.length)) := hidden (by
          rcases O2.out with ⟨_, q1, q2, q3, q4⟩ | ⟨q0, _⟩ | ⟨q1, k, q2, q3, q4⟩
          · exact .inl ⟨by rw [← H3.out, row_stop q2], q1, q3, q4⟩
          · cases q0
          · obtain ⟨f2, e, hh⟩ := HF2.out q1
            subst e
            exact .inr ⟨k, H3.out.symm.trans (row_fail q1 (item_bad q2)), q3, q4⟩)
        clear H3 HF2 J2
        go_wp2_with (first
          | (refine wpList_load_blk rfl 70 (.tmp 3) rfl (w.heap.size + 1) J3.out.nod rfl Tryd.underlying70 rfl info70s ?_)
          | (refine wpList_store_blk (l := nV 6 0 false 0 sN (.slice ad n c)) rfl 70 (.tmp 2) (.tmp 20) rfl rfl w.heap.size J3.out.res rfl rfl rfl info70s (sh_nV _ _ _ _ _ _ _ _ _ _).one.2 ?_))
        obtain ⟨y1, y2, y3, y4⟩ := fin_store (u := nV 6 0 false 0 sN (.slice ad n c)) J3.out.chg J3.out.res (Nat.le_refl _) rfl hgw
        refine bodyPost_ret (res_node res29 _ _ w.heap.size _ (sh_nV _ _ _ _ _ _ _ _ _ _) rfl y1) rfl ?_
        refine ⟨y2, _, j2, bad2, rfl, sh_nV _ _ _ _ _ _ _ _ _ _, y4 _ _ _ _ hXr hXa R3.out, ?_⟩
        rcases HX.out with ⟨q1, q2, q3, q4⟩ | ⟨k, q1, q2, q3⟩
        · exact .inl ⟨acc, b, q1, q2, J3.out.finRow trivial _, q3, by omega⟩
        · exact .inr ⟨k, q1, q2, q3⟩
      | true =>
        obtain ⟨c6, hc6⟩ : ∃ c6, pk X j2 bad2 = c6 := ⟨_, rfl⟩
        have k30 := peekR w3 R3.out c6 hc6
        have HC6 := hidden hc6
        clear hc6
        go_upto_region 7 with (go_at_call 30; refine k30.mono ?_; rintro e w4 ⟨rfl, g4⟩; have J4 := hidden (J3.out.later vk_nd hgw (Chg.of_below g4)); have R4 := hidden (R3.out.later g4); have B4 := hidden (B3.out.later g4); have HB4 := hidden (HB3.out.trans (g4.mono HB3.out.size)); clear k30 g4)
        go_cut [32] from 8 to 50 (fun s wx => s = .bool (decide (c6 = 42 ∨ c6 = 43 ∨ c6 = 63)) ∧ wx = w4)
        case first =>
          by_cases h42 : c6 = 42
          · subst h42
            go_wp2_with fail
            go_meet
            exact ⟨by simp, rfl⟩
          · by_cases h43 : c6 = 43
            · subst h43
              go_wp2_with fail
              go_meet
              exact ⟨by simp, rfl⟩
            · by_cases h63 : c6 = 63
              · subst h63
                go_wp2_with fail
                go_meet
                exact ⟨by simp, rfl⟩
              · go_wp2_with fail
                go_meet
                exact ⟨by simp [h42, h43, h63], rfl⟩
        case rest =>
          obtain ⟨rfl, hwc⟩ := hcut
          obtain rfl := hwc.symm
          clear hwc
          obtain ⟨sg, hsg⟩ : ∃ sg, decide (c6 = 42 ∨ c6 = 43 ∨ c6 = 63) = sg := ⟨_, rfl⟩
          rw [hsg]
          have HSG := hidden hsg
          clear hsg
          have hoff : Hid (∀ x, (Value.slice ad n c).ownBlock = some x → x < wr.heap.size) := hidden (fun x hx => owns_lt HJ.out.own x hx)
          have hFW : Hid (∀ b, FW wr w2 b → w.heap.size ≤ b ∧ b < w4.heap.size ∧ b ≠ w.heap.size ∧ b ≠ w.heap.size + 1 ∧ (Value.slice ad n c).ownBlock ≠ some b) := hidden (fun b hb => by
            have h1 := hb.1
            have h2 := hb.2
            have h3 := HB4.out.size
            exact ⟨by omega, by omega, by omega, by omega, fun e => by have := hoff.out b e; omega⟩)
          go_upto_if 32 with fail
          go_cut [] from 8 to 50 (fun wx => Hid (RA w wx wr g w2.heap.size X S j d f1 ad n c us F R acc))
          case first =>
            cases sg with
            | true =>
              have hs3 := of_decide_eq_true HSG.out
              have hbad : bad2 = -1 := by
                rcases O2.out with ⟨q0, _⟩ | ⟨_, q1, _⟩ | ⟨q1, k, q2, q3, q4⟩
                · cases q0
                · exact q1
                · exfalso
                  have := HC6.out
                  unfold pk at this
                  rw [if_pos (by omega)] at this
                  omega
              subst hbad
              obtain ⟨x, hx3, hxc⟩ : ∃ x : UInt8, (x = 42 ∨ x = 43 ∨ x = 63) ∧ c6 = (x.toNat : Int) := by
                rcases hs3 with e | e | e
                · exact ⟨42, .inl rfl, e⟩
                · exact ⟨43, .inr (.inl rfl), e⟩
                · exact ⟨63, .inr (.inr rfl), e⟩
              have hx128 : x.toNat < 128 := by rcases hx3 with rfl | rfl | rfl <;> decide
              have HO : Hid (∃ p b1, NdV (FW wr w2) w2 p u2 ∧ At X S (j2 + 1) (b1 + 1) ∧ j < j2 ∧ appP (acc ++ [.rep p x.toNat]) (rowF S f1 d (b1 + 1)) = R) := hidden (by
                rcases O2.out with ⟨q0, _⟩ | ⟨_, q1, q2, p, b1, q3, q4, q5, q6⟩ | ⟨q1, k, q2, q3, q4⟩
                · cases q0
                · obtain ⟨f2, e, hh⟩ := HF2.out q2
                  subst e
                  have hS : S[b1]? = some x := (q5.pk_eq x hx128).1 (by rw [HC6.out, hxc])
                  exact ⟨p, b1, q4, q5.next x hx128 hS, q6, (row_more q2 (item_rep q3 x hx3 hS)).symm.trans H3.out⟩
                · omega)
              have hj2 : j2 + 1 < X.al.length := by
                obtain ⟨p, b1, q1, q2, q3, q4⟩ := HO.out
                exact q2.lt
              have e2 : w4.cell? ⟨g, 2, none⟩ = some (.int .i64 (j2 : Int)) := R4.out.blk.cell 2
              have f2 := R4.out.blk.frozen 2
              have h42 : w2.heap.size < w4.heap.size := B4.out.lt
              have R5 : Hid (Rr (w4.setCell ⟨g, 2, none⟩ (.int .i64 ((j2 : Int) + 1))) g X (j2 + 1) d (-1)) := hidden (R4.out.setI (j2 + 1) (by omega))
              have C5 : Hid (Chg (fun b => b = g) w4 (w4.setCell ⟨g, 2, none⟩ (.int .i64 ((j2 : Int) + 1)))) := hidden (Chg.set ⟨g, 2, none⟩ _ w4)
              have hg2 : ¬ w2.heap.size = g := by omega
              have B5 : Hid (Blk (w4.setCell ⟨g, 2, none⟩ (.int .i64 ((j2 : Int) + 1))) w2.heap.size 70 (nV K A N' G (.slice ad1 n1 c1) (.slice ad2 n2 c2))) := hidden (B4.out.setOff _ _ hg2)
              have B6 : Hid (Blk ((w4.setCell ⟨g, 2, none⟩ (.int .i64 ((j2 : Int) + 1))).alloc (.cells #[.int .i64 (K : Int), .int .i32 (A : Int), .bool N', .int .u8 (G : Int), .slice ad1 n1 c1, .slice ad2 n2 c2] 70)) w2.heap.size 70 (nV K A N' G (.slice ad1 n1 c1) (.slice ad2 n2 c2))) := hidden (B5.out.alloc _)
              have S6 : Hid (Blk ((w4.setCell ⟨g, 2, none⟩ (.int .i64 ((j2 : Int) + 1))).alloc (.cells #[.int .i64 (K : Int), .int .i32 (A : Int), .bool N', .int .u8 (G : Int), .slice ad1 n1 c1, .slice ad2 n2 c2] 70)) w4.heap.size 70 (nV K A N' G (.slice ad1 n1 c1) (.slice ad2 n2 c2))) := hidden (by
                have := Blk.new (w4.setCell ⟨g, 2, none⟩ (.int .i64 ((j2 : Int) + 1))) 70 (nV K A N' G (.slice ad1 n1 c1) (.slice ad2 n2 c2))
                rw [show (w4.setCell ⟨g, 2, none⟩ (.int .i64 ((j2 : Int) + 1))).heap.size = w4.heap.size by simp] at this
                exact this)
              have HFIN : Hid (∀ v : List Value, v = nV 5 0 false x.toNat sN (.slice (some ⟨w4.heap.size, 0, none⟩) 1 1) → RA w (((w4.setCell ⟨g, 2, none⟩ (.int .i64 ((j2 : Int) + 1))).alloc (.cells #[.int .i64 (K : Int), .int .i32 (A : Int), .bool N', .int .u8 (G : Int), .slice ad1 n1 c1, .slice ad2 n2 c2] 70)).setCells w2.heap.size 0 v) wr g w2.heap.size X S j d f1 ad n c us F R acc) := hidden (by
                rintro v rfl
                have cs := Chg.sets w2.heap.size (nV 5 0 false x.toNat sN (.slice (some ⟨w4.heap.size, 0, none⟩) 1 1)) 0 ((w4.setCell ⟨g, 2, none⟩ (.int .i64 ((j2 : Int) + 1))).alloc (.cells #[.int .i64 (K : Int), .int .i32 (A : Int), .bool N', .int .u8 (G : Int), .slice ad1 n1 c1, .slice ad2 n2 c2] 70))
                have ca : Chg (fun b => b = g) w4 ((w4.setCell ⟨g, 2, none⟩ (.int .i64 ((j2 : Int) + 1))).alloc (.cells #[.int .i64 (K : Int), .int .i32 (A : Int), .bool N', .int .u8 (G : Int), .slice ad1 n1 c1, .slice ad2 n2 c2] 70)) := C5.out.seq (Chg.alloc _ _ _)
                have cc := (ca.mono (G := fun b => b = g ∨ b = w2.heap.size) (fun _ _ h => .inl h)).trans cs (fun _ _ h => .inr h)
                have jj := J4.out.change vk_nd cc (fun b e hb => by rcases e with e | e; exact e; omega) (fun e => by rcases e with e | e <;> omega) (fun e => by rcases e with e | e <;> omega) (fun b hb e => by
                  have h1 := hoff.out b hb
                  have h2 := (HJ.out.own.lt b hb).1
                  rcases e with e | e <;> omega) (fun b hb e => by
                  have h1 := J2.out.fb b hb
                  rcases e with e | e <;> omega)
                have r7 := (R5.out.chg (Chg.alloc (fun _ => False) _ (.cells #[.int .i64 (K : Int), .int .i32 (A : Int), .bool N', .int .u8 (G : Int), .slice ad1 n1 c1, .slice ad2 n2 c2] 70)) (fun h => h) (fun h => h) (fun h => h)).chg cs (fun e => hg2 e.symm) (fun e => by have e' : X.rb = w2.heap.size := e; omega) (fun e => by have e' : X.ab = w2.heap.size := e; omega)
                obtain ⟨p, b1, z1, z2, z3, z4⟩ := HO.out
                have c27 : Chg (fun b => b = g ∨ b = w2.heap.size) w2 _ := (Chg.of_below HB4.out).seq cc
                have hsz := cc.size
                have s7 := cs.blk S6.out (fun e => by have e' : w4.heap.size = w2.heap.size := e; omega)
                have hs7 := s7.lt
                refine ⟨_, fun b => FW wr w2 b ∨ b = w4.heap.size, .rep p x.toNat, sh_nV _ _ _ _ _ _ _ _ _ _, blk_stored B6.out rfl, jj, fun b hb => ?_, .inl ⟨j2 + 1, b1 + 1, r7, z2, ?_, z4, by omega⟩⟩
                · rcases hb with hb | hb
                  · obtain ⟨h1, h2, h3, h4, h5⟩ := hFW.out b hb
                    exact ⟨h1, by omega, h3, h4, h5⟩
                  · subst hb
                    exact ⟨by omega, hs7, by omega, by omega, fun e => by have := hoff.out _ e; omega⟩
                · simp only [NdV]
                  refine ⟨w4.heap.size, 0, 1, u2, rfl, .inr rfl, fun j y hy => ?_, NdV.mono (fun b hb => .inl hb) p u2 (NdV.keep c27 (fun b hb e => ?_) p u2 z1)⟩
                  · rw [HU2.out] at hy
                    rw [Nat.zero_add, s7.cell]
                    exact hy
                  · have h1 := hb.1
                    have h2 := hb.2
                    rcases e with e | e <;> omega)
              rcases hx3 with rfl | rfl | rfl
              · clear hs3
                obtain rfl : c6 = 42 := hxc
                go_wp2_with (first
                  | (refine wpList_load_blk rfl 70 (.tmp 4) rfl w2.heap.size B5.out rfl Tryd.underlying70 rfl info70s ?_; simp only [nV])
                  | (refine wpList_store_blk (l := nV 5 0 false 42 sN (.slice (some ⟨w4.heap.size, 0, none⟩) 1 1)) rfl 70 (.tmp 4) (.tmp 44) rfl rfl w2.heap.size B6.out rfl rfl rfl info70s (sh_nV _ _ _ _ _ _ _ _ _ _).one.2 ?_))
                go_meet
                exact hidden (HFIN.out _ (by rfl))
              · clear hs3
                obtain rfl : c6 = 43 := hxc
                go_wp2_with (first
                  | (refine wpList_load_blk rfl 70 (.tmp 4) rfl w2.heap.size B5.out rfl Tryd.underlying70 rfl info70s ?_; simp only [nV])
                  | (refine wpList_store_blk (l := nV 5 0 false 43 sN (.slice (some ⟨w4.heap.size, 0, none⟩) 1 1)) rfl 70 (.tmp 4) (.tmp 44) rfl rfl w2.heap.size B6.out rfl rfl rfl info70s (sh_nV _ _ _ _ _ _ _ _ _ _).one.2 ?_))
                go_meet
                exact hidden (HFIN.out _ (by rfl))
              · clear hs3
                obtain rfl : c6 = 63 := hxc
                go_wp2_with (first
                  | (refine wpList_load_blk rfl 70 (.tmp 4) rfl w2.heap.size B5.out rfl Tryd.underlying70 rfl info70s ?_; simp only [nV])
                  | (refine wpList_store_blk (l := nV 5 0 false 63 sN (.slice (some ⟨w4.heap.size, 0, none⟩) 1 1)) rfl 70 (.tmp 4) (.tmp 44) rfl rfl w2.heap.size B6.out rfl rfl rfl info70s (sh_nV _ _ _ _ _ _ _ _ _ _).one.2 ?_))
                go_meet
                exact hidden (HFIN.out _ (by rfl))
            | false =>
              have hns : ¬ (c6 = 42 ∨ c6 = 43 ∨ c6 = 63) := of_decide_eq_false HSG.out
              have HRA : Hid (RA w w4 wr g w2.heap.size X S j d f1 ad n c us F R acc) := hidden (by
                rcases O2.out with ⟨q0, _⟩ | ⟨_, q1, q2, p, b1, q3, q4, q5, q6⟩ | ⟨q1, k, q2, q3, q4⟩
                · cases q0
                · obtain ⟨f2, e, hh⟩ := HF2.out q2
                  subst e
                  have hpk : ∀ x : UInt8, x.toNat < 128 → S[b1]? = some x → c6 = (x.toNat : Int) := fun x hx e => by
                    rw [← HC6.out, q1]; exact (q5.pk_eq x hx).2 e
                  refine ⟨u2, FW wr w2, p, q4.sh, by rw [HU2.out]; exact B4.out, J4.out, hFW.out, .inl ⟨j2, b1, by rw [q1] at R4; exact R4.out, q5, ?_, ?_, q6⟩⟩
                  · exact NdV.keep (Chg.of_below (F := fun _ => False) HB4.out) (fun _ _ h => h) p u2 q4
                  · rw [← H3.out]
                    exact (row_more q2 (item_one q3 (fun e => hns (.inl (hpk 42 (by decide) e))) (fun e => hns (.inr (.inl (hpk 43 (by decide) e)))) (fun e => hns (.inr (.inr (hpk 63 (by decide) e)))))).symm
                · obtain ⟨f2, e, hh⟩ := HF2.out q1
                  subst e
                  refine ⟨u2, FW wr w2, .any, by rw [HU2.out]; exact sh_nV _ _ _ _ _ _ _ _ _ _, by rw [HU2.out]; exact B4.out, J4.out, hFW.out, .inr ⟨j2, k, by rw [q3] at R4; exact R4.out, H3.out.symm.trans (row_fail q1 (item_bad q2)), q4⟩⟩)
              clear hns
              go_wp2_with fail
              go_meet
              exact HRA
          case rest =>
            rename World => wc
            obtain ⟨u3, F3, p, sh3, hb3, hj3, hf3, hor3⟩ := hcut.out
            clear hcut
            obtain ⟨K3, A3, N3, G3, a31, n31, c31, a32, n32, c32, rfl⟩ := sh3
            obtain ⟨i0, hi0, hz0, hz1, hz2⟩ := info_parts info70n
            have HI := hidden hi0
            have HOW := hidden hj3.own
            have BC := hidden hb3
            have d5 : wc.cell? ⟨w.heap.size + 1, 5, none⟩ = some (.slice ad n c) := hj3.nod.cell 5
            have HCN : Hid (∀ j u, (nV K3 A3 N3 G3 (.slice a31 n31 c31) (.slice a32 n32 c32))[j]? = some u → (wc.alloc (.cells #[.int .i64 (K3 : Int), .int .i32 (A3 : Int), .bool N3, .int .u8 (G3 : Int), .slice a31 n31 c31, .slice a32 n32 c32] 70)).cell? ((⟨wc.heap.size, 0, none⟩ : Addr).add j) = some u) := hidden (fun j u hu => by
              have := (Blk.new wc 70 (nV K3 A3 N3 G3 (.slice a31 n31 c31) (.slice a32 n32 c32))).cell (0 + j)
              rw [Addr.add_lit]
              refine this.trans ?_
              rw [Nat.zero_add]
              exact hu)
            have HBS : Hid (w.heap.size ≤ wc.heap.size) := hidden hj3.chg.size
            have HPU : Hid (∀ g6 c6 w6, w6.ownsRow w.heap.size 70 6 (.slice (some ⟨g6, 0, none⟩) (n + 1) c6) (n + 1) (cN us ++ nV K3 A3 N3 G3 (.slice a31 n31 c31) (.slice a32 n32 c32)) → Pushed (wc.alloc (.cells #[.int .i64 (K3 : Int), .int .i32 (A3 : Int), .bool N3, .int .u8 (G3 : Int), .slice a31 n31 c31, .slice a32 n32 c32] 70)) w6 (.slice ad n c) g6 → w6.cell? ⟨w.heap.size + 1, 5, none⟩ = some (.slice ad n c) ∧ w6.frozen? ⟨w.heap.size + 1, 5, none⟩ = false ∧ (∃ us F acc, (RJ 6 NdV w (w6.setCell ⟨w.heap.size + 1, 5, none⟩ (.slice (some ⟨g6, 0, none⟩) (n + 1) c6)) g w.heap.size (w.heap.size + 1) (some ⟨g6, 0, none⟩) (n + 1) c6 us F acc True ∧ RG (w6.setCell ⟨w.heap.size + 1, 5, none⟩ (.slice (some ⟨g6, 0, none⟩) (n + 1) c6)) g X S i d (n + 1) N R acc) ∨ (RJ 6 NdV w (w6.setCell ⟨w.heap.size + 1, 5, none⟩ (.slice (some ⟨g6, 0, none⟩) (n + 1) c6)) g w.heap.size (w.heap.size + 1) (some ⟨g6, 0, none⟩) (n + 1) c6 us F acc False ∧ RB (w6.setCell ⟨w.heap.size + 1, 5, none⟩ (.slice (some ⟨g6, 0, none⟩) (n + 1) c6)) g X d R)) ∧ rrM g M (w6.setCell ⟨w.heap.size + 1, 5, none⟩ (.slice (some ⟨g6, 0, none⟩) (n + 1) c6)) < rrM g M wr) := hidden (fun g6 c6 w6 ho hp => by
              rw [HM0.out]
              rcases hor3 with ⟨j3, b3, t1, t2, t3, t4, t5⟩ | ⟨j3, k, t1, t2, t3⟩
              · obtain ⟨y1, y2, y3, y4⟩ := hj3.push vk_nd (P' := True) (p := p) rfl ho hp hgw hf3 (fun _ => ⟨trivial, t3⟩)
                have r9 := y2 _ _ _ _ hXr hXa t1
                refine ⟨y3, y4, ⟨_, _, _, .inl ⟨y1, j3, b3, f1, r9, t2, t4, by omega, by omega, by omega⟩⟩, ?_⟩
                rw [r9.m]
                have := t2.lt
                simp
                omega
              · obtain ⟨y1, y2, y3, y4⟩ := hj3.push vk_nd (P' := False) (p := p) rfl ho hp hgw hf3 (fun h => h.elim)
                have r9 := y2 _ _ _ _ hXr hXa t1
                refine ⟨y3, y4, ⟨_, _, _, .inr ⟨y1, j3, k, r9, t2, t3⟩⟩, ?_⟩
                rw [r9.m, if_neg (by omega)]
                omega)
            clear hi0 hb3 hj3 hor3 hf3 HC6 H3 HF2 J2 J3 J4 R2 R3 R4 O2 B3 B4 HB3 HB4 HC2 HU2
            go_wp2_with (first
              | (refine wpList_load_blk rfl 70 (.tmp 4) rfl w2.heap.size BC.out rfl Tryd.underlying70 rfl info70s ?_; simp only [nV])
              | (refine wpList_push6 _ rfl (.tmp 46) (.tmp 48) 68 rfl 70 i0 (.agg (nV 0 0 false 0 sN sN).toArray) 64 Tryd.underlying68 HI.out hz0 hz1 hz2 rfl w.heap.size (.slice ad n c) n (cN us) rfl (HOW.out.alloc _) ⟨wc.heap.size, 0, none⟩ (nV K3 A3 N3 G3 (.slice a31 n31 c31) (.slice a32 n32 c32)) rfl rfl HCN.out (sh_nV _ _ _ _ _ _ _ _ _ _).one.2 (by unfold maxLen; omega) (by omega) (by have := HBS.out; simp; omega) ?_; intro g6 c6 w6 ho6 hp6; obtain ⟨y1, y2, y3, y4⟩ := HPU.out g6 c6 w6 ho6 hp6; have Y3 := hidden y3; have Y4 := hidden y4; clear ho6 hp6 HPU y3 y4))
            exact ⟨⟨some ⟨g6, 0, none⟩, n + 1, c6, by omega, Y3⟩, Y4.out⟩
    · have c4 : wr.cell? ⟨g, 4, none⟩ = some (.int .i64 (k : Int)) := r1.blk.cell 4
      have hk0 : ¬ (k : Int) < 0 := by omega
      have HJ := hidden hJ
      have H1 := hidden r1
      have H2 := hidden r2
      have H3 := hidden r3
      clear hJ r1 r2 r3 hn2
      go_wp2_with (first
        | (refine wpList_load_blk rfl 70 (.tmp 3) rfl (w.heap.size + 1) HJ.out.nod rfl Tryd.underlying70 rfl info70s ?_)
        | (refine wpList_store_blk (l := nV 6 0 false 0 sN (.slice ad n c)) rfl 70 (.tmp 2) (.tmp 51) rfl rfl w.heap.size HJ.out.res rfl rfl rfl info70s (sh_nV _ _ _ _ _ _ _ _ _ _).one.2 ?_))
      obtain ⟨y1, y2, y3, y4⟩ := fin_store (u := nV 6 0 false 0 sN (.slice ad n c)) HJ.out.chg HJ.out.res (Nat.le_refl _) rfl hgw
      refine bodyPost_ret (res_node res29 _ _ w.heap.size _ (sh_nV _ _ _ _ _ _ _ _ _ _) rfl y1) rfl ?_
      exact ⟨y2, _, j, k, rfl, sh_nV _ _ _ _ _ _ _ _ _ _, y4 _ _ _ _ hXr hXa H1.out, .inr ⟨k, H2.out, rfl, H3.out⟩⟩

end Go.Proofs.YtndegcgcbhcokaaDoor

/-
  The document's reader: any; all of it.
-/
namespace Go.Proofs.YtndegcgcbhcokaaDoor
open Go.RowKit
set_option linter.unusedVariables false
set_option linter.unusedSimpArgs false

theorem step_fn {ops : Array Oper} {o : Oper} {a : Act} {w : World} {K : Act → World → Prop} {Q : Exit → Act → World → Prop} {E : Prop} (hgd : o.guard = none) (f : FuncId) (args : Array Value) (h : (execOp a.eval o).run Tryd.prog w = .ok (.enter f args) w) (Φ : Ending → World → Prop) (hc : Calls Tryd.prog f args w Φ) (hr : ∀ e w', Φ e w' → ∃ v, e = .returned v)
    (hK : ∀ v w', Φ (.returned v) w' → K (a.put o.dst v) w') : if Region.wanted o (yielded ops a.tmps) = true then Oper.wp Tryd.prog o a w K Q else E := by
  have hw : Region.wanted o (yielded ops a.tmps) = true := by simp [Region.wanted, hgd]
  rw [if_pos hw]
  unfold Oper.wp
  rw [h]
  refine Calls.mono hc ?_
  intro e w' he
  obtain ⟨v, rfl⟩ := hr e w' he
  exact hK v w' he
theorem RJ.finAny {w wx : World} {g gr gn : Nat} {ad : Option Addr} {n c : Nat} {us : List (List Value)} {F : Nat → Prop} {acc : List (List Pt)} {P : Prop} (h : RJ 7 RwV w wx g gr gn ad n c us F acc P) (hp : P) (v : List Value) : AnV (FW w (wx.setCells gr 0 v)) (wx.setCells gr 0 v) acc (nV 7 0 false 0 sN (.slice ad n c)) := by
  have cs := Chg.sets gr v 0 wx
  obtain ⟨hl, hn⟩ := h.nds hp
  by_cases h0 : us = []
  · have ha : acc = [] := List.eq_nil_of_length_eq_zero (by rw [hl, ← h.len, h0]; rfl)
    subst ha
    exact ⟨ad, c, 0, 0, by rw [← hl], fun e => absurd rfl e, by simp only [RwsV]⟩
  · obtain ⟨b, e, h1, h2, h3, h4, h5⟩ := h.spots h0
    refine ⟨ad, c, b, 0, by rw [hl], fun _ => ⟨e, h1, by have := cs.size; omega⟩, rws_of acc us 0 (by rw [hl, h.len]) (fun i u hu => (h5 i u hu).keep cs h3) (fun i p u hi hu => ?_)⟩
    refine ((hn i p u hi hu).keep cs (fun b hb e => (h.fb b hb).2.2.1 e)).mono (fun b hb => ?_)
    have := h.fb b hb
    have := cs.size
    exact ⟨by omega, by omega⟩
theorem cells_new (wc : World) (u : List Value) : ∀ (j : Nat) (x : Value), u[j]? = some x → (wc.alloc (.cells u.toArray 70)).cell? ((⟨wc.heap.size, 0, none⟩ : Addr).add j) = some x := fun j x hx => by
  have := (Blk.new wc 70 u).cell (0 + j)
  rw [Addr.add_lit]
  refine this.trans ?_
  rw [Nat.zero_add]
  exact hx
/-- What is left behind a row. -/
def rstF (S : List UInt8) (f d b : Nat) (acc : List (List Pt)) : Pr (List (List Pt)) := if S[b]? = some 124 then appP acc (rowsF S f d (b + 1)) else .ok acc b
theorem rows_ok {S : List UInt8} {f d a b : Nat} {acc : List (List Pt)} {r : List Pt} (h : rowF S f d a = .ok r b) : appP acc (rowsF S (f + 1) d a) = rstF S f d b (acc ++ [r]) := by
  rw [rowsF, h]
  simp only [rstF]
  by_cases h124 : S[b]? = some 124
  · rw [if_pos h124, if_pos h124]
    cases rowsF S f d (b + 1) <;> simp [appP]
  · rw [if_neg h124, if_neg h124]
    simp [appP]
theorem rows_no2 {S : List UInt8} {f d a k : Nat} {acc : List (List Pt)} (h : rowF S f d a = .bad k) : appP acc (rowsF S (f + 1) d a) = .bad k := by rw [rowsF, h]; rfl
theorem rows_st {S : List UInt8} {f d a : Nat} {acc : List (List Pt)} {R : Pr (List (List Pt))} (h : appP acc (rowsF S f d a) = R) (hno : R ≠ .out) : ∃ f1, f = f1 + 1 ∧ rowF S f1 d a ≠ .out := by
  cases f with
  | zero => exact absurd (by rw [← h, rowsF]; rfl) hno
  | succ f1 => exact ⟨f1, rfl, fun e => hno (by rw [← h, rowsF, e]; rfl)⟩
/-- How the reader stands in a round of any: all is well, or it has failed. -/
def AG (wx : World) (g : Nat) (X : Rx) (S : List UInt8) (i d n N : Nat) (R : Pr (List (List Pt))) (acc : List (List Pt)) (c4 : Int) : Prop :=
  ∃ j b f, Rr wx g X j d (-1) ∧ At X S j b ∧ rstF S f d b acc = R ∧ f ≤ N ∧ i ≤ j ∧ n ≤ j + 1 ∧ c4 = pk X j (-1)

set_option maxRecDepth 100000 in
set_option maxHeartbeats 0 in
theorem any_of_row (N : Nat) (hRO : ∀ f, f < N → RoC f) : AnyC N := by
  intro g X S i d a w h hA hXr hXa hd hno
  have hgw : g < w.heap.size := h.blk.lt
  have hi := h.sz.2.2.1
  have hal := hA.lt
  have hal2 := h.sz.2.1
  obtain ⟨R, hR⟩ : ∃ R, rowsF S N d a = R := ⟨_, rfl⟩
  rw [hR] at hno ⊢
  have HNO := hidden hno
  have HRO := hidden hRO
  have hR0 : appP [] (rowsF S N d a) = R := by rw [hR]; cases R <;> rfl
  obtain ⟨f1, rfl, hf1⟩ := rows_st hR0 hno
  obtain ⟨w1, hw1, hB2, hbel, hsz⟩ : ∃ w1, w.alloc (.cells #[.int .i64 0, .int .i32 0, .bool false, .int .u8 0, .slice none 0 0, .slice none 0 0] 70) = w1 ∧ Blk w1 w.heap.size 70 (nV 0 0 false 0 sN sN) ∧ Below w.heap.size w w1 ∧ w1.heap.size = w.heap.size + 1 := one_new w 70 (nV 0 0 false 0 sN sN)
  have kR := hRO f1 (by omega) g X S i d a w1 (h.later hbel) hA (by omega) (by omega) hd hf1
  have HW1 := hidden hw1
  have HR0 := hidden hR0
  have B1 := hidden hB2
  have C1 : Hid (Chg (fun b => b = g) w w1) := hidden (Chg.of_below hbel)
  have hgr : ¬ w.heap.size = g := by omega
  have hs1 : w1.heap.size = w.heap.size + 1 := hsz
  have HS1 := hidden hs1
  clear hR hR0 hno h hA hw1 hB2 hbel hsz hRO hf1 hs1
  obtain ⟨M, hM⟩ : ∃ M, X.al.length = M := ⟨_, rfl⟩
  have HM := hidden hM
  go_enter Tryd.func15, Tryd.ntmps15
  go_upto_region 1 with fail
  rw [HW1.out]
  clear HW1
  go_upto_region 2 with (go_at_call 29; refine kR.mono ?_; rintro e w2 ⟨ch2, u2, j2, bad2, rfl, sh2, rr2, or2⟩; have B2 := hidden (ch2.blk B1.out hgr); have C2 := hidden (C1.out.seq ch2); have R2 := hidden rr2; have O2 := hidden or2; have HS2 : Hid (w1.heap.size ≤ w2.heap.size) := hidden ch2.size; obtain ⟨K, A, N', G, ad1, n1, c1, ad2, n2, c2, hu2⟩ := sh2; have HU2 := hidden hu2; rw [hu2]; simp only [nV]; clear kR ch2 rr2 or2 hu2)
  obtain ⟨w3, hw3, hB3, hN3, hb3, hs3⟩ : ∃ w3, (w2.alloc (.cells #[.int .i64 (K : Int), .int .i32 (A : Int), .bool N', .int .u8 (G : Int), .slice ad1 n1 c1, .slice ad2 n2 c2] 70)).alloc (.cells #[.int .i64 7, .int .i32 0, .bool false, .int .u8 0, .slice none 0 0, .slice (some ⟨w2.heap.size, 0, none⟩) 1 1] 70) = w3 ∧ Blk w3 w2.heap.size 70 (nV K A N' G (.slice ad1 n1 c1) (.slice ad2 n2 c2)) ∧ Blk w3 (w2.heap.size + 1) 70 (nV 7 0 false 0 sN (.slice (some ⟨w2.heap.size, 0, none⟩) 1 1)) ∧ Below w2.heap.size w2 w3 ∧ w3.heap.size = w2.heap.size + 2 := two_new w2 70 70 (nV K A N' G (.slice ad1 n1 c1) (.slice ad2 n2 c2)) (nV 7 0 false 0 sN (.slice (some ⟨w2.heap.size, 0, none⟩) 1 1))
  rw [hw3]
  clear hw3
  have hs2 : w.heap.size + 1 ≤ w2.heap.size := by have := HS1.out; have := HS2.out; omega
  have HJ0 : Hid (∀ P : Prop, (P → ∃ r b, rowF S f1 d a = .ok r b) → ∃ F acc, RJ 7 RwV w w3 g w.heap.size (w2.heap.size + 1) (some ⟨w2.heap.size, 0, none⟩) 1 1 [u2] F acc P ∧ (P → ∃ r b, rowF S f1 d a = .ok r b ∧ acc = [r])) := hidden (fun P hP => by
    have own : w3.ownsRow w.heap.size 70 6 (.slice (some ⟨w2.heap.size, 0, none⟩) 1 1) 1 (cN [u2]) := ⟨by rw [HU2.out]; rfl, .inr ⟨w2.heap.size, 1, (nV K A N' G (.slice ad1 n1 c1) (.slice ad2 n2 c2)).toArray, rfl, by omega, hB3, Nat.le_refl _, by unfold maxLen; omega, rfl, by rw [HU2.out]; rfl⟩⟩
    rcases O2.out with ⟨x, b, q1, q2, q3, q4, q5⟩ | ⟨k, q1, q2, q3⟩
    · refine ⟨FW w1 w2, [x], ⟨C2.out.bel hb3, B2.out.later hb3, hN3, rfl, own, fun u hu => by simp at hu; rw [hu, HU2.out]; rfl, ⟨Nat.le_refl _, by omega, by omega, by simp [Value.ownBlock]; omega, by simp [Value.ownBlock]⟩, fun b hb => ?_, fun _ => ⟨rfl, fun i p u hp hu => ?_⟩⟩, fun _ => ⟨x, b, q1, rfl⟩⟩
      · have h1 := hb.1
        have h2 := hb.2
        have := HS1.out
        exact ⟨by omega, by omega, by omega, by omega, by simp [Value.ownBlock]; omega⟩
      · cases i with
        | zero =>
          simp at hp hu
          subst hp hu
          exact q3.keep (Chg.of_below (F := fun _ => False) hb3) (fun _ _ h => h)
        | succ i => simp at hp
    · refine ⟨fun _ => False, [], ⟨C2.out.bel hb3, B2.out.later hb3, hN3, rfl, own, fun u hu => by simp at hu; rw [hu, HU2.out]; rfl, ⟨Nat.le_refl _, by omega, by omega, by simp [Value.ownBlock]; omega, by simp [Value.ownBlock]⟩, fun b hb => hb.elim, fun hp => ?_⟩, fun hp => ?_⟩
      · obtain ⟨r, b, e⟩ := hP hp
        rw [q1] at e; cases e
      · obtain ⟨r, b, e⟩ := hP hp
        rw [q1] at e; cases e)
  have R3 := hidden (R2.out.later hb3)
  obtain ⟨c4, hc4⟩ : ∃ c4, pk X j2 bad2 = c4 := ⟨_, rfl⟩
  have HC4 := hidden hc4
  have k30 := peekR w3 R3.out c4 hc4
  have hgn : ∃ gn, w2.heap.size + 1 = gn := ⟨_, rfl⟩
  clear hc4 hB3 hN3 hb3 hs3
  go_wp2_with (go_at_call 30; refine k30.mono ?_; rintro e w4 ⟨rfl, g4⟩; have HB4 := hidden g4; have R4 := hidden (R3.out.later g4); clear k30 g4)
  have HST : Hid (∃ us F acc, (RJ 7 RwV w w4 g w.heap.size (w2.heap.size + 1) (some ⟨w2.heap.size, 0, none⟩) 1 1 us F acc True ∧ AG w4 g X S i d 1 (f1 + 1) R acc c4) ∨ (RJ 7 RwV w w4 g w.heap.size (w2.heap.size + 1) (some ⟨w2.heap.size, 0, none⟩) 1 1 us F acc False ∧ RB w4 g X d R ∧ c4 = -1)) := hidden (by
    rcases O2.out with ⟨x, b, q1, q2, q3, q4, q5⟩ | ⟨k, q1, q2, q3⟩
    · obtain ⟨F, acc, hJ, hP⟩ := HJ0.out True (fun _ => ⟨x, b, q1⟩)
      obtain ⟨r, b', e1, e2⟩ := hP trivial
      rw [q1] at e1
      injection e1 with e1 e3
      subst e1 e3 e2
      rw [q2] at R4 HC4
      exact ⟨_, F, _, .inl ⟨hJ.later vk_rw hgw (Chg.of_below HB4.out), j2, b, f1, R4.out, q4, (rows_ok q1).symm.trans HR0.out, by omega, q5, by omega, HC4.out.symm⟩⟩
    · obtain ⟨F, acc, hJ, hP⟩ := HJ0.out False (fun h => h.elim)
      rw [q2] at R4
      refine ⟨_, F, acc, .inr ⟨hJ.later vk_rw hgw (Chg.of_below HB4.out), ⟨j2, k, R4.out, HR0.out.symm.trans (rows_no2 q1), q3⟩, ?_⟩⟩
      rw [← HC4.out]
      unfold pk
      rw [if_pos (by omega)])
  clear HJ0 O2 R2 R3 R4 HC4 HR0 B2 C2 HU2 HB4 HS2 B1 C1
  obtain ⟨i0, hi0, hz0, hz1, hz2⟩ := info_parts info70n
  have HI := hidden hi0
  clear hi0 hgn
  go_loopw [4] (fun s4 wx => ∃ (ad : Option Addr) (n c : Nat) (c4 : Int), s4 = .int .i32 c4 ∧ n ≤ 1003 ∧ Hid (∃ us F acc, (RJ 7 RwV w wx g w.heap.size (w2.heap.size + 1) ad n c us F acc True ∧ AG wx g X S i d n (f1 + 1) R acc c4) ∨ (RJ 7 RwV w wx g w.heap.size (w2.heap.size + 1) ad n c us F acc False ∧ RB wx g X d R ∧ c4 = -1))) (fun _ wx => rrM g M wx)
  case atStart => exact ⟨_, 1, 1, c4, rfl, by omega, HST⟩
  case round =>
    rename World => wr
    obtain ⟨ad, n, c, c4, rfl, hn2, hex⟩ := hrel
    clear HST
    obtain ⟨us, F, acc, hor⟩ := hex.out
    clear hex
    rcases hor with ⟨hJ, j, b, f, r1, r2, r3, r4, r5, r6, r7⟩ | ⟨hJ, ⟨j, k, r1, r2, r3⟩, rfl⟩
    · by_cases h124 : S[b]? = some 124
      · have hc124 : c4 = 124 := by rw [r7]; exact (r2.pk_eq 124 (by decide)).2 h124
        rw [rstF, if_pos h124] at r3
        obtain ⟨f2, rfl, hf2⟩ := rows_st r3 HNO.out
        have hA5 := r2.next 124 (by decide) h124
        have hj5 := hA5.lt
        have e2 : wr.cell? ⟨g, 2, none⟩ = some (.int .i64 (j : Int)) := r1.blk.cell 2
        have ff2 := r1.blk.frozen 2
        have HM0 : Hid (rrM g M wr = M + 1 - j) := hidden (by rw [r1.m]; simp)
        obtain ⟨w5, hw5⟩ : ∃ w5, wr.setCell ⟨g, 2, none⟩ (.int .i64 ((j : Int) + 1)) = w5 := ⟨_, rfl⟩
        have R5 : Hid (Rr w5 g X (j + 1) d (-1)) := hidden (by rw [← hw5]; exact r1.setI (j + 1) (by omega))
        have J5 : Hid (RJ 7 RwV w w5 g w.heap.size (w2.heap.size + 1) ad n c us F acc True) := hidden (by rw [← hw5]; exact hJ.later vk_rw hgw (Chg.set ⟨g, 2, none⟩ _ _))
        have hw5s : w.heap.size < w5.heap.size := J5.out.res.lt
        have kR := HRO.out f2 (by omega) g X S (j + 1) d (b + 1) w5.drew (R5.out.later (below_drew _ _)) hA5 (by show X.rb < w5.heap.size; omega) (by show X.ab < w5.heap.size; omega) hd hf2
        have H3 := hidden r3
        have HW5 := hidden hw5
        have d5 : w5.cell? ⟨w2.heap.size + 1, 5, none⟩ = some (.slice ad n c) := J5.out.nod.cell 5
        have HRET : Hid (∀ e w', NodeP RwV X S (j + 1) d g w5.drew (rowF S f2 d (b + 1)) e w' → ∃ v, e = .returned v) := hidden (fun e w' hh => by obtain ⟨_, u, _, _, e1, _⟩ := hh; exact ⟨_, e1⟩)
        clear hJ r1 r2 r3 r7 h124 hf2 hA5 hw5
        subst hc124
        go_upto_region 6 with fail
        rw [HW5.out]
        clear HW5 e2 ff2
        have HBS : Hid (w.heap.size ≤ w5.heap.size) := hidden (by omega)
        have HPU : Hid (∀ (w6 : World) (u6 : List Value) (j6 : Nat) (bad6 : Int) (g8 c8 : Nat) (w8 : World), RJ 7 RwV w w6 g w.heap.size (w2.heap.size + 1) ad n c us F acc True → w5.heap.size ≤ w6.heap.size → Sh u6 → Rr w6 g X j6 d bad6 → ((∃ x b', rowF S f2 d (b + 1) = .ok x b' ∧ bad6 = -1 ∧ RwV (FW w5.drew w6) w6 x u6 ∧ At X S j6 b' ∧ j + 1 ≤ j6) ∨ (∃ k : Nat, rowF S f2 d (b + 1) = .bad k ∧ bad6 = (k : Int) ∧ j6 < X.al.length)) →
            w8.ownsRow w.heap.size 70 6 (.slice (some ⟨g8, 0, none⟩) (n + 1) c8) (n + 1) (cN us ++ u6) → Pushed (w6.alloc (.cells u6.toArray 70)) w8 (.slice ad n c) g8 → w8.cell? ⟨w2.heap.size + 1, 5, none⟩ = some (.slice ad n c) ∧ w8.frozen? ⟨w2.heap.size + 1, 5, none⟩ = false ∧ Rr (w8.setCell ⟨w2.heap.size + 1, 5, none⟩ (.slice (some ⟨g8, 0, none⟩) (n + 1) c8)) g X j6 d bad6 ∧
            ∃ us F acc, (RJ 7 RwV w (w8.setCell ⟨w2.heap.size + 1, 5, none⟩ (.slice (some ⟨g8, 0, none⟩) (n + 1) c8)) g w.heap.size (w2.heap.size + 1) (some ⟨g8, 0, none⟩) (n + 1) c8 us F acc True ∧ bad6 = -1 ∧ ∃ b6, At X S j6 b6 ∧ rstF S f2 d b6 acc = R ∧ j < j6) ∨ (RJ 7 RwV w (w8.setCell ⟨w2.heap.size + 1, 5, none⟩ (.slice (some ⟨g8, 0, none⟩) (n + 1) c8)) g w.heap.size (w2.heap.size + 1) (some ⟨g8, 0, none⟩) (n + 1) c8 us F acc False ∧ ∃ k : Nat, bad6 = (k : Int) ∧ R = .bad k ∧ j6 < X.al.length)) := hidden (by
          intro w6 u6 j6 bad6 g8 c8 w8 hj6 hs6 sh6 hr6 ho6 how hp
          have hn1 : w2.heap.size + 1 < w5.heap.size := J5.out.nod.lt
          have hF3 : ∀ b, FW w5.drew w6 b → w.heap.size ≤ b ∧ b < w6.heap.size ∧ b ≠ w.heap.size ∧ b ≠ w2.heap.size + 1 ∧ (Value.slice ad n c).ownBlock ≠ some b := fun b hb => by
            have h1 : w5.heap.size ≤ b := hb.1
            have h2 := hb.2
            refine ⟨by omega, h2, by omega, by omega, fun e => ?_⟩
            have := owns_lt J5.out.own b e
            omega
          rcases ho6 with ⟨x, b', q1, q2, q3, q4, q5⟩ | ⟨k, q1, q2, q3⟩
          · obtain ⟨y1, y2, y3, y4⟩ := hj6.push vk_rw (P' := True) (p := x) sh6.one.1 how hp hgw hF3 (fun _ => ⟨trivial, q3⟩)
            exact ⟨y3, y4, y2 _ _ _ _ hXr hXa hr6, _, _, _, .inl ⟨y1, q2, b', q4, (rows_ok q1).symm.trans H3.out, by omega⟩⟩
          · obtain ⟨y1, y2, y3, y4⟩ := hj6.push vk_rw (F3 := fun _ => False) (P' := False) (p := []) sh6.one.1 how hp hgw (fun b hb => hb.elim) (fun h => h.elim)
            exact ⟨y3, y4, y2 _ _ _ _ hXr hXa hr6, _, _, _, .inr ⟨y1, k, q2, H3.out.symm.trans (rows_no2 q1), q3⟩⟩)
        go_region_law (first
          | (refine step_fn (by rfl) 29 #[.pointer (some ⟨g, 0, none⟩)] (by simp [execOp, resolve, Act.eval, go_sem]) _ kR HRET.out ?_; intro v w6 hΦ; obtain ⟨ch6, u6, j6, bad6, he6, sh6, r6, or6⟩ := hΦ; injection he6 with he6; subst he6; have J6 := hidden ((J5.out.later vk_rw hgw (Chg.of_below (below_drew _ _))).later vk_rw hgw ch6); have R6 := hidden r6; have O6 := hidden or6; have S6 : Hid (w5.heap.size ≤ w6.heap.size) := hidden ch6.size; have d6 : w6.cell? ⟨w2.heap.size + 1, 5, none⟩ = some (.slice ad n c) := J6.out.nod.cell 5; obtain ⟨K6, A6, N6, G6, a61, n61, c61, a62, n62, c62, hu6⟩ := sh6; have HU6 := hidden hu6; have d7 : (w6.alloc (.cells #[.int .i64 (K6 : Int), .int .i32 (A6 : Int), .bool N6, .int .u8 (G6 : Int), .slice a61 n61 c61, .slice a62 n62 c62] 70)).cell? ⟨w2.heap.size + 1, 5, none⟩ = some (.slice ad n c) := (J6.out.nod.alloc _).cell 5; rw [hu6]; simp only [nV]; clear ch6 r6 or6 hu6)
          | (refine step_push6 _ (by rfl) (.tmp 23) (.tmp 26) 68 (by rfl) 70 i0 (.agg (nV 0 0 false 0 sN sN).toArray) 64 Tryd.underlying68 HI.out hz0 hz1 hz2 (by rfl) w.heap.size (.slice ad n c) n (cN us) (by rfl) (by exact J6.out.own.alloc _) ⟨w6.heap.size, 0, none⟩ (nV K6 A6 N6 G6 (.slice a61 n61 c61) (.slice a62 n62 c62)) (by rfl) (by rfl) (by exact cells_new w6 _) (by exact (sh_nV _ _ _ _ _ _ _ _ _ _).one.2) (by unfold maxLen; omega) (by omega) (by have := S6.out; simp; omega) ?_; intro g8 c8 w8 h8 h9; obtain ⟨y1, y2, y3, y4⟩ := HPU.out w6 u6 j6 bad6 g8 c8 w8 J6.out S6.out (by rw [HU6.out]; exact sh_nV _ _ _ _ _ _ _ _ _ _) R6.out O6.out (by rw [HU6.out]; exact h8) (by rw [HU6.out]; exact h9); have Y3 := hidden y3; have Y4 := hidden y4; clear h8 h9 y3 y4))
        all_goals
          have k30 := peekR _ Y3.out (pk X j6 bad6) rfl
          obtain ⟨c9, hc9⟩ : ∃ c9, pk X j6 bad6 = c9 := ⟨_, rfl⟩
          have HC9 := hidden hc9
          rw [hc9] at k30
          clear hc9 kR
          go_wp2_with (go_at_call 30; refine k30.mono ?_; rintro e w9 ⟨rfl, g9⟩; have HB9 := hidden g9; clear k30 g9)
          have R9 := Y3.out.later HB9.out
          obtain ⟨us9, F9, acc9, h9⟩ := Y4.out
          refine ⟨⟨some ⟨g8, 0, none⟩, n + 1, c8, c9, rfl, by omega, hidden ⟨us9, F9, acc9, ?_⟩⟩, ?_⟩
          · rcases h9 with ⟨q1, q2, b6, q3, q4, q5⟩ | ⟨q1, k, q2, q3, q4⟩
            · rw [q2] at R9 HC9
              exact .inl ⟨q1.later vk_rw hgw (Chg.of_below HB9.out), j6, b6, f2, R9, q3, q4, by omega, by omega, by omega, HC9.out.symm⟩
            · rw [q2] at R9 HC9
              refine .inr ⟨q1.later vk_rw hgw (Chg.of_below HB9.out), ⟨j6, k, R9, q3, q4⟩, ?_⟩
              rw [← HC9.out]
              unfold pk
              rw [if_pos (by omega)]
          · rw [R9.m, HM0.out]
            rcases h9 with ⟨q1, q2, b6, q3, q4, q5⟩ | ⟨q1, k, q2, q3, q4⟩
            · have := q3.lt
              rw [if_pos (by omega)]
              omega
            · rw [if_neg (by omega)]
              omega
      · have hc124 : ¬ c4 = 124 := by rw [r7]; exact fun e => h124 ((r2.pk_eq 124 (by decide)).1 e)
        rw [rstF, if_neg h124] at r3
        have HJ := hidden hJ
        have H1 := hidden r1
        have H2 := hidden r2
        have H3 := hidden r3
        clear hJ r1 r2 r3 r7 h124 hn2
        go_wp2_with (first
          | (refine wpList_load_blk rfl 70 (.tmp 3) rfl (w2.heap.size + 1) HJ.out.nod rfl Tryd.underlying70 rfl info70s ?_)
          | (refine wpList_store_blk (l := nV 7 0 false 0 sN (.slice ad n c)) rfl 70 (.tmp 2) (.tmp 29) rfl rfl w.heap.size HJ.out.res rfl rfl rfl info70s (sh_nV _ _ _ _ _ _ _ _ _ _).one.2 ?_))
        obtain ⟨y1, y2, y3, y4⟩ := fin_store (u := nV 7 0 false 0 sN (.slice ad n c)) HJ.out.chg HJ.out.res (Nat.le_refl _) rfl hgw
        refine bodyPost_ret (res_node res15 _ _ w.heap.size _ (sh_nV _ _ _ _ _ _ _ _ _ _) rfl y1) rfl ?_
        exact ⟨y2, _, j, -1, rfl, sh_nV _ _ _ _ _ _ _ _ _ _, y4 _ _ _ _ hXr hXa H1.out, .inl ⟨acc, b, H3.out.symm, rfl, HJ.out.finAny trivial _, H2.out, r5⟩⟩
    · have HJ := hidden hJ
      have H1 := hidden r1
      have H2 := hidden r2
      have H3 := hidden r3
      clear hJ r1 r2 r3 hn2
      go_wp2_with (first
        | (refine wpList_load_blk rfl 70 (.tmp 3) rfl (w2.heap.size + 1) HJ.out.nod rfl Tryd.underlying70 rfl info70s ?_)
        | (refine wpList_store_blk (l := nV 7 0 false 0 sN (.slice ad n c)) rfl 70 (.tmp 2) (.tmp 29) rfl rfl w.heap.size HJ.out.res rfl rfl rfl info70s (sh_nV _ _ _ _ _ _ _ _ _ _).one.2 ?_))
      obtain ⟨y1, y2, y3, y4⟩ := fin_store (u := nV 7 0 false 0 sN (.slice ad n c)) HJ.out.chg HJ.out.res (Nat.le_refl _) rfl hgw
      refine bodyPost_ret (res_node res15 _ _ w.heap.size _ (sh_nV _ _ _ _ _ _ _ _ _ _) rfl y1) rfl ?_
      exact ⟨y2, _, j, k, rfl, sh_nV _ _ _ _ _ _ _ _ _ _, y4 _ _ _ _ hXr hXa H1.out, .inr ⟨k, H2.out, rfl, H3.out⟩⟩

theorem at_zero : AtC 0 := by
  intro g X S i d a w h hA hXr hXa hd hno
  have hst : Stop S a := Classical.byContradiction (fun hs => hno hs (by rw [atomF]))
  have hany : AnyC 0 := fun g X S i d a w _ _ _ _ _ hno => absurd (by rw [rowsF]) hno
  refine (atom_of_any 0 hany g X S i d a w h hA hXr hXa hd (fun hs => absurd hst hs)).mono ?_
  rintro e w' ⟨hc, u, is, j, bad, h1, h2, h3, h4 | ⟨_, _, h4, _⟩ | ⟨h4, _⟩⟩
  · exact ⟨hc, u, is, j, bad, h1, h2, h3, .inl h4⟩
  · exact absurd hst h4
  · exact absurd hst h4
/-- THE DOCUMENT'S READER READS AS THE FUNCTIONS SAY. -/
theorem readsR : ∀ N, AnyC N ∧ RoC N ∧ AtC N := by
  intro N
  induction N using Nat.strongRecOn with
  | ind N ih =>
    have hrow := row_of_atom N (fun f hf => (ih f hf).2.2)
    refine ⟨any_of_row N (fun f hf => (ih f hf).2.1), hrow, ?_⟩
    cases N with
    | zero => exact at_zero
    | succ f => exact atom_of_any f (ih f (Nat.lt_succ_self f)).1

end Go.Proofs.YtndegcgcbhcokaaDoor
