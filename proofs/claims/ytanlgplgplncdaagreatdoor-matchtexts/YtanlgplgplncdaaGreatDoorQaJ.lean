import Derived.Test.YtanlgplgplncdaaGreatDoorQaH
import Derived.Test.YtanlgplgplncdaaGreatDoorPuH
import Derived.Test.YtanlgplgplncdaaGreatDoorQaA
import Derived.Test.YtanlgplgplncdaaGreatDoorPtC
import Derived.Lib.DecodeN
import Derived.Test.YtanlgplgplncdaaGreatDoorQaD
import Derived.Test.YtanlgplgplncdaaGreatDoorLbS
import Derived.Lib.ValidLaws
/-
  The document's reader: any; all of it.
-/
namespace Go.Proofs.YtanlgplgplncdaaGreatDoor
open Go.RowKit
set_option linter.unusedVariables false
set_option linter.unusedSimpArgs false

theorem step_fn {ops : Array Oper} {o : Oper} {a : Act} {w : World} {K : Act → World → Prop} {Q : Exit → Act → World → Prop} {E : Prop} (hgd : o.guard = none) (f : FuncId) (args : Array Value) (h : (execOp a.eval o).run Tryz.prog w = .ok (.enter f args) w) (Φ : Ending → World → Prop) (hc : Calls Tryz.prog f args w Φ) (hr : ∀ e w', Φ e w' → ∃ v, e = .returned v)
    (hK : ∀ v w', Φ (.returned v) w' → K (a.put o.dst v) w') : if Region.wanted o (yielded ops a.tmps) = true then Oper.wp Tryz.prog o a w K Q else E := by
  have hw : Region.wanted o (yielded ops a.tmps) = true := by simp [Region.wanted, hgd]
  rw [if_pos hw]
  unfold Oper.wp
  rw [h]
  refine Calls.mono hc ?_
  intro e w' he
  obtain ⟨v, rfl⟩ := hr e w' he
  exact hK v w' he
theorem RJ.finAny {w wx : World} {g gr gn : Nat} {ad : Option Addr} {n c : Nat} {us : List (List Value)} {F : Nat → Prop} {acc : List (List Pt)} {P : Prop} (h : RJ 7 RwV w wx g gr gn ad n c us F acc P) (hp : P) (v : List Value) : AnV (FW w (wx.setCells gr 0 v)) (wx.setCells gr 0 v) acc (nV 7 0 false 0 sN (.slice ad n c)) := by
  have cs := Chg.sets gr v 0 wx
  obtain ⟨hl, hn⟩ := h.nds hp
  by_cases h0 : us = []
  · have ha : acc = [] := List.eq_nil_of_length_eq_zero (by rw [hl, ← h.len, h0]; rfl)
    subst ha
    exact ⟨ad, c, 0, 0, by rw [← hl], fun e => absurd rfl e, by simp only [RwsV]⟩
  · obtain ⟨b, e, h1, h2, h3, h4, h5⟩ := h.spots h0
    refine ⟨ad, c, b, 0, by rw [hl], fun _ => ⟨e, h1, by have := cs.size; omega⟩, rws_of acc us 0 (by rw [hl, h.len]) (fun i u hu => (h5 i u hu).keep cs h3) (fun i p u hi hu => ?_)⟩
    refine ((hn i p u hi hu).keep cs (fun b hb e => (h.fb b hb).2.2.1 e)).mono (fun b hb => ?_)
    have := h.fb b hb
    have := cs.size
    exact ⟨by omega, by omega⟩
theorem cells_new (wc : World) (u : List Value) : ∀ (j : Nat) (x : Value), u[j]? = some x → (wc.alloc (.cells u.toArray 123)).cell? ((⟨wc.heap.size, 0, none⟩ : Addr).add j) = some x := fun j x hx => by
  have := (Blk.new wc 123 u).cell (0 + j)
  rw [Addr.add_lit]
  refine this.trans ?_
  rw [Nat.zero_add]
  exact hx
/-- What is left behind a row. -/
def rstF (S : List UInt8) (f d b : Nat) (acc : List (List Pt)) : Pr (List (List Pt)) := if S[b]? = some 124 then appP acc (rowsF S f d (b + 1)) else .ok acc b
theorem rows_ok {S : List UInt8} {f d a b : Nat} {acc : List (List Pt)} {r : List Pt} (h : rowF S f d a = .ok r b) : appP acc (rowsF S (f + 1) d a) = rstF S f d b (acc ++ [r]) := by
  rw [rowsF, h]
  simp only [rstF]
  by_cases h124 : S[b]? = some 124
  · rw [if_pos h124, if_pos h124]
    cases rowsF S f d (b + 1) <;> simp [appP]
  · rw [if_neg h124, if_neg h124]
    simp [appP]
theorem rows_no2 {S : List UInt8} {f d a k : Nat} {acc : List (List Pt)} (h : rowF S f d a = .bad k) : appP acc (rowsF S (f + 1) d a) = .bad k := by rw [rowsF, h]; rfl
theorem rows_st {S : List UInt8} {f d a : Nat} {acc : List (List Pt)} {R : Pr (List (List Pt))} (h : appP acc (rowsF S f d a) = R) (hno : R ≠ .out) : ∃ f1, f = f1 + 1 ∧ rowF S f1 d a ≠ .out := by
  cases f with
  | zero => exact absurd (by rw [← h, rowsF]; rfl) hno
  | succ f1 => exact ⟨f1, rfl, fun e => hno (by rw [← h, rowsF, e]; rfl)⟩
/-- How the reader stands in a round of any: all is well, or it has failed. -/
def AG (wx : World) (g : Nat) (X : Rx) (S : List UInt8) (i d n N : Nat) (R : Pr (List (List Pt))) (acc : List (List Pt)) (c4 : Int) : Prop :=
  ∃ j b f, Rr wx g X j d (-1) ∧ At X S j b ∧ rstF S f d b acc = R ∧ f ≤ N ∧ i ≤ j ∧ n ≤ j + 1 ∧ c4 = pk X j (-1)

set_option maxRecDepth 100000 in
set_option maxHeartbeats 0 in
theorem any_of_row (N : Nat) (hRO : ∀ f, f < N → RoC f) : AnyC N := by
  intro g X S i d a w h hA hXr hXa hd hno
  have hgw : g < w.heap.size := h.blk.lt
  have hi := h.sz.2.2.1
  have hal := hA.lt
  have hal2 := h.sz.2.1
  obtain ⟨R, hR⟩ : ∃ R, rowsF S N d a = R := ⟨_, rfl⟩
  rw [hR] at hno ⊢
  have HNO := hidden hno
  have HRO := hidden hRO
  have hR0 : appP [] (rowsF S N d a) = R := by rw [hR]; cases R <;> rfl
  obtain ⟨f1, rfl, hf1⟩ := rows_st hR0 hno
  obtain ⟨w1, hw1, hB2, hbel, hsz⟩ : ∃ w1, w.alloc (.cells #[.int .i64 0, .int .i32 0, .bool false, .int .u8 0, .slice none 0 0, .slice none 0 0] 123) = w1 ∧ Blk w1 w.heap.size 123 (nV 0 0 false 0 sN sN) ∧ Below w.heap.size w w1 ∧ w1.heap.size = w.heap.size + 1 := one_new w 123 (nV 0 0 false 0 sN sN)
  have kR := hRO f1 (by omega) g X S i d a w1 (h.later hbel) hA (by omega) (by omega) hd hf1
  have HW1 := hidden hw1
  have HR0 := hidden hR0
  have B1 := hidden hB2
  have C1 : Hid (Chg (fun b => b = g) w w1) := hidden (Chg.of_below hbel)
  have hgr : ¬ w.heap.size = g := by omega
  have hs1 : w1.heap.size = w.heap.size + 1 := hsz
  have HS1 := hidden hs1
  clear hR hR0 hno h hA hw1 hB2 hbel hsz hRO hf1 hs1
  obtain ⟨M, hM⟩ : ∃ M, X.al.length = M := ⟨_, rfl⟩
  have HM := hidden hM
  go_enter Tryz.func60, Tryz.ntmps60
  go_upto_region 1 with fail
  rw [HW1.out]
  clear HW1
  go_upto_region 2 with (go_at_call 78; refine kR.mono ?_; rintro e w2 ⟨ch2, u2, j2, bad2, rfl, sh2, rr2, or2⟩; have B2 := hidden (ch2.blk B1.out hgr); have C2 := hidden (C1.out.seq ch2); have R2 := hidden rr2; have O2 := hidden or2; have HS2 : Hid (w1.heap.size ≤ w2.heap.size) := hidden ch2.size; obtain ⟨K, A, N', G, ad1, n1, c1, ad2, n2, c2, hu2⟩ := sh2; have HU2 := hidden hu2; rw [hu2]; simp only [nV]; clear kR ch2 rr2 or2 hu2)
  obtain ⟨w3, hw3, hB3, hN3, hb3, hs3⟩ : ∃ w3, (w2.alloc (.cells #[.int .i64 (K : Int), .int .i32 (A : Int), .bool N', .int .u8 (G : Int), .slice ad1 n1 c1, .slice ad2 n2 c2] 123)).alloc (.cells #[.int .i64 7, .int .i32 0, .bool false, .int .u8 0, .slice none 0 0, .slice (some ⟨w2.heap.size, 0, none⟩) 1 1] 123) = w3 ∧ Blk w3 w2.heap.size 123 (nV K A N' G (.slice ad1 n1 c1) (.slice ad2 n2 c2)) ∧ Blk w3 (w2.heap.size + 1) 123 (nV 7 0 false 0 sN (.slice (some ⟨w2.heap.size, 0, none⟩) 1 1)) ∧ Below w2.heap.size w2 w3 ∧ w3.heap.size = w2.heap.size + 2 := two_new w2 123 123 (nV K A N' G (.slice ad1 n1 c1) (.slice ad2 n2 c2)) (nV 7 0 false 0 sN (.slice (some ⟨w2.heap.size, 0, none⟩) 1 1))
  rw [hw3]
  clear hw3
  have hs2 : w.heap.size + 1 ≤ w2.heap.size := by have := HS1.out; have := HS2.out; omega
  have HJ0 : Hid (∀ P : Prop, (P → ∃ r b, rowF S f1 d a = .ok r b) → ∃ F acc, RJ 7 RwV w w3 g w.heap.size (w2.heap.size + 1) (some ⟨w2.heap.size, 0, none⟩) 1 1 [u2] F acc P ∧ (P → ∃ r b, rowF S f1 d a = .ok r b ∧ acc = [r])) := hidden (fun P hP => by
    have own : w3.ownsRow w.heap.size 123 6 (.slice (some ⟨w2.heap.size, 0, none⟩) 1 1) 1 (cN [u2]) := ⟨by rw [HU2.out]; rfl, .inr ⟨w2.heap.size, 1, (nV K A N' G (.slice ad1 n1 c1) (.slice ad2 n2 c2)).toArray, rfl, by omega, hB3, Nat.le_refl _, by unfold maxLen; omega, rfl, by rw [HU2.out]; rfl⟩⟩
    rcases O2.out with ⟨x, b, q1, q2, q3, q4, q5⟩ | ⟨k, q1, q2, q3⟩
    · refine ⟨FW w1 w2, [x], ⟨C2.out.bel hb3, B2.out.later hb3, hN3, rfl, own, fun u hu => by simp at hu; rw [hu, HU2.out]; rfl, ⟨Nat.le_refl _, by omega, by omega, by simp [Value.ownBlock]; omega, by simp [Value.ownBlock]⟩, fun b hb => ?_, fun _ => ⟨rfl, fun i p u hp hu => ?_⟩⟩, fun _ => ⟨x, b, q1, rfl⟩⟩
      · have h1 := hb.1
        have h2 := hb.2
        have := HS1.out
        exact ⟨by omega, by omega, by omega, by omega, by simp [Value.ownBlock]; omega⟩
      · cases i with
        | zero =>
          simp at hp hu
          subst hp hu
          exact q3.keep (Chg.of_below (F := fun _ => False) hb3) (fun _ _ h => h)
        | succ i => simp at hp
    · refine ⟨fun _ => False, [], ⟨C2.out.bel hb3, B2.out.later hb3, hN3, rfl, own, fun u hu => by simp at hu; rw [hu, HU2.out]; rfl, ⟨Nat.le_refl _, by omega, by omega, by simp [Value.ownBlock]; omega, by simp [Value.ownBlock]⟩, fun b hb => hb.elim, fun hp => ?_⟩, fun hp => ?_⟩
      · obtain ⟨r, b, e⟩ := hP hp
        rw [q1] at e; cases e
      · obtain ⟨r, b, e⟩ := hP hp
        rw [q1] at e; cases e)
  have R3 := hidden (R2.out.later hb3)
  obtain ⟨c4, hc4⟩ : ∃ c4, pk X j2 bad2 = c4 := ⟨_, rfl⟩
  have HC4 := hidden hc4
  have k30 := peekR w3 R3.out c4 hc4
  have hgn : ∃ gn, w2.heap.size + 1 = gn := ⟨_, rfl⟩
  clear hc4 hB3 hN3 hb3 hs3
  go_wp2_with (go_at_call 79; refine k30.mono ?_; rintro e w4 ⟨rfl, g4⟩; have HB4 := hidden g4; have R4 := hidden (R3.out.later g4); clear k30 g4)
  have HST : Hid (∃ us F acc, (RJ 7 RwV w w4 g w.heap.size (w2.heap.size + 1) (some ⟨w2.heap.size, 0, none⟩) 1 1 us F acc True ∧ AG w4 g X S i d 1 (f1 + 1) R acc c4) ∨ (RJ 7 RwV w w4 g w.heap.size (w2.heap.size + 1) (some ⟨w2.heap.size, 0, none⟩) 1 1 us F acc False ∧ RB w4 g X d R ∧ c4 = -1)) := hidden (by
    rcases O2.out with ⟨x, b, q1, q2, q3, q4, q5⟩ | ⟨k, q1, q2, q3⟩
    · obtain ⟨F, acc, hJ, hP⟩ := HJ0.out True (fun _ => ⟨x, b, q1⟩)
      obtain ⟨r, b', e1, e2⟩ := hP trivial
      rw [q1] at e1
      injection e1 with e1 e3
      subst e1 e3 e2
      rw [q2] at R4 HC4
      exact ⟨_, F, _, .inl ⟨hJ.later vk_rw hgw (Chg.of_below HB4.out), j2, b, f1, R4.out, q4, (rows_ok q1).symm.trans HR0.out, by omega, q5, by omega, HC4.out.symm⟩⟩
    · obtain ⟨F, acc, hJ, hP⟩ := HJ0.out False (fun h => h.elim)
      rw [q2] at R4
      refine ⟨_, F, acc, .inr ⟨hJ.later vk_rw hgw (Chg.of_below HB4.out), ⟨j2, k, R4.out, HR0.out.symm.trans (rows_no2 q1), q3⟩, ?_⟩⟩
      rw [← HC4.out]
      unfold pk
      rw [if_pos (by omega)])
  clear HJ0 O2 R2 R3 R4 HC4 HR0 B2 C2 HU2 HB4 HS2 B1 C1
  obtain ⟨i0, hi0, hz0, hz1, hz2⟩ := info_parts info70n
  have HI := hidden hi0
  clear hi0 hgn
  go_loopw [4] (fun s4 wx => ∃ (ad : Option Addr) (n c : Nat) (c4 : Int), s4 = .int .i32 c4 ∧ n ≤ 1003 ∧ Hid (∃ us F acc, (RJ 7 RwV w wx g w.heap.size (w2.heap.size + 1) ad n c us F acc True ∧ AG wx g X S i d n (f1 + 1) R acc c4) ∨ (RJ 7 RwV w wx g w.heap.size (w2.heap.size + 1) ad n c us F acc False ∧ RB wx g X d R ∧ c4 = -1))) (fun _ wx => rrM g M wx)
  case atStart => exact ⟨_, 1, 1, c4, rfl, by omega, HST⟩
  case round =>
    rename World => wr
    obtain ⟨ad, n, c, c4, rfl, hn2, hex⟩ := hrel
    clear HST
    obtain ⟨us, F, acc, hor⟩ := hex.out
    clear hex
    rcases hor with ⟨hJ, j, b, f, r1, r2, r3, r4, r5, r6, r7⟩ | ⟨hJ, ⟨j, k, r1, r2, r3⟩, rfl⟩
    · by_cases h124 : S[b]? = some 124
      · have hc124 : c4 = 124 := by rw [r7]; exact (r2.pk_eq 124 (by decide)).2 h124
        rw [rstF, if_pos h124] at r3
        obtain ⟨f2, rfl, hf2⟩ := rows_st r3 HNO.out
        have hA5 := r2.next 124 (by decide) h124
        have hj5 := hA5.lt
        have e2 : wr.cell? ⟨g, 2, none⟩ = some (.int .i64 (j : Int)) := r1.blk.cell 2
        have ff2 := r1.blk.frozen 2
        have HM0 : Hid (rrM g M wr = M + 1 - j) := hidden (by rw [r1.m]; simp)
        obtain ⟨w5, hw5⟩ : ∃ w5, wr.setCell ⟨g, 2, none⟩ (.int .i64 ((j : Int) + 1)) = w5 := ⟨_, rfl⟩
        have R5 : Hid (Rr w5 g X (j + 1) d (-1)) := hidden (by rw [← hw5]; exact r1.setI (j + 1) (by omega))
        have J5 : Hid (RJ 7 RwV w w5 g w.heap.size (w2.heap.size + 1) ad n c us F acc True) := hidden (by rw [← hw5]; exact hJ.later vk_rw hgw (Chg.set ⟨g, 2, none⟩ _ _))
        have hw5s : w.heap.size < w5.heap.size := J5.out.res.lt
        have kR := HRO.out f2 (by omega) g X S (j + 1) d (b + 1) w5.drew (R5.out.later (below_drew _ _)) hA5 (by show X.rb < w5.heap.size; omega) (by show X.ab < w5.heap.size; omega) hd hf2
        have H3 := hidden r3
        have HW5 := hidden hw5
        have d5 : w5.cell? ⟨w2.heap.size + 1, 5, none⟩ = some (.slice ad n c) := J5.out.nod.cell 5
        have HRET : Hid (∀ e w', NodeP RwV X S (j + 1) d g w5.drew (rowF S f2 d (b + 1)) e w' → ∃ v, e = .returned v) := hidden (fun e w' hh => by obtain ⟨_, u, _, _, e1, _⟩ := hh; exact ⟨_, e1⟩)
        clear hJ r1 r2 r3 r7 h124 hf2 hA5 hw5
        subst hc124
        go_upto_region 6 with fail
        rw [HW5.out]
        clear HW5 e2 ff2
        have HBS : Hid (w.heap.size ≤ w5.heap.size) := hidden (by omega)
        have HPU : Hid (∀ (w6 : World) (u6 : List Value) (j6 : Nat) (bad6 : Int) (g8 c8 : Nat) (w8 : World), RJ 7 RwV w w6 g w.heap.size (w2.heap.size + 1) ad n c us F acc True → w5.heap.size ≤ w6.heap.size → Sh u6 → Rr w6 g X j6 d bad6 → ((∃ x b', rowF S f2 d (b + 1) = .ok x b' ∧ bad6 = -1 ∧ RwV (FW w5.drew w6) w6 x u6 ∧ At X S j6 b' ∧ j + 1 ≤ j6) ∨ (∃ k : Nat, rowF S f2 d (b + 1) = .bad k ∧ bad6 = (k : Int) ∧ j6 < X.al.length)) →
            w8.ownsRow w.heap.size 123 6 (.slice (some ⟨g8, 0, none⟩) (n + 1) c8) (n + 1) (cN us ++ u6) → Pushed (w6.alloc (.cells u6.toArray 123)) w8 (.slice ad n c) g8 → w8.cell? ⟨w2.heap.size + 1, 5, none⟩ = some (.slice ad n c) ∧ w8.frozen? ⟨w2.heap.size + 1, 5, none⟩ = false ∧ Rr (w8.setCell ⟨w2.heap.size + 1, 5, none⟩ (.slice (some ⟨g8, 0, none⟩) (n + 1) c8)) g X j6 d bad6 ∧
            ∃ us F acc, (RJ 7 RwV w (w8.setCell ⟨w2.heap.size + 1, 5, none⟩ (.slice (some ⟨g8, 0, none⟩) (n + 1) c8)) g w.heap.size (w2.heap.size + 1) (some ⟨g8, 0, none⟩) (n + 1) c8 us F acc True ∧ bad6 = -1 ∧ ∃ b6, At X S j6 b6 ∧ rstF S f2 d b6 acc = R ∧ j < j6) ∨ (RJ 7 RwV w (w8.setCell ⟨w2.heap.size + 1, 5, none⟩ (.slice (some ⟨g8, 0, none⟩) (n + 1) c8)) g w.heap.size (w2.heap.size + 1) (some ⟨g8, 0, none⟩) (n + 1) c8 us F acc False ∧ ∃ k : Nat, bad6 = (k : Int) ∧ R = .bad k ∧ j6 < X.al.length)) := hidden (by
          intro w6 u6 j6 bad6 g8 c8 w8 hj6 hs6 sh6 hr6 ho6 how hp
          have hn1 : w2.heap.size + 1 < w5.heap.size := J5.out.nod.lt
          have hF3 : ∀ b, FW w5.drew w6 b → w.heap.size ≤ b ∧ b < w6.heap.size ∧ b ≠ w.heap.size ∧ b ≠ w2.heap.size + 1 ∧ (Value.slice ad n c).ownBlock ≠ some b := fun b hb => by
            have h1 : w5.heap.size ≤ b := hb.1
            have h2 := hb.2
            refine ⟨by omega, h2, by omega, by omega, fun e => ?_⟩
            have := owns_lt J5.out.own b e
            omega
          rcases ho6 with ⟨x, b', q1, q2, q3, q4, q5⟩ | ⟨k, q1, q2, q3⟩
          · obtain ⟨y1, y2, y3, y4⟩ := hj6.push vk_rw (P' := True) (p := x) sh6.one.1 how hp hgw hF3 (fun _ => ⟨trivial, q3⟩)
            exact ⟨y3, y4, y2 _ _ _ _ hXr hXa hr6, _, _, _, .inl ⟨y1, q2, b', q4, (rows_ok q1).symm.trans H3.out, by omega⟩⟩
          · obtain ⟨y1, y2, y3, y4⟩ := hj6.push vk_rw (F3 := fun _ => False) (P' := False) (p := []) sh6.one.1 how hp hgw (fun b hb => hb.elim) (fun h => h.elim)
            exact ⟨y3, y4, y2 _ _ _ _ hXr hXa hr6, _, _, _, .inr ⟨y1, k, q2, H3.out.symm.trans (rows_no2 q1), q3⟩⟩)
        go_region_law (first
          | (refine step_fn (by rfl) 78 #[.pointer (some ⟨g, 0, none⟩)] (by simp [execOp, resolve, Act.eval, go_sem]) _ kR HRET.out ?_; intro v w6 hΦ; obtain ⟨ch6, u6, j6, bad6, he6, sh6, r6, or6⟩ := hΦ; injection he6 with he6; subst he6; have J6 := hidden ((J5.out.later vk_rw hgw (Chg.of_below (below_drew _ _))).later vk_rw hgw ch6); have R6 := hidden r6; have O6 := hidden or6; have S6 : Hid (w5.heap.size ≤ w6.heap.size) := hidden ch6.size; have d6 : w6.cell? ⟨w2.heap.size + 1, 5, none⟩ = some (.slice ad n c) := J6.out.nod.cell 5; obtain ⟨K6, A6, N6, G6, a61, n61, c61, a62, n62, c62, hu6⟩ := sh6; have HU6 := hidden hu6; have d7 : (w6.alloc (.cells #[.int .i64 (K6 : Int), .int .i32 (A6 : Int), .bool N6, .int .u8 (G6 : Int), .slice a61 n61 c61, .slice a62 n62 c62] 123)).cell? ⟨w2.heap.size + 1, 5, none⟩ = some (.slice ad n c) := (J6.out.nod.alloc _).cell 5; rw [hu6]; simp only [nV]; clear ch6 r6 or6 hu6)
          | (refine step_push6 _ (by rfl) (.tmp 23) (.tmp 26) 121 (by rfl) 123 i0 (.agg (nV 0 0 false 0 sN sN).toArray) 64 Tryz.underlying121 HI.out hz0 hz1 hz2 (by rfl) w.heap.size (.slice ad n c) n (cN us) (by rfl) (by exact J6.out.own.alloc _) ⟨w6.heap.size, 0, none⟩ (nV K6 A6 N6 G6 (.slice a61 n61 c61) (.slice a62 n62 c62)) (by rfl) (by rfl) (by exact cells_new w6 _) (by exact (sh_nV _ _ _ _ _ _ _ _ _ _).one.2) (by unfold maxLen; omega) (by omega) (by have := S6.out; simp; omega) ?_; intro g8 c8 w8 h8 h9; obtain ⟨y1, y2, y3, y4⟩ := HPU.out w6 u6 j6 bad6 g8 c8 w8 J6.out S6.out (by rw [HU6.out]; exact sh_nV _ _ _ _ _ _ _ _ _ _) R6.out O6.out (by rw [HU6.out]; exact h8) (by rw [HU6.out]; exact h9); have Y3 := hidden y3; have Y4 := hidden y4; clear h8 h9 y3 y4))
        all_goals
          have k30 := peekR _ Y3.out (pk X j6 bad6) rfl
          obtain ⟨c9, hc9⟩ : ∃ c9, pk X j6 bad6 = c9 := ⟨_, rfl⟩
          have HC9 := hidden hc9
          rw [hc9] at k30
          clear hc9 kR
          go_wp2_with (go_at_call 79; refine k30.mono ?_; rintro e w9 ⟨rfl, g9⟩; have HB9 := hidden g9; clear k30 g9)
          have R9 := Y3.out.later HB9.out
          obtain ⟨us9, F9, acc9, h9⟩ := Y4.out
          refine ⟨⟨some ⟨g8, 0, none⟩, n + 1, c8, c9, rfl, by omega, hidden ⟨us9, F9, acc9, ?_⟩⟩, ?_⟩
          · rcases h9 with ⟨q1, q2, b6, q3, q4, q5⟩ | ⟨q1, k, q2, q3, q4⟩
            · rw [q2] at R9 HC9
              exact .inl ⟨q1.later vk_rw hgw (Chg.of_below HB9.out), j6, b6, f2, R9, q3, q4, by omega, by omega, by omega, HC9.out.symm⟩
            · rw [q2] at R9 HC9
              refine .inr ⟨q1.later vk_rw hgw (Chg.of_below HB9.out), ⟨j6, k, R9, q3, q4⟩, ?_⟩
              rw [← HC9.out]
              unfold pk
              rw [if_pos (by omega)]
          · rw [R9.m, HM0.out]
            rcases h9 with ⟨q1, q2, b6, q3, q4, q5⟩ | ⟨q1, k, q2, q3, q4⟩
            · have := q3.lt
              rw [if_pos (by omega)]
              omega
            · rw [if_neg (by omega)]
              omega
      · have hc124 : ¬ c4 = 124 := by rw [r7]; exact fun e => h124 ((r2.pk_eq 124 (by decide)).1 e)
        rw [rstF, if_neg h124] at r3
        have HJ := hidden hJ
        have H1 := hidden r1
        have H2 := hidden r2
        have H3 := hidden r3
        clear hJ r1 r2 r3 r7 h124 hn2
        go_wp2_with (first
          | (refine wpList_load_blk rfl 123 (.tmp 3) rfl (w2.heap.size + 1) HJ.out.nod rfl Tryz.underlying123 rfl info70s ?_)
          | (refine wpList_store_blk (l := nV 7 0 false 0 sN (.slice ad n c)) rfl 123 (.tmp 2) (.tmp 29) rfl rfl w.heap.size HJ.out.res rfl rfl rfl info70s (sh_nV _ _ _ _ _ _ _ _ _ _).one.2 ?_))
        obtain ⟨y1, y2, y3, y4⟩ := fin_store (u := nV 7 0 false 0 sN (.slice ad n c)) HJ.out.chg HJ.out.res (Nat.le_refl _) rfl hgw
        refine bodyPost_ret (res_node res15 _ _ w.heap.size _ (sh_nV _ _ _ _ _ _ _ _ _ _) rfl y1) rfl ?_
        exact ⟨y2, _, j, -1, rfl, sh_nV _ _ _ _ _ _ _ _ _ _, y4 _ _ _ _ hXr hXa H1.out, .inl ⟨acc, b, H3.out.symm, rfl, HJ.out.finAny trivial _, H2.out, r5⟩⟩
    · have HJ := hidden hJ
      have H1 := hidden r1
      have H2 := hidden r2
      have H3 := hidden r3
      clear hJ r1 r2 r3 hn2
      go_wp2_with (first
        | (refine wpList_load_blk rfl 123 (.tmp 3) rfl (w2.heap.size + 1) HJ.out.nod rfl Tryz.underlying123 rfl info70s ?_)
        | (refine wpList_store_blk (l := nV 7 0 false 0 sN (.slice ad n c)) rfl 123 (.tmp 2) (.tmp 29) rfl rfl w.heap.size HJ.out.res rfl rfl rfl info70s (sh_nV _ _ _ _ _ _ _ _ _ _).one.2 ?_))
      obtain ⟨y1, y2, y3, y4⟩ := fin_store (u := nV 7 0 false 0 sN (.slice ad n c)) HJ.out.chg HJ.out.res (Nat.le_refl _) rfl hgw
      refine bodyPost_ret (res_node res15 _ _ w.heap.size _ (sh_nV _ _ _ _ _ _ _ _ _ _) rfl y1) rfl ?_
      exact ⟨y2, _, j, k, rfl, sh_nV _ _ _ _ _ _ _ _ _ _, y4 _ _ _ _ hXr hXa H1.out, .inr ⟨k, H2.out, rfl, H3.out⟩⟩

theorem at_zero : AtC 0 := by
  intro g X S i d a w h hA hXr hXa hd hno
  have hst : Stop S a := Classical.byContradiction (fun hs => hno hs (by rw [atomF]))
  have hany : AnyC 0 := fun g X S i d a w _ _ _ _ _ hno => absurd (by rw [rowsF]) hno
  refine (atom_of_any 0 hany g X S i d a w h hA hXr hXa hd (fun hs => absurd hst hs)).mono ?_
  rintro e w' ⟨hc, u, is, j, bad, h1, h2, h3, h4 | ⟨_, _, h4, _⟩ | ⟨h4, _⟩⟩
  · exact ⟨hc, u, is, j, bad, h1, h2, h3, .inl h4⟩
  · exact absurd hst h4
  · exact absurd hst h4
/-- THE DOCUMENT'S READER READS AS THE FUNCTIONS SAY. -/
theorem readsR : ∀ N, AnyC N ∧ RoC N ∧ AtC N := by
  intro N
  induction N using Nat.strongRecOn with
  | ind N ih =>
    have hrow := row_of_atom N (fun f hf => (ih f hf).2.2)
    refine ⟨any_of_row N (fun f hf => (ih f hf).2.1), hrow, ?_⟩
    cases N with
    | zero => exact at_zero
    | succ f => exact atom_of_any f (ih f (Nat.lt_succ_self f)).1

end Go.Proofs.YtanlgplgplncdaaGreatDoor

/-
  Code points as utf8.DecodeRuneInString tells them.
-/
namespace Go.Proofs.YtanlgplgplncdaaGreatDoor
open Go Go.Lib
set_option linter.unusedVariables false
set_option linter.unusedSimpArgs false

theorem b8_of {x : UInt8} {n : Nat} (h : n = x.toNat) : b8 n = x := by rw [h]; unfold b8; simp
theorem fp_of_enc {l : List UInt8} {c k : Nat} {E t : List UInt8} (hv : Vc c) (hE : enc c = E) (hk : E.length = k) (hl : l = E ++ t) : fp l = some (c, k) := by
  refine fp_some.2 ⟨hv, by rw [hE, hk], t, by rw [hE, hl]⟩

set_option maxHeartbeats 2000000 in
theorem dec_ok (s : ByteArray) (h0 : bts s ≠ []) (hn : ¬ ((Utf8.decode s 0).1 = 65533 ∧ (Utf8.decode s 0).2 < 2)) : fp (bts s) = some ((Utf8.decode s 0).1, (Utf8.decode s 0).2) := by
  rw [decode_at] at hn ⊢
  have hz : s.size - 0 = (bts s).length := by rw [size_bts]; omega
  rw [hz] at hn ⊢
  simp only [get_bts, Nat.zero_add] at hn ⊢
  generalize bts s = l at h0 hn ⊢
  cases l with
  | nil => exact absurd rfl h0
  | cons a t1 =>
    have ha := a.toNat_lt
    simp only [List.length_cons, List.getElem?_cons_zero, Option.getD_some, List.getElem?_cons_succ] at hn ⊢
    unfold decodeN at hn ⊢
    split
    · rename_i h1
      have hv : Vc a.toNat := by unfold Vc; omega
      exact fp_of_enc (E := [a]) (t := t1) hv (by rw [enc_eq hv, if_pos h1, b8_of rfl]) rfl rfl
    · rename_i h1
      rw [if_neg h1] at hn
      split
      · rename_i h2
        rw [if_pos h2] at hn
        cases t1 with
        | nil => exfalso; simp at h2
        | cons b t2 =>
          have hb := b.toNat_lt
          simp only [List.getElem?_cons_zero, Option.getD_some] at h2 hn ⊢
          split
          · rename_i h3
            have hv : Vc (a.toNat % 32 * 64 + b.toNat % 64) := by unfold Vc; omega
            refine fp_of_enc (E := [a, b]) (t := t2) hv ?_ rfl rfl
            rw [enc_eq hv, if_neg (by omega), if_pos (by omega), b8_of (x := a) (by omega), b8_of (x := b) (by omega)]
          · rename_i h3
            rw [if_neg h3] at hn
            exact absurd ⟨rfl, by decide⟩ hn
      · rename_i h2
        rw [if_neg h2] at hn
        split
        · rename_i h3
          rw [if_pos h3] at hn
          cases t1 with
          | nil => exfalso; simp at h3
          | cons b t2 =>
            cases t2 with
            | nil => exfalso; simp at h3
            | cons c t3 =>
              have hb := b.toNat_lt
              have hc := c.toNat_lt
              simp only [List.getElem?_cons_zero, Option.getD_some, List.getElem?_cons_succ] at h3 hn ⊢
              split
              · rename_i h4
                have hv : Vc (a.toNat % 16 * 4096 + b.toNat % 64 * 64 + c.toNat % 64) := by unfold Vc; omega
                refine fp_of_enc (E := [a, b, c]) (t := t3) hv ?_ rfl rfl
                rw [enc_eq hv, if_neg (by omega), if_neg (by omega), if_pos (by omega), b8_of (x := a) (by omega), b8_of (x := b) (by omega), b8_of (x := c) (by omega)]
              · rename_i h4
                rw [if_neg h4] at hn
                exact absurd ⟨rfl, by decide⟩ hn
        · rename_i h3
          rw [if_neg h3] at hn
          split
          · rename_i h4
            rw [if_pos h4] at hn
            cases t1 with
            | nil => exfalso; simp at h4
            | cons b t2 =>
              cases t2 with
              | nil => exfalso; simp at h4
              | cons c t3 =>
                cases t3 with
                | nil => exfalso; simp at h4
                | cons d t4 =>
                  have hb := b.toNat_lt
                  have hc := c.toNat_lt
                  have hd := d.toNat_lt
                  simp only [List.getElem?_cons_zero, Option.getD_some, List.getElem?_cons_succ] at h4 hn ⊢
                  split
                  · rename_i h5
                    have hv : Vc (a.toNat % 8 * 262144 + b.toNat % 64 * 4096 + c.toNat % 64 * 64 + d.toNat % 64) := by unfold Vc; omega
                    refine fp_of_enc (E := [a, b, c, d]) (t := t4) hv ?_ rfl rfl
                    rw [enc_eq hv, if_neg (by omega), if_neg (by omega), if_neg (by omega), b8_of (x := a) (by omega), b8_of (x := b) (by omega), b8_of (x := c) (by omega), b8_of (x := d) (by omega)]
                  · rename_i h5
                    rw [if_neg h5] at hn
                    exact absurd ⟨rfl, by decide⟩ hn
          · rename_i h4
            rw [if_neg h4] at hn
            exact absurd ⟨rfl, by decide⟩ hn
theorem dec_no (s : ByteArray) (hn : (Utf8.decode s 0).1 = 65533 ∧ (Utf8.decode s 0).2 < 2) : fp (bts s) = none := by
  cases h : fp (bts s) with
  | none => rfl
  | some r =>
    obtain ⟨c, k⟩ := r
    obtain ⟨hv, hk, t, ht⟩ := fp_some.1 h
    have := decode_enc s 0 c hv t (by rw [List.drop_zero]; exact ht)
    rw [this] at hn
    obtain ⟨h1, h2⟩ := hn
    simp only at h1 h2
    subst h1
    have he : (enc 65533).length = 3 := by rw [enc_eq hv]; rfl
    omega

end Go.Proofs.YtanlgplgplncdaaGreatDoor

/-
  The document's reader: runes.
-/
namespace Go.Proofs.YtanlgplgplncdaaGreatDoor
open Go.RowKit
set_option linter.unusedVariables false
set_option linter.unusedSimpArgs false

/-- Go's tables of UTF-8 lie below B, as its text lays them. -/
def Tb (B : Nat) (w : World) : Prop := ∃ W0, W0.heap.size = B ∧ Lib.Utf8Tabs 0 1 W0 ∧ Below B W0 w
theorem Tb.size {B : Nat} {w : World} (h : Tb B w) : B ≤ w.heap.size := by
  obtain ⟨W0, e, _, hb⟩ := h
  rw [← e]; exact hb.size
theorem Tb.below {B B' : Nat} {w w' : World} (h : Tb B w) (hb : Below B' w w') (hB : B ≤ B') : Tb B w' := by
  obtain ⟨W0, e, ht, h0⟩ := h
  exact ⟨W0, e, ht, h0.trans (hb.mono hB)⟩
theorem Tb.later {B : Nat} {w w' : World} (h : Tb B w) (hb : Below w.heap.size w w') : Tb B w' := h.below hb h.size
theorem Tb.chg {B : Nat} {F : Nat → Prop} {w w' : World} (h : Tb B w) (hc : Chg F w w') (hF : ∀ i, F i → B ≤ i) : Tb B w' := h.below (hc.below h.size hF) (Nat.le_refl _)
theorem Tb.tabs {B : Nat} {w : World} (h : Tb B w) : Lib.Utf8Tabs 0 1 w := by
  obtain ⟨W0, e, ht, h0⟩ := h
  rw [← e] at h0
  exact Utf8Tabs_below ht h0
theorem Tb.new {w : World} (h : Lib.Utf8Tabs 0 1 w) : Tb w.heap.size w := ⟨w, rfl, h, Below.refl _ _⟩

theorem decodeR (B : Nat) (s : ByteArray) (w : World) (hT : Tb B w) : Calls Tryz.prog 77 #[.string s] w fun e w' => e = .returned (.tuple #[.int .i32 ((Lib.decodeGo s).1 : Int), .int .i64 ((Lib.decodeGo s).2 : Int)]) ∧ Below w.heap.size w w' :=
  Any.utf8_DecodeRuneInString Tryz.lays197 s w hT.tabs

theorem info21 : (Tryz.prog.info? 21).map (fun i => (i.zero, i.size, i.bytes)) = some (some (.int .i32 0), 1, 4) := by kernel_rfl
theorem info3 : (Tryz.prog.info? 3).map (fun i => (i.zero, i.size, i.bytes)) = some (some (.int .i64 0), 1, 8) := by kernel_rfl
def c32 (l : List Int) : List Value := l.map (fun x => .int .i32 x)
def c64 (l : List Nat) : List Value := l.map (fun (x : Nat) => Value.int .i64 (x : Int))
/-- Code points and places that grow. -/
structure RU (w wx : World) (ra : Option Addr) (n rc : Nat) (aa : Option Addr) (m ac : Nat) (rl : List Int) (al : List Nat) : Prop where
  bel : Below w.heap.size w wx
  o1 : wx.ownsRow w.heap.size 21 1 (.slice ra n rc) n (c32 rl)
  o2 : wx.ownsRow w.heap.size 3 1 (.slice aa m ac) m (c64 al)
  ne : ∀ b, (Value.slice ra n rc).ownBlock = some b → (Value.slice aa m ac).ownBlock ≠ some b
theorem RU.later {w wx wy : World} {ra : Option Addr} {n rc : Nat} {aa : Option Addr} {m ac : Nat} {rl : List Int} {al : List Nat} (h : RU w wx ra n rc aa m ac rl al) (hb : Below wx.heap.size wx wy) : RU w wy ra n rc aa m ac rl al :=
  ⟨h.bel.trans (hb.mono h.bel.size), owl h.o1 hb, owl h.o2 hb, h.ne⟩
theorem RU.push1 {w wx w6 : World} {ra : Option Addr} {n rc : Nat} {aa : Option Addr} {m ac : Nat} {rl : List Int} {al : List Nat} (h : RU w wx ra n rc aa m ac rl al) {o : Obj} {g6 c6 : Nat} {x : Int} (ho : w6.ownsRow w.heap.size 21 1 (.slice (some ⟨g6, 0, none⟩) (n + 1) c6) (n + 1) (c32 rl ++ [.int .i32 x])) (hp : Pushed (wx.alloc o) w6 (.slice ra n rc) g6) : RU w w6 (some ⟨g6, 0, none⟩) (n + 1) c6 aa m ac (rl ++ [x]) al := by
  obtain ⟨hc, hm⟩ := hp.chg
  refine ⟨h.bel.trans (hc.below h.bel.size (fun i hi => (h.o1.lt i hi).1)), by simpa [c32] using ho, hc.owns h.o2 (fun b hb e => h.ne b e hb), fun b hb e => ?_⟩
  simp [Value.ownBlock] at hb
  subst hb
  rcases hm with e2 | ⟨y, e2, hy⟩
  · exact h.ne g6 e2.symm e
  · injection e2 with e2
    have := owns_lt h.o2 g6 e
    omega
theorem RU.push2 {w wx w6 : World} {ra : Option Addr} {n rc : Nat} {aa : Option Addr} {m ac : Nat} {rl : List Int} {al : List Nat} (h : RU w wx ra n rc aa m ac rl al) {o : Obj} {g6 c6 : Nat} {x : Nat} (ho : w6.ownsRow w.heap.size 3 1 (.slice (some ⟨g6, 0, none⟩) (m + 1) c6) (m + 1) (c64 al ++ [.int .i64 (x : Int)])) (hp : Pushed (wx.alloc o) w6 (.slice aa m ac) g6) : RU w w6 ra n rc (some ⟨g6, 0, none⟩) (m + 1) c6 rl (al ++ [x]) := by
  obtain ⟨hc, hm⟩ := hp.chg
  refine ⟨h.bel.trans (hc.below h.bel.size (fun i hi => (h.o2.lt i hi).1)), hc.owns h.o1 (fun b hb e => h.ne b hb e), by simpa [c64] using ho, fun b hb e => ?_⟩
  simp [Value.ownBlock] at e
  subst e
  rcases hm with e2 | ⟨y, e2, hy⟩
  · exact h.ne g6 hb e2.symm
  · injection e2 with e2
    have := owns_lt h.o1 g6 hb
    omega
/-- What runes answers. -/
def RunesR (s : ByteArray) (w : World) (e : Ending) (w' : World) : Prop := ∃ ra n rc aa ac rl al, e = .returned (.tuple #[.slice ra n rc, .slice aa (n + 1) ac]) ∧ Rn (bts s) 0 rl al ∧ RU w w' ra n rc aa (n + 1) ac rl al ∧ n ≤ s.size

set_option maxRecDepth 100000 in
set_option maxHeartbeats 0 in
theorem runesR (B : Nat) (s : ByteArray) (w : World) (hs : s.size ≤ 2000000) (hT : Tb B w) : Calls Tryz.prog 59 #[.string s] w (RunesR s w) := by
  obtain ⟨i0, hi0, hz0, hz1, hz2⟩ := info_parts info21
  have HI := hidden hi0
  obtain ⟨j0, hj0, hy0, hy1, hy2⟩ := info_parts info3
  have HJ := hidden hj0
  have HT := hidden hT
  have HSB := hidden (size_bts s)
  have H0 : Hid (RU w w none 0 0 none 0 0 [] []) := hidden ⟨Below.refl _ _, World.ownsRow_nil _ _ _ _, World.ownsRow_nil _ _ _ _, fun b hb => by simp [Value.ownBlock] at hb⟩
  have HR0 : Hid (∀ cs ps, Rn (bts s) 0 cs ps → Rn (bts s) 0 ([] ++ cs) ([] ++ ps)) := hidden (fun cs ps h => h)
  clear hi0 hj0 hT
  go_enter Tryz.func59, Tryz.ntmps59
  go_wp2_with fail
  go_loopw [4, 5, 6] (fun s4 s5 s6 wx => ∃ (ra : Option Addr) (n rc : Nat) (aa : Option Addr) (ac a : Nat), s4 = .slice ra n rc ∧ s5 = .slice aa n ac ∧ s6 = .int .i64 (a : Int) ∧ a ≤ s.size ∧ n ≤ a ∧ Hid (∃ rl al, RU w wx ra n rc aa n ac rl al ∧ ∀ cs ps, Rn (bts s) a cs ps → Rn (bts s) 0 (rl ++ cs) (al ++ ps))) (fun _ _ s6 _ => s.size - (intOf s6).toNat)
  case atStart => exact ⟨none, 0, 0, none, 0, 0, rfl, rfl, rfl, by omega, by omega, hidden ⟨[], [], H0.out, HR0.out⟩⟩
  case round =>
    rename World => wr
    obtain ⟨ra, n, rc, aa, ac, a, rfl, rfl, rfl, ha, hna, hex⟩ := hrel
    clear H0 HR0
    obtain ⟨rl, al, hU, hN⟩ := hex.out
    clear hex
    have HU := hidden hU
    have HN := hidden hN
    clear hU hN
    by_cases hlt : a < s.size
    · have hltz : (a : Int) < (s.size : Int) := by omega
      have haz : (a : Int) ≤ (s.size : Int) := by omega
      obtain ⟨t, ht⟩ : ∃ t, s.extract a s.size = t := ⟨_, rfl⟩
      have HTT := hidden ht
      have hbt : bts t = (bts s).drop a := by rw [← ht, bts_extract, List.take_of_length_le (by rw [List.length_drop, ← HSB.out]; omega)]
      have hne : bts t ≠ [] := by
        intro e
        have := congrArg List.length e
        rw [hbt, List.length_drop, ← HSB.out] at this
        simp at this
        omega
      have hdg : Lib.decodeGo t = Utf8.decode t 0 := by
        unfold Lib.decodeGo
        rw [if_neg]
        intro e
        rw [size_bts] at e
        exact hne (List.eq_nil_of_length_eq_zero e)
      have kD := decodeR B t wr (HT.out.later (HU.out.bel.mono (Nat.le_refl _)))
      rw [hdg] at kD
      have hOK := dec_ok t hne
      have hNO := dec_no t
      rw [hbt] at hOK hNO
      obtain ⟨⟨c, k⟩, hck⟩ : ∃ r, Utf8.decode t 0 = r := ⟨_, rfl⟩
      rw [hck] at kD hOK hNO
      simp only at kD hOK hNO
      have HOK := hidden hOK
      have HNO := hidden hNO
      clear hOK hNO hck hdg hne hbt ht
      have HCN : Hid (∀ wx : World, (wx.alloc (.cells #[.int .i64 (a : Int)] 3)).cell? ⟨wx.heap.size, 0, none⟩ = some (.int .i64 (a : Int))) := hidden (fun wx => (Blk.new wx 3 [.int .i64 (a : Int)]).cell 0)
      have HCM : Hid (∀ (wx : World) (x : Int), (wx.alloc (.cells #[.int .i32 x] 21)).cell? ⟨wx.heap.size, 0, none⟩ = some (.int .i32 x)) := hidden (fun wx x => (Blk.new wx 21 [.int .i32 x]).cell 0)
      have HBS : Hid (∀ wx, Below w.heap.size w wx → w.heap.size ≤ wx.heap.size) := hidden (fun wx h => h.size)
      by_cases hbad : c = 65533 ∧ k < 2
      · obtain ⟨hc0, hk0⟩ := hbad
        have hcz : (c : Int) = 65533 := by omega
        have hkz : (k : Int) < 2 := by omega
        have HF := hidden (HNO.out ⟨hc0, hk0⟩)
        have HEND : Hid (Rn (bts s) 0 (rl ++ [-2]) (al ++ [a, a])) := hidden (HN.out _ _ (.bad a (by rw [← HSB.out]; exact hlt) HF.out))
        clear HOK HNO hc0 hk0
        go_upto_region 6 with (go_at_call 77; rw [HTT.out]; refine kD.mono ?_; rintro e w2 ⟨rfl, g2⟩; have U2 := hidden (HU.out.later g2); clear kD g2)
        go_wp2_with (first
          | (refine wpList_push _ rfl (.tmp 20) (.tmp 22) 115 rfl 3 j0 (.int .i64 0) 8 Tryz.underlying115 HJ.out hy0 hy1 hy2 rfl w.heap.size (.slice aa n ac) n (c64 al) rfl (U2.out.o2.alloc _) ⟨w2.heap.size, 0, none⟩ (.int .i64 (a : Int)) rfl (HCN.out w2) rfl (by unfold maxLen; omega) (by omega) (by have := HBS.out _ U2.out.bel; simp; omega) ?_; intro g3 c3 w3 ho3 hp3; have U3 := hidden (U2.out.push2 ho3 hp3); clear ho3 hp3)
          | (refine wpList_push _ rfl (.tmp 30) (.tmp 31) 114 rfl 21 i0 (.int .i32 0) 4 Tryz.underlying114 HI.out hz0 hz1 hz2 rfl w.heap.size (.slice ra n rc) n (c32 rl) rfl (U3.out.o1.alloc _) ⟨w3.heap.size, 0, none⟩ (.int .i32 (-2)) rfl (HCM.out w3 (-2)) rfl (by unfold maxLen; omega) (by omega) (by have := HBS.out _ U3.out.bel; simp; omega) ?_; intro g4 c4 w4 ho4 hp4; have U4 := hidden (U3.out.push1 ho4 hp4); clear ho4 hp4)
          | (refine wpList_push _ rfl (.tmp 34) (.tmp 36) 115 rfl 3 j0 (.int .i64 0) 8 Tryz.underlying115 HJ.out hy0 hy1 hy2 rfl w.heap.size (.slice (some ⟨g3, 0, none⟩) (n + 1) c3) (n + 1) (c64 (al ++ [a])) rfl (U4.out.o2.alloc _) ⟨w4.heap.size, 0, none⟩ (.int .i64 (a : Int)) rfl (HCN.out w4) rfl (by unfold maxLen; omega) (by omega) (by have := HBS.out _ U4.out.bel; simp; omega) ?_; intro g5 c5 w5 ho5 hp5; have U5 := hidden (U4.out.push2 ho5 hp5); clear ho5 hp5))
        go_ret2
        refine ⟨_, n + 1, c4, _, c5, rl ++ [-2], al ++ [a] ++ [a], rfl, ?_, U5.out, by omega⟩
        rw [List.append_assoc]
        exact HEND.out
      · have HF := hidden (HOK.out hbad)
        have hkl := fp_len HF.out
        rw [List.length_drop, ← HSB.out] at hkl
        have HEND : Hid (∀ cs ps, Rn (bts s) (a + k) cs ps → Rn (bts s) 0 ((rl ++ [(c : Int)]) ++ cs) ((al ++ [a]) ++ ps)) := hidden (fun cs ps h => by
          rw [List.append_assoc, List.append_assoc]
          exact HN.out _ _ (.step a c k cs ps HF.out h))
        clear HOK HNO
        go_upto_region 7 with (first
          | (go_at_call 77; rw [HTT.out]; refine kD.mono ?_; rintro e w2 ⟨rfl, g2⟩; have U2 := hidden (HU.out.later g2); clear kD g2)
          | (refine wpList_push _ rfl (.tmp 20) (.tmp 22) 115 rfl 3 j0 (.int .i64 0) 8 Tryz.underlying115 HJ.out hy0 hy1 hy2 rfl w.heap.size (.slice aa n ac) n (c64 al) rfl (U2.out.o2.alloc _) ⟨w2.heap.size, 0, none⟩ (.int .i64 (a : Int)) rfl (HCN.out w2) rfl (by unfold maxLen; omega) (by omega) (by have := HBS.out _ U2.out.bel; simp; omega) ?_; intro g3 c3 w3 ho3 hp3; have U3 := hidden (U2.out.push2 ho3 hp3); clear ho3 hp3))
        go_cut [29] from 9 to 44 (fun s wx => s = .bool false ∧ wx = w3)
        case first =>
          by_cases hc0 : (c : Int) = 65533
          · have hkz : ¬ (k : Int) < 2 := fun e => hbad ⟨by omega, by omega⟩
            have hcc : ((c : Int) == 65533) = true := by simp [hc0]
            have HC0 := hidden hc0
            clear hc0
            go_wp2_with fail
            go_meet
            exact ⟨rfl, rfl⟩
          · go_wp2_with fail
            go_meet
            exact ⟨rfl, rfl⟩
        case rest =>
          obtain ⟨rfl, hwc⟩ := hcut
          obtain rfl := hwc.symm
          clear hwc hbad
          go_wp2_with (refine wpList_push _ rfl (.tmp 38) (.tmp 40) 114 rfl 21 i0 (.int .i32 0) 4 Tryz.underlying114 HI.out hz0 hz1 hz2 rfl w.heap.size (.slice ra n rc) n (c32 rl) rfl (U3.out.o1.alloc _) ⟨w3.heap.size, 0, none⟩ (.int .i32 (c : Int)) rfl (HCM.out w3 (c : Int)) rfl (by unfold maxLen; omega) (by omega) (by have := HBS.out _ U3.out.bel; simp; omega) ?_; intro g4 c4 w4 ho4 hp4; have U4 := hidden (U3.out.push1 ho4 hp4); clear ho4 hp4)
          refine ⟨⟨some ⟨g4, 0, none⟩, n + 1, c4, some ⟨g3, 0, none⟩, c3, a + k, by first | rfl | simp, by first | rfl | simp, by first | rfl | simp, by omega, by omega, hidden ⟨_, _, U4.out, HEND.out⟩⟩, ?_⟩
          simp [intOf]
          omega
    · have hltz : ¬ (a : Int) < (s.size : Int) := by omega
      have HCN : Hid ((wr.alloc (.cells #[.int .i64 (s.size : Int)] 3)).cell? ⟨wr.heap.size, 0, none⟩ = some (.int .i64 (s.size : Int))) := hidden ((Blk.new wr 3 [.int .i64 (s.size : Int)]).cell 0)
      have HEND : Hid (Rn (bts s) 0 rl (al ++ [s.size])) := hidden (by
        have := HN.out [] [(bts s).length] (by rw [show a = (bts s).length by rw [← HSB.out]; omega]; exact .fin)
        rw [List.append_nil, ← HSB.out] at this
        exact this)
      have HBS : Hid (w.heap.size ≤ wr.heap.size) := hidden HU.out.bel.size
      go_wp2_with (refine wpList_push _ rfl (.tmp 46) (.tmp 49) 115 rfl 3 j0 (.int .i64 0) 8 Tryz.underlying115 HJ.out hy0 hy1 hy2 rfl w.heap.size (.slice aa n ac) n (c64 al) rfl (HU.out.o2.alloc _) ⟨wr.heap.size, 0, none⟩ (.int .i64 (s.size : Int)) rfl HCN.out rfl (by unfold maxLen; omega) (by omega) (by have := HBS.out; simp; omega) ?_; intro g3 c3 w3 ho3 hp3; have U3 := hidden (HU.out.push2 ho3 hp3); clear ho3 hp3)
      go_ret2
      exact ⟨_, n, rc, _, c3, rl, al ++ [s.size], rfl, HEND.out, U3.out, by omega⟩

end Go.Proofs.YtanlgplgplncdaaGreatDoor
