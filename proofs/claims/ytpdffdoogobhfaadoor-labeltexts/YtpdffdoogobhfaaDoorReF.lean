/-
  The document's Sort.
-/
import Derived.Test.YtpdffdoogobhfaaDoorReE
namespace Go.Proofs.YtpdffdoogobhfaaDoor
open Go.RowKit
set_option linter.unusedVariables false
set_option linter.unusedSimpArgs false

theorem takeS {l : List Lb} {i : Nat} {x : Lb} (h : l[i]? = some x) : l.take (i + 1) = l.take i ++ [x] := by
  rw [List.take_add_one, h]; rfl
theorem leq_cases (x y : Lb) : (ltN x y = false ∧ ltN y x = false ∧ (y.n.toList == x.n.toList) = true) ∨ (ltN x y = false ∧ ltN y x = true) ∨ (ltN x y = true ∧ ltN y x = false ∧ (y.n.toList == x.n.toList) = false) := by
  cases h1 : ltN x y
  · cases h2 : ltN y x
    · refine .inl ⟨rfl, rfl, ?_⟩
      have := lss_tri (x := bts x.n) (y := bts y.n) h1 h2
      rw [toList_bts, toList_bts, this]; simp
    · exact .inr (.inl ⟨rfl, rfl⟩)
  · refine .inr (.inr ⟨rfl, lss_asymm h1, ?_⟩)
    rw [toList_bts, toList_bts]
    simp only [beq_eq_false_iff_ne, ne_eq]
    intro e
    have : lss (bts x.n) (bts y.n) = true := h1
    rw [e, lss_irr] at this; cases this

set_option maxRecDepth 100000 in
set_option maxHeartbeats 0 in
theorem rsortP (ad : Option Addr) (c0' : Nat) (l : List Lb) (w : World) (hL : Ls w ad l) (hlen : l.length ≤ 4611686018427387904) (hsm : Sm l) :
    Calls Tryd.prog 11 #[.slice ad l.length c0'] w fun e w' => ∃ v, e = .returned (.tuple #[v, .int .i64 (errL (sortOk l))]) ∧ w'.ownsRow w.heap.size 35 2 v (bif sortOk l then l.length else 0) (cL (bif sortOk l then srt l else [])) ∧ Below w.heap.size w w' := by
  obtain ⟨n, hn⟩ : ∃ n, l.length = n := ⟨_, rfl⟩
  rw [hn] at hlen ⊢
  have HL := hidden hL
  have HN := hidden hn
  have HM := hidden hsm
  clear hL hn hsm
  go_enter Tryd.func11, Tryd.ntmps11
  go_wp2
  go_loopw [4, 5] (fun s0 s1 wx => ∃ (i : Nat) (a : Option Addr) (c : Nat) (o : List Lb), s0 = .slice a i c ∧ s1 = .int .i64 (i : Int) ∧ i ≤ n ∧ i ≤ 9 ∧ Hid (wx.ownsRow w.heap.size 35 2 (.slice a i c) i (cL o)) ∧ Hid (Srt o ∧ o.Perm (l.take i)) ∧ Hid (Below w.heap.size w wx)) (fun _ s1 _ => n - (intOf s1).toNat)
  case atStart => exact ⟨0, none, 0, [], rfl, rfl, by omega, by omega, hidden (World.ownsRow_nil _ _ _ _), hidden ⟨List.Pairwise.nil, by simp⟩, hidden (Below.refl _ _)⟩
  case round =>
    rename World => wr
    obtain ⟨i, a, c, o, rfl, rfl, hi, hi9, ho, HSO, hbel⟩ := hrel
    have HOL : Hid (o.length = i) := hidden (owns_len ho.out)
    by_cases hlt : i < n
    · have hltz : (i : Int) < (n : Int) := by omega
      by_cases h8 : i ≤ 8
      · have h8z : (i : Int) ≤ 8 := by omega
        obtain ⟨b, off, x, rfl, hb, hx, hx', c0, c1', y0, y1⟩ := (HL.out.later hbel.out).get (i := i) (by rw [HN.out]; exact hlt)
        have HX := hidden hx
        have HXS := hidden (And.intro y0 y1)
        obtain ⟨_, _, eaa, hano, hasm, hic, hcm⟩ := owns_formL ho.out
        injection eaa with ea1 ea2 ea3
        subst ea1 ea3
        have HLO := hidden (ls_of_owns ho.out (Szs.perm (fun y hy => HM.out.szs y (List.mem_of_mem_take hy)) HSO.out.2))
        clear hx hx' y0 y1
        go_wp2
        go_loopw [6] (fun s0 wx => ∃ k : Nat, s0 = .int .i64 (k : Int) ∧ k ≤ i ∧ Hid (pos x o = k + pos x (o.drop k)) ∧ Hid (Below wr.heap.size wr wx)) (fun s0 _ => i - (intOf s0).toNat)
        case atStart => exact ⟨0, rfl, by omega, hidden (by simp), hidden (Below.refl _ _)⟩
        case round =>
          rename World => wi
          obtain ⟨at', rfl, hat, hpos, hbi⟩ := hrel
          by_cases hk : at' < i
          · have hkz : (at' : Int) < (i : Int) := by omega
            obtain ⟨g, off2, y, e2, hb2, hy, hy', p0, p1, _, _⟩ := (HLO.out.later hbi.out).get (i := at') (by rw [HOL.out]; exact hk)
            subst e2
            have hoff : off2 = 0 := (hasm _ rfl).1
            subst hoff
            rw [Nat.zero_add] at p0 p1
            have HY := hidden hy
            have k0 : wi.cell? ⟨b, off + i * 2, none⟩ = some (.string x.n) := (hbi.out.cell (p := ⟨b, off + i * 2, none⟩) hb).trans c0
            have q1 : Op.bytesLess y.n.toList x.n.toList = ltN y x := by rw [bytesLess_lss, toList_bts, toList_bts]; rfl
            clear hy hy' hano hasm
            rcases leq_cases x y with ⟨hl, f1, f2⟩ | ⟨hl, f1⟩ | ⟨hl, f1, f2⟩
            · rw [f1] at q1
              clear f1
              have HP : Hid (pos x o = at' + 1 + pos x (o.drop (at' + 1))) := hidden (by rw [hpos.out, pos_drop x o at' HY.out hl]; omega)
              clear hpos hl
              go_wp2
              go_quiet (fail)
              go_wp2
              refine ⟨⟨at' + 1, by first | rfl | simp, by omega, HP, hidden (below_drewN hbi.out _)⟩, ?_⟩
              simp [intOf]
              omega
            · rw [f1] at q1
              clear f1
              have HP : Hid (pos x o = at' + 1 + pos x (o.drop (at' + 1))) := hidden (by rw [hpos.out, pos_drop x o at' HY.out hl]; omega)
              clear hpos hl
              go_wp2
              go_quiet (fail)
              go_wp2
              refine ⟨⟨at' + 1, by first | rfl | simp, by omega, HP, hidden (below_drewN hbi.out _)⟩, ?_⟩
              simp [intOf]
              omega
            · rw [f1] at q1
              clear f1
              have HSTOP : Hid (pos x (o.drop at') = 0) := hidden (pos_stop x o at' HY.out hl)
              clear hl
              have HAT : Hid (pos x o = at') := hidden (by rw [hpos.out, HSTOP.out, Nat.add_zero])
              have hz1 : (at' : Int) ≤ (c : Int) := by omega
              have hz2 : (at' : Int) ≤ (i : Int) := by omega
              clear hpos HSTOP
              go_wp2
              go_quiet (fail)
              go_wp2_with (refine wpList_appL _ rfl (.tmp 38) (.tmp 41) rfl wr.heap.size (.slice none 0 0) 0 [] rfl (World.ownsRow_nil _ _ _ _) (some ⟨g, 0, none⟩) at' c (o.take at') rfl ((HLO.out.later (below_drewN hbi.out _)).take at') ?q0_1 (fun e => by cases e) at' ?q0_2 ?q0_3 ?q0_4 ?_)
              case q0_1 => rw [List.length_take, HOL.out]; omega
              case q0_2 => omega
              case q0_3 => omega
              case q0_4 => have := hbi.out.size; simpa using this
              intro a1 c1 w1 ho1 hb1
              have HB1 := hidden ((below_drewN hbi.out _).trans hb1)
              have HO1 := hidden ho1
              clear ho1 hb1
              have g0 : w1.cell? ⟨b, off + i * 2, none⟩ = some (.string x.n) := (HB1.out.cell (p := ⟨b, off + i * 2, none⟩) hb).trans c0
              have g1 : w1.cell? ⟨b, off + i * 2 + 1, none⟩ = some (.string x.v) := (HB1.out.cell (p := ⟨b, off + i * 2 + 1, none⟩) hb).trans c1'
              go_wp2_with (refine wpList_appL _ rfl (.tmp 43) (.tmp 48) rfl wr.heap.size (.slice a1 at' c1) at' (o.take at') rfl (HO1.out.alloc _) (some ⟨w1.heap.size, 0, none⟩) 1 1 [x] rfl (ls_one w1 x HXS.out) rfl (fun e => by cases e) (at' + 1) rfl ?q1_3 ?q1_4 ?_)
              case q1_3 => omega
              case q1_4 => have := HB1.out.size; simp; omega
              intro a2 c2 w2 ho2 hb2
              have HB2 := hidden ((HB1.out.alloc HB1.out.size _).trans hb2)
              have HO2 := hidden ho2
              clear ho2 hb2 g0 g1
              go_wp2_with (refine wpList_appL _ rfl (.tmp 50) (.tmp 53) rfl wr.heap.size (.slice a2 (at' + 1) c2) (at' + 1) (o.take at' ++ [x]) rfl HO2.out _ _ _ (o.drop at') rfl ?q2_L ?q2_1 ?q2_2 (i + 1) ?q2_3 ?q2_4 ?q2_5 ?_)
              case q2_L => have := (HLO.out.later HB2.out).drop at'; rwa [Nat.zero_add] at this
              case q2_1 => rw [List.length_drop, HOL.out]
              try (case q2_2 => intro e; cases e)
              case q2_3 => omega
              case q2_4 => omega
              case q2_5 => exact HB2.out.size
              intro a3 c3 w3 ho3 hb3
              have HB3 := hidden (HB2.out.trans hb3)
              have HO3 := hidden ho3
              clear ho3 hb3
              go_wp2
              refine ⟨⟨i + 1, a3, c3, insL x o, by first | rfl | simp, by first | rfl | simp, by omega, by omega, hidden ?_, hidden ⟨insL_srt x o HSO.out.1, ?_⟩, hidden (hbel.out.trans (HB3.out.mono hbel.out.size))⟩, ?_⟩
              · have := HO3.out
                try simp only [List.append_assoc, List.singleton_append] at this
                rw [insL, HAT.out]
                exact owns_base this (fun g hg => Nat.le_trans hbel.out.size (this.lt g hg).1)
              · rw [takeS HX.out]
                exact (insL_perm x o).trans ((HSO.out.2.cons x).trans (List.perm_append_singleton x _).symm)
              · simp [intOf]
                omega
          · have hkz : ¬ (at' : Int) < (i : Int) := by omega
            have hkz' : decide ((at' : Int) < (i : Int)) = false := decide_eq_false hkz
            have HSTOP : Hid (pos x (o.drop at') = 0) := hidden (by rw [List.drop_of_length_le (by rw [HOL.out]; omega)]; rfl)
            cases a with
            | none =>
              obtain ⟨e1, e2⟩ := hano rfl
              subst e2
              obtain rfl : at' = 0 := by omega
              have HE1 := hidden e1
              have HON : Hid (o = []) := hidden (List.eq_nil_of_length_eq_zero (by rw [HOL.out]; exact e1))
              clear hasm hano hpos HSTOP hkz' hkz hk hat e1 hic
              have hkz : ¬ (0 : Int) < (i : Int) := by have := HE1.out; omega
              have hkz' : decide ((0 : Int) < (i : Int)) = false := decide_eq_false hkz
              have hk1 : ¬ 0 < i := by have := HE1.out; omega
              have hk2 : decide (0 < i) = false := decide_eq_false hk1
              go_wp2
              go_quiet (fail)
              go_wp2_with (refine wpList_appL _ rfl (.tmp 38) (.tmp 41) rfl wr.heap.size (.slice none 0 0) 0 [] rfl (World.ownsRow_nil _ _ _ _) _ _ _ [] rfl (Ls.nil _ _) ?q3_1 ?q3_2 0 ?q3_3 ?q3_4 ?q3_5 ?_)
              all_goals try (case q3_1 => first | rfl | simp)
              all_goals try (case q3_2 => intro e; exact ⟨rfl, rfl⟩)
              all_goals try (case q3_3 => first | rfl | simp)
              all_goals try (case q3_4 => omega)
              all_goals try (case q3_5 => have := hbi.out.size; simpa using this)
              intro a1 c1 w1 ho1 hb1
              have HB1 := hidden ((below_drewN hbi.out _).trans hb1)
              try simp only [List.append_nil] at ho1
              have HO1 := hidden ho1
              clear ho1 hb1
              have g0 : w1.cell? ⟨b, off + i * 2, none⟩ = some (.string x.n) := (HB1.out.cell (p := ⟨b, off + i * 2, none⟩) hb).trans c0
              have g1 : w1.cell? ⟨b, off + i * 2 + 1, none⟩ = some (.string x.v) := (HB1.out.cell (p := ⟨b, off + i * 2 + 1, none⟩) hb).trans c1'
              go_wp2_with (refine wpList_appL _ rfl (.tmp 43) (.tmp 48) rfl wr.heap.size (.slice a1 0 c1) 0 [] rfl (HO1.out.alloc _) (some ⟨w1.heap.size, 0, none⟩) 1 1 [x] rfl (ls_one w1 x HXS.out) rfl (fun e => by cases e) 1 rfl ?q4_3 ?q4_4 ?_)
              case q4_3 => omega
              case q4_4 => have := HB1.out.size; simp; omega
              intro a2 c2 w2 ho2 hb2
              have HB2 := hidden ((HB1.out.alloc HB1.out.size _).trans hb2)
              try simp only [List.nil_append] at ho2
              have HO2 := hidden ho2
              clear ho2 hb2 g0 g1
              go_wp2_with (refine wpList_appL _ rfl (.tmp 50) (.tmp 53) rfl wr.heap.size (.slice a2 1 c2) 1 [x] rfl HO2.out _ _ _ [] rfl (Ls.nil _ _) ?q5_1 ?q5_2 (i + 1) ?q5_3 ?q5_4 ?q5_5 ?_)
              all_goals try (case q5_1 => have := HE1.out; simp; omega)
              all_goals try (case q5_2 => intro e; exact ⟨rfl, rfl⟩)
              all_goals try (case q5_3 => omega)
              all_goals try (case q5_4 => omega)
              all_goals try (case q5_5 => exact HB2.out.size)
              intro a3 c3 w3 ho3 hb3
              have HB3 := hidden (HB2.out.trans hb3)
              have HO3 := hidden ho3
              clear ho3 hb3
              go_wp2
              refine ⟨⟨i + 1, a3, c3, [x], by first | rfl | simp, by first | rfl | simp, by omega, by omega, hidden ?_, hidden ⟨by simp [Srt], ?_⟩, hidden (hbel.out.trans (HB3.out.mono hbel.out.size))⟩, ?_⟩
              · have := HO3.out
                exact owns_base this (fun g hg => Nat.le_trans hbel.out.size (this.lt g hg).1)
              · rw [takeS HX.out]
                have := HSO.out.2
                rw [HON.out] at this
                rw [List.Perm.eq_nil this.symm]
                exact List.Perm.refl _
              · simp [intOf]
                omega
            | some a =>
              obtain ⟨g, goff, gsp⟩ := a
              obtain ⟨e1, e2⟩ := hasm _ rfl
              simp only at e1 e2
              subst e1 e2
              clear hasm hano
              have HAT : Hid (pos x o = at') := hidden (by rw [hpos.out, HSTOP.out, Nat.add_zero])
              have hz1 : (at' : Int) ≤ (c : Int) := by omega
              have hz2 : (at' : Int) ≤ (i : Int) := by omega
              clear hpos HSTOP
              go_wp2
              go_quiet (fail)
              go_wp2_with (refine wpList_appL _ rfl (.tmp 38) (.tmp 41) rfl wr.heap.size (.slice none 0 0) 0 [] rfl (World.ownsRow_nil _ _ _ _) (some ⟨g, 0, none⟩) at' c (o.take at') rfl ((HLO.out.later (below_drewN hbi.out _)).take at') ?q6_1 (fun e => by cases e) at' ?q6_2 ?q6_3 ?q6_4 ?_)
              case q6_1 => rw [List.length_take, HOL.out]; omega
              case q6_2 => omega
              case q6_3 => omega
              case q6_4 => have := hbi.out.size; simpa using this
              intro a1 c1 w1 ho1 hb1
              have HB1 := hidden ((below_drewN hbi.out _).trans hb1)
              have HO1 := hidden ho1
              clear ho1 hb1
              have g0 : w1.cell? ⟨b, off + i * 2, none⟩ = some (.string x.n) := (HB1.out.cell (p := ⟨b, off + i * 2, none⟩) hb).trans c0
              have g1 : w1.cell? ⟨b, off + i * 2 + 1, none⟩ = some (.string x.v) := (HB1.out.cell (p := ⟨b, off + i * 2 + 1, none⟩) hb).trans c1'
              go_wp2_with (refine wpList_appL _ rfl (.tmp 43) (.tmp 48) rfl wr.heap.size (.slice a1 at' c1) at' (o.take at') rfl (HO1.out.alloc _) (some ⟨w1.heap.size, 0, none⟩) 1 1 [x] rfl (ls_one w1 x HXS.out) rfl (fun e => by cases e) (at' + 1) rfl ?q7_3 ?q7_4 ?_)
              case q7_3 => omega
              case q7_4 => have := HB1.out.size; simp; omega
              intro a2 c2 w2 ho2 hb2
              have HB2 := hidden ((HB1.out.alloc HB1.out.size _).trans hb2)
              have HO2 := hidden ho2
              clear ho2 hb2 g0 g1
              have HDN : Hid (o.drop at' = []) := hidden (List.drop_of_length_le (by rw [HOL.out]; omega))
              go_wp2_with (refine wpList_appL _ rfl (.tmp 50) (.tmp 53) rfl wr.heap.size (.slice a2 (at' + 1) c2) (at' + 1) (o.take at' ++ [x]) rfl HO2.out _ _ _ [] rfl ?q8_L ?q8_1 ?q8_2 (i + 1) ?q8_3 ?q8_4 ?q8_5 ?_)
              all_goals first
                | exact Ls.nil _ _
                | (intro e; cases e; done)
                | omega
                | exact HB2.out.size
                | (simp; omega)
                | (intro a3 c3 w3 ho3 hb3
                   have HB3 := hidden (HB2.out.trans hb3)
                   have HO3 := hidden ho3
                   clear ho3 hb3
                   go_wp2
                   refine ⟨⟨i + 1, a3, c3, insL x o, by first | rfl | simp, by first | rfl | simp, by omega, by omega, hidden ?_, hidden ⟨insL_srt x o HSO.out.1, ?_⟩, hidden (hbel.out.trans (HB3.out.mono hbel.out.size))⟩, ?_⟩
                   · have := HO3.out
                     try simp only [List.append_assoc, List.append_nil] at this
                     rw [insL, HAT.out, HDN.out]
                     exact owns_base this (fun g hg => Nat.le_trans hbel.out.size (this.lt g hg).1)
                   · rw [takeS HX.out]
                     exact (insL_perm x o).trans ((HSO.out.2.cons x).trans (List.perm_append_singleton x _).symm)
                   · simp [intOf]
                     omega)
      · have h8z : ¬ (i : Int) ≤ 8 := by omega

        have HE := hidden (sort_end HSO.out.2 HSO.out.1 (by rw [HN.out]; omega))
        have kR := rrightP a c o wr (ls_of_owns ho.out (Szs.perm (fun y hy => HM.out.szs y (List.mem_of_mem_take hy)) HSO.out.2)) (by rw [HOL.out]; omega) (Sm.perm (fun y hy => HM.out y (List.mem_of_mem_take hy)) HSO.out.2)
        rw [HOL.out] at kR
        cases hr : right o with
        | false =>
          rw [hr] at kR
          have HK : Hid (sortOk l = false) := hidden (by rw [← HE.out.1]; exact hr)
          clear hr HE
          simp only [errL, cond_false] at kR
          go_wp2_with (go_at_call 15; refine kR.mono ?_; rintro e w9 ⟨rfl, hb9⟩; have HB9 := hidden hb9; clear hb9 kR)
          go_ret2
          rw [HK.out]; exact ⟨_, rfl, World.ownsRow_nil _ _ _ _, hbel.out.trans (HB9.out.mono hbel.out.size)⟩
        | true =>
          rw [hr] at kR
          have HK : Hid (sortOk l = true ∧ o = srt l) := hidden ⟨by rw [← HE.out.1]; exact hr, HE.out.2 hr⟩
          have HIN : Hid (i = n) := hidden (by have := (right_iff o).1 hr; rw [HOL.out] at this; omega)
          clear hr HE
          simp only [errL, cond_true] at kR
          go_wp2_with (go_at_call 15; refine kR.mono ?_; rintro e w9 ⟨rfl, hb9⟩; have HB9 := hidden hb9; clear hb9 kR)
          go_ret2
          rw [HK.out.1]; refine ⟨_, rfl, ?_, hbel.out.trans (HB9.out.mono hbel.out.size)⟩
          have := owl ho.out HB9.out
          rw [HK.out.2] at this
          have e := HIN.out
          subst e
          exact this
    · have hltz : ¬ (i : Int) < (n : Int) := by omega

      have HE := hidden (sort_end HSO.out.2 HSO.out.1 (by rw [HN.out]; omega))
      have kR := rrightP a c o wr (ls_of_owns ho.out (Szs.perm (fun y hy => HM.out.szs y (List.mem_of_mem_take hy)) HSO.out.2)) (by rw [HOL.out]; omega) (Sm.perm (fun y hy => HM.out y (List.mem_of_mem_take hy)) HSO.out.2)
      rw [HOL.out] at kR
      cases hr : right o with
      | false =>
        rw [hr] at kR
        have HK : Hid (sortOk l = false) := hidden (by rw [← HE.out.1]; exact hr)
        clear hr HE
        simp only [errL, cond_false] at kR
        go_wp2_with (go_at_call 15; refine kR.mono ?_; rintro e w9 ⟨rfl, hb9⟩; have HB9 := hidden hb9; clear hb9 kR)
        go_ret2
        rw [HK.out]; exact ⟨_, rfl, World.ownsRow_nil _ _ _ _, hbel.out.trans (HB9.out.mono hbel.out.size)⟩
      | true =>
        rw [hr] at kR
        have HK : Hid (sortOk l = true ∧ o = srt l) := hidden ⟨by rw [← HE.out.1]; exact hr, HE.out.2 hr⟩
        have HIN : Hid (i = n) := hidden (by have := (right_iff o).1 hr; rw [HOL.out] at this; omega)
        clear hr HE
        simp only [errL, cond_true] at kR
        go_wp2_with (go_at_call 15; refine kR.mono ?_; rintro e w9 ⟨rfl, hb9⟩; have HB9 := hidden hb9; clear hb9 kR)
        go_ret2
        rw [HK.out.1]; refine ⟨_, rfl, ?_, hbel.out.trans (HB9.out.mono hbel.out.size)⟩
        have := owl ho.out HB9.out
        rw [HK.out.2] at this
        have e := HIN.out
        subst e
        exact this

end Go.Proofs.YtpdffdoogobhfaaDoor
