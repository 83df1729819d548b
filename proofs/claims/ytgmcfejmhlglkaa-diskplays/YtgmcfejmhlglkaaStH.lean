/-
  Steps of a pair: Append twice of one list.
-/
import Derived.Test.YtgmcfejmhlglkaaStA
namespace Go.Proofs.Ytgmcfejmhlglkaa
open Go.RowKit
set_option linter.unusedVariables false
set_option linter.unusedSimpArgs false

theorem owns_nilQ {w : World} {base : Nat} {ad : Option Addr} {n c : Nat} {xs : List Value} (h : w.ownsRow base 5 1 (.slice ad n c) n xs) : ad = none → n = 0 ∧ c = 0 := by
  intro hn
  rcases h.2 with ⟨h0, h1⟩ | ⟨g, cap, cur, h0, _⟩
  · cases h0
    exact ⟨rfl, rfl⟩
  · rw [hn] at h0
    cases h0

set_option maxRecDepth 100000 in
set_option maxHeartbeats 4000000 in
theorem step_same (w : World) (m : PM) (t : It) (st : List It) (ks : List Kp) (Z : Nat → Prop) (B : Nat) (h : PS w m t st ks Z) (hB : Fb B t st) (hB2 : B + 2 ≤ 1099511627776) (dd f a n : Int) (ba : Option Addr) (bn bc : Nat) (ka : Option Addr) (kn kc : Nat) (bs : List Int) (hS : Sl w ba bn bs) (hnone : ba = none → bn = 0 ∧ bc = 0) (hbn : bn ≤ 2147483648) (hbo : ∀ x, ba = some x → 0 < bn → x.block < w.heap.size ∧ ¬ FPp m t st x.block) :
    Calls Try.prog 7 #[.pointer (some ⟨m.pp, 0, none⟩), .agg #[.int .i64 11, .int .i64 dd, .int .i64 f, .int .i64 a, .int .i64 n, .slice ba bn bc, .slice ka kn kc]] w fun e w' => e = .returned (.bool true) ∧ PX w w' m t st ks Z B := by
  have HH := hidden h
  have HB := hidden hB
  have hfa : t.S.falls ≤ 1099511627776 := by have := hB.1; omega
  have HFA1 : Hid ((t.S.append f bs).2.falls ≤ 1099511627776) := by have := append_falls t.S f bs; have := hB.1; show _ ≤ _; omega
  have HFA := hidden hfa
  clear h hB hfa
  obtain ⟨e0, he0⟩ : ∃ e0, (t.S.append f bs).1 = e0 := ⟨_, rfl⟩
  have HE0 := hidden he0
  clear he0
  have HSl := hidden hS
  have HBO := hidden hbo
  have HNO := hidden hnone
  clear hS hbo hnone
  go_enter Try.func7, Try.ntmps7
  go_upto_region 1 with (first
    | (refine wpList_box_blk rfl 30 (.tmp 1) rfl [.int .i64 11, .int .i64 dd, .int .i64 f, .int .i64 a, .int .i64 n, .slice ba bn bc, .slice ka kn kc] rfl ?_; intro w0 B0 bl0 hzz; clear hzz))
  obtain ⟨ob, hob⟩ : ∃ ob, w.heap.size = ob := ⟨_, rfl⟩
  rw [hob] at B0 ⊢
  have HOB := hidden hob
  have k0 : w0.cell? ⟨ob, 0, none⟩ = some (.int .i64 11) := B0.cell 0
  have HB0 := hidden B0
  have HBL := hidden bl0
  have HP0 := hidden (HH.out.later bl0)
  clear hob B0 bl0
  have k5 : w0.cell? ⟨ob, 5, none⟩ = some (.slice ba bn bc) := HB0.out.cell 5
  have HSl0 := hidden ((Chg.of_below (F := fun _ => False) HBL.out).sl HSl.out (fun _ _ _ e => e))
  go_wp2_with fail
  refine (lent_any ba bn bc bs w0 HSl0.out HNO.out hbn).mono ?_
  rintro e w1 ⟨g, c, rfl, hg, hc, hO, hb1⟩
  have HG : Hid (w0.heap.size ≤ g ∧ g < w1.heap.size) := ⟨hg, (hO.lt g rfl).2⟩
  have HO1 := hidden (owns_zero hO)
  have HB1 := hidden ((Chg.of_below (F := fun _ => False) hb1).blk HB0.out (fun e => e))
  have HL1 : Hid (Lat w0 w1) := hb1
  have HSl1 := hidden ((Chg.of_below (F := fun _ => False) hb1).sl HSl0.out (fun _ _ _ e => e))
  have HC := hidden hc
  have HI : Hid (Sl w1 (some ⟨g, 0, none⟩) bn bs) := by
    have h1 := (sl_of_owns HO1.out (byte_pad HSl.out.byte)).take (Nat.le_add_right bn 4)
    rw [List.take_append_of_le_length (Nat.le_of_eq HSl.out.len.symm), List.take_of_length_le (Nat.le_of_eq HSl.out.len)] at h1
    exact h1
  clear hg hc hO hb1 k5 k0
  go_wp2_with fail
  refine step_r5 m.pp t.p ob bn c (some ⟨g, 0, none⟩) f (fun x w2 => x = .int .i64 e0 ∧ ∃ F1', Half w0 w2 t (t.S.append f bs).2 F1' ∧ (∀ k, F1' k → t.F1 k ∨ w1.heap.size ≤ k) ∧ Chg t.F1 w1 w2) _ _ _ (by rfl) (by rfl) (by rfl) (by rfl) (fun v hl => lat_cell7 (HP0.out.1.blk.cell 0) (Lat.trans _ _ _ HL1.out hl)) (fun v hl => lat_cell7 (HB1.out.cell 2) hl) (fun v hl => (appendP t.p t.F1 t.S v f (some ⟨g, 0, none⟩) bn c bs (half_pre HP0.out (Lat.trans _ _ _ HL1.out hl)) HFA.out ((Chg.of_below (F := fun _ => False) hl).sl HI.out (fun _ _ _ e => e)) (fun e => by cases e) (Nat.le_trans hbn (by decide))).mono (by
    rintro e w2 ⟨rfl, hD⟩
    obtain ⟨F1', hH, hN⟩ := half_a HP0.out (Lat.trans _ _ _ HL1.out hl) hD
    obtain ⟨_, _, hc2, _⟩ := hD
    exact ⟨_, rfl, by rw [HE0.out], F1', hH, fun k hk => (hN k hk).imp id (fun e => Nat.le_trans hl.size e), (Chg.of_below hl).trans hc2 (fun _ _ e => e)⟩)) ?_
  intro v29 v30 v31 v32 v33 v34 v35 v36 v6 x w2 hR
  obtain ⟨rfl, F1', hH, hN, hc2⟩ := hR
  simp only [Act.put, List.setIfInBounds_toArray, List.set_cons_succ, List.set_cons_zero]
  have hgF : ¬ t.F1 g := fun e => by have := HP0.out.1.it.a.lt _ e; have := HG.out.1; omega
  have HO2 := hidden (hc2.owns HO1.out (fun b hb e => hgF (by have e1 : g = b := Option.some.inj hb; rw [e1]; exact e)))
  have HB2 := hidden (hc2.blk HB1.out (fun e => by have := HH.out.1.it.a.lt _ e; have := HOB.out; omega))
  have HSl2 := hidden (hc2.sl HSl1.out (fun x hx hk e => (HBO.out x hx hk).2 (.inr (.inl (.inl e)))))
  have hH3 : ∀ u, Chg (fun i => i = g) w2 u → Half w0 u t (t.S.append f bs).2 F1' := fun u hu => hH.chg hu (fun k hk e => by
    subst e
    rcases hN k hk with f | f
    · exact hgF f
    · have := HG.out.2
      omega) (fun k hk e => by have := HG.out.1; omega)
  have HH3 := hidden hH3
  have HGF1 : Hid (¬ F1' g) := fun e => by
    rcases hN g e with q | q
    · exact hgF q
    · have := HG.out.2; omega
  clear hH hN hc2 hgF hH3
  have k5 : w2.cell? ⟨ob, 5, none⟩ = some (.slice ba bn bc) := HB2.out.cell 5
  go_wp2_with fail
  refine (still_any g c ba bn bc bs w2 HO2.out HC.out HSl2.out (fun x hx hk e => by have := (HBO.out x hx hk).1; have := HG.out.1; have := HBL.out.size; omega) hbn).mono ?_
  rintro e w3 ⟨rfl, hcg, h77⟩
  have H77 := hidden h77
  clear h77
  have HHf := hidden (HH3.out w3 hcg)
  have HB3 := hidden (hcg.blk HB2.out (fun e => by have := HG.out.1; have := HB0.out.lt; omega))
  have HP3 := hidden (HHf.out.c.blk HP0.out.1.blk (fun e => HP0.out.1.offI HP0.out.1.it _ (.inl e) (.inl rfl)))
  have HSl3 := hidden (HHf.out.c.sl HSl0.out (fun x hx hk e => (HBO.out x hx hk).2 (.inr (.inl (.inl e)))))
  clear hcg HH3 k5
  go_wp2_with fail
  have HGF2 : Hid (¬ t.F2 g) := fun e => by have := HP0.out.1.it.b.lt _ e; have := HG.out.1; omega
  refine step_r7 m.pp t.q ob bn bc ba f e0 (fun w4 => ∃ F2', PS w4 m ⟨t.p, t.q, F1', F2', (t.S.append f bs).2⟩ st ks Z ∧ Chg t.F w0 w4 ∧ (∀ k, (F1' k ∨ F2' k) → t.F k ∨ w0.heap.size ≤ k) ∧ ¬ F2' g ∧ Blk w4 ob 30 [.int .i64 11, .int .i64 dd, .int .i64 f, .int .i64 a, .int .i64 n, .slice ba bn bc, .slice ka kn kc] ∧ w4.ownsRow 0 5 1 (.slice (some ⟨g, 0, none⟩) (bn + 4) c) (bn + 4) (cells8 (List.replicate (bn + 4) 77))) _ _ _ (by rfl) (by rfl) (by rfl) (by rfl) (fun v hl => lat_cell7 (HP3.out.cell 1) hl) (fun v hl => lat_cell7 (HB3.out.cell 2) hl) (fun v hl => lat_cell7 (HB3.out.cell 5) hl) (fun v hl => (appendR t.q t.F2 t.S v f ba bn bc bs ((HHf.out.later hl).pre HP0.out) HFA.out ((Chg.of_below (F := fun _ => False) hl).sl HSl3.out (fun _ _ _ e => e)) HNO.out (Nat.le_trans hbn (by decide)) (fun x hx hk e => (HBO.out x hx hk).2 (.inr (.inl (.inr e))))).mono (by
    rintro e w4 ⟨rfl, hD⟩
    obtain ⟨F2', hS, hC, hn', hn2, hc4⟩ := half_c (HHf.out.later hl) HP0.out hD
    refine ⟨by rw [HE0.out], F2', hS, hC, hn', fun e => ?_, hc4.blk ((Chg.of_below (F := fun _ => False) hl).blk HB3.out (fun e => e)) (fun e => by have := HH.out.1.it.b.lt _ e; have := HOB.out; omega), hc4.owns ((Chg.of_below (F := fun _ => False) hl).owns H77.out (fun _ _ e => e)) (fun b hb e => HGF2.out (by have e1 : g = b := Option.some.inj hb; rw [e1]; exact e))⟩
    rcases hn2 g e with q | q
    · exact HGF2.out q
    · have := (H77.out.lt g rfl).2
      have := hl.size
      omega)) ?_
  intro v41 v42 v43 v44 v45 v46 v47 v48 v49 v50 v51 v8 w4 hR4
  obtain ⟨F2', hP4, hC4, hn4, hg2, hB4, h77⟩ := hR4
  obtain ⟨t1, ht1⟩ : ∃ t1 : It, t1 = ⟨t.p, t.q, F1', F2', (t.S.append f bs).2⟩ := ⟨_, rfl⟩
  rw [← ht1] at hP4
  have HT1 := hidden ht1
  have e1p : t1.p = t.p := by rw [ht1]
  have e1q : t1.q = t.q := by rw [ht1]
  have e1a : t1.F1 = F1' := by rw [ht1]
  have e1b : t1.F2 = F2' := by rw [ht1]
  have e1s : t1.S = (t.S.append f bs).2 := by rw [ht1]
  rw [← e1a, ← e1b] at hn4
  rw [← e1b] at hg2
  have hg1 := HGF1.out
  rw [← e1a] at hg1
  have HG1 := hidden hg1
  have HG2 := hidden hg2
  have HP4 := hidden hP4
  have HC4 := hidden hC4
  have HN4 := hidden hn4
  have HB4 := hidden hB4
  have H774 := hidden h77
  have k0 : w4.cell? ⟨ob, 0, none⟩ = some (.int .i64 11) := hB4.cell 0
  have hfs : t1.S.falls ≤ 1099511627776 := by rw [e1s]; exact HFA1.out
  have HFS := hidden hfs
  have HPQ : Hid (t1.p = t.p ∧ t1.q = t.q) := ⟨e1p, e1q⟩
  have HSF : Hid (t1.S.falls ≤ t.S.falls + 1) := by rw [e1s]; exact append_falls t.S f bs
  clear hP4 hC4 hn4 hg2 hB4 h77 ht1 e1a e1b e1s hg1 hfs
  obtain ⟨L7, hL7⟩ : ∃ L7 : List Int, List.replicate bn 77 = L7 := ⟨_, rfl⟩
  have HBL7 : Hid (Byte L7) := fun z hz => by rw [← hL7] at hz; rw [List.eq_of_mem_replicate hz]; omega
  have HI4 : Hid (Sl w4 (some ⟨g, 0, none⟩) bn L7) := by
    have h1 := (sl_of_owns H774.out (fun z hz => by rw [List.eq_of_mem_replicate hz]; omega)).take (Nat.le_add_right bn 4)
    rw [List.take_replicate, Nat.min_eq_left (Nat.le_add_right bn 4), hL7] at h1
    exact h1
  clear hL7
  obtain ⟨e1, he1⟩ : ∃ e1, (t1.S.append f L7).1 = e1 := ⟨_, rfl⟩
  have HE1 := hidden he1
  clear he1
  simp only [Act.put, List.setIfInBounds_toArray, List.set_cons_succ, List.set_cons_zero]
  go_wp2_with fail
  refine step_r9 m.pp t1.p ob bn c (some ⟨g, 0, none⟩) f (fun x w5 => x = .int .i64 e1 ∧ ∃ F1'', Half w4 w5 t1 (t1.S.append f L7).2 F1'' ∧ Chg t1.F1 w4 w5) _ _ _ (by rfl) (by rfl) (by rfl) (by rfl) (fun v hl => lat_cell7 (HP4.out.1.blk.cell 0) hl) (fun v hl => lat_cell7 (HB4.out.cell 2) hl) (fun v hl => (appendP t1.p t1.F1 t1.S v f (some ⟨g, 0, none⟩) bn c L7 (half_pre HP4.out hl) HFS.out ((Chg.of_below (F := fun _ => False) hl).sl HI4.out (fun _ _ _ e => e)) (fun e => by cases e) (Nat.le_trans hbn (by decide))).mono (by
    rintro e w5 ⟨rfl, hD⟩
    obtain ⟨F1'', hH, hN⟩ := half_a HP4.out hl hD
    obtain ⟨_, _, hc5, _⟩ := hD
    exact ⟨_, rfl, by rw [HE1.out], F1'', hH, (Chg.of_below hl).trans hc5 (fun _ _ e => e)⟩)) ?_
  intro v55 v56 v57 v58 v59 v60 v61 v62 v9 x w5 hR5
  obtain ⟨rfl, F1'', hH5, hc5⟩ := hR5
  have HH5 := hidden hH5
  have HI5 := hidden (hc5.sl HI4.out (fun x hx _ e => HG1.out (by have e2 := Option.some.inj hx; subst e2; exact e)))
  have hobF : ∀ k, t1.F k → k ≠ ob := fun k hk e => by
    rcases HN4.out k hk with q | q
    · have := HH.out.1.it.lt k q; have := HOB.out; omega
    · have := HB0.out.lt; omega
  have HOBF := hidden hobF
  have HB5 := hidden (hc5.blk HB4.out (fun e => HOBF.out ob (.inl e) rfl))
  clear hH5 hc5 hobF k0
  obtain ⟨i0, hi0, hz0, hz1, hz2⟩ := info_parts info5
  simp only [Act.put, List.setIfInBounds_toArray, List.set_cons_succ, List.set_cons_zero]
  go_wp2_with (first
    | (at_builtin; refine wpList_appends _ rfl (.tmp 63) (.tmp 64) 27 rfl 5 i0 (.int .u8 0) Try.underlying27 hi0 hz0 hz1 hz2 rfl (.slice none 0 0) 0 [] rfl (World.ownsRow_nil _ _ _ _) (some ⟨g, 0, none⟩) bn c L7 rfl HI5.out (fun h => by cases h) (by omega) ?_; intro v6 w6 ho6 hc6 hm6; rw [Nat.zero_add, List.nil_append] at ho6; obtain ⟨a6, c6, rfl⟩ := owns_form ho6; have HO6 := hidden ho6; have HL6 : Hid (Lat w5 w6) := hc6.below (Nat.le_refl _) (fun i hi => by cases hi); have HM6 := hidden hm6; clear ho6 hc6 hm6))
  have HB6 := hidden ((Chg.of_below (F := fun _ => False) HL6.out).blk HB5.out (fun e => e))
  have HP6 := hidden ((HH5.out.later HL6.out).c.blk HP4.out.1.blk (fun e => HP4.out.1.offI HP4.out.1.it _ (.inl e) (.inl rfl)))
  refine step_r12 m.pp t1.q ob bn c6 a6 f e1 (fun w7 => PX w0 w7 m t st ks Z B) _ _ _ (by rfl) (by rfl) (by rfl) (by rfl) (by rfl) (by rfl) (fun v hl => lat_cell7 (HP6.out.cell 1) hl) (fun v hl => lat_cell7 (HB6.out.cell 2) hl) (fun v hl => (appendR t1.q t1.F2 t1.S v f a6 bn c6 L7 (((HH5.out.later HL6.out).later hl).pre HP4.out) HFS.out ((Chg.of_below (F := fun _ => False) hl).sl (sl_of_owns HO6.out HBL7.out) (fun _ _ _ e => e)) (owns_nilQ HO6.out) (Nat.le_trans hbn (by decide)) (fun x hx hk e => by
      have hlt := HP4.out.1.it.b.lt _ e
      have := HH5.out.c.size
      have hge : w5.heap.size ≤ x.block := by
        rcases HM6.out with q | ⟨g', q, hg'⟩
        · rw [hx] at q; cases q
        · rw [hx] at q
          have : x.block = g' := Option.some.inj q
          omega
      omega)).mono (by
    rintro e w7 ⟨rfl, hD⟩
    obtain ⟨F2'', hS, hC, hn', _, _⟩ := half_c ((HH5.out.later HL6.out).later hl) HP4.out hD
    rw [HPQ.out.1, HPQ.out.2] at hS
    refine ⟨by rw [HE1.out], px_set HB.out (Nat.le_trans (append_falls _ _ _) (by have := HSF.out; omega)) hS (HC4.out.trans hC (fun k hk e => ?_)) (fun k hk => ?_)⟩
    · rcases HN4.out k e with q | q
      · exact q
      · omega
    · rcases hn' k hk with q | q
      · exact HN4.out k q
      · exact .inr (Nat.le_trans HC4.out.size q))) ?_
  intro v66 v67 v68 v69 v70 v71 v72 v73 v74 v75 v76 v77 v78 v8' w7 hX
  have HX := hidden (hX.from HBL.out)
  clear hX
  simp only [Act.put, List.setIfInBounds_toArray, List.set_cons_succ, List.set_cons_zero]
  go_wp2_with fail
  go_ret
  exact ⟨rfl, HX.out⟩

end Go.Proofs.Ytgmcfejmhlglkaa
