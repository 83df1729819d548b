/-
  Open.
-/
import Derived.Test.YtnfjhdedcnbdbaaGreatWlJ
import Derived.Test.YtnfjhdedcnbdbaaGreatWlL
namespace Go.Proofs.YtnfjhdedcnbdbaaGreat
open Go.RowKit
set_option linter.unusedVariables false
set_option linter.unusedSimpArgs false

theorem results_tmp4 {fn : Func} {t u v x : Tmp} (h : fn.results = #[.tmp t, .tmp u, .tmp v, .tmp x]) (tmps : Array Value) (P : Program) (w : World) :
    (results fn tmps).run P w = .ok (.tuple #[tmps.getD t undef, tmps.getD u undef, tmps.getD v undef, tmps.getD x undef]) w := by
  simp [results, h]
theorem New.up {w w' : World} {F F' : Nat → Prop} (h : New w' F F') (hs : w.heap.size ≤ w'.heap.size) : New w F F' := fun i hi => (h i hi).imp id (fun k => Nat.le_trans hs k)
/-- What Open tells. -/
def OpenR (w : World) (p : Nat) (F : Nat → Prop) (S : St) (e : Ending) (w' : World) : Prop := ∃ F', Dk 64 79 w' p F' S.opens.2 ∧ Chg F w w' ∧ New w F F' ∧
  ((∃ er, S.opens.1 = .error er ∧ er ≠ 0 ∧ e = .returned (.tuple #[.pointer none, .slice none 0 0, .slice none 0 0, .int .i64 er])) ∨
   (∃ f lp x r sv rv, S.opens.1 = .ok f ∧ S.opens.2.falls = S.falls ∧ (⟨S.falls, f.live, f.h⟩ : Lw).fine ∧ f.h.ok = true ∧ Lg 73 w' lp p ⟨S.falls, f.live, f.h⟩ ∧ w.heap.size ≤ lp ∧ f.state = x.2.2.drop 24 ∧ f.recs = r.map (·.2.2) ∧ FdM w.heap.size w' x r sv rv ∧
      (∀ y ∈ x :: r, ∀ g, y.2.1.ownBlock = some g → ¬ F' g) ∧ e = .returned (.tuple #[.pointer (some ⟨lp, 0, none⟩), sv, rv, .int .i64 0])))
theorem opens_error {S : St} {er : Int} (h : S.find = .error er) : S.opens = (.error er, S) := by
  unfold St.opens
  rw [h]
theorem cutRest_ok {S : St} {live n : Nat} (h : (S.cutRest live n).1 = 0) : (S.cutRest live n).2.falls = S.falls := by
  unfold St.cutRest at h ⊢
  split at h <;> rename_i h1
  · exact absurd h h1
  · rw [if_neg h1]
    have h2 := cutLive_ok (S := S) (live := live) (n := n) (by simpa using h1)
    rw [← h2]
    unfold St.cutOther at h ⊢
    split at h <;> rename_i h3
    · rw [if_pos h3]
      exact truncate_ok h
    · rw [if_neg h3]
theorem opens_bad {S : St} {f : Fnd} (h : S.find = .ok f) (he : (S.cutRest f.live f.whole).1 ≠ 0) : S.opens = (.error (S.cutRest f.live f.whole).1, (S.cutRest f.live f.whole).2) := by
  unfold St.opens
  rw [h]
  simp only
  rw [if_pos he]
theorem opens_good {S : St} {f : Fnd} (h : S.find = .ok f) (he : (S.cutRest f.live f.whole).1 = 0) : S.opens = (.ok f, (S.cutRest f.live f.whole).2) := by
  unfold St.opens
  rw [h]
  simp only
  rw [if_neg (by simp [he])]

set_option maxRecDepth 100000 in
set_option maxHeartbeats 1000000 in
theorem open_walk (p : Nat) (F : Nat → Prop) (S : St) (w : World) (h : Dk 64 79 w p F S) (hf : S.falls ≤ 1099511627776) (R : Ending → World → Prop) (hR : ∀ e w', OpenR w p F S e w' → R e w') : Calls Tryz.prog 8 #[.pointer (some ⟨p, 0, none⟩)] w R := by
  have H := hidden h
  have HF := hidden hf
  have HR := hidden hR
  clear h hf hR
  go_enter Tryz.func8, Tryz.ntmps8
  go_wp2_with fail
  refine find_walk p F S w H.out _ ?_
  rintro e w1 hb1 (⟨er, hfe, hne, rfl⟩ | ⟨f, x, r, sv, rv, hfo, hlv, hg, hok, hst, hrc, hwh, hfd, rfl⟩)
  · have HL1 : Hid (Lat w w1) := hb1
    have HFE := hidden hfe
    clear hb1 hfe
    unfold fcell nilS h0
    go_wp2_with fail
    refine bodyPost_ret (results_tmp4 rfl _ _ _) rfl ?_
    have hl2 : Lat w (w1.alloc (.cells #[.int .u64 0, .int .i64 0, .int .i64 0, .slice none 0 0, .slice none 0 0, .int .i64 0, .int .i64 0] 68)) := Below.trans HL1.out (((Below.refl _ w1).alloc (Nat.le_refl _) _).mono HL1.out.size)
    refine HR.out _ _ ⟨F, ?_, Chg.of_below hl2, New.refl _ _, .inl ⟨er, ?_, hne, rfl⟩⟩
    · rw [opens_error HFE.out]
      exact H.out.lat hl2
    · rw [opens_error HFE.out]
  · obtain ⟨sa, sn, sc, rfl⟩ : ∃ a n c, sv = .slice a n c := by
      obtain ⟨_, _, _, ⟨g, n, c, off, _, _, _, _, e⟩, _⟩ := hfd
      exact ⟨_, _, _, e⟩
    obtain ⟨ra, rn, rc, rfl⟩ := hfd.2.2.2.2.1
    have HL1 : Hid (Lat w w1) := hb1
    have HFO := hidden hfo
    have HG := hidden hg
    have HOK := hidden hok
    have HST := hidden hst
    have HRC := hidden hrc
    have HFD := hidden hfd
    clear hb1 hfo hst hrc hfd hg hok
    obtain ⟨lv, hd, fst, frc, wh⟩ := f
    dsimp only at HFO hlv HG HOK HST HRC hwh ⊢
    unfold fcell
    go_wp2_with fail
    have HBF : Hid (Blk (w1.alloc (.cells #[.int .u64 (hd.g : Int), .int .i64 (hd.cap : Int), .int .i64 (hd.slots : Int), .slice sa sn sc, .slice ra rn rc, .int .i64 (wh : Int), .int .i64 0] 68)) w1.heap.size 68 [.int .u64 (hd.g : Int), .int .i64 (hd.cap : Int), .int .i64 (hd.slots : Int), .slice sa sn sc, .slice ra rn rc, .int .i64 (wh : Int), .int .i64 0]) := Blk.new w1 68 _
    have HL2 : Hid (Lat w (w1.alloc (.cells #[.int .u64 (hd.g : Int), .int .i64 (hd.cap : Int), .int .i64 (hd.slots : Int), .slice sa sn sc, .slice ra rn rc, .int .i64 (wh : Int), .int .i64 0] 68))) := Below.trans HL1.out (((Below.refl _ w1).alloc (Nat.le_refl _) _).mono HL1.out.size)
    have HL12 : Hid (Lat w1 (w1.alloc (.cells #[.int .u64 (hd.g : Int), .int .i64 (hd.cap : Int), .int .i64 (hd.slots : Int), .slice sa sn sc, .slice ra rn rc, .int .i64 (wh : Int), .int .i64 0] 68))) := (Below.refl _ w1).alloc (Nat.le_refl _) _
    generalize w1.alloc (.cells #[.int .u64 (hd.g : Int), .int .i64 (hd.cap : Int), .int .i64 (hd.slots : Int), .slice sa sn sc, .slice ra rn rc, .int .i64 (wh : Int), .int .i64 0] 68) = w2 at *
    obtain ⟨fb, hfb⟩ : ∃ fb, w1.heap.size = fb := ⟨_, rfl⟩
    rw [hfb] at HBF ⊢
    have HFB := hidden hfb
    clear hfb
    refine (cutRestP p F S lv wh w2 (H.out.lat HL2.out) HF.out hlv hwh).mono ?_
    rintro e w3 ⟨rfl, hD3⟩
    have HCK : Hid ((S.cutRest lv wh).1 = 0 → (S.cutRest lv wh).2.falls = S.falls) := cutRest_ok
    have HBAD : Hid ((S.cutRest lv wh).1 ≠ 0 → S.opens = (.error (S.cutRest lv wh).1, (S.cutRest lv wh).2)) := fun he => opens_bad HFO.out he
    have HGOOD : Hid ((S.cutRest lv wh).1 = 0 → S.opens = (.ok ⟨lv, hd, fst, frc, wh⟩, (S.cutRest lv wh).2)) := fun he => opens_good HFO.out he
    generalize S.cutRest lv wh = cr at *
    obtain ⟨ce, CS⟩ := cr
    dsimp only at *
    obtain ⟨F3, j1, j2, j3⟩ := hD3
    have HJ1 := hidden j1
    have HJ2 := hidden j2
    have HJ3 := hidden j3
    have HBF3 := hidden (j2.blk HBF.out (fun hF => by have := H.out.lt _ hF; have := HFB.out; have := HL1.out.size; omega))
    have hnf : ∀ i, F i → ¬ w.heap.size ≤ i := fun i hi => by have := H.out.lt i hi; omega
    have HFD3 : Hid (FdM w.heap.size w3 x r (.slice sa sn sc) (.slice ra rn rc)) := by
      obtain ⟨q1, q2, q3, q4, q5, q6⟩ := HFD.out.lat HL12.out
      exact ⟨q1.chg j2 (fun g hg k => hnf g k (q1.2.lt g hg).1), fun y hy => (q2 y hy).chg j2 (fun g hg k => hnf g k ((q2 y hy).2.lt g hg).1), q3, q4, q5, j2.owns q6 (fun g hg k => hnf g k (q6.lt g hg).1)⟩
    have HAP : Hid (∀ y ∈ x :: r, ∀ g, y.2.1.ownBlock = some g → ¬ F3 g) := by
      intro y hy g hg k
      have hlo : w.heap.size ≤ g ∧ g < w2.heap.size := by
        obtain ⟨q1, q2, _⟩ := HFD.out.lat HL12.out
        rcases List.mem_cons.1 hy with rfl | hy
        · exact q1.2.lt g hg
        · exact (q2 y hy).2.lt g hg
      rcases j3 g k with f | f
      · exact hnf g f hlo.1
      · omega
    clear j1 j2 j3 hnf
    by_cases hz : ce = 0
    · subst hz
      have HGO := hidden (HGOOD.out rfl)
      have HFF := hidden (HCK.out rfl)
      clear HGOOD HBAD HCK
      have hlt3 := HBF3.out.lt
      go_wp2_with fail
      refine open_r6 p fb S.falls lv hd.g hd.cap hd.slots sn sc rn rc sa ra w3 _ _ (by rfl) (by rfl) (by rfl) (by rfl) (fun w4 hL => (fallsP p F3 CS w4 (HJ1.out.lat hL)).mono (fun e w5 h => ⟨by rw [h.1, HFF.out], by rw [h.2]; exact Lat.refl _⟩)) (fun w4 hL => ?_) (fun w4 hL => (HBF3.out.later hL).cell 3) (fun w4 hL => (HBF3.out.later hL).cell 4) ?_
      · have := (HBF3.out.later hL).all
        intro j u hj
        refine this j u ?_
        rcases (show j = 0 ∨ j = 1 ∨ j = 2 ∨ 3 ≤ j by omega) with rfl | rfl | rfl | h3
        · exact hj
        · exact hj
        · exact hj
        · rw [List.getElem?_eq_none (by simp; omega)] at hj
          cases hj
      · intros
        rename_i w4 hL4 hN
        obtain ⟨⟨lp, e2, hlp, hlg⟩, e3, e4, e5⟩ := hN
        subst e2
        subst e3
        subst e4
        subst e5
        simp only [Act.put, List.setIfInBounds_toArray, List.set_cons_succ, List.set_cons_zero]
        have HL4 := hidden hL4
        have HLG := hidden hlg
        have HLP := hidden hlp
        clear hL4 hlg hlp
        go_wp2_with fail
        refine bodyPost_ret (results_tmp4 rfl _ _ _) rfl ?_
        have hcc : Chg F w w4 := ((Chg.of_below HL2.out).trans HJ2.out (fun _ _ h => h)).trans (Chg.of_below HL4.out) (fun _ _ h => h)
        refine HR.out _ _ ⟨F3, ?_, hcc, HJ3.out.up HL2.out.size, .inr ⟨⟨lv, hd, fst, frc, wh⟩, lp, x, r, .slice sa sn sc, .slice ra rn rc, ?_, ?_, ?_, HOK.out, HLG.out, ?_, HST.out, HRC.out, HFD3.out.lat HL4.out, HAP.out, rfl⟩⟩
        · rw [HGO.out]
          exact HJ1.out.lat HL4.out
        · rw [HGO.out]
        · rw [HGO.out]
          exact HFF.out
        · have hk := hd.ok_iff.1 HOK.out
          exact ⟨hlv, HG.out, hk.2.2.1, hk.2.2.2.2, HF.out⟩
        · have := HLP.out
          have := HL2.out.size
          have := HJ2.out.size
          omega
    · have HBA := hidden (HBAD.out hz)
      clear HGOOD HBAD HCK
      go_wp2_with fail
      refine bodyPost_ret (results_tmp4 rfl _ _ _) rfl ?_
      have hcc : Chg F w w3 := (Chg.of_below HL2.out).trans HJ2.out (fun _ _ h => h)
      refine HR.out _ _ ⟨F3, ?_, hcc, HJ3.out.up HL2.out.size, .inl ⟨ce, ?_, hz, rfl⟩⟩
      · rw [HBA.out]
        exact HJ1.out
      · rw [HBA.out]

end Go.Proofs.YtnfjhdedcnbdbaaGreat
