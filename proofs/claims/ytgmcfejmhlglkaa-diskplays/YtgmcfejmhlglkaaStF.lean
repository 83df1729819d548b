/-
  Steps of a pair: Copy.
-/
import Derived.Test.YtgmcfejmhlglkaaStA
import Derived.Test.YtgmcfejmhlglkaaCpU
import Derived.Deep.CutRange
namespace Go.Proofs.Ytgmcfejmhlglkaa
open Go.RowKit
set_option linter.unusedVariables false
set_option linter.unusedSimpArgs false

theorem info33 : (Try.prog.info? 33).map (fun i => (i.zero, i.size, i.bytes)) = some (some (.pointer none), 1, 8) := by kernel_rfl
theorem info34 : (Try.prog.info? 34).map (fun i => (i.zero, i.size, i.bytes)) = some (some (.pointer none), 1, 8) := by kernel_rfl
/-- A row of disks has grown by one. -/
def Grw (w wx : World) (pp off ty : Nat) (v : Value) (N : Nat) (xs : List Value) (u : Value) (l : List Value) : Prop :=
  ∃ g c, Blk wx pp 39 (l.set off (.slice (some ⟨g, 0, none⟩) (N + 1) c)) ∧ wx.ownsRow 0 ty 1 (.slice (some ⟨g, 0, none⟩) (N + 1) c) (N + 1) (xs ++ [u]) ∧ Chg (fun k => k = pp ∨ v.ownBlock = some k) w wx ∧ (v.ownBlock = some g ∨ w.heap.size ≤ g)
theorem grw_of {w w6 : World} {pp off ty : Nat} {v : Value} {N : Nat} {xs : List Value} {u : Value} {l : List Value} {g c : Nat} {o : Obj} (hB : Blk w pp 39 l) (hv : w.ownsRow 0 ty 1 v N xs) (hne : ty ≠ 39) (ho : w6.ownsRow 0 ty 1 (.slice (some ⟨g, 0, none⟩) (N + 1) c) (N + 1) (xs ++ [u])) (hp : Pushed (w.drew.alloc o) w6 v g) :
    Grw w (w6.setCell ⟨pp, off, none⟩ (.slice (some ⟨g, 0, none⟩) (N + 1) c)) pp off ty v N xs u l := by
  obtain ⟨hc, hm⟩ := Pushed.chg (w := w.drew) hp
  have hc' : Chg (fun k => v.ownBlock = some k) w w6 := (Chg.drew _ w).trans hc (fun _ _ e => e)
  have hpn : v.ownBlock ≠ some pp := fun e => hne ((owns_tg hv _ e).one hB.tg)
  have hgn : v.ownBlock = some g ∨ w.heap.size ≤ g := by
    rcases hm with e | ⟨g', e, hg'⟩
    · exact .inl e.symm
    · obtain rfl := Option.some.inj e
      exact .inr hg'
  have hgp : g ≠ pp := by
    rintro rfl
    rcases hgn with e | e
    · exact hpn e
    · have := hB.lt; omega
  exact ⟨g, c, (hc'.blk hB hpn).set off _, (Chg.set ⟨pp, off, none⟩ _ w6).owns ho (fun b hb e => hgp (by have e1 : g = b := Option.some.inj hb; have e2 : b = pp := e; omega)), (hc'.mono (fun _ _ e => .inr e)).trans (Chg.set ⟨pp, off, none⟩ _ w6) (fun _ _ e => .inl e), hgn⟩

set_option maxRecDepth 100000 in
set_option maxHeartbeats 4000000 in
theorem step_copy (w : World) (m : PM) (t : It) (st : List It) (ks : List Kp) (Z : Nat → Prop) (B : Nat) (h : PS w m t st ks Z) (hB : Fb B t st) (hB2 : B ≤ 1099511627776) (dd f a n : Int) (ba : Option Addr) (bn bc : Nat) (ka : Option Addr) (kn kc : Nat) (hsl : st.length ≤ 1099511627776) :
    Calls Try.prog 7 #[.pointer (some ⟨m.pp, 0, none⟩), .agg #[.int .i64 9, .int .i64 dd, .int .i64 f, .int .i64 a, .int .i64 n, .slice ba bn bc, .slice ka kn kc]] w fun e w' => e = .returned (.bool true) ∧ PX w w' m t st ks Z B := by
  have HH := hidden h
  have HB := hidden hB
  have hfa := Nat.le_trans hB.1 hB2
  have HFA := hidden hfa
  clear h hB hfa
  go_enter Try.func7, Try.ntmps7
  go_upto_region 1 with (first
    | (refine wpList_box_blk rfl 30 (.tmp 1) rfl [.int .i64 9, .int .i64 dd, .int .i64 f, .int .i64 a, .int .i64 n, .slice ba bn bc, .slice ka kn kc] rfl ?_; intro w0 B0 bl0 hzz; clear hzz))
  obtain ⟨ob, hob⟩ : ∃ ob, w.heap.size = ob := ⟨_, rfl⟩
  rw [hob] at B0 ⊢
  have HOB := hidden hob
  have k0 : w0.cell? ⟨ob, 0, none⟩ = some (.int .i64 9) := B0.cell 0
  have HB0 := hidden B0
  have HBL := hidden bl0
  have HP0 := hidden (HH.out.later bl0)
  clear hob B0 bl0
  obtain ⟨i0, hi0, hz0, hz1, hz2⟩ := info_parts info33
  obtain ⟨i1, hi1, hy0, hy1, hy2⟩ := info_parts info34
  have c0 : w0.cell? ⟨m.pp, 0, none⟩ = some (.pointer (some ⟨t.p, 0, none⟩)) := HP0.out.1.blk.cell 0
  go_wp2_with fail
  refine (copyP t.p t.F1 t.S w0 (half_pre HP0.out (Lat.refl _))).mono ?_
  rintro e w1 ⟨p', F1', rfl, hD1, hF1, hb1⟩
  have HD1 := hidden hD1
  have HF1 := hidden hF1
  have HL1 : Hid (Lat w0 w1) := hb1
  have HP1 := hidden (HP0.out.later hb1)
  clear hD1 hF1 hb1 c0 k0
  obtain ⟨N, hN⟩ : ∃ N, st.length = N := ⟨_, rfl⟩
  have HN := hidden hN
  rw [hN] at hsl
  have hod := HP1.out.1.dv
  obtain ⟨da, dc, hdv⟩ := owns_form hod
  rw [hN] at hod hdv
  have HOD := hidden hod
  have HDV := hidden hdv
  have hox := HP1.out.1.xv
  obtain ⟨xa, xc, hxv⟩ := owns_form hox
  rw [hN] at hox hxv
  have HOX := hidden hox
  have HXV := hidden hxv
  have c0 : w1.cell? ⟨m.pp, 0, none⟩ = some (.pointer (some ⟨t.p, 0, none⟩)) := HP1.out.1.blk.cell 0
  have c2 : w1.cell? ⟨m.pp, 2, none⟩ = some (.slice da N dc) := by rw [← hdv]; exact HP1.out.1.blk.cell 2
  have hpl : m.pp < w1.heap.size := HP1.out.1.blk.lt
  have f2 := HP1.out.1.blk.frozen 2
  clear hod hdv hox hxv hN
  obtain ⟨pp, hpp⟩ : ∃ pp, m.pp = pp := ⟨_, rfl⟩
  rw [hpp] at c0 c2 hpl f2 ⊢
  go_upto_region 41 with fail
  go_cut [] from 211 to 223 (fun wx => Grw w1 wx pp 2 33 m.dv N (st.map fun t => Value.pointer (some ⟨t.p, 0, none⟩)) (.pointer (some ⟨t.p, 0, none⟩)) [.pointer (some ⟨t.p, 0, none⟩), .pointer (some ⟨t.q, 0, none⟩), m.dv, m.xv, m.lv, m.mv])
  case first =>
    go_region_law (refine step_push _ (by rfl) (.tmp 215) (.tmp 220) 35 (by rfl) 33 i0 (.pointer none) 8 Try.underlying35 hi0 hz0 hz1 hz2 (by rfl) 0 (.slice da N dc) N (st.map fun t => Value.pointer (some ⟨t.p, 0, none⟩)) (by rfl) (by rw [← HDV.out]; exact (Chg.drew (fun _ => False) _).owns ((Chg.alloc (fun _ => False) w1 _).owns HOD.out (fun _ _ h => h)) (fun _ _ h => h)) ⟨w1.heap.size, 0, none⟩ (.pointer (some ⟨t.p, 0, none⟩)) (by rfl) (by simp) (by rfl) (by unfold maxLen; omega) (by omega) (Nat.zero_le _) ?_; intro g6 c6 w6 ho6 hp6; have HG := hidden (grw_of (off := 2) HP1.out.1.blk HOD.out (by decide) ho6 (by rw [HDV.out]; exact hp6)); have hb6 := (Pushed.chg (w := w1.drew) hp6).1; have hB6 : Blk w6 pp 39 _ := ((Chg.drew _ w1).trans hb6 (fun _ _ e => e)).blk (by rw [← hpp]; exact HP1.out.1.blk) (fun e => absurd ((owns_tg (by rw [← HDV.out]; exact HOD.out) _ e).one (by rw [← hpp]; exact HP1.out.1.blk.tg)) (by decide)); have e2 : ∃ u, w6.cell? ⟨pp, 2, none⟩ = some u := ⟨_, hB6.cell 2⟩; obtain ⟨u6, e2⟩ := e2; have f6 := hB6.frozen 2; clear ho6 hp6 hb6 hB6)
    all_goals
      go_wp2_with fail
      go_meet
      case rel =>
        have hg := HG.out
        rw [hpp] at hg
        exact hg
  case rest =>
    obtain ⟨g2, b2, hB2, hO2, hC2, hG2⟩ := hcut
    rename World => w2
    simp only [List.set_cons_succ, List.set_cons_zero] at hB2
    have hdv0 : ∀ k, m.dv.ownBlock = some k → k < w0.heap.size := fun k hk => owns_lt HP0.out.1.dv k hk
    have hxv0 : ∀ k, m.xv.ownBlock = some k → k < w0.heap.size := fun k hk => owns_lt HP0.out.1.xv k hk
    have hpp0 : pp < w0.heap.size := by rw [← hpp]; exact HP0.out.1.blk.lt
    have hox2 : w2.ownsRow 0 34 1 m.xv N (st.map fun t => Value.pointer (some ⟨t.q, 0, none⟩)) := hC2.owns HOX.out (fun g hg e => by
      rcases e with e | e
      · subst e
        exact absurd ((owns_tg HOX.out _ hg).one (by rw [← hpp]; exact HP1.out.1.blk.tg)) (by decide)
      · exact absurd ((owns_tg HOX.out _ hg).one (owns_tg HOD.out _ e)) (by decide))
    have HB2 := hidden hB2
    have HO2 := hidden hO2
    have HC2 := hidden hC2
    have HG2 := hidden hG2
    have HOX2 := hidden hox2
    have HLOW : Hid ((∀ k, m.dv.ownBlock = some k → k < w0.heap.size) ∧ (∀ k, m.xv.ownBlock = some k → k < w0.heap.size) ∧ pp < w0.heap.size) := ⟨hdv0, hxv0, hpp0⟩
    have c1 : w2.cell? ⟨pp, 1, none⟩ = some (.pointer (some ⟨t.q, 0, none⟩)) := hB2.cell 1
    have c3 : w2.cell? ⟨pp, 3, none⟩ = some (.slice xa N xc) := by rw [← HXV.out]; exact hB2.cell 3
    have hpl2 : pp < w2.heap.size := hB2.lt
    have f3 := hB2.frozen 3
    clear hB2 hO2 hC2 hG2 hox2 hdv0 hxv0 hpp0 c0 c2 hpl f2
    go_upto_region 42 with fail
    go_cut [] from 224 to 236 (fun wx => Grw w2 wx pp 3 34 m.xv N (st.map fun t => Value.pointer (some ⟨t.q, 0, none⟩)) (.pointer (some ⟨t.q, 0, none⟩)) [.pointer (some ⟨t.p, 0, none⟩), .pointer (some ⟨t.q, 0, none⟩), .slice (some ⟨g2, 0, none⟩) (N + 1) b2, m.xv, m.lv, m.mv])
    case first =>
      go_region_law (refine step_push _ (by rfl) (.tmp 228) (.tmp 233) 36 (by rfl) 34 i1 (.pointer none) 8 Try.underlying36 hi1 hy0 hy1 hy2 (by rfl) 0 (.slice xa N xc) N (st.map fun t => Value.pointer (some ⟨t.q, 0, none⟩)) (by rfl) (by rw [← HXV.out]; exact (Chg.drew (fun _ => False) _).owns ((Chg.alloc (fun _ => False) w2 _).owns HOX2.out (fun _ _ h => h)) (fun _ _ h => h)) ⟨w2.heap.size, 0, none⟩ (.pointer (some ⟨t.q, 0, none⟩)) (by rfl) (by simp) (by rfl) (by unfold maxLen; omega) (by omega) (Nat.zero_le _) ?_; intro g6 c6 w6 ho6 hp6; have HG := hidden (grw_of (off := 3) HB2.out HOX2.out (by decide) ho6 (by rw [HXV.out]; exact hp6)); have hb6 := (Pushed.chg (w := w2.drew) hp6).1; have hB6 : Blk w6 pp 39 _ := ((Chg.drew _ w2).trans hb6 (fun _ _ e => e)).blk HB2.out (fun e => absurd ((owns_tg (by rw [← HXV.out]; exact HOX2.out) _ e).one HB2.out.tg) (by decide)); have e2 : ∃ u, w6.cell? ⟨pp, 3, none⟩ = some u := ⟨_, hB6.cell 3⟩; obtain ⟨u6, e2⟩ := e2; have f6 := hB6.frozen 3; clear ho6 hp6 hb6 hB6)
      all_goals
        go_wp2_with fail
        go_meet
        case rel => exact HG.out
    case rest =>
      obtain ⟨g3, b3, hB3, hO3, hC3, hG3⟩ := hcut
      rename World => w3
      simp only [List.set_cons_succ, List.set_cons_zero] at hB3
      have HB3 := hidden hB3
      have HO3 := hidden hO3
      have HC3 := hidden hC3
      have HG3 := hidden hG3
      -- the first row is still there
      have ho23 : w3.ownsRow 0 33 1 (.slice (some ⟨g2, 0, none⟩) (N + 1) b2) (N + 1) ((st.map fun t => Value.pointer (some ⟨t.p, 0, none⟩)) ++ [.pointer (some ⟨t.p, 0, none⟩)]) := HC3.out.owns HO2.out (fun g hg e => by
        rcases e with e | e
        · subst e
          exact absurd ((owns_tg HO2.out _ hg).one HB2.out.tg) (by decide)
        · exact absurd ((owns_tg HO2.out _ hg).one (owns_tg HOX2.out _ e)) (by decide))
      have HO23 := hidden ho23
      have c0 : w3.cell? ⟨pp, 0, none⟩ = some (.pointer (some ⟨t.p, 0, none⟩)) := hB3.cell 0
      have f0 := hB3.frozen 0
      have c1' : w3.cell? ⟨pp, 1, none⟩ = some (.pointer (some ⟨t.q, 0, none⟩)) := hB3.cell 1
      clear hB3 hO3 hC3 hG3 ho23 c1 c3 hpl2 f3
      obtain ⟨w4, hw4⟩ : ∃ w4, w3.setCell ⟨pp, 0, none⟩ (.pointer (some ⟨p', 0, none⟩)) = w4 := ⟨_, rfl⟩
      have hB4 := HB3.out.set 0 (.pointer (some ⟨p', 0, none⟩))
      have hC4 := Chg.set ⟨pp, 0, none⟩ (.pointer (some ⟨p', 0, none⟩)) w3
      rw [hw4] at hB4 hC4
      simp only [List.set_cons_succ, List.set_cons_zero] at hB4
      have c4 : w4.cell? ⟨pp, 1, none⟩ = some (.pointer (some ⟨t.q, 0, none⟩)) := hB4.cell 1
      have HW4 := hidden hw4
      have HB4 := hidden hB4
      -- all that has changed since w1
      have h14 : Chg (fun k => k = pp ∨ m.dv.ownBlock = some k ∨ m.xv.ownBlock = some k) w1 w4 := ((HC2.out.mono (fun _ _ e => by rcases e with e | e; exact .inl e; exact .inr (.inl e))).trans HC3.out (fun _ _ e => by rcases e with e | e; exact .inl e; exact .inr (.inr e))).trans hC4 (fun _ _ e => .inl e)
      have H14 := hidden h14
      have HC4 := hidden hC4
      clear hB4 hC4 h14 hw4
      go_upto_region 44 with fail
      rw [HW4.out]
      have hDq : Dk 75 86 w4 t.q t.F2 t.S := HP1.out.1.it.b.chg H14.out (fun i hi e => HP1.out.1.offI HP1.out.1.it i (.inr hi) (by
        rcases e with e | e | e
        · exact .inl (e.trans hpp.symm)
        · exact .inr (.inl e)
        · exact .inr (.inr e)))
      go_wp2_with fail
      refine (copyR t.q t.F2 t.S w4 hDq).mono ?_
      rintro e w5 ⟨q', F2', rfl, hD5, hF5, hb5⟩
      have HD5 := hidden hD5
      have HF5 := hidden hF5
      have HL5 : Hid (Lat w4 w5) := hb5
      have HB5 := hidden (HB4.out.later hb5)
      have c5 : w5.cell? ⟨pp, 1, none⟩ = some (.pointer (some ⟨t.q, 0, none⟩)) := HB5.out.cell 1
      have f5 := HB5.out.frozen 1
      clear hD5 hF5 hb5 hDq
      go_wp2_with fail
      go_ret
      have hcs := Chg.set ⟨pp, 1, none⟩ (.pointer (some ⟨q', 0, none⟩)) w5
      have hB6 := HB5.out.set 1 (.pointer (some ⟨q', 0, none⟩))
      simp only [List.set_cons_succ, List.set_cons_zero] at hB6
      have h15 : Chg (fun k => k = pp ∨ m.dv.ownBlock = some k ∨ m.xv.ownBlock = some k) w1 (w5.setCell ⟨pp, 1, none⟩ (.pointer (some ⟨q', 0, none⟩))) := (H14.out.trans (Chg.of_below (F := fun _ => False) HL5.out) (fun _ _ e => e.elim)).trans hcs (fun _ _ e => .inl e)
      obtain ⟨lo1, lo2, lo3⟩ := HLOW.out
      have hs01 := HL1.out.size
      have hs14 := H14.out.size
      have hlt1 : ∀ i, F1' i → i < w1.heap.size := HD1.out.lt
      have n1 : ∀ i, F1' i → ¬ (i = pp ∨ m.dv.ownBlock = some i ∨ m.xv.ownBlock = some i) := fun i hi e => by
        have := HF1.out i hi
        rcases e with e | e | e
        · omega
        · have := lo1 i e; omega
        · have := lo2 i e; omega
      have hok : It.ok (w5.setCell ⟨pp, 1, none⟩ (.pointer (some ⟨q', 0, none⟩))) ⟨p', q', F1', F2', t.S⟩ :=
        ⟨HD1.out.chg h15 n1, HD5.out.chg hcs (fun i hi e => by dsimp only at e; have := HF5.out i hi; omega), fun i h1 h2 => by have := HF5.out i h2; have := hlt1 i h1; omega⟩
      have hbase : Chg m.D w0 (w5.setCell ⟨pp, 1, none⟩ (.pointer (some ⟨q', 0, none⟩))) := (Chg.of_below HL1.out).trans h15 (fun i _ e => by
        rcases e with e | e | e
        · exact .inl (e.trans hpp.symm)
        · exact .inr (.inl e)
        · exact .inr (.inr e))
      have own5 : ∀ {ty : TypeId} {v : Value} {nn : Nat} {xs : List Value}, w3.ownsRow 0 ty 1 v nn xs → ty ≠ 39 → (w5.setCell ⟨pp, 1, none⟩ (.pointer (some ⟨q', 0, none⟩))).ownsRow 0 ty 1 v nn xs := fun ho hne => by
        have hh := (Chg.of_below (F := fun _ => False) HL5.out).owns (HC4.out.owns ho (fun g hg e => hne (by have e2 : g = pp := e; subst e2; exact (owns_tg ho _ hg).one HB3.out.tg))) (fun _ _ e => e)
        exact hcs.owns hh (fun g hg e => hne (by have e2 : g = pp := e; subst e2; exact (owns_tg hh _ hg).one HB5.out.tg))
      have hmore := HP0.out.more (t' := ⟨p', q', F1', F2', t.S⟩) (dv := .slice (some ⟨g2, 0, none⟩) (N + 1) b2) (xv := .slice (some ⟨g3, 0, none⟩) (N + 1) b3) hbase (by rw [hpp]; exact hB6) (by rw [HN.out]; exact own5 HO23.out (by decide)) (by rw [HN.out]; exact own5 HO3.out (by decide)) hok (fun k hk => by
        rcases hk with hk | hk
        · exact HF1.out k hk
        · have := HF5.out k hk; omega)
      refine ⟨rfl, PX.from HBL.out ⟨{ m with dv := .slice (some ⟨g2, 0, none⟩) (N + 1) b2, xv := .slice (some ⟨g3, 0, none⟩) (N + 1) b3 }, ⟨p', q', F1', F2', t.S⟩, st ++ [t], ks, Z, rfl, hmore, Nat.le_add_right _ _, by simp, ⟨by have := HB.out.1; show t.S.falls ≤ _; omega, fun i s hs => ?_⟩, hbase.mono (fun _ _ e => .inl e.F), ?_, fun k hk => .inl hk⟩⟩
      · rcases Nat.lt_or_ge i st.length with hi | hi
        · rw [List.getElem?_append_left hi] at hs
          have := HB.out.2 i s hs
          omega
        · rw [List.getElem?_append_right hi] at hs
          have hi2 : i - st.length = 0 := by
            have := (List.getElem?_eq_some_iff.1 hs).1
            simp at this
            omega
          rw [hi2] at hs
          have : t = s := Option.some.inj hs
          subst this
          have := HB.out.1
          omega
      · rintro k (e | e | ⟨i, s, hs, e⟩)
        · rcases e with e | e | e | e | e
          · exact .inl (.inl (.inl e))
          · have e1 : g2 = k := Option.some.inj e
            rcases HG2.out with q | q
            · exact .inl (.inl (.inr (.inl (by rw [← e1]; exact q))))
            · exact .inr (by omega)
          · have e1 : g3 = k := Option.some.inj e
            rcases HG3.out with q | q
            · exact .inl (.inl (.inr (.inr (.inl (by rw [← e1]; exact q)))))
            · have := HC2.out.size
              exact .inr (by omega)
          · exact .inl (.inl (.inr (.inr (.inr (.inl e)))))
          · exact .inl (.inl (.inr (.inr (.inr (.inr e)))))
        · rcases e with e | e
          · exact .inr (HF1.out k e)
          · have := HF5.out k e
            exact .inr (by omega)
        · rcases Nat.lt_or_ge i st.length with hi | hi
          · rw [List.getElem?_append_left hi] at hs
            exact .inl (.inr (.inr ⟨i, s, hs, e⟩))
          · rw [List.getElem?_append_right hi] at hs
            have hi2 : i - st.length = 0 := by
              have := (List.getElem?_eq_some_iff.1 hs).1
              simp at this
              omega
            rw [hi2] at hs
            have : t = s := Option.some.inj hs
            subst this
            exact .inl (.inr (.inl e))

end Go.Proofs.Ytgmcfejmhlglkaa
