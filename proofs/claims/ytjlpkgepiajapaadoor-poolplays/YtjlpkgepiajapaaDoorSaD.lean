/-
  PoolPlays: a step, kind get.
-/
import Derived.Test.YtjlpkgepiajapaaDoorPpQ
import Derived.Test.YtjlpkgepiajapaaDoorPpN
namespace Go.Proofs.YtjlpkgepiajapaaDoor
open Go.RowKit
set_option linter.unusedVariables false
set_option linter.unusedSimpArgs false

set_option maxRecDepth 100000 in
set_option maxHeartbeats 8000000 in
theorem step_get (w0 : World) (v : Nat) (p r q n : Nat → Nat) (on sl : Int) (s : ByteArray) (ad : Option Addr) (len c : Nat) (l : List Int) (w : World) (h : PX w0 v p r q n w) (hon : -9223372036854775808 ≤ on ∧ on ≤ 9223372036854775807) (hsl : -9223372036854775808 ≤ sl ∧ sl ≤ 9223372036854775807)
    (hs : Sl w0 ad len l) (hno : ad = none → len = 0 ∧ c = 0) (hlc : len ≤ c) (hc : c ≤ 9223372036854775807) :
    Calls Tryd.prog 8 #[.pointer (some ⟨v, 0, none⟩), .agg #[.int .i64 4, .int .i64 on, .int .i64 sl, .string s, .slice ad len c]] w fun e w' => e = .returned (.bool true) ∧ PX w0 v p r q n w' := by
  obtain ⟨st, F, B, vb, vn, Lb, Ln, hP, hLim⟩ := h
  have ba : Below w.heap.size w (w.alloc (.cells #[.int .i64 4, .int .i64 on, .int .i64 sl, .string s, .slice ad len c] 42)) := (Below.refl _ _).alloc (Nat.le_refl _) _
  have HP := hidden hP
  have HB : Hid (SB w0 v p r q n w.heap.size (oC 4 on sl s ad len c) st st (w.alloc (.cells #[.int .i64 4, .int .i64 on, .int .i64 sl, .string s, .slice ad len c] 42))) := hidden ⟨F, B, vb, vn, Lb, Ln, hP.later ba, Blk.new w 42 (oC 4 on sl s ad len c)⟩
  have hcp : ∀ k, k < 3 → (w.alloc (.cells #[.int .i64 4, .int .i64 on, .int .i64 sl, .string s, .slice ad len c] 42)).cell? ⟨v, k, none⟩ = some (.pointer (some ⟨p k, 0, none⟩)) ∧ (w.alloc (.cells #[.int .i64 4, .int .i64 on, .int .i64 sl, .string s, .slice ad len c] 42)).cell? ⟨v, 3 + k, none⟩ = some (.pointer (some ⟨r k, 0, none⟩)) := fun k hk => ⟨(hP.later ba).cp hk, (hP.later ba).cr hk⟩
  have HCP := hidden hcp
  have HPI := hidden (pickP on 3 (by omega) (by omega) hon)
  have HLI := hidden hLim
  have HSL := hidden hs
  have HNO := hidden hno
  have HSB := hidden (And.intro hlc hc)
  clear hP ba hcp hon hLim hs hno hlc hc
  go_enter Tryd.func8, Tryd.ntmps8
  go_upto_region 2 with (refine (HPI.out _).mono ?_; clear HPI; rintro e w1 ⟨⟨k, hk, rfl⟩, rfl⟩)
  have hk3 : k < 3 := by omega
  obtain ⟨c1, c2⟩ := HCP.out k hk3
  have HK := hidden hk3
  clear HCP hk3
  obtain ⟨bd, bc, hvb, -⟩ := rowform (Rw.of_owns HP.out.ob) rfl
  subst hvb
  obtain ⟨nb, hnb⟩ : ∃ nb, Lb.length = nb := ⟨_, rfl⟩
  rw [hnb] at HP
  have HNB := hidden hnb
  have hn6 := HP.out.len.1
  rw [hnb] at hn6
  clear hnb hsl
  have HP1 := hidden (HP.out.later ((Below.refl w.heap.size w).alloc (Nat.le_refl _) (.cells #[.int .i64 4, .int .i64 on, .int .i64 sl, .string s, .slice ad len c] 42)))
  have HO1 : Hid (Blk (w.alloc (.cells #[.int .i64 4, .int .i64 on, .int .i64 sl, .string s, .slice ad len c] 42)) w.heap.size 42 (oC 4 on sl s ad len c)) := hidden (Blk.new w 42 (oC 4 on sl s ad len c))
  clear HB HP
  go_upto_region 23 with fail
  clear c1 c2
  have c2 := HO1.out.cell 2
  simp only [oC, List.getElem?_cons_succ, List.getElem?_cons_zero] at c2
  generalize w.alloc (.cells #[.int .i64 4, .int .i64 on, .int .i64 sl, .string s, .slice ad len c] 42) = wb at *
  generalize w.heap.size = ob at *
  rcases atS_cases (st k) (n k) sl with ⟨hA, -⟩ | ⟨i, o, d, hA, -, -, hst, -⟩
  · have hcv := fun (w : World) => run_string_of (P := Tryd.prog) 40 5 9 Tryd.underlying40 Tryd.underlying5 Tryd.underlying9 (cap := 0) (Sl.nil w none)
    have hsz0 : strOfNums [] = ⟨#[]⟩ := rfl
    simp only [hsz0] at hcv
    have HA := hidden hA
    clear hA
    go_wp2_with fail
    refine (getX sl (F k) (p k) (n k) (st k) _ (HP1.out.pq k HK.out) (HLI.out k)).mono ?_
    rintro e w2 ⟨b2, h2⟩
    obtain rfl : e = .returned (.tuple #[.slice none 0 0, .int .i64 111]) := by
      rcases h2 with ⟨_, h3⟩ | ⟨_, _, _, _, _, h3, _⟩
      · exact h3
      · rw [HA.out] at h3; cases h3
    have HP2 := hidden (HP1.out.later b2)
    have HO2 := hidden (HO1.out.later b2)
    have d2 := HO2.out.cell 2
    simp only [oC, List.getElem?_cons_succ, List.getElem?_cons_zero] at d2
    clear h2 b2 HP1 HO1 c2
    go_wp2_with fail
    refine (getX sl (F k) (p k) (n k) (st k) _ (HP2.out.pq k HK.out) (HLI.out k)).mono ?_
    rintro e w3 ⟨b3, h2⟩
    obtain rfl : e = .returned (.tuple #[.slice none 0 0, .int .i64 111]) := by
      rcases h2 with ⟨_, h3⟩ | ⟨_, _, _, _, _, h3, _⟩
      · exact h3
      · rw [HA.out] at h3; cases h3
    have HP3 := hidden (HP2.out.later b3)
    have HO3 := hidden (HO2.out.later b3)
    have e2 := HO3.out.cell 2
    simp only [oC, List.getElem?_cons_succ, List.getElem?_cons_zero] at e2
    clear h2 b3 HP2 HO2 d2
    go_wp2_with fail
    refine (getR sl (r k) (q k) (n k) (st k) (B k) _ (HP3.out.rp k HK.out) (HLI.out k)).mono ?_
    rintro e w4 ⟨b4, h2⟩
    obtain rfl : e = .returned (.tuple #[.slice none 0 0, .int .i64 111]) := by
      rcases h2 with ⟨_, h3⟩ | ⟨_, _, _, _, _, h3, _⟩
      · exact h3
      · rw [HA.out] at h3; cases h3
    have HP4 := hidden (HP3.out.later b4)
    have c6 := HP4.out.c6
    clear h2 b4 HP3 HO3 e2
    by_cases hn60 : nb < 60
    · have hq := ownedP v w0.heap.size (wlC p r (.slice bd nb bc) vn) (.slice bd nb bc) (.slice none 0 0) Lb [] w4 HP4.out.blk rfl HP4.out.ob HP4.out.bel.size (.inl ⟨rfl, rfl⟩) (by simp) (by rw [HNB.out]; exact hn60) (fun g hg => by cases hg)
      have HQ := hidden hq
      clear hq
      go_wp2_with (refine HQ.out.mono ?_; clear HQ; rintro e w5 ⟨rfl, vb', h1, h2, h3, h4, h5⟩; have H5 := hidden (HP4.out.addB (k := 0) (by omega) (by rw [HNB.out]; exact hn60) h1 h2 h3 h4 (fun g hg => by cases hg)); clear h1 h2 h3 h4 h5 c6)
      go_ret
      exact ⟨by first | rfl | simp, st, F, B, vb', vn, _, Ln, H5.out, HLI.out⟩
    · go_wp2_with fail
      go_ret
      exact ⟨by first | rfl | simp, st, F, B, _, vn, Lb, Ln, HP4.out, HLI.out⟩
  · have hd8 := HLI.out k i o d hst
    obtain ⟨m, hm⟩ : ∃ m, d.size = m := ⟨_, rfl⟩
    have HA := hidden hA
    have HM := hidden hm
    rw [hm] at hd8
    clear hA hst hm
    go_wp2_with fail
    refine (getX sl (F k) (p k) (n k) (st k) _ (HP1.out.pq k HK.out) (HLI.out k)).mono ?_
    rintro e w2 ⟨b2, h2⟩
    obtain ⟨g1, q1, rfl, z1, s1, r1⟩ : ∃ ga c, e = .returned (.tuple #[.slice (some ⟨ga, 0, none⟩) m c, .int .i64 0]) ∧ wb.heap.size ≤ ga ∧ Sl w2 (some ⟨ga, 0, none⟩) m (bts d) ∧ Rw w2 5 (.slice (some ⟨ga, 0, none⟩) m c) (cells8 (bts d)) := by
      rcases h2 with ⟨h3, _⟩ | ⟨i', o', d', ga, c', h3, h4, h5, h6, h7⟩
      · rw [HA.out] at h3; cases h3
      · rw [HA.out] at h3
        simp only [Option.some.injEq, Prod.mk.injEq] at h3
        obtain ⟨_, _, rfl⟩ := h3
        rw [HM.out] at h4 h6 h7
        exact ⟨ga, c', h4, h5, h6, h7⟩
    have HP2 := hidden (HP1.out.later b2)
    have HO2 := hidden (HO1.out.later b2)
    have HZ1 := hidden (And.intro z1 (And.intro s1 r1))
    have HG1 : Hid (w0.heap.size ≤ g1 ∧ g1 < w2.heap.size ∧ ¬ OB Lb g1 ∧ ∀ j, j < 3 → ¬ RG (st j) (B j) g1) := hidden ⟨by have := HP1.out.bel.size; omega, (r1.tg rfl).lt, fun h9 => by have := (HP1.out.tb.tg h9).lt; omega, fun j hj h9 => by have := RG.lt (HP1.out.rp j hj) h9; omega⟩
    have HG1v : Hid (¬ (Value.slice bd nb bc).ownBlock = some g1) := hidden (fun h9 => by have := owns_lt HP1.out.ob g1 h9; omega)
    have d2 := HO2.out.cell 2
    simp only [oC, List.getElem?_cons_succ, List.getElem?_cons_zero] at d2
    clear h2 b2 HP1 HO1 c2 z1 s1 r1
    go_wp2_with fail
    refine (getX sl (F k) (p k) (n k) (st k) _ (HP2.out.pq k HK.out) (HLI.out k)).mono ?_
    rintro e w3 ⟨b3, h2⟩
    obtain ⟨g2, q2, rfl, z2, s2⟩ : ∃ ga c, e = .returned (.tuple #[.slice (some ⟨ga, 0, none⟩) m c, .int .i64 0]) ∧ w2.heap.size ≤ ga ∧ Sl w3 (some ⟨ga, 0, none⟩) m (bts d) := by
      rcases h2 with ⟨h3, _⟩ | ⟨i', o', d', ga, c', h3, h4, h5, h6, h7⟩
      · rw [HA.out] at h3; cases h3
      · rw [HA.out] at h3
        simp only [Option.some.injEq, Prod.mk.injEq] at h3
        obtain ⟨_, _, rfl⟩ := h3
        rw [HM.out] at h4 h6
        exact ⟨ga, c', h4, h5, h6⟩
    have HP3 := hidden (HP2.out.later b3)
    have HO3 := hidden (HO2.out.later b3)
    have HZ2 := hidden (And.intro z2 s2)
    have HZ1' := hidden (And.intro (HZ1.out.2.1.later b3) (HZ1.out.2.2.later b3))
    have HV2 : Hid (v < w2.heap.size ∧ (∀ g, (Value.slice bd nb bc).ownBlock = some g → g < w2.heap.size)) := hidden ⟨HP2.out.blk.lt, fun g hg => owns_lt HP2.out.ob g hg⟩
    have HB3 := hidden b3.size
    have e2 := HO3.out.cell 2
    simp only [oC, List.getElem?_cons_succ, List.getElem?_cons_zero] at e2
    clear h2 b3 HP2 HO2 d2 z2 s2 HZ1
    go_wp2_with fail
    refine (getR sl (r k) (q k) (n k) (st k) (B k) _ (HP3.out.rp k HK.out) (HLI.out k)).mono ?_
    rintro e w4 ⟨b4, h2⟩
    obtain ⟨a3, q3, rfl, s3, z3⟩ : ∃ ad c, e = .returned (.tuple #[.slice ad m c, .int .i64 0]) ∧ Sl w4 ad m (bts d) ∧ ∀ x, ad = some x → w3.heap.size ≤ x.block := by
      rcases h2 with ⟨h3, _⟩ | ⟨i', o', d', ga, c', h3, h4, h5, h6⟩
      · rw [HA.out] at h3; cases h3
      · rw [HA.out] at h3
        simp only [Option.some.injEq, Prod.mk.injEq] at h3
        obtain ⟨_, _, rfl⟩ := h3
        rw [HM.out] at h4 h5
        exact ⟨ga, c', h4, h5, h6⟩
    have HP4 := hidden (HP3.out.later b4)
    have H1 := hidden (And.intro (HZ1'.out.1.later b4) (HZ1'.out.2.later b4))
    have H2 := hidden (HZ2.out.2.later b4)
    have H3 := hidden (And.intro s3 z3)
    have c6 := HP4.out.c6
    have hv1 := run_string_of (P := Tryd.prog) 40 5 9 Tryd.underlying40 Tryd.underlying5 Tryd.underlying9 (cap := q1) H1.out.1
    have hv3 := run_string_of (P := Tryd.prog) 40 5 9 Tryd.underlying40 Tryd.underlying5 Tryd.underlying9 (cap := q3) H3.out.1
    clear h2 b4 HP3 HO3 e2 s3 z3 HZ1'
    by_cases hn60 : nb < 60
    · have hq := ownedP v w0.heap.size (wlC p r (.slice bd nb bc) vn) (.slice bd nb bc) (.slice (some ⟨g1, 0, none⟩) m q1) Lb (cells8 (bts d)) w4 HP4.out.blk rfl HP4.out.ob HP4.out.bel.size H1.out.2 (by rw [cells8_length, bts_length, HM.out]; omega) (by rw [HNB.out]; exact hn60) (fun g hg => by have e9 : some g1 = some g := hg; injection e9 with e9; subst e9; exact HG1v.out)
      have HQ := hidden hq
      clear hq
      go_wp2_with (refine HQ.out.mono ?_; clear HQ; rintro e w5 ⟨rfl, vb', h1, h2, h3, h4, h5⟩; have H5 := hidden (HP4.out.addB (by rw [cells8_length, bts_length, HM.out]; omega) (by rw [HNB.out]; exact hn60) h1 h2 h3 h4 (fun g hg => by have e9 : some g1 = some g := hg; injection e9 with e9; subst e9; exact ⟨HG1.out.1, H1.out.2.tg rfl, HG1.out.2.2.1, HG1.out.2.2.2⟩)); have nF : ∀ b, w2.heap.size ≤ b → ¬ (b = v ∨ (Value.slice (some ⟨g1, 0, none⟩) m q1).ownBlock = some b ∨ (Value.slice bd nb bc).ownBlock = some b) := (fun b hb9 e => by rcases e with e | e | e; (have := HV2.out.1; omega); (have e9 : some g1 = some b := e; injection e9 with e9; have := HG1.out.2.1; omega); (have := HV2.out.2 b e; omega)); have k2 := h4.sl H2.out (fun y hy _ => by injection hy with hy; subst hy; exact nF _ HZ2.out.1); have k3 := h4.sl H3.out.1 (fun y hy _ => nF _ (Nat.le_trans HB3.out (H3.out.2 y hy))); have hw2 := run_string_of (P := Tryd.prog) 40 5 9 Tryd.underlying40 Tryd.underlying5 Tryd.underlying9 (cap := q2) k2; have hw3 := run_string_of (P := Tryd.prog) 40 5 9 Tryd.underlying40 Tryd.underlying5 Tryd.underlying9 (cap := q3) k3; clear h1 h2 h3 h4 h5 c6 nF k2 k3 hv1 hv3)
      go_ret
      exact ⟨by first | rfl | simp, st, F, B, vb', vn, _, Ln, H5.out, HLI.out⟩
    · have hw2 := run_string_of (P := Tryd.prog) 40 5 9 Tryd.underlying40 Tryd.underlying5 Tryd.underlying9 (cap := q2) H2.out
      go_wp2_with fail
      go_ret
      exact ⟨by first | rfl | simp, st, F, B, _, vn, Lb, Ln, HP4.out, HLI.out⟩

end Go.Proofs.YtjlpkgepiajapaaDoor
