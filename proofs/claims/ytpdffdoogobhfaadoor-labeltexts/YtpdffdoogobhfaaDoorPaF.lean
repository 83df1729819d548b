/-
  What is found: refuse, add.
-/
import Derived.Test.YtpdffdoogobhfaaDoorPaE
namespace Go.Proofs.YtpdffdoogobhfaaDoor
open Go.RowKit
set_option linter.unusedVariables false
set_option linter.unusedSimpArgs false

/-- What has been found so far, in its block f; its row above B. -/
structure Fd (w : World) (B f : Nat) (J : Jd) (v : Value) : Prop where
  blk : Blk w f 78 [v, .bool J.bad.isSome, .int .i64 ((J.bad.getD 0 : Nat) : Int)]
  own : w.ownsRow B 35 2 v J.ls.length (cL J.ls)
  sz : Szs J.ls
  gd : J.gd
def Ad (B f : Nat) (w w' : World) : Prop := Chg (fun i => i = f ∨ (B ≤ i ∧ Tg w i 35)) w w'
theorem Ad.trans {B f : Nat} {u v w : World} (h : Ad B f u v) (k : Ad B f v w) : Ad B f u w := by
  refine Chg.trans h k fun i hi hk => ?_
  rcases hk with e | ⟨hB, cs, fr, e⟩
  · exact Or.inl e
  · by_cases hF : i = f ∨ (B ≤ i ∧ Tg u i 35)
    · exact hF
    · have := h.block i hi hF
      rw [this] at e
      exact Or.inr ⟨hB, cs, fr, e⟩
theorem Ad.of {B f : Nat} {w w' : World} (h : Below w.heap.size w w') : Ad B f w w' := Chg.of_below h
theorem Ad.blk {B f g t : Nat} {w w' : World} {l : List Value} (h : Ad B f w w') (hB : Blk w g t l) (h1 : g ≠ f) (h5 : t ≠ 35) : Blk w' g t l :=
  Chg.blk h hB (fun e => by
    rcases e with e | ⟨_, e⟩
    · exact h1 e
    · exact h5 (hB.tg.one e))
theorem Fd.chg {F : Nat → Prop} {w w' : World} {B f : Nat} {J : Jd} {v : Value} (h : Fd w B f J v) (hc : Chg F w w') (h1 : ¬ F f) (h2 : ∀ g, v.ownBlock = some g → ¬ F g) : Fd w' B f J v :=
  ⟨hc.blk h.blk h1, hc.owns h.own h2, h.sz, h.gd⟩
theorem Fd.later {w w' : World} {B f : Nat} {J : Jd} {v : Value} (h : Fd w B f J v) (hc : Below w.heap.size w w') : Fd w' B f J v :=
  h.chg (Chg.of_below (F := fun _ => False) hc) (fun h => h) (fun _ _ h => h)
theorem getL_any {l : List Lb} (h : ∀ x ∈ l, x.fits = true) (n : List UInt8) : decide (getL l n = []) = !(l.any fun y => decide (bts y.n = n)) := by
  induction l with
  | nil => simp [getL]
  | cons x t ih =>
    rw [getL, List.any_cons]
    by_cases hx : bts x.n = n
    · have hf := h x (by simp)
      simp only [Lb.fits, Bool.and_eq_true, isVal, decide_eq_true_eq] at hf
      simp [hx, hf.2.1.1]
    · rw [if_neg hx, ih (fun y hy => h y (by simp [hy]))]; simp [hx]

set_option maxRecDepth 100000 in
theorem refuseP (B f : Nat) (J : Jd) (v : Value) (p : Nat) (w : World) (h : Fd w B f J v) (hb : J.bad = none) :
    Calls Tryd.prog 61 #[.pointer (some ⟨f, 0, none⟩), .int .i64 (p : Int)] w fun e w' => e = .returned (.tuple #[]) ∧ Fd w' B f ⟨J.ls, some p⟩ v ∧ Chg (fun i => i = f) w w' := by
  have f1 := h.blk.frozen 1
  have f2 := h.blk.frozen 2
  have c1 : w.cell? ⟨f, 1, none⟩ = some (.bool J.bad.isSome) := h.blk.cell 1
  have c2 : w.cell? ⟨f, 2, none⟩ = some (.int .i64 ((J.bad.getD 0 : Nat) : Int)) := h.blk.cell 2
  have HH := hidden h
  clear h
  go_enter Tryd.func61, Tryd.ntmps61
  go_wp2
  go_end0
  have hcs : Chg (fun i => i = f) w ((w.setCell ⟨f, 1, none⟩ (.bool true)).setCell ⟨f, 2, none⟩ (.int .i64 (p : Int))) := (Chg.set ⟨f, 1, none⟩ _ w).trans (Chg.set ⟨f, 2, none⟩ _ _) (fun _ _ e => e)
  refine ⟨rfl, ⟨(HH.out.blk.set 1 (.bool true)).set 2 (.int .i64 (p : Int)), hcs.owns HH.out.own (fun g hg e => ?_), HH.out.sz, HH.out.gd⟩, hcs⟩
  have e' : g = f := e
  rw [e'] at hg
  exact absurd ((owns_tg HH.out.own f hg).one HH.out.blk.tg) (by decide)

set_option maxRecDepth 100000 in
set_option maxHeartbeats 4000000 in
theorem addP (B0 B f : Nat) (J : Jd) (v : Value) (x : Lb) (p : Nat) (w : World) (h : Fd w B f J v) (hB : B ≤ w.heap.size) (hT : Tb B0 w) (y0 : x.n.size ≤ 9223372036854775807) (y1 : x.v.size ≤ 9223372036854775807) :
    Calls Tryd.prog 65 #[.pointer (some ⟨f, 0, none⟩), .agg #[.string x.n, .string x.v], .int .i64 (p : Int)] w fun e w' => e = .returned (.tuple #[]) ∧ ∃ v', Fd w' B f (J.add x p) v' ∧ Ad B f w w' := by
  obtain ⟨wa, hwa⟩ : ∃ wa, w.alloc (.cells #[.string x.n, .string x.v] 35) = wa := ⟨_, rfl⟩
  have hal : Below w.heap.size w wa := by rw [← hwa]; exact (Below.refl _ _).alloc (Nat.le_refl _) _
  have hO : Blk wa w.heap.size 35 [.string x.n, .string x.v] := by rw [← hwa]; exact Blk.new w 35 _
  have hF := h.later hal
  have hTa := hT.later hal
  have hBa : B ≤ wa.heap.size := Nat.le_trans hB hal.size
  have o0 : wa.cell? ⟨w.heap.size, 0, none⟩ = some (.string x.n) := hO.cell 0
  have c1 : wa.cell? ⟨f, 1, none⟩ = some (.bool J.bad.isSome) := hF.blk.cell 1
  have HF := hidden hF
  have HAL := hidden hal
  have HO := hidden hO
  have HTA := hidden hTa
  clear h hF hO hT hTa
  cases hb : J.bad with
  | some q =>
    rw [hb] at c1
    change wa.cell? _ = some (.bool true) at c1
    have hJ : J.add x p = J := by simp [Jd.add, hb]
    rw [hJ]
    clear hJ hb
    go_enter Tryd.func65, Tryd.ntmps65
    go_wp2
    refine bodyPost_ret (results_none rfl _ _ _) rfl ?_
    exact ⟨rfl, v, HF.out, Ad.of HAL.out⟩
  | none =>
    rw [hb] at c1
    obtain ⟨ad, c, rfl, hno, hsp, _, _⟩ := owns_formL HF.out.own
    have c0 : wa.cell? ⟨f, 0, none⟩ = some (.slice ad J.ls.length c) := HF.out.blk.cell 0
    have hG := getP ad c J.ls x.n wa.drew ((ls_of_owns HF.out.own HF.out.sz).later ((Below.refl _ _).drew)) (by have := HF.out.gd.1; omega)
    have hn8 := HF.out.gd.1
    have hga := getL_any HF.out.gd.2.1 (bts x.n)
    obtain ⟨n, hn⟩ : ∃ n, J.ls.length = n := ⟨_, rfl⟩
    rw [hn] at c0 hG hn8
    have HN := hidden hn
    have HJB := hidden hb
    have HGA := hidden hga
    clear hn hb hga
    go_enter Tryd.func65, Tryd.ntmps65
    obtain ⟨an, han⟩ : ∃ an, (J.ls.any fun y => decide (bts y.n = bts x.n)) = an := ⟨_, rfl⟩
    rw [han] at HGA
    go_upto_region 2 with fail
    go_cut [6] from 11 to 18 (fun s wx => s = .bool (!an) ∧ Below wa.heap.size wa wx)
    case first =>
      go_region_with (refine hG.mono ?_; rintro e w1 ⟨rr, rfl, hrr, hb1⟩; have e0 : rr.toList.isEmpty = !an := by rw [← HGA.out, ← hrr, toList_bts]; cases bts rr <;> simp)
      all_goals
        go_wp2_with fail
        go_meet
        exact ⟨by simp [e0], (Below.refl _ _).drew.trans hb1⟩
    case rest =>
      obtain ⟨rfl, hb1'⟩ := hcut
      rename World => w1
      have hF1 := HF.out.later hb1'
      have hO1 := HO.out.later hb1'
      have d0 : w1.cell? ⟨f, 0, none⟩ = some (.slice ad n c) := by have := hF1.blk.cell 0; rw [HN.out] at this; exact this
      have p0 : w1.cell? ⟨w.heap.size, 0, none⟩ = some (.string x.n) := hO1.cell 0
      have p1 : w1.cell? ⟨w.heap.size, 1, none⟩ = some (.string x.v) := hO1.cell 1
      have HAN := hidden han
      have HB1 := hidden hb1'
      have hwr : Hid (wrongL J.ls x = (decide (n = 8) || an || !(isName (bts x.n) && isVal (bts x.v)))) := by show _ = _; rw [wrongL, HN.out, han]; rfl
      have hadd : Hid (∀ b, wrongL J.ls x = b → J.add x p = bif b then ⟨J.ls, some p⟩ else ⟨J.ls ++ [x], none⟩) := hidden (fun b e => by simp only [Jd.add, HJB.out, e]; cases b <;> rfl)
      have HO1 := hidden hO1
      clear hb1' hF1 han hO1 hG
      by_cases h8 : n = 8
      · have z8 : ((n : Int) == 8) = true := by simp; omega
        have HJ : Hid (J.add x p = ⟨J.ls, some p⟩) := hidden (hadd.out true (by rw [hwr.out, decide_eq_true h8]; simp))
        clear h8 hwr hadd
        go_wp2_with (first
          | (go_at_call 61; refine (refuseP B f J _ p _ (HF.out.later HB1.out) HJB.out).mono ?_; rintro e w9 ⟨rfl, hF9, hc9⟩))
        refine bodyPost_ret (results_none rfl _ _ _) rfl ?_
        exact ⟨rfl, _, by rw [HJ.out]; exact hF9, (Ad.of HAL.out).trans ((Ad.of HB1.out).trans (hc9.mono (fun i _ e => Or.inl e)))⟩
      · have z8 : ((n : Int) == 8) = false := by simp; omega
        cases an with
        | true =>
          have HJ : Hid (J.add x p = ⟨J.ls, some p⟩) := hidden (hadd.out true (by rw [hwr.out]; simp))
          clear h8 hwr hadd
          go_wp2_with (first
            | (go_at_call 61; refine (refuseP B f J _ p _ (HF.out.later HB1.out) HJB.out).mono ?_; rintro e w9 ⟨rfl, hF9, hc9⟩))
          refine bodyPost_ret (results_none rfl _ _ _) rfl ?_
          exact ⟨rfl, _, by rw [HJ.out]; exact hF9, (Ad.of HAL.out).trans ((Ad.of HB1.out).trans (hc9.mono (fun i _ e => Or.inl e)))⟩
        | false =>
          cases hN : isName (bts x.n) with
          | false =>
            have kN : ∀ w, Calls Tryd.prog 28 #[.string x.n] w fun e w' => e = .returned (.bool false) ∧ w' = w := fun w => by rw [← hN]; exact isNameP x.n w y0
            have HJ : Hid (J.add x p = ⟨J.ls, some p⟩) := hidden (hadd.out true (by rw [hwr.out, hN]; simp))
            clear h8 hwr hadd hN
            go_wp2_with (first
              | (go_at_call 28; refine (kN _).mono ?_; rintro e w' ⟨rfl, rfl⟩)
              | (go_at_call 61; refine (refuseP B f J _ p _ (HF.out.later HB1.out) HJB.out).mono ?_; rintro e w9 ⟨rfl, hF9, hc9⟩))
            refine bodyPost_ret (results_none rfl _ _ _) rfl ?_
            exact ⟨rfl, _, by rw [HJ.out]; exact hF9, (Ad.of HAL.out).trans ((Ad.of HB1.out).trans (hc9.mono (fun i _ e => Or.inl e)))⟩
          | true =>
            have kN : ∀ w, Calls Tryd.prog 28 #[.string x.n] w fun e w' => e = .returned (.bool true) ∧ w' = w := fun w => by rw [← hN]; exact isNameP x.n w y0
            have kV := isValueP B0 x.v w1 y1 (HTA.out.later HB1.out)
            cases hV : isVal (bts x.v) with
            | false =>
              rw [hV] at kV
              have HJ : Hid (J.add x p = ⟨J.ls, some p⟩) := hidden (hadd.out true (by rw [hwr.out, hV]; simp))
              clear h8 hwr hadd hN hV
              go_wp2_with (first
                | (go_at_call 28; refine (kN _).mono ?_; rintro e w' ⟨rfl, rfl⟩)
                | (go_at_call 29; refine kV.mono ?_; rintro e w2 ⟨rfl, hb2⟩; have hb12 := HB1.out.trans (hb2.mono HB1.out.size))
                | (go_at_call 61; refine (refuseP B f J _ p _ (HF.out.later hb12) HJB.out).mono ?_; rintro e w9 ⟨rfl, hF9, hc9⟩))
              refine bodyPost_ret (results_none rfl _ _ _) rfl ?_
              exact ⟨rfl, _, by rw [HJ.out]; exact hF9, (Ad.of HAL.out).trans ((Ad.of hb12).trans (hc9.mono (fun i _ e => Or.inl e)))⟩
            | true =>
              rw [hV] at kV
              have HJ : Hid (J.add x p = ⟨J.ls ++ [x], none⟩) := hidden (hadd.out false (by rw [hwr.out, hV, hN, decide_eq_false h8]; simp))
              have HFIT : Hid (x.fits = true ∧ J.ls.length + 1 ≤ 8 ∧ ∀ y ∈ J.ls, bts y.n ≠ bts x.n) := hidden ⟨by simp [Lb.fits, hN, hV], by have := HN.out; omega, fun y hy e => by have := HAN.out; rw [List.any_eq_false] at this; exact absurd (decide_eq_true e) (this y hy)⟩
              clear h8 hwr hadd hN hV
              go_wp2_with (first
                | (go_at_call 28; refine (kN _).mono ?_; rintro e w' ⟨rfl, rfl⟩)
                | (go_at_call 29; refine kV.mono ?_; rintro e w2 ⟨rfl, hb2⟩; have hb12 := HB1.out.trans (hb2.mono HB1.out.size)))
              have hF2 := HF.out.later hb12
              have hO2 := HO.out.later hb12
              have q0 : w2.cell? ⟨f, 0, none⟩ = some (.slice ad n c) := by have := hF2.blk.cell 0; rw [HN.out] at this; exact this
              have q1 : w2.cell? ⟨w.heap.size, 0, none⟩ = some (.string x.n) := hO2.cell 0
              have q2 : w2.cell? ⟨w.heap.size, 1, none⟩ = some (.string x.v) := hO2.cell 1
              have g0 := hF2.blk.frozen 0
              have hfl : f < w2.heap.size := hF2.blk.lt
              have hol : w.heap.size < w2.heap.size := hO2.lt
              have hB2 : B ≤ w2.heap.size := Nat.le_trans hBa hb12.size
              have HF2 := hidden hF2
              have HB12 := hidden hb12
              have HOWN : Hid (w2.ownsRow B 35 2 (.slice ad n c) n (cL J.ls)) := by have := hF2.own; rw [HN.out] at this; exact this
              obtain ⟨i0, hi0, hz0, hz1, hz2⟩ := info_parts info35
              have cellN : ∀ j u, [Value.string x.n, Value.string x.v][j]? = some u → (w2.alloc (.cells #[.string x.n, .string x.v] 35)).drew.cell? ((⟨w2.heap.size, 0, none⟩ : Addr).add j) = some u := by
                intro j u hj
                rw [Addr.add_lit, Nat.zero_add]
                have := (Blk.new w2 35 [.string x.n, .string x.v]).cell j
                rw [hj] at this
                exact this
              have CELLN := hidden cellN
              clear hF2 hO2 hb12 hb2 kV kN d0 p0 p1 cellN
              go_region_law (refine step_push2 _ (by rfl) (.tmp 48) (.tmp 50) 22 (by rfl) 35 i0 (.agg #[.string ⟨#[]⟩, .string ⟨#[]⟩]) 32 Tryd.underlying22 hi0 hz0 hz1 hz2 (by rfl) B (.slice ad n c) n (cL J.ls) (by rfl) ((Chg.drew (fun _ => False) _).owns ((Chg.alloc (fun _ => False) w2 _).owns HOWN.out (fun _ _ h => h)) (fun _ _ h => h)) ⟨w2.heap.size, 0, none⟩ [.string x.n, .string x.v] (by rfl) (by rfl) CELLN.out (by intro u hu; simp at hu; rcases hu with rfl | rfl <;> rfl) (by unfold maxLen; omega) (by omega) (by simp; omega) ?_; intro g6 c6 w6 ho6 hp6; have HP := hidden hp6; have HO6 := hidden ho6; have hb6 := (Pushed.chg (w := w2.drew) hp6).1; have hB6 : Blk w6 f 78 _ := ((Chg.drew _ w2).trans hb6 (fun _ _ e => e)).blk HF2.out.blk (fun e => absurd ((owns_tg HOWN.out _ e).one HF2.out.blk.tg) (by decide)); have e2 : ∃ u, w6.cell? ⟨f, 0, none⟩ = some u := ⟨_, hB6.cell 0⟩; obtain ⟨u6, e2⟩ := e2; have f6 := hB6.frozen 0; have HB6 := hidden hB6; have HC6 := hidden hb6; clear ho6 hp6 hb6 hB6)
              all_goals
                go_wp2_with fail
                go_end0
                refine ⟨rfl, .slice (some ⟨g6, 0, none⟩) (n + 1) c6, ?_, ?_⟩
                · rw [HJ.out]
                  refine ⟨?_, ?_, ?_, ?_⟩
                  · have := HB6.out.set 0 (.slice (some ⟨g6, 0, none⟩) (n + 1) c6)
                    rw [HJB.out] at this
                    exact this
                  · have hcs : Chg (fun i => i = f) w6 (w6.setCell ⟨f, 0, none⟩ (.slice (some ⟨g6, 0, none⟩) (n + 1) c6)) := Chg.set ⟨f, 0, none⟩ _ _
                    have ho := hcs.owns HO6.out (fun g hg e => by
                      have e' : g = f := e
                      rw [e'] at hg
                      exact absurd ((owns_tg HO6.out f hg).one HB6.out.tg) (by decide))
                    rw [cL_append, List.length_append, HN.out]
                    exact ho
                  · intro y hy
                    rcases List.mem_append.1 hy with hy | hy
                    · exact HF2.out.sz y hy
                    · rw [List.mem_singleton.1 hy]; exact ⟨y0, y1⟩
                  · obtain ⟨k1, k2, k3⟩ := HFIT.out
                    obtain ⟨m1, m2, m3⟩ := HF2.out.gd
                    refine ⟨by rw [List.length_append]; exact k2, fun y hy => ?_, ?_⟩
                    · rcases List.mem_append.1 hy with hy | hy
                      · exact m2 y hy
                      · rw [List.mem_singleton.1 hy]; exact k1
                    · exact List.pairwise_append.2 ⟨m3, by simp, fun a ha b hb => by rw [List.mem_singleton.1 hb]; exact k3 a ha⟩
                · have a1 : Ad B f w w2 := (Ad.of HAL.out).trans (Ad.of HB12.out)
                  have a2 : Ad B f w2 w6 := by
                    have := (Chg.drew (fun i => (Value.slice ad n c).ownBlock = some i) w2).trans HC6.out (fun _ _ e => e)
                    exact this.mono (fun i _ e => Or.inr ⟨(HOWN.out.lt i e).1, owns_tg HOWN.out i e⟩)
                  exact (a1.trans a2).trans ((Chg.set ⟨f, 0, none⟩ _ w6).mono (fun i _ e => Or.inl e))

end Go.Proofs.YtpdffdoogobhfaaDoor
