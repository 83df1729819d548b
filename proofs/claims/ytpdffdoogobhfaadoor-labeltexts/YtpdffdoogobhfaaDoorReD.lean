/-
  The document's own: IsValue, Right.
-/
import Derived.Test.YtpdffdoogobhfaaDoorReC
import Derived.Test.YtpdffdoogobhfaaDoorLbT
namespace Go.Proofs.YtpdffdoogobhfaaDoor
open Go.RowKit
set_option linter.unusedVariables false
set_option linter.unusedSimpArgs false

set_option maxHeartbeats 2000000 in
theorem risValueP (s : ByteArray) (w : World) (hs : s.size ≤ 4611686018427387904) : Calls Tryd.prog 31 #[.string s] w fun e w' => e = .returned (.bool (isVal (bts s))) ∧ w' = w := by
  have hV := utf8P s w hs
  unfold isVal
  rw [← size_bts]
  obtain ⟨q, hq⟩ : ∃ q, Lib.validD (bts s) = q := ⟨_, rfl⟩
  rw [hq] at hV ⊢
  clear hq
  have e0 := empty_bts s
  cases q with
  | false =>
    go_enter Tryd.func31, Tryd.ntmps31
    go_wp2_with (go_at_call 55; refine hV.mono ?_; rintro e w' ⟨rfl, rfl⟩)
    go_ret
    exact ⟨by simp, rfl⟩
  | true =>
    cases h1 : decide (bts s = []) with
    | true =>
      rw [h1] at e0
      have h1' := of_decide_eq_true h1
      go_enter Tryd.func31, Tryd.ntmps31
      go_wp2_with (go_at_call 55; refine hV.mono ?_; rintro e w' ⟨rfl, rfl⟩)
      go_ret
      exact ⟨by simp [h1', e0], rfl⟩
    | false =>
      rw [h1] at e0
      have h1' := of_decide_eq_false h1
      by_cases h2 : s.size ≤ 64
      · have z2 : (s.size : Int) ≤ 64 := by omega
        go_enter Tryd.func31, Tryd.ntmps31
        go_wp2_with (go_at_call 55; refine hV.mono ?_; rintro e w' ⟨rfl, rfl⟩)
        go_ret
        exact ⟨by simp [h1', h2, e0], rfl⟩
      · have z2 : ¬ (s.size : Int) ≤ 64 := by omega
        go_enter Tryd.func31, Tryd.ntmps31
        go_wp2_with (go_at_call 55; refine hV.mono ?_; rintro e w' ⟨rfl, rfl⟩)
        go_ret
        exact ⟨by simp [h1', h2, e0]; try omega, rfl⟩

/-- Texts that are not too long. -/
def Sm (l : List Lb) : Prop := ∀ x ∈ l, x.n.size ≤ 4611686018427387904 ∧ x.v.size ≤ 4611686018427387904
theorem Sm.perm {l m : List Lb} (h : Sm l) (hp : m.Perm l) : Sm m := fun x hx => h x (hp.mem_iff.1 hx)
theorem Sm.szs {l : List Lb} (h : Sm l) : Szs l := fun x hx => by have := h x hx; omega

set_option maxRecDepth 100000 in
set_option maxHeartbeats 4000000 in
theorem rrightP (ad : Option Addr) (c : Nat) (l : List Lb) (w : World) (hL : Ls w ad l) (hlen : l.length ≤ 4611686018427387904) (hsm : Sm l) :
    Calls Tryd.prog 15 #[.slice ad l.length c] w fun e w' => e = .returned (.int .i64 (errL (right l))) ∧ Below w.heap.size w w' := by
  obtain ⟨n, hn⟩ : ∃ n, l.length = n := ⟨_, rfl⟩
  unfold right
  rw [hn] at hlen ⊢
  obtain ⟨R, hR⟩ : ∃ R, rightFrom none l = R := ⟨_, rfl⟩
  have HR := hidden hR
  have HL := hidden hL
  have HN := hidden hn
  have HM := hidden hsm
  rw [hR]
  clear hR hL hn hsm
  by_cases h1 : n = 0
  · have z1 : (n : Int) < 1 := by omega
    have H1 := hidden h1
    clear h1
    go_enter Tryd.func15, Tryd.ntmps15
    go_wp2
    go_ret
    exact ⟨by rw [H1.out]; rfl, Below.refl _ _⟩
  · have z1 : ¬ (n : Int) < 1 := by omega
    by_cases h2 : 8 < n
    · have z2 : (8 : Int) < (n : Int) := by omega
      go_enter Tryd.func15, Tryd.ntmps15
      go_wp2
      go_ret
      exact ⟨by rw [show decide (n ≤ 8) = false from decide_eq_false (by omega)]; simp [errL], Below.refl _ _⟩
    · have z2 : ¬ (8 : Int) < (n : Int) := by omega
      have hend : Hid ((decide (1 ≤ n) && decide (n ≤ 8) && R) = R) := by
        show _ = _
        rw [decide_eq_true (by omega : 1 ≤ n), decide_eq_true (by omega : n ≤ 8)]; simp
      rw [hend.out]
      clear hend
      go_enter Tryd.func15, Tryd.ntmps15
      go_wp2
      go_loopw [3] (fun s0 wx => ∃ i : Nat, s0 = .int .i64 (i : Int) ∧ i ≤ n ∧ Hid (rightFrom (prevAt l i) (l.drop i) = R) ∧ Hid (Below w.heap.size w wx)) (fun s0 _ => n - (intOf s0).toNat)
      case atStart => exact ⟨0, rfl, by omega, hidden (by simpa [prevAt] using HR.out), hidden (Below.refl _ _)⟩
      case round =>
        rename World => wr
        obtain ⟨i, rfl, hi, hrel, hbel⟩ := hrel
        by_cases hlt : i < n
        · have hltz : (i : Int) < (n : Int) := by omega
          obtain ⟨b, off, x, rfl, hb, hx, hx', c0, c1, y0, y1⟩ := (HL.out.later hbel.out).get (i := i) (by rw [HN.out]; exact hlt)
          have hxs := HM.out x (List.mem_of_getElem? hx)
          have hdrop : Hid (l.drop i = x :: l.drop (i + 1)) := by rw [← hx']; exact List.drop_eq_getElem_cons _
          have HX := hidden hx
          clear hx hx'
          have hR1 : Hid ((x.fits && ltO (prevAt l i) x && rightFrom (some x) (l.drop (i + 1))) = R) := by
            have := hrel.out; rw [hdrop.out, rightFrom_cons] at this; exact this
          have kN := risNameP x.n wr y0
          have kV := risValueP x.v wr hxs.2
          have hfit : Hid (x.fits = (isName (bts x.n) && isVal (bts x.v))) := rfl
          clear hrel hdrop hxs y0 y1
          cases hN : isName (bts x.n) with
          | false =>
            have hR2 : Hid (R = false) := hidden (by have := hR1.out; rw [hfit.out, hN] at this; rw [← this]; simp)
            rw [hN] at kN
            generalize isVal (bts x.v) = v at *
            clear hR1 hfit hN
            go_wp2_with (first
              | (go_at_call 30; refine kN.mono ?_; rintro e w' ⟨rfl, hw'⟩; obtain rfl := hw'.symm; clear kN)
              | (go_at_call 31; refine kV.mono ?_; rintro e w' ⟨rfl, hw'⟩; obtain rfl := hw'.symm; clear kV))
            go_quiet (fail)
            go_wp2
            go_ret
            exact ⟨by rw [hR2.out]; rfl, below_drewN hbel.out _⟩
          | true =>
            cases hV : isVal (bts x.v) with
            | false =>
              have hR2 : Hid (R = false) := hidden (by have := hR1.out; rw [hfit.out, hN, hV] at this; rw [← this]; simp)
              rw [hN] at kN
              rw [hV] at kV
              clear hR1 hfit hN hV
              go_wp2_with (first
                | (go_at_call 30; refine kN.mono ?_; rintro e w' ⟨rfl, hw'⟩; obtain rfl := hw'.symm; clear kN)
                | (go_at_call 31; refine kV.mono ?_; rintro e w' ⟨rfl, hw'⟩; obtain rfl := hw'.symm; clear kV))
              go_quiet (fail)
              go_wp2
              go_ret
              exact ⟨by rw [hR2.out]; rfl, below_drewN hbel.out _⟩
            | true =>
              have hR2 : Hid ((ltO (prevAt l i) x && rightFrom (some x) (l.drop (i + 1))) = R) := hidden (by have := hR1.out; rw [hfit.out, hN, hV] at this; simpa using this)
              rw [hN] at kN
              rw [hV] at kV
              clear hR1 hfit hN hV
              by_cases h0 : i = 0
              · have z0 : ¬ (0 : Int) < (i : Int) := by omega
                have z0' : decide ((0 : Int) < (i : Int)) = false := decide_eq_false z0
                have hR3 : Hid (rightFrom (prevAt l (i + 1)) (l.drop (i + 1)) = R) := by
                  show rightFrom (prevAt l (i + 1)) (l.drop (i + 1)) = R
                  have := hR2.out
                  rw [show prevAt l i = none from if_pos h0] at this
                  rw [prevAt_succ l i HX.out]
                  simpa [ltO] using this
                subst h0
                rw [show off + 0 * 2 = off by omega] at c0
                rw [show off + 0 * 2 + 1 = off + 1 by omega] at c1
                clear hR2
                go_wp2_with (first
                  | (go_at_call 30; refine kN.mono ?_; rintro e w' ⟨rfl, hw'⟩; obtain rfl := hw'.symm; clear kN)
                  | (go_at_call 31; refine kV.mono ?_; rintro e w' ⟨rfl, hw'⟩; obtain rfl := hw'.symm; clear kV))
                go_quiet (fail)
                go_wp2
                refine ⟨⟨1, by first | rfl | simp, by omega, hR3, hidden (below_drewN hbel.out _)⟩, ?_⟩
                simp [intOf]
                omega
              · have z0 : (0 : Int) < (i : Int) := by omega
                have z0' : decide ((0 : Int) < (i : Int)) = true := decide_eq_true z0
                obtain ⟨b2, off2, p, e2, hb2, hp, hp', p0, p1, q0, q1⟩ := (HL.out.later hbel.out).get (i := i - 1) (by rw [HN.out]; omega)
                obtain ⟨rfl, rfl⟩ : b = b2 ∧ off = off2 := by injection e2 with e2; injection e2 with e3 e4; exact ⟨e3, e4⟩
                have hR3 : Hid ((ltN p x && rightFrom (prevAt l (i + 1)) (l.drop (i + 1))) = R) := by
                  have := hR2.out
                  rw [show prevAt l i = some p from by rw [prevAt, if_neg h0]; exact hp] at this
                  rw [prevAt_succ l i HX.out]
                  exact this
                obtain ⟨j, rfl⟩ : ∃ j, i = j + 1 := ⟨i - 1, by omega⟩
                simp only [Nat.add_sub_cancel] at p0 p1
                have eL : Op.bytesLess p.n.toList x.n.toList = ltN p x := by rw [bytesLess_lss, toList_bts, toList_bts]; rfl
                clear e2 hp hp' hR2 h0 q0 q1 hb2
                have z3 : ((j : Int) + 1 - 1) = (j : Int) := by omega
                have z4 : (j : Int) < (n : Int) := by omega
                have z5 : (0 : Int) ≤ (j : Int) := by omega
                have z6 : j < n := by omega
                cases hl : ltN p x with
                | true =>
                  rw [hl] at eL
                  have hR4 : Hid (rightFrom (prevAt l (j + 1 + 1)) (l.drop (j + 1 + 1)) = R) := hidden (by have := hR3.out; rw [hl] at this; simpa using this)
                  clear hR3 hl
                  go_wp2_with (first
                    | (go_at_call 30; refine kN.mono ?_; rintro e w' ⟨rfl, hw'⟩; obtain rfl := hw'.symm; clear kN)
                    | (go_at_call 31; refine kV.mono ?_; rintro e w' ⟨rfl, hw'⟩; obtain rfl := hw'.symm; clear kV))
                  go_quiet (fail)
                  go_wp2
                  refine ⟨⟨j + 1 + 1, by first | rfl | simp, by omega, hR4, hidden (below_drewN hbel.out _)⟩, ?_⟩
                  simp [intOf]
                  omega
                | false =>
                  rw [hl] at eL
                  have hR4 : Hid (R = false) := hidden (by have := hR3.out; rw [hl] at this; rw [← this]; simp)
                  clear hR3 hl
                  go_wp2_with (first
                    | (go_at_call 30; refine kN.mono ?_; rintro e w' ⟨rfl, hw'⟩; obtain rfl := hw'.symm; clear kN)
                    | (go_at_call 31; refine kV.mono ?_; rintro e w' ⟨rfl, hw'⟩; obtain rfl := hw'.symm; clear kV))
                  go_quiet (fail)
                  go_wp2
                  go_ret
                  exact ⟨by rw [hR4.out]; rfl, below_drewN hbel.out _⟩
        · have hltz : ¬ (i : Int) < (n : Int) := by omega
          go_wp2
          go_ret
          refine ⟨?_, hbel.out⟩
          have := hrel.out
          rw [List.drop_of_length_le (by rw [HN.out]; omega)] at this
          rw [← this]; cases prevAt l i <;> rfl

end Go.Proofs.YtpdffdoogobhfaaDoor
