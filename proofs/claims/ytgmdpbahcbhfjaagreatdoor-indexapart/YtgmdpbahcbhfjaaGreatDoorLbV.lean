import Derived.Test.YtgmdpbahcbhfjaaGreatDoorLbS
import Derived.Test.YtgmdpbahcbhfjaaGreatDoorShelf
set_option linter.unusedSimpArgs false
set_option linter.unusedVariables false
set_option maxHeartbeats 40000000
set_option maxRecDepth 100000
/-
  isValue, Right.
-/
namespace Go.Proofs.YtgmdpbahcbhfjaaGreatDoor.L
open Go.RowKit

/-- Go's tables of UTF-8 lie below B, as its text lays them. -/
def Tb (B : Nat) (w : World) : Prop := ∃ W0, W0.heap.size = B ∧ Lib.Utf8Tabs 0 1 W0 ∧ Below B W0 w
theorem Tb.size {B : Nat} {w : World} (h : Tb B w) : B ≤ w.heap.size := by
  obtain ⟨W0, e, _, hb⟩ := h
  rw [← e]; exact hb.size
theorem Tb.below {B B' : Nat} {w w' : World} (h : Tb B w) (hb : Below B' w w') (hB : B ≤ B') : Tb B w' := by
  obtain ⟨W0, e, ht, h0⟩ := h
  exact ⟨W0, e, ht, h0.trans (hb.mono hB)⟩
theorem Tb.later {B : Nat} {w w' : World} (h : Tb B w) (hb : Below w.heap.size w w') : Tb B w' := h.below hb h.size
theorem Tb.chg {B : Nat} {F : Nat → Prop} {w w' : World} (h : Tb B w) (hc : Chg F w w') (hF : ∀ i, F i → B ≤ i) : Tb B w' := h.below (hc.below h.size hF) (Nat.le_refl _)
theorem Tb.tabs {B : Nat} {w : World} (h : Tb B w) : Lib.Utf8Tabs 0 1 w := by
  obtain ⟨W0, e, ht, h0⟩ := h
  rw [← e] at h0
  exact Utf8Tabs_below ht h0
theorem Tb.new {w : World} (h : Lib.Utf8Tabs 0 1 w) : Tb w.heap.size w := ⟨w, rfl, h, Below.refl _ _⟩

theorem validP (B : Nat) (s : ByteArray) (w : World) (hs : s.size ≤ 9223372036854775807) (hT : Tb B w) : Calls Tryz.prog 71 #[.string s] w fun e w' => e = .returned (.bool (Lib.validD (bts s))) ∧ Below w.heap.size w w' :=
  Any.utf8_ValidString Tryz.laysValid s w hs hT.tabs

set_option maxHeartbeats 2000000 in
theorem isValueP (B : Nat) (s : ByteArray) (w : World) (hs : s.size ≤ 9223372036854775807) (hT : Tb B w) : Calls Tryz.prog 50 #[.string s] w fun e w' => e = .returned (.bool (isVal (bts s))) ∧ Below w.heap.size w w' := by
  have hV := validP B s w hs hT
  clear hT
  unfold isVal
  rw [← size_bts]
  obtain ⟨q, hq⟩ : ∃ q, Lib.validD (bts s) = q := ⟨_, rfl⟩
  rw [hq] at hV ⊢
  clear hq
  have e0 := empty_bts s
  cases h1 : decide (bts s = []) with
  | true =>
    rw [h1] at e0
    have h1' := of_decide_eq_true h1
    clear hV
    go_enter Tryz.func50, Tryz.ntmps50
    go_wp2
    go_ret
    refine ⟨?_, Below.refl _ _⟩
    simp [h1', e0]
  | false =>
    rw [h1] at e0
    have h1' := of_decide_eq_false h1
    by_cases h2 : s.size ≤ 64
    · have z2 : (s.size : Int) ≤ 64 := by omega
      go_enter Tryz.func50, Tryz.ntmps50
      go_wp2_with (go_at_call 71; refine hV.mono ?_; rintro e w' ⟨rfl, hb⟩)
      go_ret
      refine ⟨?_, hb⟩
      simp [h1', h2, e0]
    · have z2 : ¬ (s.size : Int) ≤ 64 := by omega
      clear hV
      go_enter Tryz.func50, Tryz.ntmps50
      go_wp2
      go_ret
      refine ⟨?_, Below.refl _ _⟩
      simp [h1', h2, e0]

def prevAt (l : List Lb) (i : Nat) : Option Lb := if i = 0 then none else l[i - 1]?
def ltO : Option Lb → Lb → Bool
  | none, _ => true
  | some p, x => ltN p x
theorem rightFrom_cons (o : Option Lb) (x : Lb) (t : List Lb) : rightFrom o (x :: t) = (x.fits && ltO o x && rightFrom (some x) t) := by
  cases o <;> simp [rightFrom, ltO]
theorem prevAt_succ (l : List Lb) (i : Nat) {x : Lb} (h : l[i]? = some x) : prevAt l (i + 1) = some x := by simp [prevAt, h]

/-- Right's answer. -/
def errL (b : Bool) : Int := bif b then 0 else 70

set_option maxHeartbeats 4000000 in
theorem rightP (B : Nat) (ad : Option Addr) (c : Nat) (l : List Lb) (w : World) (hL : Ls w ad l) (hlen : l.length ≤ 9223372036854775807) (hT : Tb B w) :
    Calls Tryz.prog 20 #[.slice ad l.length c] w fun e w' => e = .returned (.int .i64 (errL (right l))) ∧ Below w.heap.size w w' := by
  obtain ⟨n, hn⟩ : ∃ n, l.length = n := ⟨_, rfl⟩
  unfold right
  rw [hn] at hlen ⊢
  obtain ⟨R, hR⟩ : ∃ R, rightFrom none l = R := ⟨_, rfl⟩
  have HR := hidden hR
  have HL := hidden hL
  have HN := hidden hn
  have HT := hidden hT
  rw [hR]
  clear hR hL hn hT
  by_cases h1 : n = 0
  · have z1 : ((n : Int) == 0) = true := by simp [h1]
    have H1 := hidden h1
    clear h1
    go_enter Tryz.func20, Tryz.ntmps20
    go_wp2
    go_ret
    exact ⟨by rw [H1.out]; rfl, Below.refl _ _⟩
  · have z1 : ((n : Int) == 0) = false := by simp; omega
    by_cases h2 : 8 < n
    · have z2 : (8 : Int) < (n : Int) := by omega
      go_enter Tryz.func20, Tryz.ntmps20
      go_wp2
      go_ret
      exact ⟨by rw [show decide (n ≤ 8) = false from decide_eq_false (by omega)]; simp [errL], Below.refl _ _⟩
    · have z2 : ¬ (8 : Int) < (n : Int) := by omega
      have hend : Hid ((decide (1 ≤ n) && decide (n ≤ 8) && R) = R) := by
        show _ = _
        rw [decide_eq_true (by omega : 1 ≤ n), decide_eq_true (by omega : n ≤ 8)]; simp
      rw [hend.out]
      clear hend
      go_enter Tryz.func20, Tryz.ntmps20
      go_wp2
      go_loopw [15] (fun s0 wx => ∃ i : Nat, s0 = .int .i64 (i : Int) ∧ i ≤ n ∧ Hid (rightFrom (prevAt l i) (l.drop i) = R) ∧ Hid (Below w.heap.size w wx)) (fun s0 _ => n - (intOf s0).toNat)
      case atStart => exact ⟨0, rfl, by omega, hidden (by simpa [prevAt] using HR.out), hidden (Below.refl _ _)⟩
      case round =>
        rename World => wr
        obtain ⟨i, rfl, hi, hrel, hbel⟩ := hrel
        by_cases hlt : i < n
        · have hltz : (i : Int) < (n : Int) := by omega
          obtain ⟨b, off, x, rfl, hb, hx, hx', c0, c1, y0, y1⟩ := (HL.out.later hbel.out).get (i := i) (by rw [HN.out]; exact hlt)
          have hdrop : Hid (l.drop i = x :: l.drop (i + 1)) := by rw [← hx']; exact List.drop_eq_getElem_cons _
          have HX := hidden hx
          clear hx hx'
          have hR1 : Hid ((x.fits && ltO (prevAt l i) x && rightFrom (some x) (l.drop (i + 1))) = R) := by
            have := hrel.out; rw [hdrop.out, rightFrom_cons] at this; exact this
          have HBa := hidden (hbel.out.alloc hbel.out.size (.cells #[.string x.n, .string x.v] 75))
          cases hN : isName (bts x.n) with
          | false =>
            have kN : ∀ w, Calls Tryz.prog 49 #[.string x.n] w fun e w' => e = .returned (.bool false) ∧ w' = w := fun w => by rw [← hN]; exact isNameP x.n w y0
            have hR2 : Hid (R = false) := hidden (by have := hR1.out; rw [Lb.fits, hN] at this; rw [← this]; simp)
            clear hR1 hrel hdrop hN
            go_wp2_with (go_at_call 49; refine (kN _).mono ?_; rintro e w' ⟨rfl, rfl⟩)
            go_ret
            exact ⟨by rw [hR2.out]; rfl, HBa.out⟩
          | true =>
            have kN : ∀ w, Calls Tryz.prog 49 #[.string x.n] w fun e w' => e = .returned (.bool true) ∧ w' = w := fun w => by rw [← hN]; exact isNameP x.n w y0
            have kV := isValueP B x.v (wr.alloc (.cells #[.string x.n, .string x.v] 75)) y1 ((HT.out.later hbel.out).later ((Below.refl _ _).alloc (Nat.le_refl _) _))
            cases hV : isVal (bts x.v) with
            | false =>
              have hR2 : Hid (R = false) := hidden (by have := hR1.out; rw [Lb.fits, hV] at this; rw [← this]; simp)
              rw [hV] at kV
              clear hR1 hrel hdrop hN hV
              go_wp2_with (first
                | (go_at_call 49; refine (kN _).mono ?_; rintro e w' ⟨rfl, rfl⟩)
                | (go_at_call 50; refine kV.mono ?_))
              rintro e w5 ⟨rfl, hb5⟩
              have H5 := hidden hb5
              clear hb5
              go_wp2
              go_ret
              exact ⟨by rw [hR2.out]; rfl, HBa.out.trans (H5.out.mono HBa.out.size)⟩
            | true =>
              have hR2 : Hid ((ltO (prevAt l i) x && rightFrom (some x) (l.drop (i + 1))) = R) := hidden (by have := hR1.out; rw [Lb.fits, hN, hV] at this; simpa using this)
              rw [hV] at kV
              clear hR1 hrel hdrop hN hV
              go_wp2_with (first
                | (go_at_call 49; refine (kN _).mono ?_; rintro e w' ⟨rfl, rfl⟩)
                | (go_at_call 50; refine kV.mono ?_))
              rintro e w5 ⟨rfl, hb5⟩
              have H5 := hidden (HBa.out.trans (hb5.mono HBa.out.size))
              have g0 : w5.cell? ⟨wr.heap.size, 0, none⟩ = some (.string x.n) := by rw [hb5.cell (p := ⟨wr.heap.size, 0, none⟩) (by simp)]; simp
              have hbw : Hid (Below wr.heap.size wr w5) := ((Below.refl _ _).alloc (Nat.le_refl _) _).trans (hb5.mono (by simp))
              clear hb5
              by_cases h0 : i = 0
              · have z0 : ¬ (0 : Int) < (i : Int) := by omega
                have z0' : decide ((0 : Int) < (i : Int)) = false := decide_eq_false z0
                have hR3 : Hid (rightFrom (prevAt l (i + 1)) (l.drop (i + 1)) = R) := by
                  show rightFrom (prevAt l (i + 1)) (l.drop (i + 1)) = R
                  have := hR2.out
                  rw [show prevAt l i = none from if_pos h0] at this
                  rw [prevAt_succ l i HX.out]
                  simpa [ltO] using this
                subst h0
                clear hR2
                go_wp2
                go_quiet (fail)
                go_wp2
                refine ⟨⟨1, by first | rfl | simp, by omega, hR3, hidden (below_drewN H5.out _)⟩, ?_⟩
                simp [intOf]
                omega
              · have z0 : (0 : Int) < (i : Int) := by omega
                have z0' : decide ((0 : Int) < (i : Int)) = true := decide_eq_true z0
                obtain ⟨b2, off2, p, e2, hb2, hp, hp', p0, p1, q0, q1⟩ := (HL.out.later H5.out).get (i := i - 1) (by rw [HN.out]; omega)
                obtain ⟨rfl, rfl⟩ : b = b2 ∧ off = off2 := by injection e2 with e2; injection e2 with e3 e4; exact ⟨e3, e4⟩
                have hR3 : Hid ((ltN p x && rightFrom (prevAt l (i + 1)) (l.drop (i + 1))) = R) := by
                  have := hR2.out
                  rw [show prevAt l i = some p from by rw [prevAt, if_neg h0]; exact hp] at this
                  rw [prevAt_succ l i HX.out]
                  exact this
                obtain ⟨j, rfl⟩ : ∃ j, i = j + 1 := ⟨i - 1, by omega⟩
                simp only [Nat.add_sub_cancel] at p0 p1
                have eL : Op.bytesLess p.n.toList x.n.toList = ltN p x := by rw [bytesLess_lss, toList_bts, toList_bts]; rfl
                clear e2 hp hp' hR2 h0
                have z3 : ((j : Int) + 1 - 1) = (j : Int) := by omega
                have z4 : (j : Int) < (n : Int) := by omega
                have z5 : (0 : Int) ≤ (j : Int) := by omega
                have z6 : j < n := by omega
                cases hl : ltN p x with
                | true =>
                  rw [hl] at eL
                  have hR4 : Hid (rightFrom (prevAt l (j + 1 + 1)) (l.drop (j + 1 + 1)) = R) := hidden (by have := hR3.out; rw [hl] at this; simpa using this)
                  clear hR3 hl
                  go_wp2
                  go_quiet (fail)
                  go_wp2
                  refine ⟨⟨j + 1 + 1, by first | rfl | simp, by omega, hR4, hidden (below_drewN H5.out _)⟩, ?_⟩
                  simp [intOf]
                  omega
                | false =>
                  rw [hl] at eL
                  have hR4 : Hid (R = false) := hidden (by have := hR3.out; rw [hl] at this; rw [← this]; simp)
                  clear hR3 hl
                  go_wp2
                  go_quiet (fail)
                  go_wp2
                  go_ret
                  exact ⟨by rw [hR4.out]; rfl, below_drewN H5.out _⟩
        · have hltz : ¬ (i : Int) < (n : Int) := by omega
          go_wp2
          go_ret
          refine ⟨?_, hbel.out⟩
          have := hrel.out
          rw [List.drop_of_length_le (by rw [HN.out]; omega)] at this
          rw [← this]; cases prevAt l i <;> rfl

end Go.Proofs.YtgmdpbahcbhfjaaGreatDoor.L
