/-
  still.
-/
import Derived.Test.YtpdffdoogobhfaaDoorLwH
namespace Go.Proofs.YtpdffdoogobhfaaDoor
open Go.RowKit
set_option linter.unusedVariables false
set_option linter.unusedSimpArgs false

def mk3 : List Lb := [mkL 25, mkL 25, mkL 25]
theorem mk3_get (l : List Lb) {i : Nat} (h1 : l.length ≤ i) (h2 : i < l.length + 3) : (l ++ mk3)[i]? = some (mkL 25) := by
  rw [List.getElem?_append_right h1]
  rcases (show i - l.length = 0 ∨ i - l.length = 1 ∨ i - l.length = 2 by omega) with e | e | e <;> rw [e] <;> rfl

set_option maxRecDepth 100000 in
set_option maxHeartbeats 4000000 in
theorem stillP (g c d : Nat) (ad : Option Addr) (l : List Lb) (w : World) (hL : Ls w ad l) (hM : Ls w (some ⟨g, 0, none⟩) (l ++ mk3)) (hlen : l.length ≤ 4611686018427387904) (hc : l.length + 3 ≤ c) :
    Calls Tryd.prog 10 #[.slice (some ⟨g, 0, none⟩) l.length c, .slice ad l.length d] w fun e w' => e = .returned (.bool true) ∧ Below w.heap.size w w' := by
  obtain ⟨n, hn⟩ : ∃ n, l.length = n := ⟨_, rfl⟩
  rw [hn] at hlen hc ⊢
  have HL := hidden hL
  have HM := hidden hM
  have HN := hidden hn
  have hcz : (n : Int) + 3 ≤ (c : Int) := by omega
  clear hL hM hn
  go_enter Tryd.func10, Tryd.ntmps10
  go_wp2
  go_loopw [6] (fun s0 wx => ∃ i : Nat, s0 = .int .i64 (i : Int) ∧ i ≤ n + 3 ∧ Hid (Below w.heap.size w wx)) (fun s0 _ => n + 3 - (intOf s0).toNat)
  case atStart => exact ⟨0, rfl, by omega, hidden (Below.refl _ _)⟩
  case round =>
    rename World => wr
    obtain ⟨i, rfl, hi, hbel⟩ := hrel
    by_cases hlt : i < n + 3
    · have hltz : (i : Int) < (n : Int) + 3 := by omega
      by_cases hin : i < n
      · have hinz : (i : Int) < (n : Int) := by omega
        have hgz : ¬ (n : Int) ≤ (i : Int) := by omega
        have hgz' : decide ((n : Int) ≤ (i : Int)) = false := decide_eq_false hgz
        have hgn : decide (n ≤ i) = false := decide_eq_false (by omega)
        obtain ⟨b, off, x, rfl, hb, hx, hx', c0, c1, z0, z1⟩ := (HL.out.later hbel.out).get (i := i) (by rw [HN.out]; exact hin)
        obtain ⟨g', off', y, e2, hb', hy, hy', d0, d1, y0, y1⟩ := (HM.out.later hbel.out).get (i := i) (by rw [List.length_append, HN.out]; omega)
        injection e2 with e2
        injection e2 with e3 e4
        subst e3 e4
        obtain rfl : x = y := by
          rw [List.getElem?_append_left (by rw [HN.out]; exact hin), hx] at hy
          exact Option.some.inj hy
        rw [Nat.zero_add] at d0 d1
        have hq := fun w => neq35 x x w
        rw [decide_eq_true rfl] at hq
        clear hx hx' hy hy' z0 z1 y0 y1
        go_wp2
        go_quiet (fail)
        go_wp2
        refine ⟨⟨i + 1, by first | rfl | simp, by omega, hidden (below_drewN hbel.out _)⟩, ?_⟩
        simp [intOf]
        omega
      · have hinz : ¬ (i : Int) < (n : Int) := by omega
        have hgz : (n : Int) ≤ (i : Int) := by omega
        obtain ⟨g', off', y, e2, hb', hy, hy', d0, d1, y0, y1⟩ := (HM.out.later hbel.out).get (i := i) (by rw [List.length_append, HN.out]; show i < n + 3; exact hlt)
        injection e2 with e2
        injection e2 with e3 e4
        subst e3 e4
        obtain rfl : mkL 25 = y := by
          rw [mk3_get l (by rw [HN.out]; omega) (by rw [HN.out]; exact hlt)] at hy
          exact Option.some.inj hy
        rw [Nat.zero_add] at d0 d1
        have kM : ∀ w1, Calls Tryd.prog 26 #[.int .i64 25] w1 fun e w' => e = .returned (.agg #[.string (mkL 25).n, .string (mkL 25).v]) ∧ Below w1.heap.size w1 w' := fun w1 => markP 25 (by omega) w1
        have hq := fun w => neq35 (mkL 25) (mkL 25) w
        rw [decide_eq_true rfl] at hq
        clear hy hy' y0 y1
        go_upto_region 5 with fail
        refine still_r5 g (n + 3) c n d i ad (mkL 25) wr _ _ (by rfl) (by rfl) (by rfl) (by rfl) (by simpa using hltz) hlt hinz hgz (fun w1 hl => (hl.cell (p := ⟨g, i * 2, none⟩) hb').trans d0) (fun w1 hl => (hl.cell (p := ⟨g, i * 2 + 1, none⟩) hb').trans d1) hq (fun w1 _ => kM w1) ?_
        intros
        rename_i w7 hl7
        simp only [Act.put, List.setIfInBounds_toArray, List.set_cons_succ, List.set_cons_zero]
        have B7 := hidden (hbel.out.trans (hl7.mono hbel.out.size))
        clear hl7 kM hq
        go_wp2
        refine ⟨⟨i + 1, by first | rfl | simp, by omega, B7⟩, ?_⟩
        simp [intOf]
        omega
    · have hltz : ¬ (i : Int) < (n : Int) + 3 := by omega
      go_wp2
      go_ret
      exact ⟨rfl, hbel.out⟩

end Go.Proofs.YtpdffdoogobhfaaDoor
