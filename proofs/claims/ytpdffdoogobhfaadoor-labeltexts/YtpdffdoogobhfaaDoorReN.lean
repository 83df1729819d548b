/-
  The document's wrong.
-/
import Derived.Test.YtpdffdoogobhfaaDoorReD
import Derived.Test.YtpdffdoogobhfaaDoorReA
import Derived.Test.YtpdffdoogobhfaaDoorLbP
namespace Go.Proofs.YtpdffdoogobhfaaDoor
open Go.RowKit
set_option linter.unusedVariables false
set_option linter.unusedSimpArgs false

def agN (x : Lb) (l : List Lb) : Bool := l.any (fun y => decide (bts y.n = bts x.n))
theorem wrong_eq {l : List Lb} {x : Lb} (h : l.length ≤ 8) : (!isName (bts x.n) || !isVal (bts x.v) || agN x l || decide (8 ≤ l.length)) = wrongL l x := by
  unfold wrongL agN Lb.fits
  have : decide (8 ≤ l.length) = decide (l.length = 8) := by congr 1; exact propext ⟨fun _ => by omega, fun _ => by omega⟩
  rw [this]
  cases isName (bts x.n) <;> cases isVal (bts x.v) <;> cases (l.any fun y => decide (bts y.n = bts x.n)) <;> cases decide (l.length = 8) <;> rfl
theorem agN_snoc {x y : Lb} {l : List Lb} {i : Nat} (h : l[i]? = some y) : agN x (l.take (i + 1)) = (agN x (l.take i) || decide (bts y.n = bts x.n)) := by
  rw [List.take_add_one, h]; simp [agN]

set_option maxRecDepth 100000 in
set_option maxHeartbeats 8000000 in
theorem rwrongP (ad : Option Addr) (c : Nat) (l : List Lb) (x : Lb) (w : World) (hL : Ls w ad l) (h8 : l.length ≤ 8) (hx : x.n.size ≤ 4611686018427387904 ∧ x.v.size ≤ 4611686018427387904) :
    Calls Tryd.prog 46 #[.slice ad l.length c, .agg #[.string x.n, .string x.v]] w fun e w' => e = .returned (.bool (wrongL l x)) ∧ Below w.heap.size w w' := by
  have HE := hidden (wrong_eq (x := x) h8)
  obtain ⟨n, hn⟩ : ∃ n, l.length = n := ⟨_, rfl⟩
  rw [hn] at h8 ⊢
  have HN := hidden hn
  have HL := hidden hL
  clear hn hL
  obtain ⟨R, hR⟩ : ∃ R, wrongL l x = R := ⟨_, rfl⟩
  rw [hR] at HE ⊢
  clear hR
  have HAL : Hid (Below w.heap.size w (w.alloc (.cells #[.string x.n, .string x.v] 35))) := (Below.refl _ _).alloc (Nat.le_refl _) _
  have HBK : Hid (Blk (w.alloc (.cells #[.string x.n, .string x.v] 35)) w.heap.size 35 [.string x.n, .string x.v]) := Blk.new w 35 _
  have kN := fun w => risNameP x.n w (by omega)
  have kV := fun w => risValueP x.v w hx.2
  generalize isName (bts x.n) = p at *
  generalize isVal (bts x.v) = v at *
  go_enter Tryd.func46, Tryd.ntmps46
  go_wp2_with (first
    | (go_at_call 30; refine (kN _).mono ?_; rintro e w' ⟨rfl, hw'⟩; obtain rfl := hw'.symm; clear kN)
    | (go_at_call 31; refine (kV _).mono ?_; rintro e w' ⟨rfl, hw'⟩; obtain rfl := hw'.symm; clear kV))
  go_loopw [7, 8] (fun s0 s1 wx => ∃ (i : Nat) (q : Bool), s0 = .bool q ∧ s1 = .int .i64 (i : Int) ∧ i ≤ n ∧ Hid (agN x (l.take i) = q) ∧ Hid (Below w.heap.size w wx ∧ Blk wx w.heap.size 35 [.string x.n, .string x.v])) (fun _ s1 _ => n - (intOf s1).toNat)
  case atStart => exact ⟨0, false, rfl, rfl, by omega, hidden (by simp [agN]), hidden ⟨HAL.out, HBK.out⟩⟩
  case round =>
    rename World => wr
    obtain ⟨i, q, rfl, rfl, hi, hrel, hbel⟩ := hrel
    by_cases hlt : i < n
    · have hltz : (i : Int) < (n : Int) := by omega
      obtain ⟨b, off, y, rfl, hb, hy, hy', c0, c1, z0, z1⟩ := (HL.out.later hbel.out.1).get (i := i) (by rw [HN.out]; exact hlt)
      have e0 : wr.cell? ⟨w.heap.size, 0, none⟩ = some (.string x.n) := hbel.out.2.cell 0
      have hst := agN_snoc (x := x) hy
      rw [hrel.out] at hst
      clear hy hy' z0 z1 hrel c1
      cases q with
      | true =>
        have HS : Hid (agN x (l.take (i + 1)) = true) := hidden (by rw [hst]; rfl)
        clear hst
        go_wp2
        go_quiet (fail)
        go_wp2
        refine ⟨⟨i + 1, true, by first | rfl | simp, by first | rfl | simp, by omega, HS, hidden ⟨below_drewN hbel.out.1 _, hbel.out.2.drewN _⟩⟩, ?_⟩
        simp [intOf]
        omega
      | false =>
        have hq : (y.n.toList == x.n.toList) = decide (bts y.n = bts x.n) := by rw [toList_bts, toList_bts, Bool.eq_iff_iff]; simp
        cases hd : decide (bts y.n = bts x.n) with
        | true =>
          rw [hd] at hst hq
          have HS : Hid (agN x (l.take (i + 1)) = true) := hidden (by rw [hst]; rfl)
          clear hst hd
          go_wp2
          go_quiet (fail)
          go_wp2
          refine ⟨⟨i + 1, true, by first | rfl | simp, by first | rfl | simp, by omega, HS, hidden ⟨below_drewN hbel.out.1 _, hbel.out.2.drewN _⟩⟩, ?_⟩
          simp [intOf]
          omega
        | false =>
          rw [hd] at hst hq
          have HS : Hid (agN x (l.take (i + 1)) = false) := hidden (by rw [hst]; rfl)
          clear hst hd
          go_wp2
          go_quiet (fail)
          go_wp2
          refine ⟨⟨i + 1, false, by first | rfl | simp, by first | rfl | simp, by omega, HS, hidden ⟨below_drewN hbel.out.1 _, hbel.out.2.drewN _⟩⟩, ?_⟩
          simp [intOf]
          omega
    · have hltz : ¬ (i : Int) < (n : Int) := by omega
      have HQ : Hid (R = (!p || !v || q || decide (8 ≤ n))) := hidden (by
        have h1 := HE.out
        have h2 := hrel.out
        rw [List.take_of_length_le (by rw [HN.out]; omega)] at h2
        rw [h2, HN.out] at h1
        exact h1.symm)
      have HB := hidden hbel.out.1
      clear hrel hbel
      by_cases h9 : 8 ≤ n
      · have g1 : (8 : Int) ≤ (n : Int) := by omega
        cases p <;> cases v <;> cases q
        all_goals (go_wp2; go_ret; exact ⟨by rw [HQ.out, decide_eq_true h9]; rfl, HB.out⟩)
      · have g1 : ¬ (8 : Int) ≤ (n : Int) := by omega
        cases p <;> cases v <;> cases q
        all_goals (go_wp2; go_ret; exact ⟨by rw [HQ.out, decide_eq_false h9]; rfl, HB.out⟩)

end Go.Proofs.YtpdffdoogobhfaaDoor
