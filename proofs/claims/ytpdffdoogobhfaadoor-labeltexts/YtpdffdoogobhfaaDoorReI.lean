import Derived.Test.YtpdffdoogobhfaaDoorPaA
import Derived.Test.YtpdffdoogobhfaaDoorPaF
import Derived.Test.YtpdffdoogobhfaaDoorReA
import Derived.Test.YtpdffdoogobhfaaDoorPaC
/-
  The document's reader: fine, fail, peek.
-/
namespace Go.Proofs.YtpdffdoogobhfaaDoor
open Go.RowKit
set_option linter.unusedVariables false
set_option linter.unusedSimpArgs false

/-- The document's reader: a text, where it stands, the fault's place (below 0: none). -/
def Re (w : World) (r : Nat) (s : ByteArray) (a : Nat) (z : Int) : Prop := Blk w r 70 [.string s, .int .i64 (a : Int), .int .i64 z]
theorem Re.drewN {w : World} {r : Nat} {s : ByteArray} {a : Nat} {z : Int} (h : Re w r s a z) (n : Nat) : Re (w.drewN n) r s a z := Blk.drewN h n
theorem Re.chg {F : Nat → Prop} {w w' : World} {r : Nat} {s : ByteArray} {a : Nat} {z : Int} (h : Re w r s a z) (hc : Chg F w w') (hF : ¬ F r) : Re w' r s a z := hc.blk h hF

set_option maxHeartbeats 2000000 in
theorem rfineP (r : Nat) (s : ByteArray) (a : Nat) (z : Int) (w : World) (h : Re w r s a z) : Calls Tryd.prog 43 #[.pointer (some ⟨r, 0, none⟩)] w fun e w' => e = .returned (.bool (decide (z < 0))) ∧ w' = w := by
  have c2 : w.cell? ⟨r, 2, none⟩ = some (.int .i64 z) := h.cell 2
  go_enter Tryd.func43, Tryd.ntmps43
  go_wp2
  go_ret
  exact ⟨rfl, rfl⟩

def failZ (a : Nat) (z : Int) : Int := if z < 0 then (a : Int) else z
set_option maxHeartbeats 2000000 in
theorem rfailP (r : Nat) (s : ByteArray) (a : Nat) (z : Int) (w : World) (h : Re w r s a z) : Calls Tryd.prog 47 #[.pointer (some ⟨r, 0, none⟩)] w fun e w' => e = .returned (.tuple #[]) ∧ Re w' r s a (failZ a z) ∧ Chg (fun i => i = r) w w' := by
  have c1 : w.cell? ⟨r, 1, none⟩ = some (.int .i64 (a : Int)) := h.cell 1
  have c2 : w.cell? ⟨r, 2, none⟩ = some (.int .i64 z) := h.cell 2
  have f2 := h.frozen 2
  have HR := hidden h
  clear h
  unfold failZ
  by_cases hz : z < 0
  · rw [if_pos hz]
    go_enter Tryd.func47, Tryd.ntmps47
    go_wp2
    go_end0
    exact ⟨rfl, Blk.set HR.out 2 _, Chg.set ⟨r, 2, none⟩ _ w⟩
  · rw [if_neg hz]
    go_enter Tryd.func47, Tryd.ntmps47
    go_wp2
    go_end0
    exact ⟨rfl, HR.out, Chg.refl _ _⟩

/-- What stands here. -/
def pk (S : List UInt8) (a : Nat) (z : Int) : Option UInt8 := if z < 0 then S[a]? else none
def pkC (o : Option UInt8) : Nat := match o with | none => 0 | some x => x.toNat
set_option maxRecDepth 100000 in
set_option maxHeartbeats 4000000 in
theorem rpeekP (r : Nat) (s : ByteArray) (a : Nat) (z : Int) (w : World) (h : Re w r s a z) (hs : s.size ≤ 4611686018427387904) :
    Calls Tryd.prog 42 #[.pointer (some ⟨r, 0, none⟩)] w fun e w' => e = .returned (.tuple #[.int .u8 (pkC (pk (bts s) a z) : Int), .bool (pk (bts s) a z).isSome]) ∧ ∃ n, w' = w.drewN n := by
  have c0 : w.cell? ⟨r, 0, none⟩ = some (.string s) := h.cell 0
  have c1 : w.cell? ⟨r, 1, none⟩ = some (.int .i64 (a : Int)) := h.cell 1
  have c2 : w.cell? ⟨r, 2, none⟩ = some (.int .i64 z) := h.cell 2
  clear h
  by_cases hz : z < 0
  · have hz0 : ¬ (0 : Int) ≤ z := by omega
    have hz1 : decide ((0 : Int) ≤ z) = false := decide_eq_false hz0
    by_cases hlt : a < s.size
    · have hltz : (a : Int) < (s.size : Int) := by omega
      have g1 : ¬ (s.size : Int) ≤ (a : Int) := by omega
      have g2 : decide ((s.size : Int) ≤ (a : Int)) = false := decide_eq_false g1
      have g3 : decide (s.size ≤ a) = false := decide_eq_false (by omega)
      obtain ⟨x, hx, hx2, _⟩ := byte_at s hlt
      have e : pk (bts s) a z = some x := by rw [pk, if_pos hz, hx2]
      rw [e]
      have k0 : ∀ n, (w.drewN n).cell? ⟨r, 0, none⟩ = some (.string s) := fun n => c0
      have k1 : ∀ n, (w.drewN n).cell? ⟨r, 1, none⟩ = some (.int .i64 (a : Int)) := fun n => c1
      clear e hx2
      go_enter Tryd.func42, Tryd.ntmps42
      go_wp2
      go_quiet (fail)
      have d0 := k0 nq
      have d1 := k1 nq
      clear k0 k1
      generalize hw : w.drewN nq = wq at *
      have HW := hidden hw
      clear hw
      go_wp2
      go_quiet (fail)
      go_wp2
      go_ret2
      exact ⟨rfl, by rw [← HW.out]; exact ⟨_, World.drewN_drewN _ _ _⟩⟩
    · have g1 : (s.size : Int) ≤ (a : Int) := by omega
      have e : pk (bts s) a z = none := by rw [pk, if_pos hz, List.getElem?_eq_none (by rw [← size_bts]; omega)]
      rw [e]
      clear e
      go_enter Tryd.func42, Tryd.ntmps42
      go_wp2
      go_quiet (fail)
      go_wp2
      go_ret2
      exact ⟨rfl, _, rfl⟩
  · have hz0 : (0 : Int) ≤ z := by omega
    have e : pk (bts s) a z = none := by rw [pk, if_neg hz]
    rw [e]
    clear e
    go_enter Tryd.func42, Tryd.ntmps42
    go_wp2
    go_quiet (fail)
    go_wp2
    go_ret2
    exact ⟨rfl, _, rfl⟩

end Go.Proofs.YtpdffdoogobhfaaDoor

/-
  The document's reader: blanks, take.
-/
namespace Go.Proofs.YtpdffdoogobhfaaDoor
open Go.RowKit
set_option linter.unusedVariables false
set_option linter.unusedSimpArgs false

theorem Re.set {w : World} {r : Nat} {s : ByteArray} {a : Nat} {z : Int} (h : Re w r s a z) (b : Nat) : Re (w.setCell ⟨r, 1, none⟩ (.int .i64 (b : Int))) r s b z := Blk.set h 1 _
theorem Re.at' {w : World} {r : Nat} {s : ByteArray} {a : Nat} {z : Int} (h : Re w r s a z) : rdAt r w = a := by
  have c1 : w.cell? ⟨r, 1, none⟩ = some (.int .i64 (a : Int)) := h.cell 1
  simp [rdAt, c1, intOf]
/-- Where blanks end; a fault stops all. -/
def skZ (S : List UInt8) (a : Nat) (z : Int) : Nat := if z < 0 then sk S a else a

set_option maxRecDepth 100000 in
set_option maxHeartbeats 4000000 in
theorem rblanksP (r : Nat) (s : ByteArray) (a : Nat) (z : Int) (w : World) (h : Re w r s a z) (ha : a ≤ s.size) (hs : s.size ≤ 4611686018427387904) :
    Calls Tryd.prog 40 #[.pointer (some ⟨r, 0, none⟩)] w fun e w' => e = .returned (.tuple #[]) ∧ Re w' r s (skZ (bts s) a z) z ∧ Chg (fun i => i = r) w w' := by
  unfold skZ
  by_cases hz : z < 0
  · rw [if_pos hz]
    obtain ⟨R, hR⟩ : ∃ R, sk (bts s) a = R := ⟨_, rfl⟩
    have HR := hidden hR
    have HH := hidden h
    rw [hR]
    clear hR h
    go_enter Tryd.func40, Tryd.ntmps40
    go_wp2
    go_loopw [] (fun wx => ∃ i : Nat, i ≤ s.size ∧ Hid (sk (bts s) i = R) ∧ Hid (Re wx r s i z) ∧ Hid (Chg (fun i => i = r) w wx)) (fun wx => s.size - rdAt r wx)
    case atStart => exact ⟨a, ha, HR, HH, hidden (Chg.refl _ _)⟩
    case round =>
      rename World => wr
      obtain ⟨i, hi, hrel, hrd, hch⟩ := hrel
      have c0 : wr.cell? ⟨r, 0, none⟩ = some (.string s) := hrd.out.cell 0
      have c1 : wr.cell? ⟨r, 1, none⟩ = some (.int .i64 (i : Int)) := hrd.out.cell 1
      have f1 := hrd.out.frozen 1
      have kF : ∀ n, Calls Tryd.prog 43 #[.pointer (some ⟨r, 0, none⟩)] (wr.drewN n) fun e w' => e = .returned (.bool true) ∧ w' = wr.drewN n := fun n => by
        have := rfineP r s i z (wr.drewN n) (hrd.out.drewN n)
        rwa [decide_eq_true hz] at this
      by_cases hlt : i < s.size
      · have hltz : (i : Int) < (s.size : Int) := by omega
        have hd1 : decide ((i : Int) < (s.size : Int)) = true := decide_eq_true hltz
        obtain ⟨x, hx, hx2, hdr⟩ := byte_at s hlt
        have e32 := beq32 x
        by_cases h32 : x = 32
        · rw [decide_eq_true h32] at e32
          have hR1 : Hid (sk (bts s) (i + 1) = R) := hidden (by rw [← sk_step (by rw [hx2, h32]), hrel.out])
          clear hdr hx2 h32
          go_wp2
          go_quiet ((go_at_call 43; exact Calls.quiet_of_same (kF _)))
          go_wp2
          have hr2 : Re ((wr.drewN nq).setCell ⟨r, 1, none⟩ (.int .i64 ((i : Int) + 1))) r s (i + 1) z := by have := (hrd.out.drewN nq).set (i + 1); simpa using this
          refine ⟨⟨i + 1, by omega, hR1, hr2, hidden (by have := chg_step (b := i + 1) (n := nq) hch.out; simpa using this)⟩, ?_⟩
          rw [hr2.at', hrd.out.at']
          omega
        · rw [decide_eq_false h32] at e32
          have hR1 : Hid (i = R) := hidden (by rw [← hrel.out, sk_stop (by rw [hx2]; intro e; exact h32 (Option.some.inj e))])
          clear hdr hx2 h32
          go_wp2
          go_quiet ((go_at_call 43; exact Calls.quiet_of_same (kF _)))
          go_wp2
          go_end0
          exact ⟨rfl, by rw [← hR1.out]; exact hrd.out.drewN _, hch.out.trans (Chg.drewN (fun i => i = r) wr _) (fun _ _ e => e)⟩
      · have hltz : ¬ (i : Int) < (s.size : Int) := by omega
        have hd1 : decide ((i : Int) < (s.size : Int)) = false := decide_eq_false hltz
        have hd2 : decide (i < s.size) = false := decide_eq_false hlt
        have hR1 : Hid (i = R) := hidden (by rw [← hrel.out, sk_stop (by rw [List.getElem?_eq_none (by rw [← size_bts]; omega)]; simp)])
        go_wp2
        go_quiet ((go_at_call 43; exact Calls.quiet_of_same (kF _)))
        go_wp2
        go_end0
        exact ⟨rfl, by rw [← hR1.out]; exact hrd.out.drewN _, hch.out.trans (Chg.drewN (fun i => i = r) wr _) (fun _ _ e => e)⟩
  · rw [if_neg hz]
    have kF : ∀ n, Calls Tryd.prog 43 #[.pointer (some ⟨r, 0, none⟩)] (w.drewN n) fun e w' => e = .returned (.bool false) ∧ w' = w.drewN n := fun n => by
      have := rfineP r s a z (w.drewN n) (h.drewN n)
      rwa [decide_eq_false hz] at this
    have HH := hidden h
    clear h
    go_enter Tryd.func40, Tryd.ntmps40
    go_wp2
    go_loopw [] (fun wx => wx = w) (fun _ => 0)
    case atStart => rfl
    case round =>
      obtain rfl := hrel
      go_wp2
      go_quiet ((go_at_call 43; exact Calls.quiet_of_same (kF _)))
      go_wp2
      go_end0
      exact ⟨rfl, HH.out.drewN _, Chg.drewN (fun i => i = r) _ _⟩

end Go.Proofs.YtpdffdoogobhfaaDoor

/-
  The document's reader: take.
-/
namespace Go.Proofs.YtpdffdoogobhfaaDoor
open Go.RowKit
set_option linter.unusedVariables false
set_option linter.unusedSimpArgs false

def tkA (S : List UInt8) (a : Nat) (z : Int) (c : UInt8) : Nat := if pk S a z = some c then a + 1 else a
def tkZ (S : List UInt8) (a : Nat) (z : Int) (c : UInt8) : Int := if pk S a z = some c then z else failZ a z

set_option maxRecDepth 100000 in
set_option maxHeartbeats 4000000 in
theorem rtakeP (r : Nat) (s : ByteArray) (a : Nat) (z : Int) (c : UInt8) (w : World) (h : Re w r s a z) (ha : a ≤ s.size) (hs : s.size ≤ 4611686018427387904) :
    Calls Tryd.prog 41 #[.pointer (some ⟨r, 0, none⟩), .int .u8 (c.toNat : Int)] w fun e w' => e = .returned (.tuple #[]) ∧ Re w' r s (tkA (bts s) a z c) (tkZ (bts s) a z c) ∧ Chg (fun i => i = r) w w' := by
  have kP := rpeekP r s a z w h hs
  have HH := hidden h
  clear h
  unfold tkA tkZ
  cases hp : pk (bts s) a z with
  | none =>
    rw [hp] at kP
    rw [if_neg (by simp), if_neg (by simp)]
    simp only [pkC, Option.isSome] at kP
    have kF : ∀ n, Calls Tryd.prog 47 #[.pointer (some ⟨r, 0, none⟩)] (w.drewN n) fun e w' => e = .returned (.tuple #[]) ∧ Re w' r s a (failZ a z) ∧ Chg (fun i => i = r) (w.drewN n) w' := fun n => rfailP r s a z _ (HH.out.drewN n)
    clear hp
    go_enter Tryd.func41, Tryd.ntmps41
    go_wp2_with (first
      | (go_at_call 42; refine kP.mono ?_; rintro e w1 ⟨rfl, n, rfl⟩; have kG := kF n; clear kP kF)
      | (go_at_call 47; refine kG.mono ?_; rintro e w2 ⟨rfl, h2, hc2⟩; have H2 := hidden h2; have HC2 := hidden hc2; clear kG h2 hc2))
    refine bodyPost_ret (results_none rfl _ _ _) rfl ?_
    exact ⟨rfl, H2.out, (Chg.drewN (fun i => i = r) w _).trans HC2.out (fun _ _ e => e)⟩
  | some x =>
    rw [hp] at kP
    simp only [pkC, Option.isSome] at kP
    by_cases hc : x = c
    · subst hc
      rw [if_pos rfl, if_pos rfl]
      have hlt : a < s.size := by
        unfold pk at hp
        split at hp
        · have := (List.getElem?_eq_some_iff.1 hp).1; rw [← size_bts] at this; exact this
        · cases hp
      have c1 : ∀ n, (w.drewN n).cell? ⟨r, 1, none⟩ = some (.int .i64 (a : Int)) := fun n => HH.out.cell 1
      have f1 : ∀ n, (w.drewN n).frozen? ⟨r, 1, none⟩ = false := fun n => HH.out.frozen 1
      have HR : Hid (∀ n, Re ((w.drewN n).setCell ⟨r, 1, none⟩ (.int .i64 ((a : Int) + 1))) r s (a + 1) z) := hidden (fun n => by have := (HH.out.drewN n).set (a + 1); simpa using this)
      clear hp
      go_enter Tryd.func41, Tryd.ntmps41
      go_wp2_with (go_at_call 42; refine kP.mono ?_; rintro e w1 ⟨rfl, n, rfl⟩; have d1 := c1 n; have g1 := f1 n; clear kP c1 f1)
      go_end0
      exact ⟨rfl, HR.out n, (Chg.drewN (fun i => i = r) w n).trans (Chg.set ⟨r, 1, none⟩ _ _) (fun _ _ e => e)⟩
    · rw [if_neg (by simpa using hc), if_neg (by simpa using hc)]
      have hne : ((x.toNat : Int) == (c.toNat : Int)) = false := by
        simp only [beq_eq_false_iff_ne, ne_eq]
        intro e
        exact hc (UInt8.toNat_inj.1 (by omega))
      have kF : ∀ n, Calls Tryd.prog 47 #[.pointer (some ⟨r, 0, none⟩)] (w.drewN n) fun e w' => e = .returned (.tuple #[]) ∧ Re w' r s a (failZ a z) ∧ Chg (fun i => i = r) (w.drewN n) w' := fun n => rfailP r s a z _ (HH.out.drewN n)
      clear hp hc
      go_enter Tryd.func41, Tryd.ntmps41
      go_wp2_with (first
        | (go_at_call 42; refine kP.mono ?_; rintro e w1 ⟨rfl, n, rfl⟩; have kG := kF n; clear kP kF)
        | (go_at_call 47; refine kG.mono ?_; rintro e w2 ⟨rfl, h2, hc2⟩; have H2 := hidden h2; have HC2 := hidden hc2; clear kG h2 hc2))
      refine bodyPost_ret (results_none rfl _ _ _) rfl ?_
      exact ⟨rfl, H2.out, (Chg.drewN (fun i => i = r) w _).trans HC2.out (fun _ _ e => e)⟩

end Go.Proofs.YtpdffdoogobhfaaDoor

/-
  The document's reader: word.
-/
namespace Go.Proofs.YtpdffdoogobhfaaDoor
open Go.RowKit
set_option linter.unusedVariables false
set_option linter.unusedSimpArgs false

def wnZ (S : List UInt8) (a : Nat) (z : Int) (f : Bool) : Nat := if z < 0 then wsz f (S.drop a) else 0
/-- The fault's place behind a word of so many bytes. -/
def wdZ (n a : Nat) (z : Int) : Int := if n = 0 then failZ a z else z
theorem wnZ_none {S : List UInt8} {a : Nat} {z : Int} {f : Bool} (h : pk S a z = none) : wnZ S a z f = 0 := by
  unfold pk at h
  unfold wnZ
  split at h
  · rename_i hz
    rw [if_pos hz, List.drop_of_length_le (List.getElem?_eq_none_iff.1 h)]; rfl
  · rename_i hz
    rw [if_neg hz]
theorem wnZ_some {S : List UInt8} {a : Nat} {z : Int} {f : Bool} {x : UInt8} (h : pk S a z = some x) : wnZ S a z f = if lead f x then wnZ S (a + 1) z false + 1 else 0 := by
  unfold pk at h
  unfold wnZ
  split at h
  · rename_i hz
    obtain ⟨hl, rfl⟩ := List.getElem?_eq_some_iff.1 h
    rw [if_pos hz, if_pos hz, List.drop_eq_getElem_cons hl, wsz]
  · cases h

set_option maxRecDepth 100000 in
set_option maxHeartbeats 8000000 in
theorem rwordP (r : Nat) (s : ByteArray) (a : Nat) (z : Int) (w : World) (h : Re w r s a z) (ha : a ≤ s.size) (hs : s.size ≤ 4611686018427387904) :
    Calls Tryd.prog 44 #[.pointer (some ⟨r, 0, none⟩)] w fun e w' => e = .returned (.string (oft (((bts s).drop a).take (wnZ (bts s) a z true)))) ∧ Re w' r s (a + wnZ (bts s) a z true) (wdZ (wnZ (bts s) a z true) a z) ∧ Chg (fun i => i = r) w w' := by
  obtain ⟨W, hW⟩ : ∃ W, wnZ (bts s) a z true = W := ⟨_, rfl⟩
  have HW := hidden hW
  have HH := hidden h
  have c1 : w.cell? ⟨r, 1, none⟩ = some (.int .i64 (a : Int)) := h.cell 1
  rw [hW]
  clear hW h
  go_enter Tryd.func44, Tryd.ntmps44
  go_wp2
  clear c1
  go_loopw [4] (fun s0 wx => ∃ (i : Nat) (f : Bool), s0 = .bool f ∧ a ≤ i ∧ i ≤ s.size ∧ f = decide (i = a) ∧ Hid (W = (i - a) + wnZ (bts s) i z f) ∧ Hid (Re wx r s i z) ∧ Hid (Chg (fun i => i = r) w wx)) (fun _ wx => s.size - rdAt r wx)
  case atStart => exact ⟨a, true, rfl, by omega, ha, by simp, hidden (by rw [HW.out]; omega), HH, hidden (Chg.refl _ _)⟩
  case round =>
    rename World => wr
    obtain ⟨i, f, rfl, hai, his, hf, hrel, hrd, hch⟩ := hrel
    have kP := rpeekP r s i z wr hrd.out hs
    cases hp : pk (bts s) i z with
    | none =>
      rw [hp] at kP
      simp only [pkC, Option.isSome] at kP
      have HS := hidden (wnZ_none (f := f) hp)
      have kL : ∀ w, Calls Tryd.prog 54 #[.int .u8 ((0 : Nat) : Int), .bool f] w fun e w' => e = .returned (.bool (lead f 0)) ∧ w' = w := fun w => rletterP 0 f w
      generalize lead f 0 = q at kL
      clear hp
      cases f with
      | true =>
        have hia : i = a := by simpa using hf
        have HZ : Hid (W = 0) := hidden (by rw [hrel.out, HS.out]; omega)
        have kF : ∀ n, Calls Tryd.prog 47 #[.pointer (some ⟨r, 0, none⟩)] (wr.drewN n) fun e w' => e = .returned (.tuple #[]) ∧ Re w' r s i (failZ i z) ∧ Chg (fun i => i = r) (wr.drewN n) w' := fun n => rfailP r s i z _ (hrd.out.drewN n)
        have HIA := hidden hia
        clear hia hf hrel HS
        go_wp2_with (first
          | (go_at_call 42; refine kP.mono ?_; rintro e w1 ⟨rfl, n, rfl⟩; have kG := kF n; have kM := kL (wr.drewN n); clear kP kF kL)
          | (go_at_call 54; refine kM.mono ?_; rintro e w3 ⟨rfl, hw3⟩; obtain rfl := hw3.symm; clear kM)
          | (go_at_call 47; refine kG.mono ?_; rintro e w2 ⟨rfl, h2, hc2⟩; have H2 := hidden h2; have HC2 := hidden hc2; clear kG h2 hc2))
        go_ret
        have e := HIA.out
        subst e
        refine ⟨by rw [HZ.out]; rfl, ?_, hch.out.trans ((Chg.drewN (fun i => i = r) wr _).trans HC2.out (fun _ _ e => e)) (fun _ _ e => e)⟩
        rw [HZ.out, wdZ, if_pos rfl]
        exact H2.out
      | false =>
        have hia : ¬ i = a := by simpa using hf
        have HZ : Hid (W = i - a) := hidden (by rw [hrel.out, HS.out]; omega)
        have HWN : Hid (¬ i - a = 0) := hidden (by omega)
        have HEX : Hid (s.extract a i = oft (((bts s).drop a).take W)) := hidden (bts_inj (by rw [bts_oft, bts_extract, HZ.out]))
        have hz1 : (a : Int) ≤ (i : Int) := by omega
        have hz2 : (i : Int) ≤ (s.size : Int) := by omega
        have k0 : ∀ n, (wr.drewN n).cell? ⟨r, 0, none⟩ = some (.string s) := fun n => hrd.out.cell 0
        have k1 : ∀ n, (wr.drewN n).cell? ⟨r, 1, none⟩ = some (.int .i64 (i : Int)) := fun n => hrd.out.cell 1
        have hai2 : Hid (a + (i - a) = i) := hidden (by omega)
        clear hia hf hrel HS
        go_wp2_with (first
          | (go_at_call 42; refine kP.mono ?_; rintro e w1 ⟨rfl, n, rfl⟩; have kM := kL (wr.drewN n); have d0 := k0 n; have d1 := k1 n; clear kP kL k0 k1; have HRQ := hidden (hrd.out.drewN n); have HCQ := hidden (hch.out.trans (Chg.drewN (fun i => i = r) wr n) (fun _ _ e => e)); generalize wr.drewN n = wq at *)
          | (go_at_call 54; refine kM.mono ?_; rintro e w3 ⟨rfl, hw3⟩; obtain rfl := hw3.symm; clear kM))
        go_quiet (fail)
        go_wp2
        go_ret
        refine ⟨by rw [← HEX.out]; rfl, ?_, HCQ.out.trans (Chg.drewN (fun i => i = r) _ _) (fun _ _ e => e)⟩
        rw [HZ.out, wdZ, if_neg HWN.out, hai2.out]
        exact HRQ.out.drewN _
    | some x =>
      rw [hp] at kP
      simp only [pkC, Option.isSome] at kP
      have kL := fun w => rletterP x f w
      have hst := wnZ_some (f := f) hp
      have hlt : i < s.size := by
        unfold pk at hp
        split at hp
        · have := (List.getElem?_eq_some_iff.1 hp).1; rw [← size_bts] at this; exact this
        · cases hp
      clear hp
      cases hl : lead f x with
      | false =>
        rw [hl] at kL hst
        simp only [Bool.false_eq_true, if_false] at hst
        have HS := hidden hst
        clear hst hl
        cases f with
        | true =>
          have hia : i = a := by simpa using hf
          have HZ : Hid (W = 0) := hidden (by rw [hrel.out, HS.out]; omega)
          have kF : ∀ n, Calls Tryd.prog 47 #[.pointer (some ⟨r, 0, none⟩)] (wr.drewN n) fun e w' => e = .returned (.tuple #[]) ∧ Re w' r s i (failZ i z) ∧ Chg (fun i => i = r) (wr.drewN n) w' := fun n => rfailP r s i z _ (hrd.out.drewN n)
          have HIA := hidden hia
          clear hia hf hrel HS
          go_wp2_with (first
            | (go_at_call 42; refine kP.mono ?_; rintro e w1 ⟨rfl, n, rfl⟩; have kG := kF n; have kM := kL (wr.drewN n); clear kP kF kL)
            | (go_at_call 54; refine kM.mono ?_; rintro e w3 ⟨rfl, hw3⟩; obtain rfl := hw3.symm; clear kM)
            | (go_at_call 47; refine kG.mono ?_; rintro e w2 ⟨rfl, h2, hc2⟩; have H2 := hidden h2; have HC2 := hidden hc2; clear kG h2 hc2))
          go_ret
          have e := HIA.out
          subst e
          refine ⟨by rw [HZ.out]; rfl, ?_, hch.out.trans ((Chg.drewN (fun i => i = r) wr _).trans HC2.out (fun _ _ e => e)) (fun _ _ e => e)⟩
          rw [HZ.out, wdZ, if_pos rfl]
          exact H2.out
        | false =>
          have hia : ¬ i = a := by simpa using hf
          have HZ : Hid (W = i - a) := hidden (by rw [hrel.out, HS.out]; omega)
          have HWN : Hid (¬ i - a = 0) := hidden (by omega)
          have HEX : Hid (s.extract a i = oft (((bts s).drop a).take W)) := hidden (bts_inj (by rw [bts_oft, bts_extract, HZ.out]))
          have hz1 : (a : Int) ≤ (i : Int) := by omega
          have hz2 : (i : Int) ≤ (s.size : Int) := by omega
          have k0 : ∀ n, (wr.drewN n).cell? ⟨r, 0, none⟩ = some (.string s) := fun n => hrd.out.cell 0
          have k1 : ∀ n, (wr.drewN n).cell? ⟨r, 1, none⟩ = some (.int .i64 (i : Int)) := fun n => hrd.out.cell 1
          have hai2 : Hid (a + (i - a) = i) := hidden (by omega)
          clear hia hf hrel HS
          go_wp2_with (first
            | (go_at_call 42; refine kP.mono ?_; rintro e w1 ⟨rfl, n, rfl⟩; have kM := kL (wr.drewN n); have d0 := k0 n; have d1 := k1 n; clear kP kL k0 k1; have HRQ := hidden (hrd.out.drewN n); have HCQ := hidden (hch.out.trans (Chg.drewN (fun i => i = r) wr n) (fun _ _ e => e)); generalize wr.drewN n = wq at *)
            | (go_at_call 54; refine kM.mono ?_; rintro e w3 ⟨rfl, hw3⟩; obtain rfl := hw3.symm; clear kM))
          go_quiet (fail)
          go_wp2
          go_ret
          refine ⟨by rw [← HEX.out]; rfl, ?_, HCQ.out.trans (Chg.drewN (fun i => i = r) _ _) (fun _ _ e => e)⟩
          rw [HZ.out, wdZ, if_neg HWN.out, hai2.out]
          exact HRQ.out.drewN _
      | true =>
        rw [hl] at kL hst
        have HN : Hid (W = (i + 1 - a) + wnZ (bts s) (i + 1) z false) := hidden (by rw [hrel.out, hst, if_pos rfl]; omega)
        have k1 : ∀ n, (wr.drewN n).cell? ⟨r, 1, none⟩ = some (.int .i64 (i : Int)) := fun n => hrd.out.cell 1
        have f1 : ∀ n, (wr.drewN n).frozen? ⟨r, 1, none⟩ = false := fun n => hrd.out.frozen 1
        clear hst hl hrel hf
        go_wp2_with (first
          | (go_at_call 42; refine kP.mono ?_; rintro e w1 ⟨rfl, n, rfl⟩; have kM := kL (wr.drewN n); have d1 := k1 n; have g1 := f1 n; clear kP kL k1 f1)
          | (go_at_call 54; refine kM.mono ?_; rintro e w3 ⟨rfl, hw3⟩; obtain rfl := hw3.symm; clear kM))
        have hr2 : ∀ n, Re ((wr.drewN n).setCell ⟨r, 1, none⟩ (.int .i64 ((i : Int) + 1))) r s (i + 1) z := fun n => by have := (hrd.out.drewN n).set (i + 1); simpa using this
        refine ⟨⟨i + 1, false, by first | rfl | simp, by omega, by omega, by simp; omega, HN, hr2 _, hidden (by have := fun n => chg_step (b := i + 1) (n := n) hch.out; simpa using this _)⟩, ?_⟩
        rw [(hr2 _).at', hrd.out.at']
        omega

end Go.Proofs.YtpdffdoogobhfaaDoor
