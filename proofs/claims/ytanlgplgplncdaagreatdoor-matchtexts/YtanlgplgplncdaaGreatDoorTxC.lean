/-
  The document's reader of matchers: letter, word, op.
-/
import Derived.Test.YtanlgplgplncdaaGreatDoorTxA
namespace Go.Proofs.YtanlgplgplncdaaGreatDoor.L
open Go.RowKit
set_option linter.unusedVariables false
set_option linter.unusedSimpArgs false

set_option maxRecDepth 100000 in
set_option maxHeartbeats 4000000 in
theorem rletterP9 (x : UInt8) (f : Bool) (w : World) : Calls Tryz.prog 54 #[.int .u8 (x.toNat : Int), .bool f] w fun e w' => e = .returned (.bool (lead f x)) ∧ w' = w := by
  unfold lead lett digi
  generalize x.toNat = k
  cases f
  all_goals
    by_cases h1 : 97 ≤ k <;> by_cases h2 : k ≤ 122 <;> by_cases h3 : 65 ≤ k <;> by_cases h4 : k ≤ 90 <;> by_cases h5 : k = 95 <;> by_cases h6 : 48 ≤ k <;> by_cases h7 : k ≤ 57 <;> first
    | (exfalso; omega)
    | (have z1 : (97 : Int) ≤ (k : Int) ↔ 97 ≤ k := by omega
       have z2 : (k : Int) ≤ 122 ↔ k ≤ 122 := by omega
       have z3 : (65 : Int) ≤ (k : Int) ↔ 65 ≤ k := by omega
       have z4 : (k : Int) ≤ 90 ↔ k ≤ 90 := by omega
       have z6 : ((k : Int) == 95) = decide (k = 95) := by rw [Bool.eq_iff_iff]; simp; omega
       have z7 : (48 : Int) ≤ (k : Int) ↔ 48 ≤ k := by omega
       have z8 : (k : Int) ≤ 57 ↔ k ≤ 57 := by omega
       go_enter Tryz.func54, Tryz.ntmps54
       go_wp2
       go_ret
       simp [h1, h2, h3, h4, h5, h6, h7, z6])
def leadO (f : Bool) (o : Option UInt8) : Bool := match o with
  | none => false
  | some x => lead f x
theorem letterO (o : Option UInt8) (f : Bool) (w : World) : Calls Tryz.prog 54 #[.int .u8 ((pkC o : Nat) : Int), .bool f] w fun e w' => e = .returned (.bool (leadO f o)) ∧ w' = w := by
  cases o with
  | none =>
    have h : lead f 0 = false := by cases f <;> decide
    have := rletterP9 0 f w
    rw [h] at this
    exact this
  | some x => exact rletterP9 x f w
theorem wnZ_lead (S : List UInt8) (a : Nat) (z : Int) (f : Bool) : wnZ S a z f = if leadO f (pk S a z) then wnZ S (a + 1) z false + 1 else 0 := by
  cases h : pk S a z with
  | none => rw [wnZ_none h]; rfl
  | some x => rw [wnZ_some h]; rfl
theorem lead_lt {S : List UInt8} {a : Nat} {z : Int} {f : Bool} (h : leadO f (pk S a z) = true) : a < S.length := by
  cases hp : pk S a z with
  | none => rw [hp] at h; cases h
  | some x => exact (pk_lt hp).1

set_option maxRecDepth 100000 in
set_option maxHeartbeats 8000000 in
theorem rwordP (r : Nat) (s : ByteArray) (a : Nat) (z : Int) (w : World) (h : Re w r s a z) (ha : a ≤ s.size) (hs : s.size ≤ 140737488355328) :
    Calls Tryz.prog 35 #[.pointer (some ⟨r, 0, none⟩)] w fun e w' => e = .returned (.string (oft (((bts s).drop a).take (wnZ (bts s) a z true)))) ∧ Re w' r s (a + wnZ (bts s) a z true) (wdZ (wnZ (bts s) a z true) a z) ∧ Chg (fun i => i = r) w w' := by
  obtain ⟨W, hW⟩ : ∃ W, wnZ (bts s) a z true = W := ⟨_, rfl⟩
  have HW := hidden hW
  have HSZ := hidden (size_bts s)
  have HH := hidden h
  have c1 : w.cell? ⟨r, 1, none⟩ = some (.int .i64 (a : Int)) := h.cell 1
  have kP := rpeekP r s a z w h hs
  have kL := fun w => letterO (pk (bts s) a z) true w
  have hl := wnZ_lead (bts s) a z true
  rw [hW] at hl
  have hlt : leadO true (pk (bts s) a z) = true → a < s.size := fun h => by rw [size_bts]; exact lead_lt h
  rw [hW]
  obtain ⟨Q, hQ⟩ : ∃ Q, leadO true (pk (bts s) a z) = Q := ⟨_, rfl⟩
  rw [hQ] at kL hl hlt
  generalize pkC (pk (bts s) a z) = X at *
  clear hW h hQ
  cases Q with
  | false =>
    have HZ : Hid (W = 0) := hidden (by rw [hl]; rfl)
    have kF : ∀ n, Calls Tryz.prog 39 #[.pointer (some ⟨r, 0, none⟩)] (w.drewN n) fun e w' => e = .returned (.tuple #[]) ∧ Re w' r s a (failZ a z) ∧ Chg (fun i => i = r) (w.drewN n) w' := fun n => rfailP r s a z _ (HH.out.drewN n)
    clear hl hlt
    go_enter Tryz.func35, Tryz.ntmps35
    go_wp2_with (first
      | (go_at_call 34; refine kP.mono ?_; rintro e w1 ⟨rfl, n, rfl⟩; have kG := kF n; have kM := kL (w.drewN n); clear kP kF kL)
      | (go_at_call 54; refine kM.mono ?_; rintro e w3 ⟨rfl, hw3⟩; obtain rfl := hw3.symm; clear kM)
      | (go_at_call 39; refine kG.mono ?_; rintro e w2 ⟨rfl, h2, hc2⟩; have H2 := hidden h2; have HC2 := hidden hc2; clear kG h2 hc2))
    go_ret
    refine ⟨by rw [HZ.out]; rfl, ?_, (Chg.drewN (fun i => i = r) w _).trans HC2.out (fun _ _ e => e)⟩
    rw [HZ.out, wdZ, if_pos rfl]
    exact H2.out
  | true =>
    have HL := hidden hl
    have hlt1 := hlt rfl
    clear hl hlt
    go_enter Tryz.func35, Tryz.ntmps35
    go_wp2_with (first
      | (go_at_call 34; refine kP.mono ?_; rintro e w1 ⟨rfl, n, rfl⟩; have kM := kL (w.drewN n); have HRQ := hidden (HH.out.drewN n); have HCQ := hidden (Chg.drewN (fun i => i = r) w n); clear kP kL; generalize w.drewN n = wq at *)
      | (go_at_call 54; refine kM.mono ?_; rintro e w3 ⟨rfl, hw3⟩; obtain rfl := hw3.symm; clear kM))
    clear c1
    go_loopw [4] (fun s4 wx => ∃ (i : Nat) (q : Bool), s4 = .bool q ∧ a ≤ i ∧ i ≤ s.size ∧ (q = true → i < s.size) ∧ (q = false → a < i) ∧ Hid (W = (i - a) + (if q then wnZ (bts s) (i + 1) z false + 1 else 0)) ∧ Hid (Re wx r s i z) ∧ Hid (Chg (fun i => i = r) w wx)) (fun _ wx => s.size - rdAt r wx)
    case atStart => exact ⟨a, true, rfl, by omega, ha, fun _ => hlt1, (fun h => by cases h), hidden (by have := HL.out; simp at this ⊢; exact this), HRQ, HCQ⟩
    case round =>
      rename World => wr
      obtain ⟨i, q, rfl, hai, his, hq1, hq2, hrel, hrd, hch⟩ := hrel
      clear HRQ HCQ HL
      cases q with
      | false =>
        have hia := hq2 rfl
        have HZ : Hid (W = i - a) := hidden (by rw [hrel.out]; simp)
        have HWN : Hid (¬ i - a = 0) := hidden (by omega)
        have HEX : Hid (s.extract a i = oft (((bts s).drop a).take W)) := hidden (by rw [extract_bts s a i (by omega) his, HZ.out])
        have hz1 : (a : Int) ≤ (i : Int) := by omega
        have hz2 : (i : Int) ≤ (s.size : Int) := by omega
        have d0 : wr.cell? ⟨r, 0, none⟩ = some (.string s) := hrd.out.cell 0
        have d1 : wr.cell? ⟨r, 1, none⟩ = some (.int .i64 (i : Int)) := hrd.out.cell 1
        have hai2 : Hid (a + (i - a) = i) := hidden (by omega)
        clear hrel hq1 hq2
        go_wp2
        go_quiet (fail)
        go_wp2
        go_ret
        refine ⟨by rw [← HEX.out]; rfl, ?_, hch.out.trans (Chg.drewN (fun i => i = r) _ _) (fun _ _ e => e)⟩
        rw [HZ.out, wdZ, if_neg HWN.out, hai2.out]
        exact hrd.out.drewN _
      | true =>
        have hil := hq1 rfl
        have d1 : wr.cell? ⟨r, 1, none⟩ = some (.int .i64 (i : Int)) := hrd.out.cell 1
        have g1 : wr.frozen? ⟨r, 1, none⟩ = false := hrd.out.frozen 1
        have HR2 : Hid (Re (wr.setCell ⟨r, 1, none⟩ (.int .i64 ((i : Int) + 1))) r s (i + 1) z) := hidden (by have := hrd.out.set (i + 1); simpa using this)
        have HC2 : Hid (Chg (fun i => i = r) w (wr.setCell ⟨r, 1, none⟩ (.int .i64 ((i : Int) + 1)))) := hidden (hch.out.trans (Chg.set ⟨r, 1, none⟩ _ _) (fun _ _ e => e))
        have kP := rpeekP r s (i + 1) z _ HR2.out hs
        have kL := fun w => letterO (pk (bts s) (i + 1) z) false w
        have hl := wnZ_lead (bts s) (i + 1) z false
        have hlt : leadO false (pk (bts s) (i + 1) z) = true → i + 1 < s.size := fun h => by rw [size_bts]; exact lead_lt h
        obtain ⟨Q, hQ⟩ : ∃ Q, leadO false (pk (bts s) (i + 1) z) = Q := ⟨_, rfl⟩
        rw [hQ] at kL hl hlt
        have HN : Hid (W = (i + 1 - a) + (if Q then wnZ (bts s) (i + 1 + 1) z false + 1 else 0)) := hidden (by rw [← hl, hrel.out, if_pos rfl]; omega)
        have HAT := hidden hrd.out.at'
        generalize pkC (pk (bts s) (i + 1) z) = X at *
        have HLT := hidden hlt
        clear hl hQ hrel hq1 hq2 hlt
        go_wp2_with (first
          | (go_at_call 34; refine kP.mono ?_; rintro e w1 ⟨rfl, n, rfl⟩; have kM := kL ((wr.setCell ⟨r, 1, none⟩ (.int .i64 ((i : Int) + 1))).drewN n); clear kP kL)
          | (go_at_call 54; refine kM.mono ?_; rintro e w3 ⟨rfl, hw3⟩; obtain rfl := hw3.symm; clear kM))
        refine ⟨⟨i + 1, Q, rfl, by omega, by omega, HLT.out, fun _ => by omega, HN, hidden (HR2.out.drewN n), hidden (HC2.out.trans (Chg.drewN (fun i => i = r) _ _) (fun _ _ e => e))⟩, ?_⟩
        rw [(HR2.out.drewN n).at', HAT.out]
        omega

theorem opE_of33 {S : List UInt8} {a : Nat} {z : Int} (h : pk S a z = some 33) (h1 : pk S (a + 1) z ≠ some 61) (h2 : pk S (a + 1) z ≠ some 126) : OpE S a z 0 (a + 1) (failZ (a + 1) z) := by
  obtain ⟨_, hz, hg⟩ := pk_lt h
  rw [pk, if_pos hz] at h1 h2
  exact op_ba_no hg h1 h2 hz
theorem opE_of3361 {S : List UInt8} {a : Nat} {z : Int} (h : pk S a z = some 33) (h1 : pk S (a + 1) z = some 61) : OpE S a z 2 (a + 1 + 1) z := op_ba (pk_lt h).2.2 (pk_lt h1).2.2 (.inl ⟨rfl, rfl⟩) (pk_lt h).2.1
theorem opE_of33126 {S : List UInt8} {a : Nat} {z : Int} (h : pk S a z = some 33) (h1 : pk S (a + 1) z = some 126) : OpE S a z 4 (a + 1 + 1) z := op_ba (pk_lt h).2.2 (pk_lt h1).2.2 (.inr ⟨rfl, rfl⟩) (pk_lt h).2.1
theorem opE_of61 {S : List UInt8} {a : Nat} {z : Int} (h : pk S a z = some 61) (h1 : pk S (a + 1) z ≠ some 126) : OpE S a z 1 (a + 1) z := by
  obtain ⟨_, hz, hg⟩ := pk_lt h
  rw [pk, if_pos hz] at h1
  exact op_is hg h1 hz
theorem opE_of61126 {S : List UInt8} {a : Nat} {z : Int} (h : pk S a z = some 61) (h1 : pk S (a + 1) z = some 126) : OpE S a z 3 (a + 1 + 1) z := op_like (pk_lt h).2.2 (pk_lt h1).2.2 (pk_lt h).2.1
theorem opE_no {S : List UInt8} {a : Nat} {z : Int} (ha : a ≤ S.length) (h32 : z < 0 → S[a]? ≠ some 32) (h : pk S a z ≠ some 33) (h1 : pk S a z ≠ some 61) : OpE S a z 1 a (failZ a z) := by
  by_cases hz : z < 0
  · rw [pk, if_pos hz] at h h1
    exact op_no ha (h32 hz) h h1 hz
  · rw [failZ, if_neg hz]
    exact op_fault ha (by omega)
theorem pk_failed (S : List UInt8) (a b : Nat) (z : Int) : pk S a (failZ b z) = none := by
  rw [pk, if_neg]
  unfold failZ
  split <;> omega

set_option maxRecDepth 100000 in
set_option maxHeartbeats 8000000 in
theorem ropP (r : Nat) (s : ByteArray) (a : Nat) (z : Int) (w : World) (h : Re w r s a z) (ha : a ≤ s.size) (hs : s.size ≤ 140737488355328) (h32 : z < 0 → (bts s)[a]? ≠ some 32) :
    Calls Tryz.prog 36 #[.pointer (some ⟨r, 0, none⟩)] w fun e w' => ∃ o a' z', e = .returned (.int .i64 o) ∧ OpE (bts s) a z o a' z' ∧ Re w' r s a' z' ∧ Chg (fun i => i = r) w w' := by
  have hb := pkC_beq (pk (bts s) a z) 33 (by omega) (by omega)
  have kP := rpeekP r s a z w h hs
  have haS : a ≤ (bts s).length := by rw [← size_bts]; exact ha
  have HH := hidden h
  clear h
  by_cases hp : pk (bts s) a z = some 33
  · rw [decide_eq_true (by rw [hp]; rfl)] at hb
    have hb2 : (((pkC (pk (bts s) a z) : Nat) : Int) == 33) = true := hb
    have hlt : a < s.size := by have := (pk_lt hp).1; rw [← size_bts] at this; exact this
    have k1 : ∀ n, (w.drewN n).cell? ⟨r, 1, none⟩ = some (.int .i64 (a : Int)) := fun n => HH.out.cell 1
    have f1 : ∀ n, (w.drewN n).frozen? ⟨r, 1, none⟩ = false := fun n => HH.out.frozen 1
    have HR2 : Hid (∀ n, Re ((w.drewN n).setCell ⟨r, 1, none⟩ (.int .i64 ((a : Int) + 1))) r s (a + 1) z) := hidden (fun n => by have := (HH.out.drewN n).set (a + 1); simpa using this)
    have HC2 : Hid (∀ n, Chg (fun i => i = r) w ((w.drewN n).setCell ⟨r, 1, none⟩ (.int .i64 ((a : Int) + 1)))) := hidden (fun n => (Chg.drewN (fun i => i = r) w n).trans (Chg.set ⟨r, 1, none⟩ _ _) (fun _ _ e => e))
    have kP2 : Hid (∀ w, Re w r s (a + 1) z → Calls Tryz.prog 34 #[.pointer (some ⟨r, 0, none⟩)] w fun e w' => e = .returned (.int .u8 ((pkC (pk (bts s) (a + 1) z) : Nat) : Int)) ∧ ∃ n, w' = w.drewN n) := hidden (fun w h => rpeekP r s (a + 1) z w h hs)
    have q1 := pkC_beq (pk (bts s) (a + 1) z) 61 (by omega) (by omega)
    have q2 := pkC_beq (pk (bts s) (a + 1) z) 126 (by omega) (by omega)
    have HK : Hid (∀ wx, Re wx r s (a + 1) z → ∀ m, (wx.drewN m).cell? ⟨r, 1, none⟩ = some (.int .i64 ((a : Int) + 1)) ∧ (wx.drewN m).frozen? ⟨r, 1, none⟩ = false) := hidden (fun wx h m => ⟨by have := h.cell 1; simpa using this, h.frozen 1⟩)
    have HR3 : Hid (∀ wx, Re wx r s (a + 1) z → ∀ m, Re ((wx.drewN m).setCell ⟨r, 1, none⟩ (.int .i64 ((a : Int) + 1 + 1))) r s (a + 1 + 1) z) := hidden (fun wx h m => by have := (h.drewN m).set (a + 1 + 1); simpa using this)
    have hz3 : (a : Int) + 1 + 1 ≤ 9223372036854775807 := by omega
    by_cases h61 : pk (bts s) (a + 1) z = some 61
    · rw [decide_eq_true (by rw [h61]; rfl)] at q1
      have q1b : (((pkC (pk (bts s) (a + 1) z) : Nat) : Int) == 61) = true := q1
      have HO := hidden (opE_of3361 hp h61)
      generalize ((pkC (pk (bts s) (a + 1) z) : Nat) : Int) = Y at *
      have q1c : (Y != 61) = false := by simp only [bne, q1b, Bool.not_true]
      generalize ((pkC (pk (bts s) a z) : Nat) : Int) = X at *
      clear hp h61 q1 q2 hb h32
      go_enter Tryz.func36, Tryz.ntmps36
      go_wp2_with (first
        | (go_at_call 34; refine kP.mono ?_; rintro e w1 ⟨rfl, n, rfl⟩; have d1 := k1 n; have g1 := f1 n; have KQ := hidden (HR2.out n); have KC := hidden (HC2.out n); have kP3 := kP2.out _ KQ.out; clear kP k1 f1)
        | (go_at_call 34; refine kP3.mono ?_; rintro e w2 ⟨rfl, m, rfl⟩; obtain ⟨d2, g2⟩ := HK.out _ KQ.out m; clear kP3))
      go_ret
      exact ⟨2, _, _, rfl, HO.out, HR3.out _ KQ.out m, KC.out.trans ((Chg.drewN (fun i => i = r) _ _).trans (Chg.set ⟨r, 1, none⟩ _ _) (fun _ _ e => e)) (fun _ _ e => e)⟩
    · rw [decide_eq_false (show ¬ pk (bts s) (a + 1) z = some (UInt8.ofNat 61) from h61)] at q1
      have q1b : (((pkC (pk (bts s) (a + 1) z) : Nat) : Int) == 61) = false := q1
      by_cases h126 : pk (bts s) (a + 1) z = some 126
      · rw [decide_eq_true (by rw [h126]; rfl)] at q2
        have q2b : (((pkC (pk (bts s) (a + 1) z) : Nat) : Int) == 126) = true := q2
        have HO := hidden (opE_of33126 hp h126)
        generalize ((pkC (pk (bts s) (a + 1) z) : Nat) : Int) = Y at *
        have q1c : (Y != 61) = true := by simp only [bne, q1b, Bool.not_false]
        have q2c : (Y != 126) = false := by simp only [bne, q2b, Bool.not_true]
        generalize ((pkC (pk (bts s) a z) : Nat) : Int) = X at *
        clear hp h61 h126 q1 q2 hb h32
        go_enter Tryz.func36, Tryz.ntmps36
        go_wp2_with (first
          | (go_at_call 34; refine kP.mono ?_; rintro e w1 ⟨rfl, n, rfl⟩; have d1 := k1 n; have g1 := f1 n; have KQ := hidden (HR2.out n); have KC := hidden (HC2.out n); have kP3 := kP2.out _ KQ.out; clear kP k1 f1)
          | (go_at_call 34; refine kP3.mono ?_; rintro e w2 ⟨rfl, m, rfl⟩; obtain ⟨d2, g2⟩ := HK.out _ KQ.out m; clear kP3))
        go_ret
        exact ⟨4, _, _, rfl, HO.out, HR3.out _ KQ.out m, KC.out.trans ((Chg.drewN (fun i => i = r) _ _).trans (Chg.set ⟨r, 1, none⟩ _ _) (fun _ _ e => e)) (fun _ _ e => e)⟩
      · rw [decide_eq_false (show ¬ pk (bts s) (a + 1) z = some (UInt8.ofNat 126) from h126)] at q2
        have q2b : (((pkC (pk (bts s) (a + 1) z) : Nat) : Int) == 126) = false := q2
        have HO := hidden (opE_of33 hp h61 h126)
        have kF : Hid (∀ wx, Re wx r s (a + 1) z → ∀ m, Calls Tryz.prog 39 #[.pointer (some ⟨r, 0, none⟩)] (wx.drewN m) fun e w' => e = .returned (.tuple #[]) ∧ Re w' r s (a + 1) (failZ (a + 1) z) ∧ Chg (fun i => i = r) (wx.drewN m) w') := hidden (fun wx h m => rfailP r s (a + 1) z _ (h.drewN m))
        generalize ((pkC (pk (bts s) (a + 1) z) : Nat) : Int) = Y at *
        have q1c : (Y != 61) = true := by simp only [bne, q1b, Bool.not_false]
        have q2c : (Y != 126) = true := by simp only [bne, q2b, Bool.not_false]
        generalize ((pkC (pk (bts s) a z) : Nat) : Int) = X at *
        clear hp h61 h126 q1 q2 hb h32
        go_enter Tryz.func36, Tryz.ntmps36
        go_wp2_with (first
          | (go_at_call 34; refine kP.mono ?_; rintro e w1 ⟨rfl, n, rfl⟩; have d1 := k1 n; have g1 := f1 n; have KQ := hidden (HR2.out n); have KC := hidden (HC2.out n); have kP3 := kP2.out _ KQ.out; clear kP k1 f1)
          | (go_at_call 34; refine kP3.mono ?_; rintro e w2 ⟨rfl, m, rfl⟩; have kG := kF.out _ KQ.out m; clear kP3)
          | (go_at_call 39; refine kG.mono ?_; rintro e w3 ⟨rfl, h3, hc3⟩; have H3 := hidden h3; have HC3 := hidden hc3; clear kG h3 hc3))
        go_ret
        exact ⟨0, _, _, rfl, HO.out, H3.out, KC.out.trans ((Chg.drewN (fun i => i = r) _ _).trans HC3.out (fun _ _ e => e)) (fun _ _ e => e)⟩
  · rw [decide_eq_false (show ¬ pk (bts s) a z = some (UInt8.ofNat 33) from hp)] at hb
    have hb2 : (((pkC (pk (bts s) a z) : Nat) : Int) == 33) = false := hb
    have kT : Hid (∀ n, Calls Tryz.prog 33 #[.pointer (some ⟨r, 0, none⟩), .int .u8 61] (w.drewN n) fun e w' => e = .returned (.tuple #[]) ∧ Re w' r s (tkA (bts s) a z 61) (tkZ (bts s) a z 61) ∧ Chg (fun i => i = r) (w.drewN n) w') := hidden (fun n => rtakeP r s a z 61 _ (HH.out.drewN n) ha hs (by decide))
    by_cases h61 : pk (bts s) a z = some 61
    · rw [tkA, if_pos h61, tkZ, if_pos h61] at kT
      have hlt : a < s.size := by have := (pk_lt h61).1; rw [← size_bts] at this; exact this
      have kP2 : Hid (∀ w, Re w r s (a + 1) z → Calls Tryz.prog 34 #[.pointer (some ⟨r, 0, none⟩)] w fun e w' => e = .returned (.int .u8 ((pkC (pk (bts s) (a + 1) z) : Nat) : Int)) ∧ ∃ n, w' = w.drewN n) := hidden (fun w h => rpeekP r s (a + 1) z w h hs)
      have q2 := pkC_beq (pk (bts s) (a + 1) z) 126 (by omega) (by omega)
      have HK : Hid (∀ wx, Re wx r s (a + 1) z → ∀ m, (wx.drewN m).cell? ⟨r, 1, none⟩ = some (.int .i64 ((a : Int) + 1)) ∧ (wx.drewN m).frozen? ⟨r, 1, none⟩ = false) := hidden (fun wx h m => ⟨by have := h.cell 1; simpa using this, h.frozen 1⟩)
      have HR3 : Hid (∀ wx, Re wx r s (a + 1) z → ∀ m, Re ((wx.drewN m).setCell ⟨r, 1, none⟩ (.int .i64 ((a : Int) + 1 + 1))) r s (a + 1 + 1) z) := hidden (fun wx h m => by have := (h.drewN m).set (a + 1 + 1); simpa using this)
      have hz3 : (a : Int) + 1 + 1 ≤ 9223372036854775807 := by omega
      by_cases h126 : pk (bts s) (a + 1) z = some 126
      · rw [decide_eq_true (by rw [h126]; rfl)] at q2
        have q2b : (((pkC (pk (bts s) (a + 1) z) : Nat) : Int) == 126) = true := q2
        have HO := hidden (opE_of61126 h61 h126)
        generalize ((pkC (pk (bts s) (a + 1) z) : Nat) : Int) = Y at *
        generalize ((pkC (pk (bts s) a z) : Nat) : Int) = X at *
        clear hp h61 h126 q2 hb h32
        go_enter Tryz.func36, Tryz.ntmps36
        go_wp2_with (first
          | (go_at_call 34; refine kP.mono ?_; rintro e w1 ⟨rfl, n, rfl⟩; have kT2 := kT.out n; clear kP)
          | (go_at_call 33; refine kT2.mono ?_; rintro e w2 ⟨rfl, h2, hc2⟩; have KQ := hidden h2; have KC := hidden hc2; have kP3 := kP2.out _ h2; clear kT2 h2 hc2)
          | (go_at_call 34; refine kP3.mono ?_; rintro e w3 ⟨rfl, m, rfl⟩; obtain ⟨d2, g2⟩ := HK.out _ KQ.out m; clear kP3))
        go_ret
        exact ⟨3, _, _, rfl, HO.out, HR3.out _ KQ.out m, (Chg.drewN (fun i => i = r) _ _).trans (KC.out.trans ((Chg.drewN (fun i => i = r) _ _).trans (Chg.set ⟨r, 1, none⟩ _ _) (fun _ _ e => e)) (fun _ _ e => e)) (fun _ _ e => e)⟩
      · rw [decide_eq_false (show ¬ pk (bts s) (a + 1) z = some (UInt8.ofNat 126) from h126)] at q2
        have q2b : (((pkC (pk (bts s) (a + 1) z) : Nat) : Int) == 126) = false := q2
        have HO := hidden (opE_of61 h61 h126)
        generalize ((pkC (pk (bts s) (a + 1) z) : Nat) : Int) = Y at *
        generalize ((pkC (pk (bts s) a z) : Nat) : Int) = X at *
        clear hp h61 h126 q2 hb h32 HK HR3
        go_enter Tryz.func36, Tryz.ntmps36
        go_wp2_with (first
          | (go_at_call 34; refine kP.mono ?_; rintro e w1 ⟨rfl, n, rfl⟩; have kT2 := kT.out n; clear kP)
          | (go_at_call 33; refine kT2.mono ?_; rintro e w2 ⟨rfl, h2, hc2⟩; have KQ := hidden h2; have KC := hidden hc2; have kP3 := kP2.out _ h2; clear kT2 h2 hc2)
          | (go_at_call 34; refine kP3.mono ?_; rintro e w3 ⟨rfl, m, rfl⟩; clear kP3))
        go_ret
        exact ⟨1, _, _, rfl, HO.out, KQ.out.drewN m, (Chg.drewN (fun i => i = r) _ _).trans (KC.out.trans (Chg.drewN (fun i => i = r) _ _) (fun _ _ e => e)) (fun _ _ e => e)⟩
    · rw [tkA, if_neg h61, tkZ, if_neg h61] at kT
      have HO := hidden (opE_no haS h32 hp h61)
      have kP2 : Hid (∀ w, Re w r s a (failZ a z) → Calls Tryz.prog 34 #[.pointer (some ⟨r, 0, none⟩)] w fun e w' => e = .returned (.int .u8 0) ∧ ∃ n, w' = w.drewN n) := hidden (fun w h => by
        have := rpeekP r s a (failZ a z) w h hs
        rw [pk_failed] at this
        exact this)
      generalize ((pkC (pk (bts s) a z) : Nat) : Int) = X at *
      clear hp h61 hb h32
      go_enter Tryz.func36, Tryz.ntmps36
      go_wp2_with (first
        | (go_at_call 34; refine kP.mono ?_; rintro e w1 ⟨rfl, n, rfl⟩; have kT2 := kT.out n; clear kP)
        | (go_at_call 33; refine kT2.mono ?_; rintro e w2 ⟨rfl, h2, hc2⟩; have KQ := hidden h2; have KC := hidden hc2; have kP3 := kP2.out _ h2; clear kT2 h2 hc2)
        | (go_at_call 34; refine kP3.mono ?_; rintro e w3 ⟨rfl, m, rfl⟩; clear kP3))
      go_ret
      exact ⟨1, _, _, rfl, HO.out, KQ.out.drewN m, (Chg.drewN (fun i => i = r) _ _).trans (KC.out.trans (Chg.drewN (fun i => i = r) _ _) (fun _ _ e => e)) (fun _ _ e => e)⟩

end Go.Proofs.YtanlgplgplncdaaGreatDoor.L
