/-
  The program's reader: a word; what an escape stands for.
-/
import Derived.Test.YtanlgplgplncdaaDoorMrB
namespace Go.Proofs.YtanlgplgplncdaaDoor.L
open Go.RowKit
set_option linter.unusedVariables false
set_option linter.unusedSimpArgs false

def wAt (S : List UInt8) (a : Nat) : Nat := a + wsz true (S.drop a)
theorem wAt_le {S : List UInt8} {a : Nat} (h : a ≤ S.length) : wAt S a ≤ S.length := by
  have := wsz_le true (S.drop a); rw [List.length_drop] at this; unfold wAt; omega
theorem wAt_ge (S : List UInt8) (a : Nat) : a ≤ wAt S a := by unfold wAt; omega
theorem extract_bts (s : ByteArray) (a b : Nat) (h : a ≤ b) (hb : b ≤ s.size) : s.extract a b = oft (((bts s).drop a).take (b - a)) := by
  apply bts_inj
  rw [bts_oft]
  unfold bts
  rw [ByteArray.data_extract, Array.toList_extract]

def ffl (i a : Nat) : Bool := decide (i = a)

set_option maxRecDepth 100000 in
set_option maxHeartbeats 4000000 in
theorem wordP (r : Nat) (s : ByteArray) (a : Nat) (w : World) (h : Rd w r s a) (ha : a ≤ s.size) (hs : s.size ≤ 140737488355328) :
    Calls Tryd.prog 40 #[.pointer (some ⟨r, 0, none⟩)] w fun e w' => e = .returned (.tuple #[.string (oft (((bts s).drop a).take (wsz true ((bts s).drop a)))), .bool (decide (0 < wsz true ((bts s).drop a)))]) ∧ Rd w' r s (wAt (bts s) a) ∧ Chg (fun i => i = r) w w' := by
  obtain ⟨E, hE⟩ : ∃ E, wAt (bts s) a = E := ⟨_, rfl⟩
  have hEs : E ≤ s.size := by rw [← hE, size_bts]; exact wAt_le (by rw [← size_bts]; exact ha)
  have hEa : a ≤ E := by rw [← hE]; exact wAt_ge _ _
  have hws : wsz true ((bts s).drop a) = E - a := by unfold wAt at hE; omega
  rw [hws, hE, ← extract_bts s a E hEa hEs]
  have HE : Hid (a + wsz (ffl a a) ((bts s).drop a) = E) := hidden (by rw [show ffl a a = true from decide_eq_true rfl]; exact hE)
  have c1 : w.cell? ⟨r, 1, none⟩ = some (.int .i64 (a : Int)) := h.cell 1
  have HH := hidden h
  have hpos : decide (0 < E - a) = decide ((a : Int) < (E : Int)) := by rw [Bool.eq_iff_iff]; simp; omega
  rw [hpos]
  clear hE hws h hpos
  go_enter Tryd.func40, Tryd.ntmps40
  go_wp2_with fail
  go_loopw [] (fun wx => ∃ i : Nat, i ≤ s.size ∧ a ≤ i ∧ Hid (i + wsz (ffl i a) ((bts s).drop i) = E) ∧ Hid (Rd wx r s i) ∧ Hid (Chg (fun i => i = r) w wx)) (fun wx => s.size - rdAt r wx)
  case atStart => exact ⟨a, ha, Nat.le_refl _, HE, HH, hidden (Chg.refl _ _)⟩
  case round =>
    rename World => wr
    obtain ⟨i, hi, hai, hrel, hrd, hch⟩ := hrel
    clear HE c1
    have c0 : wr.cell? ⟨r, 0, none⟩ = some (.string s) := hrd.out.cell 0
    have c1 : wr.cell? ⟨r, 1, none⟩ = some (.int .i64 (i : Int)) := hrd.out.cell 1
    have f1 := hrd.out.frozen 1
    by_cases hlt : i < s.size
    · have hltz : (i : Int) < (s.size : Int) := by omega
      have hd1 : decide ((i : Int) < (s.size : Int)) = true := decide_eq_true hltz
      obtain ⟨x, hx, hx2, hdr⟩ := byte_at s hlt
      have HL : Hid (wsz (ffl i a) ((bts s).drop i) = if lead (ffl i a) x then wsz false ((bts s).drop (i + 1)) + 1 else 0) := hidden (by rw [hdr]; rfl)
      by_cases hl : lett x = true
      · have kl := fun w => letterM x w
        rw [hl] at kl
        have hR1 : Hid (i + 1 + wsz (ffl (i + 1) a) ((bts s).drop (i + 1)) = E) := hidden (by
          have h1 := hrel.out
          rw [HL.out, if_pos (by unfold lead; rw [hl]; rfl)] at h1
          rw [show ffl (i + 1) a = false from decide_eq_false (by omega)]
          omega)
        clear hdr hx2 HL hl hrel
        go_wp2_with fail
        go_quiet (exact Calls.quiet_of_same (kl _))
        go_wp2
        have hr2 : Rd ((wr.drewN nq).setCell ⟨r, 1, none⟩ (.int .i64 ((i : Int) + 1))) r s (i + 1) := by have := (hrd.out.drewN nq).set (i + 1); simpa using this
        refine ⟨⟨i + 1, by omega, by omega, hR1, hr2, hidden (by have := chg_step (b := i + 1) (n := nq) hch.out; simpa using this)⟩, ?_⟩
        rw [hr2.at', hrd.out.at']
        omega
      · have hlf : lett x = false := by simpa using hl
        have kl := fun w => letterM x w
        rw [hlf] at kl
        have kd := fun w => digitM x w
        by_cases hia : i = a
        · subst hia
          have hd2 : decide ((i : Int) < (i : Int)) = false := decide_eq_false (by omega)
          have HEi : Hid (E = i) := hidden (by
            have h1 := hrel.out
            rw [HL.out, if_neg (by unfold lead ffl; rw [hlf, decide_eq_true rfl]; simp)] at h1
            omega)
          have HAI := hidden hai
          clear hdr hx2 HL hl hrel kd hai
          go_wp2_with fail
          go_quiet (exact Calls.quiet_of_same (kl _))
          go_wp2_with fail
          go_quiet (fail)
          go_wp2
          go_ret2
          refine ⟨by rw [HEi.out]; first | rfl | simp, by rw [HEi.out]; exact (hrd.out.drewN _).drewN _, hch.out.trans ((Chg.drewN (fun i => i = r) wr _).trans (Chg.drewN (fun i => i = r) _ _) (fun _ _ e => e)) (fun _ _ e => e)⟩
        · have haiz : (a : Int) < (i : Int) := by omega
          have hanz : (a : Int) ≤ (i : Int) := by omega
          by_cases hg : digi x = true
          · rw [hg] at kd
            have hR1 : Hid (i + 1 + wsz (ffl (i + 1) a) ((bts s).drop (i + 1)) = E) := hidden (by
              have h1 := hrel.out
              rw [HL.out, if_pos (by unfold lead ffl; rw [hlf, hg, decide_eq_false hia]; rfl)] at h1
              rw [show ffl (i + 1) a = false from decide_eq_false (by omega)]
              omega)
            clear hdr hx2 HL hl hrel hg hia
            go_wp2_with fail
            go_quiet (first | exact Calls.quiet_of_same (kl _) | exact Calls.quiet_of_same (kd _))
            go_wp2
            have hr2 : Rd ((wr.drewN nq).setCell ⟨r, 1, none⟩ (.int .i64 ((i : Int) + 1))) r s (i + 1) := by have := (hrd.out.drewN nq).set (i + 1); simpa using this
            refine ⟨⟨i + 1, by omega, by omega, hR1, hr2, hidden (by have := chg_step (b := i + 1) (n := nq) hch.out; simpa using this)⟩, ?_⟩
            rw [hr2.at', hrd.out.at']
            omega
          · have hgf : digi x = false := by simpa using hg
            rw [hgf] at kd
            have HEi : Hid (E = i) := hidden (by
              have h1 := hrel.out
              rw [HL.out, if_neg (by unfold lead ffl; rw [hlf, hgf]; simp)] at h1
              omega)
            clear hdr hx2 HL hl hrel hg hia
            go_wp2_with fail
            go_quiet (first | exact Calls.quiet_of_same (kl _) | exact Calls.quiet_of_same (kd _))
            go_wp2_with fail
            go_quiet (fail)
            go_wp2
            go_ret2
            refine ⟨by rw [HEi.out]; first | rfl | simp [haiz], by rw [HEi.out]; exact (hrd.out.drewN _).drewN _, hch.out.trans ((Chg.drewN (fun i => i = r) wr _).trans (Chg.drewN (fun i => i = r) _ _) (fun _ _ e => e)) (fun _ _ e => e)⟩
    · have hltz : ¬ (i : Int) < (s.size : Int) := by omega
      have hd1 : decide ((i : Int) < (s.size : Int)) = false := decide_eq_false hltz
      have hdz : (bts s).drop i = [] := List.drop_of_length_le (by rw [← size_bts]; omega)
      have HEi : Hid (E = i) := hidden (by
        have h1 := hrel.out
        rw [hdz] at h1
        simp [wsz] at h1
        omega)
      have hanz : (a : Int) ≤ (i : Int) := by omega
      have hisz : (i : Int) ≤ (s.size : Int) := by omega
      clear hdz hrel
      by_cases hia : i = a
      · subst hia
        go_wp2_with fail
        go_quiet (fail)
        go_wp2_with fail
        go_quiet (fail)
        go_wp2
        go_ret2
        refine ⟨by rw [HEi.out]; first | rfl | simp, by rw [HEi.out]; exact (hrd.out.drewN _).drewN _, hch.out.trans ((Chg.drewN (fun i => i = r) wr _).trans (Chg.drewN (fun i => i = r) _ _) (fun _ _ e => e)) (fun _ _ e => e)⟩
      · have haiz : (a : Int) < (i : Int) := by omega
        clear hia
        go_wp2_with fail
        go_quiet (fail)
        go_wp2_with fail
        go_quiet (fail)
        go_wp2
        go_ret2
        refine ⟨by rw [HEi.out]; first | rfl | simp [haiz], by rw [HEi.out]; exact (hrd.out.drewN _).drewN _, hch.out.trans ((Chg.drewN (fun i => i = r) wr _).trans (Chg.drewN (fun i => i = r) _ _) (fun _ _ e => e)) (fun _ _ e => e)⟩

end Go.Proofs.YtanlgplgplncdaaDoor.L
