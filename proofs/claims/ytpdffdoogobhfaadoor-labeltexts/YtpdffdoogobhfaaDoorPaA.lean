/-
  The program's reader: blanks, a byte, a word.
-/
import Derived.Test.YtpdffdoogobhfaaDoorLbX
namespace Go.Proofs.YtpdffdoogobhfaaDoor
open Go.RowKit
set_option linter.unusedVariables false
set_option linter.unusedSimpArgs false

/-- How many blanks stand ahead. -/
def skp : List UInt8 → Nat
  | [] => 0
  | c :: t => if c = 32 then skp t + 1 else 0
theorem skp_le : ∀ l : List UInt8, skp l ≤ l.length
  | [] => Nat.le_refl _
  | c :: t => by unfold skp; have := skp_le t; split <;> simp <;> omega
theorem skp_next : ∀ l : List UInt8, (l.drop (skp l))[0]? ≠ some 32
  | [] => by simp
  | c :: t => by
    unfold skp
    split
    · simpa using skp_next t
    · simpa
/-- A state in which blanks count for nothing. -/
def Bl (st : St) : Prop := ∀ i, step i 32 st = some st
theorem run_skp {st : St} (h : Bl st) : ∀ (l : List UInt8) (i : Nat), run l i st = run (l.drop (skp l)) (i + skp l) st
  | [], i => by simp [skp]
  | c :: t, i => by
    unfold skp
    split
    · rename_i hc
      subst hc
      rw [run_some (h i), run_skp h t (i + 1)]
      simp only [List.drop_succ_cons]
      congr 1; omega
    · simp
/-- Where a reader stands behind blanks. -/
def sk (S : List UInt8) (a : Nat) : Nat := a + skp (S.drop a)
theorem sk_le {S : List UInt8} {a : Nat} (h : a ≤ S.length) : sk S a ≤ S.length := by
  have := skp_le (S.drop a); rw [List.length_drop] at this; unfold sk; omega
theorem sk_ge (S : List UInt8) (a : Nat) : a ≤ sk S a := by unfold sk; omega
theorem run_sk {st : St} (h : Bl st) (S : List UInt8) (a : Nat) : run (S.drop a) a st = run (S.drop (sk S a)) (sk S a) st := by
  rw [run_skp h, List.drop_drop]; rfl
theorem sk_next (S : List UInt8) (a : Nat) : S[sk S a]? ≠ some 32 := by
  have := skp_next (S.drop a)
  rw [List.drop_drop, List.getElem?_drop] at this
  exact this
theorem sk_step {S : List UInt8} {a : Nat} (h : S[a]? = some 32) : sk S a = sk S (a + 1) := by
  have hl : a < S.length := (List.getElem?_eq_some_iff.1 h).1
  have e : S.drop a = 32 :: S.drop (a + 1) := by
    rw [List.drop_eq_getElem_cons hl]
    rw [List.getElem?_eq_getElem hl] at h
    injection h with h; rw [h]
  unfold sk; rw [e, skp, if_pos rfl]; omega
theorem sk_stop {S : List UInt8} {a : Nat} (h : S[a]? ≠ some 32) : sk S a = a := by
  unfold sk
  cases hd : S.drop a with
  | nil => rfl
  | cons c t =>
    have : S[a]? = some c := by rw [← Nat.add_zero a, ← List.getElem?_drop, hd]; rfl
    rw [skp, if_neg (fun e => h (by rw [this, e]))]; rfl

/-- A reader at a place. -/
def Rd (w : World) (r : Nat) (s : ByteArray) (a : Nat) : Prop := Blk w r 76 [.string s, .int .i64 (a : Int)]
theorem Rd.set {w : World} {r : Nat} {s : ByteArray} {a : Nat} (h : Rd w r s a) (b : Nat) : Rd (w.setCell ⟨r, 1, none⟩ (.int .i64 (b : Int))) r s b := Blk.set h 1 _
theorem at_bts {s : ByteArray} {a : Nat} (h : a < s.size) {x : UInt8} (hx : s[a] = x) : (bts s)[a]? = some x := by
  have hl : a < (bts s).length := by rw [← size_bts]; exact h
  rw [List.getElem?_eq_getElem hl, ← hx]; rfl

def rdAt (r : Nat) (w : World) : Nat := ((w.cell? ⟨r, 1, none⟩).map (fun v => (intOf v).toNat)).getD 0
theorem Rd.at' {w : World} {r : Nat} {s : ByteArray} {a : Nat} (h : Rd w r s a) : rdAt r w = a := by
  have c1 : w.cell? ⟨r, 1, none⟩ = some (.int .i64 (a : Int)) := h.cell 1
  simp [rdAt, c1, intOf]
theorem Rd.drewN {w : World} {r : Nat} {s : ByteArray} {a : Nat} (h : Rd w r s a) (n : Nat) : Rd (w.drewN n) r s a := Blk.drewN h n
theorem Rd.chg {F : Nat → Prop} {w w' : World} {r : Nat} {s : ByteArray} {a : Nat} (h : Rd w r s a) (hc : Chg F w w') (hF : ¬ F r) : Rd w' r s a := hc.blk h hF
theorem chg_step {w wx : World} {r b : Nat} {n : Nat} (h : Chg (fun i => i = r) w wx) : Chg (fun i => i = r) w ((wx.drewN n).setCell ⟨r, 1, none⟩ (.int .i64 (b : Int))) :=
  (h.trans (Chg.drewN (fun i => i = r) wx n) (fun _ _ e => e)).trans (Chg.set ⟨r, 1, none⟩ _ _) (fun _ _ e => e)

set_option maxRecDepth 100000 in
set_option maxHeartbeats 2000000 in
theorem skipBlanksP (r : Nat) (s : ByteArray) (a : Nat) (w : World) (h : Rd w r s a) (ha : a ≤ s.size) (hs : s.size ≤ 140737488355328) :
    Calls Tryd.prog 63 #[.pointer (some ⟨r, 0, none⟩)] w fun e w' => e = .returned (.tuple #[]) ∧ Rd w' r s (sk (bts s) a) ∧ Chg (fun i => i = r) w w' := by
  obtain ⟨R, hR⟩ : ∃ R, sk (bts s) a = R := ⟨_, rfl⟩
  have HR := hidden hR
  have HH := hidden h
  rw [hR]
  clear hR h
  go_enter Tryd.func63, Tryd.ntmps63
  go_wp2
  go_loopw [] (fun wx => ∃ i : Nat, i ≤ s.size ∧ Hid (sk (bts s) i = R) ∧ Hid (Rd wx r s i) ∧ Hid (Chg (fun i => i = r) w wx)) (fun wx => s.size - rdAt r wx)
  case atStart => exact ⟨a, ha, HR, HH, hidden (Chg.refl _ _)⟩
  case round =>
    rename World => wr
    obtain ⟨i, hi, hrel, hrd, hch⟩ := hrel
    have c0 : wr.cell? ⟨r, 0, none⟩ = some (.string s) := hrd.out.cell 0
    have c1 : wr.cell? ⟨r, 1, none⟩ = some (.int .i64 (i : Int)) := hrd.out.cell 1
    have f1 := hrd.out.frozen 1
    by_cases hlt : i < s.size
    · have hltz : (i : Int) < (s.size : Int) := by omega
      have hd1 : decide ((i : Int) < (s.size : Int)) = true := decide_eq_true hltz
      obtain ⟨x, hx, hx2, hdr⟩ := byte_at s hlt
      have e32 := beq32 x
      by_cases h32 : x = 32
      · rw [decide_eq_true h32] at e32
        have hR1 : Hid (sk (bts s) (i + 1) = R) := hidden (by rw [← sk_step (by rw [hx2, h32]), hrel.out])
        clear hdr hx2 h32
        go_wp2
        go_quiet (fail)
        go_wp2
        have hr2 : Rd ((wr.drewN nq).setCell ⟨r, 1, none⟩ (.int .i64 ((i : Int) + 1))) r s (i + 1) := by have := (hrd.out.drewN nq).set (i + 1); simpa using this
        refine ⟨⟨i + 1, by omega, hR1, hr2, hidden (by have := chg_step (b := i + 1) (n := nq) hch.out; simpa using this)⟩, ?_⟩
        rw [hr2.at', hrd.out.at']
        omega
      · rw [decide_eq_false h32] at e32
        have hR1 : Hid (i = R) := hidden (by rw [← hrel.out, sk_stop (by rw [hx2]; intro e; exact h32 (Option.some.inj e))])
        clear hdr hx2 h32
        go_wp2
        go_quiet (fail)
        go_wp2
        go_end0
        exact ⟨rfl, by rw [← hR1.out]; exact hrd.out.drewN _, hch.out.trans (Chg.drewN (fun i => i = r) wr _) (fun _ _ e => e)⟩
    · have hltz : ¬ (i : Int) < (s.size : Int) := by omega
      have hd1 : decide ((i : Int) < (s.size : Int)) = false := decide_eq_false hltz
      have hR1 : Hid (i = R) := hidden (by rw [← hrel.out, sk_stop (by rw [List.getElem?_eq_none (by rw [← size_bts]; omega)]; simp)])
      go_wp2
      go_quiet (fail)
      go_wp2
      go_end0
      exact ⟨rfl, by rw [← hR1.out]; exact hrd.out.drewN _, hch.out.trans (Chg.drewN (fun i => i = r) wr _) (fun _ _ e => e)⟩

set_option maxRecDepth 100000 in
set_option maxHeartbeats 2000000 in
theorem atEndP (r : Nat) (s : ByteArray) (a : Nat) (w : World) (h : Rd w r s a) (ha : a ≤ s.size) (hs : s.size ≤ 140737488355328) :
    Calls Tryd.prog 62 #[.pointer (some ⟨r, 0, none⟩)] w fun e w' => e = .returned (.bool (decide (sk (bts s) a = s.size))) ∧ Rd w' r s (sk (bts s) a) ∧ Chg (fun i => i = r) w w' := by
  have k := skipBlanksP r s a w h ha hs
  have hle : sk (bts s) a ≤ s.size := by rw [size_bts] at ha ⊢; exact sk_le ha
  obtain ⟨b, hb⟩ : ∃ b, sk (bts s) a = b := ⟨_, rfl⟩
  rw [hb] at k hle ⊢
  clear hb h
  go_enter Tryd.func62, Tryd.ntmps62
  go_wp2_with (go_at_call 63; refine k.mono ?_)
  first | rintro e w1 rfl h1 hc1 | rintro e w1 ⟨rfl, h1, hc1⟩
  have c0 : w1.cell? ⟨r, 0, none⟩ = some (.string s) := h1.cell 0
  have c1 : w1.cell? ⟨r, 1, none⟩ = some (.int .i64 (b : Int)) := h1.cell 1
  have H1 := hidden h1
  have HC := hidden hc1
  clear h1 hc1 k
  have z : ((b : Int) == (s.size : Int)) = decide (b = s.size) := by rw [Bool.eq_iff_iff]; simp; omega
  go_wp2
  go_quiet (fail)
  go_wp2
  go_ret
  refine ⟨?_, H1.out.drewN _, HC.out.trans (Chg.drewN (fun i => i = r) w1 _) (fun _ _ e => e)⟩
  rw [← z]; rfl

/-- Does the byte c stand next, but for blanks? -/
def tk (S : List UInt8) (a : Nat) (c : UInt8) : Bool := decide (S[sk S a]? = some c)
def tkAt (S : List UInt8) (a : Nat) (c : UInt8) : Nat := if tk S a c then sk S a + 1 else sk S a
theorem tkAt_le {S : List UInt8} {a : Nat} {c : UInt8} (h : a ≤ S.length) : tkAt S a c ≤ S.length := by
  unfold tkAt
  split
  · rename_i ht
    have := (List.getElem?_eq_some_iff.1 (of_decide_eq_true ht)).1
    omega
  · exact sk_le h

end Go.Proofs.YtpdffdoogobhfaaDoor
