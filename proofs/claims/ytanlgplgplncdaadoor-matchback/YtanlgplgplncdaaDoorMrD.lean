/-
  The program's reader: what an escape stands for; a quote.
-/
import Derived.Test.YtanlgplgplncdaaDoorMrC
namespace Go.Proofs.YtanlgplgplncdaaDoor.L
open Go.RowKit
set_option linter.unusedVariables false
set_option linter.unusedSimpArgs false

def EsD (S : List UInt8) (a : Nat) (v : UInt8) (a' : Nat) (ok : Bool) : Prop :=
  a ≤ a' ∧ a' ≤ S.length ∧ a' ≤ a + 1 ∧ (ok = true → ∀ J p nm o b, runM (S.drop a) a (.es J p nm o b) = runM (S.drop a') a' (.qt J p nm o (b ++ [v]))) ∧ (ok = false → ∀ J p nm o b, runM (S.drop a) a (.es J p nm o b) = .fault a')
theorem hrAt_yes {S : List UInt8} {a : Nat} {c : UInt8} (h : hr S a c = true) : hrAt S a c = a + 1 := by unfold hrAt; rw [if_pos h]
theorem hrAt_no {S : List UInt8} {a : Nat} {c : UInt8} (h : hr S a c = false) : hrAt S a c = a := by unfold hrAt; rw [h]; rfl

set_option maxRecDepth 100000 in
set_option maxHeartbeats 2000000 in
theorem escapedP (r : Nat) (s : ByteArray) (a : Nat) (w : World) (h : Rd w r s a) (ha : a ≤ s.size) (hs : s.size ≤ 140737488355328) :
    Calls Tryd.prog 52 #[.pointer (some ⟨r, 0, none⟩)] w fun e w' => ∃ v a' ok, e = .returned (.tuple #[.int .u8 ((v : UInt8).toNat : Int), .bool ok]) ∧ EsD (bts s) a v a' ok ∧ Rd w' r s a' ∧ Chg (fun i => i = r) w w' := by
  obtain ⟨S, hS⟩ : ∃ S, bts s = S := ⟨_, rfl⟩
  have hsz := size_bts s
  have k1 := takeHereP r s a 92 w h ha hs
  have H34 : Hid (∀ w1, Rd w1 r s a → Calls Tryd.prog 39 #[.pointer (some ⟨r, 0, none⟩), .int .u8 34] w1 fun e w' => e = .returned (.bool (hr S a 34)) ∧ Rd w' r s (hrAt S a 34) ∧ Chg (fun i => i = r) w1 w') := hidden (fun w1 h1 => by rw [← hS]; exact takeHereP r s a 34 w1 h1 ha hs)
  have H110 : Hid (∀ w1, Rd w1 r s a → Calls Tryd.prog 39 #[.pointer (some ⟨r, 0, none⟩), .int .u8 110] w1 fun e w' => e = .returned (.bool (hr S a 110)) ∧ Rd w' r s (hrAt S a 110) ∧ Chg (fun i => i = r) w1 w') := hidden (fun w1 h1 => by rw [← hS]; exact takeHereP r s a 110 w1 h1 ha hs)
  rw [hS] at k1 hsz
  rw [hS]
  have haS : a ≤ S.length := by omega
  have HL : Hid (∀ c, hr S a c = true → a + 1 ≤ S.length) := hidden (fun c hc => by have := hrAt_le (c := c) haS; rwa [hrAt_yes hc] at this)
  clear h hS hsz
  cases q1 : hr S a 92 with
  | true =>
    rw [q1, hrAt_yes q1] at k1
    have HQ := hidden q1
    have hl := HL.out 92 q1
    clear q1
    go_enter Tryd.func52, Tryd.ntmps52
    go_wp2_with fail
    refine k1.mono ?_
    rintro e w1 ⟨rfl, h1, hc1⟩
    have C1 := hidden hc1
    have H1 := hidden h1
    clear hc1 k1 h1
    go_wp2
    go_ret2
    refine ⟨92, a + 1, true, rfl, ⟨by omega, hl, by omega, fun _ J p nm o b => ?_, fun h => by cases h⟩, H1.out, C1.out⟩
    have := run_here_yes (st := .es J p nm o b) (st' := .qt J p nm o (b ++ [92])) HQ.out (by simp [stepM])
    rwa [hrAt_yes HQ.out] at this
  | false =>
    rw [q1, hrAt_no q1] at k1
    have HQ1 := hidden q1
    clear q1
    go_enter Tryd.func52, Tryd.ntmps52
    go_wp2_with fail
    refine k1.mono ?_
    rintro e w1 ⟨rfl, h1, hc1⟩
    have C1 := hidden hc1
    have k2 := H34.out w1 h1
    clear hc1 k1 h1
    cases q2 : hr S a 34 with
    | true =>
      rw [q2, hrAt_yes q2] at k2
      have HQ := hidden q2
      have hl := HL.out 34 q2
      clear q2
      go_wp2_with fail
      refine k2.mono ?_
      rintro e w2 ⟨rfl, h2, hc2⟩
      have C2 := hidden (C1.out.trans hc2 (fun _ _ e => e))
      have H2 := hidden h2
      clear hc2 k2 h2
      go_wp2
      go_ret2
      refine ⟨34, a + 1, true, rfl, ⟨by omega, hl, by omega, fun _ J p nm o b => ?_, fun h => by cases h⟩, H2.out, C2.out⟩
      have := run_here_yes (st := .es J p nm o b) (st' := .qt J p nm o (b ++ [34])) HQ.out (by simp [stepM])
      rwa [hrAt_yes HQ.out] at this
    | false =>
      rw [q2, hrAt_no q2] at k2
      have HQ2 := hidden q2
      clear q2
      go_wp2_with fail
      refine k2.mono ?_
      rintro e w2 ⟨rfl, h2, hc2⟩
      have C2 := hidden (C1.out.trans hc2 (fun _ _ e => e))
      have k3 := H110.out w2 h2
      clear hc2 k2 h2
      cases q3 : hr S a 110 with
      | true =>
        rw [q3, hrAt_yes q3] at k3
        have HQ := hidden q3
        have hl := HL.out 110 q3
        clear q3
        go_wp2_with fail
        refine k3.mono ?_
        rintro e w3 ⟨rfl, h3, hc3⟩
        have C3 := hidden (C2.out.trans hc3 (fun _ _ e => e))
        have H3 := hidden h3
        clear hc3 k3 h3
        go_wp2
        go_ret2
        refine ⟨10, a + 1, true, rfl, ⟨by omega, hl, by omega, fun _ J p nm o b => ?_, fun h => by cases h⟩, H3.out, C3.out⟩
        have := run_here_yes (st := .es J p nm o b) (st' := .qt J p nm o (b ++ [10])) HQ.out (by simp [stepM])
        rwa [hrAt_yes HQ.out] at this
      | false =>
        rw [q3, hrAt_no q3] at k3
        have HQ3 := hidden q3
        clear q3
        go_wp2_with fail
        refine k3.mono ?_
        rintro e w3 ⟨rfl, h3, hc3⟩
        have C3 := hidden (C2.out.trans hc3 (fun _ _ e => e))
        have H3 := hidden h3
        clear hc3 k3 h3
        go_wp2
        go_ret2
        refine ⟨0, a, false, rfl, ⟨by omega, haS, by omega, (fun h => by cases h), fun _ J p nm o b => ?_⟩, H3.out, C3.out⟩
        refine run_none_of (fun x hx => ?_) (fun _ => rfl)
        simp [stepM, hr_no HQ1.out hx, hr_no HQ2.out hx, hr_no HQ3.out hx]

/-- What quote answers of a text at a place: the value, or the fault's place. -/
def Qd (S : List UInt8) (a : Nat) (v : ByteArray) (a' : Nat) (ok : Bool) : Prop :=
  a ≤ a' ∧ a' ≤ S.length ∧ v.size ≤ S.length ∧ (ok = true → ∀ J p nm o, runM (S.drop a) a (.s4 J p nm o) = runM (S.drop a') a' (.s5 (J.add ⟨oft nm, o, v⟩ p))) ∧ (ok = false → ∀ J p nm o, runM (S.drop a) a (.s4 J p nm o) = .fault a')
theorem bl4 (J : Jm) (p : Nat) (nm : List UInt8) (o : Int) : Bl (.s4 J p nm o) := fun i => by simp [stepM]
theorem chg_then {F : Nat → Prop} {u v w : World} (h : Chg F u v) (k : Below u.heap.size v w) : Chg F u w :=
  ⟨k.os.trans h.os, k.tape.trans h.tape, k.output.trans h.output, Nat.le_trans h.size k.size, fun i hi hF => (k.block i hi).trans (h.block i hi hF)⟩
/-- A reader and a builder beside it: where the quote was begun (w1), what has been read. -/
structure QS (S : List UInt8) (a : Nat) (r : Nat) (s : ByteArray) (w1 wx : World) (i : Nat) (l : List UInt8) : Prop where
  rd : Rd wx r s i
  bd : Lib.IsBuilder 64 5 w1.heap.size w1.heap.size (Lib.byteCells l) wx
  ch : Chg (fun i => i = r) w1 wx
  ll : l.length ≤ i
  ru : ∀ J p nm o, runM (S.drop a) a (.s4 J p nm o) = runM (S.drop i) i (.qt J p nm o l)

set_option maxRecDepth 100000 in
set_option maxHeartbeats 4000000 in
theorem quoteP (r : Nat) (s : ByteArray) (a : Nat) (w : World) (h : Rd w r s a) (ha : a ≤ s.size) (hs : s.size ≤ 140737488355328) :
    Calls Tryd.prog 42 #[.pointer (some ⟨r, 0, none⟩)] w fun e w' => ∃ v a' ok, e = .returned (.tuple #[.string v, .bool ok]) ∧ Qd (bts s) a v a' ok ∧ Rd w' r s a' ∧ Chg (fun i => i = r) w w' := by
  have k := takeP r s a 34 w h ha hs
  have hta : tkAt (bts s) a 34 ≤ s.size := by rw [size_bts] at ha ⊢; exact tkAt_le ha
  have hge := tkAt_ge (bts s) a 34
  have HSZ := hidden (size_bts s)
  cases hq : tk (bts s) a 34 with
  | false =>
    rw [hq] at k
    have hQ : Hid (Qd (bts s) a ⟨#[]⟩ (tkAt (bts s) a 34) false) := hidden ⟨hge, by rw [← size_bts]; exact hta, Nat.zero_le _, (fun h => by cases h), fun _ J p nm o => run_take_no (bl4 J p nm o) hq (fun i x h1 h2 => by simp [stepM, h1, h2]) (fun i => rfl)⟩
    clear hq h hge
    go_enter Tryd.func42, Tryd.ntmps42
    go_wp2_with fail
    refine k.mono ?_
    rintro e w1 ⟨rfl, h1, hc1⟩
    have C1 := hidden hc1
    have H1 := hidden h1
    clear hc1 k h1
    go_wp2
    go_ret2
    exact ⟨_, _, _, rfl, hQ.out, H1.out, C1.out⟩
  | true =>
    rw [hq] at k
    have hQ : Hid (∀ J p nm o, runM ((bts s).drop a) a (.s4 J p nm o) = runM ((bts s).drop (tkAt (bts s) a 34)) (tkAt (bts s) a 34) (.qt J p nm o [])) := hidden (fun J p nm o => run_take_yes (bl4 J p nm o) hq (by simp [stepM]))
    obtain ⟨a1, ha1⟩ : ∃ a1, tkAt (bts s) a 34 = a1 := ⟨_, rfl⟩
    rw [ha1] at k hta hQ hge
    clear hq h ha1
    go_enter Tryd.func42, Tryd.ntmps42
    go_wp2_with fail
    refine k.mono ?_
    rintro e w1 ⟨rfl, h1, hc1⟩
    have HR1 := hidden h1
    have HC1 := hidden hc1
    have hrw1 : Hid (r < w1.heap.size) := hidden (Blk.lt h1)
    have Q0 : Hid (QS (bts s) a r s w1 (w1.alloc (.cells #[.pointer none, .slice none 0 0] 64)) a1 []) := hidden (by
      have hal : Below w1.heap.size w1 (w1.alloc (.cells #[.pointer none, .slice none 0 0] 64)) := (Below.refl _ _).alloc (Nat.le_refl _) _
      exact ⟨h1.chg (Chg.of_below (F := fun _ => False) hal) (fun h => h), bd_new w1, Chg.of_below hal, by simp, hQ.out⟩)
    clear k h1 hc1 hQ
    go_wp2_with fail
    go_loopw [5, 6, 7] (fun v5 v6 v7 wx => ∃ (i : Nat) (l' : List UInt8), i ≤ s.size ∧ a ≤ i ∧ Hid (QS (bts s) a r s w1 wx i l')) (fun _ _ _ wx => s.size - rdAt r wx)
    case atStart => exact ⟨a1, [], hta, hge, Q0⟩
    case round =>
      rename World => wr
      obtain ⟨i, l', hi, hai, hq⟩ := hrel
      clear Q0
      have c0 : wr.cell? ⟨r, 0, none⟩ = some (.string s) := hq.out.rd.cell 0
      have c1 : wr.cell? ⟨r, 1, none⟩ = some (.int .i64 (i : Int)) := hq.out.rd.cell 1
      have f1 := hq.out.rd.frozen 1
      have HRDI : Hid (rdAt r wr = i) := hidden hq.out.rd.at'
      by_cases hlt : i < s.size
      · have hltz : (i : Int) < (s.size : Int) := by omega
        obtain ⟨x, hx, hx2, hdr⟩ := byte_at s hlt
        have hrr : Hid (∀ J p nm o, runM ((bts s).drop a) a (.s4 J p nm o) = runM (x :: (bts s).drop (i + 1)) i (.qt J p nm o l')) := hidden (fun J p nm o => by rw [hq.out.ru J p nm o, hdr])
        have e92 := beq92 x
        have e34 := beq34 x
        have e10 := beq10 x
        clear hx2 hdr
        by_cases h2 : x = 10
        · rw [decide_eq_true h2] at e10
          have hQ2 : Hid (Qd (bts s) a ⟨#[]⟩ i false) := hidden ⟨hai, by rw [← size_bts]; exact hi, Nat.zero_le _, (fun h => by cases h), fun _ J p nm o => by rw [hrr.out J p nm o, runM_none (by simp [stepM, h2])]⟩
          clear h2 hrr
          go_wp2_with fail
          go_quiet (fail)
          go_wp2_with fail
          go_quiet (fail)
          go_wp2
          go_ret2
          exact ⟨_, _, _, rfl, hQ2.out, hq.out.rd.drewN _, HC1.out.trans (hq.out.ch.trans (Chg.drewN (fun i => i = r) wr _) (fun _ _ e => e)) (fun _ _ e => e)⟩
        · rw [decide_eq_false h2] at e10
          have HS : Hid (∀ q, Rd ((wr.drewN q).setCell ⟨r, 1, none⟩ (.int .i64 ((i : Int) + 1))) r s (i + 1) ∧ Lib.IsBuilder 64 5 w1.heap.size w1.heap.size (Lib.byteCells l') ((wr.drewN q).setCell ⟨r, 1, none⟩ (.int .i64 ((i : Int) + 1))) ∧ w1.heap.size ≤ ((wr.drewN q).setCell ⟨r, 1, none⟩ (.int .i64 ((i : Int) + 1))).heap.size ∧ Chg (fun i => i = r) w1 ((wr.drewN q).setCell ⟨r, 1, none⟩ (.int .i64 ((i : Int) + 1)))) := hidden (by
            intro q
            have hcs : Chg (fun i => i = r) wr ((wr.drewN q).setCell ⟨r, 1, none⟩ (.int .i64 ((i : Int) + 1))) := (Chg.drewN (fun i => i = r) wr q).trans (Chg.set ⟨r, 1, none⟩ _ _) (fun _ _ e => e)
            refine ⟨by have := (hq.out.rd.drewN q).set (i + 1); simpa using this, bd_keep hq.out.bd (hcs.mono (fun k _ e => by rw [e]; exact hrw1.out)), Nat.le_trans hq.out.ch.size hcs.size, hq.out.ch.trans hcs (fun _ _ e => e)⟩)
          by_cases h1 : x = 34
          · rw [decide_eq_true h1] at e34
            have hQ2 : Hid (Qd (bts s) a (oft l') (i + 1) true) := hidden ⟨by omega, by rw [← size_bts]; omega, by have := hq.out.ll; rw [size_bts, bts_oft, ← size_bts]; omega, (fun _ J p nm o => by rw [hrr.out J p nm o, runM_some (st' := .s5 (J.add ⟨oft nm, o, oft l'⟩ p)) (by simp [stepM, h1])]), fun h => by cases h⟩
            clear h1 h2 hrr
            go_wp2_with fail
            go_quiet (fail)
            go_wp2_with fail
            go_quiet (fail)
            go_wp2_with (go_at_call 20; refine (stringP w1.heap.size w1.heap.size l' _ (HS.out _).2.1 (HS.out _).2.2.1).mono ?_; rintro e w5 ⟨rfl, hb5⟩)
            go_ret2
            exact ⟨_, _, _, rfl, hQ2.out, Blk.below ((HS.out _).1) hb5 hrw1.out, HC1.out.trans (chg_then (HS.out _).2.2.2 hb5) (fun _ _ e => e)⟩
          · rw [decide_eq_false h1] at e34
            by_cases h3 : x = 92
            · rw [decide_eq_true h3] at e92
              have hrr2 : Hid (∀ J p nm o, runM ((bts s).drop a) a (.s4 J p nm o) = runM ((bts s).drop (i + 1)) (i + 1) (.es J p nm o l')) := hidden (fun J p nm o => by rw [hrr.out J p nm o, runM_some (st' := .es J p nm o l') (by simp [stepM, h1, h2, h3])])
              have kE : ∀ w5, Rd w5 r s (i + 1) → Calls Tryd.prog 52 #[.pointer (some ⟨r, 0, none⟩)] w5 fun e w' => ∃ v a' ok, e = .returned (.tuple #[.int .u8 ((v : UInt8).toNat : Int), .bool ok]) ∧ EsD (bts s) (i + 1) v a' ok ∧ Rd w' r s a' ∧ Chg (fun i => i = r) w5 w' := fun w5 h5 => escapedP r s (i + 1) w5 h5 (by omega) hs
              have HKE := hidden kE
              have HLL : Hid (l'.length ≤ i) := hidden hq.out.ll
              clear h1 h2 h3 hrr kE hq
              go_wp2_with fail
              go_quiet (fail)
              go_wp2_with fail
              go_quiet (fail)
              go_wp2_with fail
              refine (HKE.out _ (HS.out _).1).mono ?_
              rintro e w5 ⟨v, a', ok, rfl, hes, hr5, hc5⟩
              have HES := hidden hes
              have HR5 := hidden hr5
              have HBD5 : Hid (Lib.IsBuilder 64 5 w1.heap.size w1.heap.size (Lib.byteCells l') w5) := hidden (bd_keep (HS.out _).2.1 (hc5.mono (fun k _ e => by rw [e]; exact hrw1.out)))
              have HCH5 : Hid (Chg (fun i => i = r) w1 w5) := hidden ((HS.out _).2.2.2.trans hc5 (fun _ _ e => e))
              clear hes hr5 hc5
              have hEa := HES.out.1
              have hEb : a' ≤ s.size := by rw [size_bts]; exact HES.out.2.1
              cases ok with
              | false =>
                have hQ2 : Hid (Qd (bts s) a ⟨#[]⟩ a' false) := hidden ⟨by omega, HES.out.2.1, Nat.zero_le _, (fun h => by cases h), fun _ J p nm o => by rw [hrr2.out J p nm o]; exact HES.out.2.2.2.2 rfl J p nm o l'⟩
                clear hrr2
                go_wp2
                go_ret2
                exact ⟨_, _, _, rfl, hQ2.out, HR5.out, HC1.out.trans HCH5.out (fun _ _ e => e)⟩
              | true =>
                have hz5 : w1.heap.size ≤ w5.heap.size := HCH5.out.size
                have kW := wbP w1.heap.size w1.heap.size l' v w5 HBD5.out (by have := HLL.out; omega) hz5
                have HRU : Hid (∀ J p nm o, runM ((bts s).drop a) a (.s4 J p nm o) = runM ((bts s).drop a') a' (.qt J p nm o (l' ++ [v]))) := hidden (fun J p nm o => by rw [hrr2.out J p nm o]; exact HES.out.2.2.2.1 rfl J p nm o l')
                clear hrr2
                go_wp2_with fail
                refine kW.mono ?_
                rintro e w6 ⟨rfl, h6, hb6, -⟩
                have hr6 : Rd w6 r s a' := Blk.below HR5.out hb6 hrw1.out
                have Q6 : Hid (QS (bts s) a r s w1 w6 a' (l' ++ [v])) := hidden ⟨hr6, h6, chg_then HCH5.out hb6, by have := HLL.out; simp; omega, HRU.out⟩
                have HR6 := hidden hr6
                have HRI : Hid (rdAt r wr = i) := HRDI
                clear h6 hb6 kW hr6
                go_wp2_with fail
                refine ⟨⟨a', _, hEb, by omega, Q6⟩, ?_⟩
                rw [HR6.out.at', HRI.out]
                omega
            · rw [decide_eq_false h3] at e92
              have hrr2 : Hid (∀ J p nm o, runM ((bts s).drop a) a (.s4 J p nm o) = runM ((bts s).drop (i + 1)) (i + 1) (.qt J p nm o (l' ++ [x]))) := hidden (fun J p nm o => by rw [hrr.out J p nm o, runM_some (st' := .qt J p nm o (l' ++ [x])) (by simp [stepM, h1, h2, h3])])
              have HLL : Hid (l'.length ≤ i) := hidden hq.out.ll
              have HKW : Hid (∀ q, Calls Tryd.prog 26 #[.pointer (some ⟨w1.heap.size, 0, none⟩), .int .u8 (x.toNat : Int)] ((wr.drewN q).setCell ⟨r, 1, none⟩ (.int .i64 ((i : Int) + 1))) fun e w' => e = .returned .nilIface ∧ Lib.IsBuilder 64 5 w1.heap.size w1.heap.size (Lib.byteCells (l' ++ [x])) w' ∧ Below w1.heap.size ((wr.drewN q).setCell ⟨r, 1, none⟩ (.int .i64 ((i : Int) + 1))) w' ∧ Wr w1.heap.size ((wr.drewN q).setCell ⟨r, 1, none⟩ (.int .i64 ((i : Int) + 1))) w') := hidden (fun q => wbP w1.heap.size w1.heap.size l' x _ (HS.out q).2.1 (by have := HLL.out; omega) (HS.out q).2.2.1)
              clear h1 h2 h3 hrr hq
              go_wp2_with fail
              go_quiet (fail)
              go_wp2_with fail
              go_quiet (fail)
              go_wp2_with fail
              refine (HKW.out _).mono ?_
              rintro e w6 ⟨rfl, h6, hb6, -⟩
              have hr6 : Rd w6 r s (i + 1) := Blk.below (HS.out _).1 hb6 hrw1.out
              have Q6 : Hid (QS (bts s) a r s w1 w6 (i + 1) (l' ++ [x])) := hidden ⟨hr6, h6, chg_then (HS.out _).2.2.2 hb6, by have := HLL.out; simp; omega, hrr2.out⟩
              have HR6 := hidden hr6
              have HRI : Hid (rdAt r wr = i) := HRDI
              clear h6 hb6 hr6
              go_wp2_with fail
              refine ⟨⟨i + 1, _, by omega, by omega, Q6⟩, ?_⟩
              rw [HR6.out.at', HRI.out]
              omega
      · have hltz : ¬ (i : Int) < (s.size : Int) := by omega
        have hQ2 : Hid (Qd (bts s) a ⟨#[]⟩ i false) := hidden ⟨hai, by rw [← size_bts]; exact hi, Nat.zero_le _, (fun h => by cases h), fun _ J p nm o => by rw [hq.out.ru J p nm o, List.drop_of_length_le (by rw [← size_bts]; omega)]; rfl⟩
        go_wp2_with fail
        go_quiet (fail)
        go_wp2
        go_ret2
        exact ⟨_, _, _, rfl, hQ2.out, hq.out.rd.drewN _, HC1.out.trans (hq.out.ch.trans (Chg.drewN (fun i => i = r) wr _) (fun _ _ e => e)) (fun _ _ e => e)⟩

end Go.Proofs.YtanlgplgplncdaaDoor.L
