/-
  The program's reader: escaped, quote.
-/
import Derived.Test.YtpdffdoogobhfaaDoorPaC
namespace Go.Proofs.YtpdffdoogobhfaaDoor
open Go.RowKit
set_option linter.unusedVariables false
set_option linter.unusedSimpArgs false

/-- What the byte behind a '\' stands for. -/
def escV (x : UInt8) : Option UInt8 := if x = 92 ∨ x = 34 then some x else if x = 110 then some 10 else none
def escL (S : List UInt8) (a : Nat) : Option UInt8 := S[a]?.bind escV
def oV (o : Option UInt8) : Int := (o.map (fun x => (x.toNat : Int))).getD 0

set_option maxRecDepth 100000 in
set_option maxHeartbeats 2000000 in
theorem escapedP (r : Nat) (s : ByteArray) (a : Nat) (w : World) (h : Rd w r s a) (ha : a ≤ s.size) (hs : s.size ≤ 140737488355328) :
    Calls Tryd.prog 97 #[.pointer (some ⟨r, 0, none⟩)] w fun e w' => e = .returned (.tuple #[.int .u8 (oV (escL (bts s) a)), .bool (escL (bts s) a).isSome]) ∧ Rd w' r s a ∧ Chg (fun _ => False) w w' := by
  have c0 : w.cell? ⟨r, 0, none⟩ = some (.string s) := h.cell 0
  have c1 : w.cell? ⟨r, 1, none⟩ = some (.int .i64 (a : Int)) := h.cell 1
  have HH := hidden h
  clear h
  by_cases hend : a = s.size
  · have z : ((a : Int) == (s.size : Int)) = true := by simp; omega
    have he : Hid (escL (bts s) a = none) := by show _ = _; rw [escL, List.getElem?_eq_none (by rw [← size_bts]; omega)]; rfl
    clear hend
    rw [he.out]
    go_enter Tryd.func97, Tryd.ntmps97
    go_wp2
    go_quiet (fail)
    go_wp2
    go_ret2
    exact ⟨rfl, HH.out.drewN _, Chg.drewN (fun _ => False) w _⟩
  · have z : ((a : Int) == (s.size : Int)) = false := by simp; omega
    have hlt : a < s.size := by omega
    have hltz : (a : Int) < (s.size : Int) := by omega
    obtain ⟨x, hx, hx2, _⟩ := byte_at s hlt
    have he : Hid (escL (bts s) a = escV x) := by show _ = _; rw [escL, hx2]; rfl
    rw [he.out]
    have e92 := beq92 x
    have e34 := beq34 x
    have e110 := beq110 x
    clear hx2 he hend
    by_cases h1 : x = 92
    · subst h1
      have f1 : ((92 : UInt8).toNat : Int) = 92 := rfl
      go_enter Tryd.func97, Tryd.ntmps97
      go_wp2
      go_quiet (fail)
      go_wp2
      go_quiet (fail)
      go_wp2
      go_ret2
      exact ⟨rfl, HH.out.drewN _, Chg.drewN (fun _ => False) w _⟩
    · rw [decide_eq_false h1] at e92
      by_cases h2 : x = 34
      · subst h2
        have f1 : ((34 : UInt8).toNat : Int) = 34 := rfl
        go_enter Tryd.func97, Tryd.ntmps97
        go_wp2
        go_quiet (fail)
        go_wp2
        go_quiet (fail)
        go_wp2
        go_ret2
        exact ⟨rfl, HH.out.drewN _, Chg.drewN (fun _ => False) w _⟩
      · rw [decide_eq_false h2] at e34
        by_cases h3 : x = 110
        · rw [decide_eq_true h3] at e110
          have he : escV x = some 10 := by simp [escV, h1, h2, h3]
          rw [he]
          clear h1 h2 h3 he
          go_enter Tryd.func97, Tryd.ntmps97
          go_wp2
          go_quiet (fail)
          go_wp2
          go_quiet (fail)
          go_wp2
          go_ret2
          exact ⟨rfl, HH.out.drewN _, Chg.drewN (fun _ => False) w _⟩
        · rw [decide_eq_false h3] at e110
          have he : escV x = none := by simp [escV, h1, h2, h3]
          rw [he]
          clear h1 h2 h3 he
          go_enter Tryd.func97, Tryd.ntmps97
          go_wp2
          go_quiet (fail)
          go_wp2
          go_quiet (fail)
          go_wp2
          go_ret2
          exact ⟨rfl, HH.out.drewN _, Chg.drewN (fun _ => False) w _⟩

/-! ### what a take means -/
theorem drop_at {S : List UInt8} {a : Nat} {c : UInt8} (h : S[a]? = some c) : S.drop a = c :: S.drop (a + 1) := by
  have hl : a < S.length := (List.getElem?_eq_some_iff.1 h).1
  rw [List.drop_eq_getElem_cons hl]
  rw [List.getElem?_eq_getElem hl] at h
  injection h with h; rw [h]
theorem run_take_yes {S : List UInt8} {a : Nat} {c : UInt8} {st st' : St} (hb : Bl st) (h : tk S a c = true) (hs : step (sk S a) c st = some st') : run (S.drop a) a st = run (S.drop (tkAt S a c)) (tkAt S a c) st' := by
  have hc : S[sk S a]? = some c := of_decide_eq_true h
  rw [run_sk hb, drop_at hc, run_some hs, tkAt, if_pos h]
theorem run_take_no {S : List UInt8} {a : Nat} {c : UInt8} {st : St} (hb : Bl st) (h : tk S a c = false) (hs : ∀ i x, x ≠ 32 → x ≠ c → step i x st = none) (he : ∀ i, st.end i = .fault i) : run (S.drop a) a st = .fault (tkAt S a c) := by
  have hc : S[sk S a]? ≠ some c := of_decide_eq_false h
  rw [run_sk hb, tkAt, if_neg (by rw [h]; simp)]
  cases hx : S[sk S a]? with
  | none =>
    rw [List.drop_of_length_le (List.getElem?_eq_none_iff.1 hx), run_nil, he]
  | some x =>
    rw [drop_at hx, run_none (hs _ x (fun e => sk_next S a (by rw [hx, e])) (fun e => hc (by rw [hx, e])))]

theorem tkAt_ge (S : List UInt8) (a : Nat) (c : UInt8) : a ≤ tkAt S a c := by
  have := sk_ge S a
  unfold tkAt; split <;> omega
theorem chg_then {F : Nat → Prop} {u v w : World} (h : Chg F u v) (k : Below u.heap.size v w) : Chg F u w :=
  ⟨k.os.trans h.os, k.tape.trans h.tape, k.output.trans h.output, Nat.le_trans h.size k.size, fun i hi hF => (k.block i hi).trans (h.block i hi hF)⟩

/-- What quote answers of a text at a place: the value, or the fault's place. -/
def Qd (S : List UInt8) (a : Nat) (v : ByteArray) (a' : Nat) (ok : Bool) : Prop :=
  a' ≤ S.length ∧ v.size ≤ S.length ∧ (ok = true → ∀ J p nm, run (S.drop a) a (.s4 J p nm) = run (S.drop a') a' (.s5 (J.add ⟨oft nm, v⟩ p))) ∧ (ok = false → ∀ J p nm, run (S.drop a) a (.s4 J p nm) = .fault a') ∧ a ≤ a'

set_option maxRecDepth 100000 in
set_option maxHeartbeats 4000000 in
theorem quoteP (r : Nat) (s : ByteArray) (a : Nat) (w : World) (h : Rd w r s a) (ha : a ≤ s.size) (hs : s.size ≤ 140737488355328) :
    Calls Tryd.prog 77 #[.pointer (some ⟨r, 0, none⟩)] w fun e w' => ∃ v a' ok, e = .returned (.tuple #[.string v, .bool ok]) ∧ Qd (bts s) a v a' ok ∧ Rd w' r s a' ∧ Chg (fun i => i = r) w w' := by
  have k := takeP r s a 34 w h ha hs
  have hta : tkAt (bts s) a 34 ≤ s.size := by rw [size_bts] at ha ⊢; exact tkAt_le ha
  have hrw : r < w.heap.size := Blk.lt h
  cases hq : tk (bts s) a 34 with
  | false =>
    rw [hq] at k
    have hQ : Hid (Qd (bts s) a ⟨#[]⟩ (tkAt (bts s) a 34) false) := by
      refine ⟨by rw [← size_bts]; exact hta, Nat.zero_le _, (fun h => by cases h), fun _ J p nm => run_take_no (fun i => by simp [step]) hq (fun i x h1 h2 => by simp [step, h1, h2]) (fun i => rfl), tkAt_ge _ _ _⟩
    clear hq h
    go_enter Tryd.func77, Tryd.ntmps77
    go_wp2_with (go_at_call 60; refine k.mono ?_; rintro e w1 ⟨rfl, h1, hc1⟩)
    go_ret2
    exact ⟨_, _, _, rfl, hQ.out, h1, hc1⟩
  | true =>
    rw [hq] at k
    have hQ : Hid (∀ J p nm, run ((bts s).drop a) a (.s4 J p nm) = run ((bts s).drop (tkAt (bts s) a 34)) (tkAt (bts s) a 34) (.qt J p nm [])) := hidden (fun J p nm => run_take_yes (fun i => by simp [step]) hq (by simp [step]))
    have h1l : Hid (1 ≤ tkAt (bts s) a 34) := by show 1 ≤ _; rw [tkAt, if_pos hq]; omega
    obtain ⟨a1, ha1⟩ : ∃ a1, tkAt (bts s) a 34 = a1 := ⟨_, rfl⟩
    have hge : a ≤ a1 := by rw [← ha1]; exact tkAt_ge _ _ _
    rw [ha1] at k hta hQ h1l
    clear hq h ha1
    go_enter Tryd.func77, Tryd.ntmps77
    go_wp2_with (go_at_call 60; refine k.mono ?_; rintro e w1 ⟨rfl, h1, hc1⟩)
    have HR1 := hidden h1
    have HC1 := hidden hc1
    have hrw1 : Hid (r < w1.heap.size) := hidden (Blk.lt h1)
    clear k h1 hc1
    go_wp2
    go_loopw [] (fun wx => ∃ (i : Nat) (l' : List UInt8), i ≤ s.size ∧ a ≤ i ∧ l'.length ≤ i ∧ Hid (∀ J p nm, run ((bts s).drop a) a (.s4 J p nm) = run ((bts s).drop i) i (.qt J p nm l')) ∧ Hid (Rd wx r s i) ∧ Hid (Lib.IsBuilder 58 5 w1.heap.size w1.heap.size (Lib.byteCells l') wx) ∧ Hid (Chg (fun i => i = r) w1 wx)) (fun wx => s.size - rdAt r wx)
    case atStart =>
      have hal : Below w1.heap.size w1 (w1.alloc (.cells #[.pointer none, .slice none 0 0] 58)) := (Below.refl _ _).alloc (Nat.le_refl _) _
      exact ⟨a1, [], hta, hge, by simp, hQ, hidden (HR1.out.chg (Chg.of_below (F := fun _ => False) hal) (fun h => h)), hidden (bd_new w1), hidden (Chg.of_below hal)⟩
    case round =>
      rename World => wr
      obtain ⟨i, l', hi, hai, hl, hrel, hrd, hbd, hch⟩ := hrel
      have c0 : wr.cell? ⟨r, 0, none⟩ = some (.string s) := hrd.out.cell 0
      have c1 : wr.cell? ⟨r, 1, none⟩ = some (.int .i64 (i : Int)) := hrd.out.cell 1
      have f1 := hrd.out.frozen 1
      by_cases hlt : i < s.size
      · have hltz : (i : Int) < (s.size : Int) := by omega
        obtain ⟨x, hx, hx2, hdr⟩ := byte_at s hlt
        have hrr : Hid (∀ J p nm, run ((bts s).drop a) a (.s4 J p nm) = run (x :: (bts s).drop (i + 1)) i (.qt J p nm l')) := hidden (fun J p nm => by rw [hrel.out J p nm, hdr])
        have e92 := beq92 x
        have e34 := beq34 x
        have e10 := beq10 x
        have HS : Hid (∀ q, Rd ((wr.drewN q).setCell ⟨r, 1, none⟩ (.int .i64 ((i : Int) + 1))) r s (i + 1) ∧ Lib.IsBuilder 58 5 w1.heap.size w1.heap.size (Lib.byteCells l') ((wr.drewN q).setCell ⟨r, 1, none⟩ (.int .i64 ((i : Int) + 1))) ∧ w1.heap.size ≤ ((wr.drewN q).setCell ⟨r, 1, none⟩ (.int .i64 ((i : Int) + 1))).heap.size ∧ Chg (fun i => i = r) w1 ((wr.drewN q).setCell ⟨r, 1, none⟩ (.int .i64 ((i : Int) + 1)))) := by
          intro q
          have hcs : Chg (fun i => i = r) wr ((wr.drewN q).setCell ⟨r, 1, none⟩ (.int .i64 ((i : Int) + 1))) := (Chg.drewN (fun i => i = r) wr q).trans (Chg.set ⟨r, 1, none⟩ _ _) (fun _ _ e => e)
          refine ⟨by have := (hrd.out.drewN q).set (i + 1); simpa using this, bd_keep hbd.out (hcs.mono (fun k _ e => by rw [e]; exact hrw1.out)), Nat.le_trans hch.out.size hcs.size, hch.out.trans hcs (fun _ _ e => e)⟩
        clear hx2 hdr hrel
        by_cases h1 : x = 34
        · rw [decide_eq_true h1] at e34
          have hQ2 : Hid (Qd (bts s) a (oft l') (i + 1) true) := by
            refine ⟨by rw [← size_bts]; omega, by rw [size_bts, bts_oft, ← size_bts]; omega, (fun _ J p nm => ?_), (fun h => by cases h), by omega⟩
            rw [hrr.out J p nm, run_some (st' := .s5 (J.add ⟨oft nm, oft l'⟩ p)) (by simp [step, h1])]
          clear h1 hrr
          go_wp2
          go_quiet (fail)
          go_wp2
          go_quiet (fail)
          go_wp2_with (go_at_call 38; refine (stringP w1.heap.size w1.heap.size l' _ (HS.out _).2.1 (HS.out _).2.2.1).mono ?_; rintro e w5 ⟨rfl, hb5⟩)
          go_ret2
          exact ⟨_, _, _, rfl, hQ2.out, Blk.below ((HS.out _).1) hb5 hrw1.out, HC1.out.trans (chg_then (HS.out _).2.2.2 hb5) (fun _ _ e => e)⟩
        · rw [decide_eq_false h1] at e34
          by_cases h2 : x = 10
          · rw [decide_eq_true h2] at e10
            have hQ2 : Hid (Qd (bts s) a ⟨#[]⟩ i false) := by
              refine ⟨by rw [← size_bts]; exact hi, Nat.zero_le _, (fun h => by cases h), fun _ J p nm => ?_, by omega⟩
              rw [hrr.out J p nm, run_none (by simp [step, h1, h2])]
            clear h1 h2 hrr HS
            go_wp2
            go_quiet (fail)
            go_wp2
            go_quiet (fail)
            go_wp2
            go_ret2
            exact ⟨_, _, _, rfl, hQ2.out, hrd.out.drewN _, (HC1.out.trans hch.out (fun _ _ e => e)).trans (Chg.drewN (fun i => i = r) wr _) (fun _ _ e => e)⟩
          · rw [decide_eq_false h2] at e10
            by_cases h3 : x = 92
            · rw [decide_eq_true h3] at e92
              have hrr2 : Hid (∀ J p nm, run ((bts s).drop a) a (.s4 J p nm) = run ((bts s).drop (i + 1)) (i + 1) (.es J p nm l')) := hidden (fun J p nm => by rw [hrr.out J p nm, run_some (st' := .es J p nm l') (by simp [step, h1, h2, h3])])
              have kE : ∀ w5, Rd w5 r s (i + 1) → Calls Tryd.prog 97 #[.pointer (some ⟨r, 0, none⟩)] w5 fun e w' => e = .returned (.tuple #[.int .u8 (oV (escL (bts s) (i + 1))), .bool (escL (bts s) (i + 1)).isSome]) ∧ Rd w' r s (i + 1) ∧ Chg (fun _ => False) w5 w' := fun w5 h5 => escapedP r s (i + 1) w5 h5 (by omega) hs
              clear h1 h2 h3 hrr
              cases hE : escL (bts s) (i + 1) with
              | none =>
                rw [hE] at kE
                have hQ2 : Hid (Qd (bts s) a ⟨#[]⟩ (i + 1) false) := by
                  refine ⟨by rw [← size_bts]; omega, Nat.zero_le _, (fun h => by cases h), fun _ J p nm => ?_, by omega⟩
                  rw [hrr2.out J p nm]
                  cases hg : (bts s)[i + 1]? with
                  | none => rw [List.drop_of_length_le (List.getElem?_eq_none_iff.1 hg)]; rfl
                  | some y =>
                    rw [escL, hg] at hE
                    rw [drop_at hg, run_none]
                    have hE' : escV y = none := hE
                    unfold escV at hE'
                    split at hE'
                    · cases hE'
                    · split at hE'
                      · cases hE'
                      · rename_i g1 g2; simp [step, g2, (not_or.1 g1).1, (not_or.1 g1).2]
                clear hrr2 hE
                go_wp2
                go_quiet (fail)
                go_wp2
                go_quiet (fail)
                go_wp2_with (go_at_call 97; refine (kE _ (HS.out _).1).mono ?_; rintro e w5 ⟨rfl, hr5, hc5⟩)
                go_ret2
                exact ⟨_, _, _, rfl, hQ2.out, hr5, (HC1.out.trans ((HS.out _).2.2.2) (fun _ _ e => e)).trans hc5 (fun _ _ e => by cases e)⟩
              | some m =>
                rw [hE] at kE
                have hm2 : Hid (i + 1 < s.size ∧ ∀ J p nm, run ((bts s).drop a) a (.s4 J p nm) = run ((bts s).drop (i + 2)) (i + 2) (.qt J p nm (l' ++ [m]))) := by
                  cases hg : (bts s)[i + 1]? with
                  | none => rw [escL, hg] at hE; cases hE
                  | some y =>
                    rw [escL, hg] at hE
                    refine ⟨by have := (List.getElem?_eq_some_iff.1 hg).1; rw [← size_bts] at this; exact this, fun J p nm => ?_⟩
                    rw [hrr2.out J p nm, drop_at hg, run_some (st' := .qt J p nm (l' ++ [m]))]
                    have hE' : escV y = some m := hE
                    unfold escV at hE'
                    split at hE'
                    · rename_i g1; injection hE' with hE'; subst hE'; simp [step, g1]
                    · split at hE'
                      · rename_i g1 g2; injection hE' with hE'; subst hE'; simp [step, g2]
                      · cases hE'
                have kW : ∀ w5, Lib.IsBuilder 58 5 w1.heap.size w1.heap.size (Lib.byteCells l') w5 → w1.heap.size ≤ w5.heap.size → Calls Tryd.prog 59 #[.pointer (some ⟨w1.heap.size, 0, none⟩), .int .u8 (m.toNat : Int)] w5 fun e w' => e = .returned .nilIface ∧ Lib.IsBuilder 58 5 w1.heap.size w1.heap.size (Lib.byteCells (l' ++ [m])) w' ∧ Below w1.heap.size w5 w' ∧ Wr w1.heap.size w5 w' := fun w5 h5 hz5 => wbP w1.heap.size w1.heap.size l' m w5 h5 (by omega) hz5
                have hvm : oV (some m) = (m.toNat : Int) := rfl
                rw [hvm] at kE
                clear hrr2 hE hvm
                go_wp2
                go_quiet (fail)
                go_wp2
                go_quiet (fail)
                go_wp2_with (first
                  | (go_at_call 97; refine (kE _ (HS.out _).1).mono ?_; rintro e w5 ⟨rfl, hr5, hc5⟩; have hz5 := Nat.le_trans (HS.out _).2.2.1 hc5.size; have hb5 := bd_keep (HS.out _).2.1 (hc5.mono (fun i _ e => by cases e)))
                  | (go_at_call 59; refine (kW _ hb5 hz5).mono ?_; rintro e w6 ⟨rfl, h6, hb6, hW6⟩; have hr6 : Rd w6 r s (i + 1) := Blk.below hr5 hb6 hrw1.out; have d0 : w6.cell? ⟨r, 0, none⟩ = some (.string s) := hr6.cell 0; have d1 : w6.cell? ⟨r, 1, none⟩ = some (.int .i64 ((i + 1 : Nat) : Int)) := hr6.cell 1; have g1 := hr6.frozen 1))
                have hr7 : Rd (w6.setCell ⟨r, 1, none⟩ (.int .i64 ((i : Int) + 1 + 1))) r s (i + 2) := by have := hr6.set (i + 2); simpa [show ((i : Int) + 1 + 1) = (i : Int) + 2 by omega] using this
                have hcs : Chg (fun i => i = r) w6 (w6.setCell ⟨r, 1, none⟩ (.int .i64 ((i : Int) + 1 + 1))) := Chg.set ⟨r, 1, none⟩ _ _
                refine ⟨⟨i + 2, l' ++ [m], by have := hm2.out.1; omega, by omega, by simp; omega, hidden hm2.out.2, hr7, hidden (bd_keep h6 (hcs.mono (fun k _ e => by rw [e]; exact hrw1.out))), hidden ((chg_then (((HS.out _).2.2.2).trans hc5 (fun _ _ e => by cases e)) hb6).trans hcs (fun _ _ e => e))⟩, ?_⟩
                rw [hr7.at', hrd.out.at']
                omega
            · rw [decide_eq_false h3] at e92
              have hrr2 : Hid (∀ J p nm, run ((bts s).drop a) a (.s4 J p nm) = run ((bts s).drop (i + 1)) (i + 1) (.qt J p nm (l' ++ [x]))) := hidden (fun J p nm => by rw [hrr.out J p nm, run_some (st' := .qt J p nm (l' ++ [x])) (by simp [step, h1, h2, h3])])
              have kW : ∀ q, Calls Tryd.prog 59 #[.pointer (some ⟨w1.heap.size, 0, none⟩), .int .u8 (x.toNat : Int)] (wr.drewN q) fun e w' => e = .returned .nilIface ∧ Lib.IsBuilder 58 5 w1.heap.size w1.heap.size (Lib.byteCells (l' ++ [x])) w' ∧ Below w1.heap.size (wr.drewN q) w' ∧ Wr w1.heap.size (wr.drewN q) w' := fun q => wbP w1.heap.size w1.heap.size l' x (wr.drewN q) (bd_keep hbd.out (Chg.drewN _ wr q)) (by omega) (Nat.le_trans hch.out.size (Chg.drewN (fun _ => False) wr q).size)
              clear h1 h2 h3 hrr HS
              go_wp2
              go_quiet (fail)
              go_wp2
              go_quiet (fail)
              go_wp2_with (go_at_call 59; refine (kW _).mono ?_; rintro e w6 ⟨rfl, h6, hb6, hW6⟩; have hr6 : Rd w6 r s i := Blk.below (hrd.out.drewN _) hb6 hrw1.out; have d0 : w6.cell? ⟨r, 0, none⟩ = some (.string s) := hr6.cell 0; have d1 : w6.cell? ⟨r, 1, none⟩ = some (.int .i64 (i : Int)) := hr6.cell 1; have g1 := hr6.frozen 1)
              have hr7 : Rd (w6.setCell ⟨r, 1, none⟩ (.int .i64 ((i : Int) + 1))) r s (i + 1) := by have := hr6.set (i + 1); simpa using this
              have hcs : Chg (fun i => i = r) w6 (w6.setCell ⟨r, 1, none⟩ (.int .i64 ((i : Int) + 1))) := Chg.set ⟨r, 1, none⟩ _ _
              refine ⟨⟨i + 1, l' ++ [x], by omega, by omega, by simp; omega, hrr2, hr7, hidden (bd_keep h6 (hcs.mono (fun k _ e => by rw [e]; exact hrw1.out))), hidden ((chg_then (hch.out.trans (Chg.drewN (fun i => i = r) wr _) (fun _ _ e => e)) hb6).trans hcs (fun _ _ e => e))⟩, ?_⟩
              rw [hr7.at', hrd.out.at']
              omega
      · have hltz : ¬ (i : Int) < (s.size : Int) := by omega
        have hQ2 : Hid (Qd (bts s) a ⟨#[]⟩ i false) := by
          refine ⟨by rw [← size_bts]; exact hi, Nat.zero_le _, (fun h => by cases h), fun _ J p nm => ?_, by omega⟩
          rw [hrel.out J p nm, List.drop_of_length_le (by rw [← size_bts]; omega)]; rfl
        go_wp2
        go_quiet (fail)
        go_wp2
        go_ret2
        exact ⟨_, _, _, rfl, hQ2.out, hrd.out.drewN _, (HC1.out.trans hch.out (fun _ _ e => e)).trans (Chg.drewN (fun i => i = r) wr _) (fun _ _ e => e)⟩

end Go.Proofs.YtpdffdoogobhfaaDoor
