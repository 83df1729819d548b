/-
  The program's reader: label; what is found: refuse, add.
-/
import Derived.Test.YtpdffdoogobhfaaDoorPaD
import Derived.Test.YtpdffdoogobhfaaDoorLbT
namespace Go.Proofs.YtpdffdoogobhfaaDoor
open Go.RowKit
set_option linter.unusedVariables false
set_option linter.unusedSimpArgs false

theorem wsz_next : ∀ (f : Bool) (l : List UInt8) (c : UInt8), (l.drop (wsz f l))[0]? = some c → lead (f && decide (wsz f l = 0)) c = false
  | f, [], c, h => by simp [wsz] at h
  | f, d :: t, c, h => by
    unfold wsz at h ⊢
    split
    · rename_i hl
      rw [if_pos hl] at h
      have := wsz_next false t c (by simpa using h)
      simpa using this
    · rename_i hl
      rw [if_neg hl] at h
      simp at h; subst h
      simpa using hl
theorem wd_s3 {S : List UInt8} {b : Nat} (h : ∀ c, S[b]? = some c → lead false c = false) (J : Jd) (p : Nat) (nm : List UInt8) : run (S.drop b) b (.wd J p nm) = run (S.drop b) b (.s3 J p nm) := by
  cases hx : S[b]? with
  | none => rw [List.drop_of_length_le (List.getElem?_eq_none_iff.1 hx)]; rfl
  | some c =>
    have hl := h c hx
    rw [drop_at hx]
    by_cases h1 : c = 32
    · rw [run_some (st' := .s3 J p nm) (by simp [step, hl, h1]; decide), run_some (st := .s3 J p nm) (st' := .s3 J p nm) (by simp [step, h1])]
    · by_cases h2 : c = 61
      · rw [run_some (st' := .s4 J p nm) (by simp [step, hl, h2]; decide), run_some (st := .s3 J p nm) (st' := .s4 J p nm) (by simp [step, h2])]
      · rw [run_none (by simp [step, hl, h1, h2]), run_none (by simp [step, h1, h2])]
theorem wsz_take : ∀ (f : Bool) (l : List UInt8), wsz f (l.take (wsz f l)) = wsz f l
  | f, [] => rfl
  | f, c :: t => by
    by_cases h : lead f c = true
    · rw [show wsz f (c :: t) = wsz false t + 1 from by rw [wsz, if_pos h], List.take_succ_cons, wsz, if_pos h, wsz_take]
    · rw [show wsz f (c :: t) = 0 from by rw [wsz, if_neg h]]; rfl
/-- The word's part of a label. -/
theorem run_wordL {S : List UInt8} {a : Nat} (h32 : S[a]? ≠ some 32) (J : Jd) :
    (wordL S a = [] → run (S.drop a) a (.s2 J) = .fault a) ∧ (wordL S a ≠ [] → run (S.drop a) a (.s2 J) = run (S.drop (wordAt S a)) (wordAt S a) (.s3 J a (wordL S a))) := by
  unfold wordL wordAt
  cases hx : S[a]? with
  | none =>
    rw [List.drop_of_length_le (List.getElem?_eq_none_iff.1 hx)]
    exact ⟨fun _ => rfl, fun h => absurd rfl h⟩
  | some c =>
    have hc32 : c ≠ 32 := fun e => h32 (by rw [hx, e])
    have hd := drop_at hx
    by_cases hl : lett c = true
    · have hl' : lead true c = true := by simp [lead, hl]
      have hw : wsz true (S.drop a) = wsz false (S.drop (a + 1)) + 1 := by rw [hd, wsz, if_pos hl']
      refine ⟨fun h => ?_, fun _ => ?_⟩
      · rw [hw, hd] at h; simp at h
      · rw [hw]
        have e1 : S.drop a = c :: ((S.drop (a + 1)).take (wsz false (S.drop (a + 1))) ++ S.drop (a + (wsz false (S.drop (a + 1)) + 1))) := by
          have e3 : S.drop (a + (wsz false (S.drop (a + 1)) + 1)) = (S.drop (a + 1)).drop (wsz false (S.drop (a + 1))) := by rw [List.drop_drop]; congr 1; omega
          rw [e3, List.take_append_drop, hd]
        have hlen : ((S.drop (a + 1)).take (wsz false (S.drop (a + 1)))).length = wsz false (S.drop (a + 1)) := by
          rw [List.length_take]; have := wsz_le false (S.drop (a + 1)); omega
        have e2 : (S.drop a).take (wsz false (S.drop (a + 1)) + 1) = [c] ++ (S.drop (a + 1)).take (wsz false (S.drop (a + 1))) := by rw [hd]; rfl
        rw [← wd_s3, e2]
        · conv => lhs; rw [e1]
          rw [run_some (st' := .wd J a [c]) (by simp [step, hc32, hl]), run_word J a _ _ _ _ (by rw [wsz_take, hlen]), hlen]
          congr 1; omega
        · intro d hdd
          have := wsz_next true (S.drop a) d (by rw [List.drop_drop, List.getElem?_drop, hw]; exact hdd)
          rw [hw] at this; simpa using this
    · have hl' : lead true c = false := by simp [lead] at hl ⊢; exact hl
      have hw : wsz true (S.drop a) = 0 := by rw [hd, wsz, if_neg (by rw [hl']; simp)]
      rw [hw]
      refine ⟨fun _ => ?_, fun h => absurd rfl h⟩
      rw [hd, run_none (by simp [step, hc32]; simpa using hl)]

/-- What label answers of a text at a place. -/
def Ld (S : List UInt8) (a : Nat) (x : Lb) (a' : Nat) (ok : Bool) : Prop :=
  a' ≤ S.length ∧ x.n.size ≤ S.length ∧ x.v.size ≤ S.length ∧ (ok = true → ∀ J, run (S.drop a) a (.s2 J) = run (S.drop a') a' (.s5 (J.add x a))) ∧ (ok = false → ∀ J, run (S.drop a) a (.s2 J) = .fault a') ∧ a ≤ a'

theorem res_label (tmps : Array Value) (w : World) (g : Nat) (n v : ByteArray) (ok : Bool) (hp : tmps.getD 2 undef = .pointer (some ⟨g, 0, none⟩)) (hq : tmps.getD 3 undef = .bool ok) (h0 : w.cell? ⟨g, 0, none⟩ = some (.string n)) (h1 : w.cell? ⟨g, 1, none⟩ = some (.string v)) :
    (results Tryd.f64 tmps).run Tryd.prog w = .ok (.tuple #[.agg #[.string n, .string v], .bool ok]) w := by
  have h : Tryd.f64.results = #[.cell 2 35, .tmp 3] := by kernel_rfl
  have hp' : tmps[2]?.getD undef = .pointer (some ⟨g, 0, none⟩) := by simpa using hp
  have hq' : tmps[3]?.getD undef = .bool ok := by simpa using hq
  simp [results, h, hp', hq', asAddr, loadVar, h0, h1, go_sem]

theorem lab_chg {r : Nat} {w w0 w1 w2 : World} (h0 : Below w.heap.size w w0) (h1 : Chg (fun i => i = r) w0 w1) (h2 : Chg (fun i => i = w.heap.size) w1 w2) : Chg (fun i => i = r) w w2 := by
  have k1 : Chg (fun i => i = r ∨ i = w.heap.size) w w1 := (Chg.of_below h0).trans h1 (fun i _ e => Or.inl e)
  have k2 : Chg (fun i => i = r ∨ i = w.heap.size) w w2 := k1.trans h2 (fun i _ e => Or.inr e)
  exact k2.mono (fun i hi e => by rcases e with e | e; exact e; omega)
set_option maxRecDepth 100000 in
set_option maxHeartbeats 4000000 in
theorem labelP (r : Nat) (s : ByteArray) (a : Nat) (w : World) (h : Rd w r s a) (ha : a ≤ s.size) (hs : s.size ≤ 140737488355328) (h32 : (bts s)[a]? ≠ some 32) :
    Calls Tryd.prog 64 #[.pointer (some ⟨r, 0, none⟩)] w fun e w' => ∃ x a' ok, e = .returned (.tuple #[.agg #[.string x.n, .string x.v], .bool ok]) ∧ Ld (bts s) a x a' ok ∧ Rd w' r s a' ∧ Chg (fun i => i = r) w w' := by
  have hal : Below w.heap.size w (w.alloc (.cells #[.string ⟨#[]⟩, .string ⟨#[]⟩] 35)) := (Below.refl _ _).alloc (Nat.le_refl _) _
  have hrw : r < w.heap.size := Blk.lt h
  have k := wordP r s a (w.alloc (.cells #[.string ⟨#[]⟩, .string ⟨#[]⟩] 35)) (h.chg (Chg.of_below (F := fun _ => False) hal) (fun h => h)) ha hs
  have hB0 : Hid (Blk (w.alloc (.cells #[.string ⟨#[]⟩, .string ⟨#[]⟩] 35)) w.heap.size 35 [.string ⟨#[]⟩, .string ⟨#[]⟩]) := Blk.new w 35 _
  have hwl : wordAt (bts s) a ≤ s.size := by rw [size_bts] at ha ⊢; exact wordAt_le ha
  have hwn : Hid (∀ J, (wordL (bts s) a = [] → run ((bts s).drop a) a (.s2 J) = .fault a) ∧ (wordL (bts s) a ≠ [] → run ((bts s).drop a) a (.s2 J) = run ((bts s).drop (wordAt (bts s) a)) (wordAt (bts s) a) (.s3 J a (wordL (bts s) a)))) := hidden (fun J => run_wordL h32 J)
  have hw0 : Hid (wordL (bts s) a = [] → wordAt (bts s) a = a) := by
    intro e
    unfold wordL at e; unfold wordAt
    have := congrArg List.length e
    rw [List.length_take, List.length_nil] at this
    have h2 := wsz_le true ((bts s).drop a)
    omega
  have hws : Hid ((wordL (bts s) a).length ≤ s.size) := by
    show _ ≤ _; unfold wordL; rw [List.length_take, List.length_drop, ← size_bts]; omega
  have HAL := hidden hal
  obtain ⟨nm, hnm⟩ : ∃ nm, wordL (bts s) a = nm := ⟨_, rfl⟩
  obtain ⟨b, hb⟩ : ∃ b, wordAt (bts s) a = b := ⟨_, rfl⟩
  have hab : Hid (a ≤ b) := by show a ≤ b; rw [← hb]; unfold wordAt; omega
  rw [hnm, hb] at k hwn hw0
  rw [hnm] at hws
  rw [hb] at hwl
  have e0 := empty_bts (oft nm)
  rw [bts_oft] at e0
  clear hnm hb h hal h32
  cases hn0 : decide (nm = []) with
  | true =>
    rw [hn0] at e0
    have hn := of_decide_eq_true hn0
    have hba := hw0.out hn
    have hQ : Hid (Ld (bts s) a ⟨⟨#[]⟩, ⟨#[]⟩⟩ b false) := by
      refine ⟨by rw [← size_bts]; exact hwl, Nat.zero_le _, Nat.zero_le _, (fun h => by cases h), fun _ J => ?_, by omega⟩
      rw [(hwn.out J).1 hn, hba]
    clear hwn hw0 hn0 hn hba
    go_enter Tryd.func64, Tryd.ntmps64
    go_wp2_with (go_at_call 76; refine k.mono ?_; rintro e w1 ⟨rfl, h1, hc1⟩; have B1 := hc1.blk hB0.out (fun e => by omega); have c0 : w1.cell? ⟨w.heap.size, 0, none⟩ = some (.string ⟨#[]⟩) := B1.cell 0; have c1 : w1.cell? ⟨w.heap.size, 1, none⟩ = some (.string ⟨#[]⟩) := B1.cell 1; have f0 := B1.frozen 0; have f1 := B1.frozen 1)
    have hcs : Chg (fun i => i = w.heap.size) w1 ((w1.setCell ⟨w.heap.size, 0, none⟩ (.string ⟨#[]⟩)).setCell ⟨w.heap.size, 1, none⟩ (.string ⟨#[]⟩)) := (Chg.set ⟨w.heap.size, 0, none⟩ _ w1).trans (Chg.set ⟨w.heap.size, 1, none⟩ _ _) (fun _ _ e => e)
    have hB2 := (B1.set 0 (.string ⟨#[]⟩)).set 1 (.string ⟨#[]⟩)
    refine bodyPost_ret (res_label _ _ w.heap.size ⟨#[]⟩ ⟨#[]⟩ false rfl rfl (hB2.cell 0) (hB2.cell 1)) rfl ?_
    refine ⟨⟨⟨#[]⟩, ⟨#[]⟩⟩, b, false, rfl, hQ.out, h1.chg hcs (fun e => by omega), ?_⟩
    exact lab_chg HAL.out hc1 hcs
  | false =>
    rw [hn0] at e0
    have hn := of_decide_eq_false hn0
    have hrs : Hid (∀ J, run ((bts s).drop a) a (.s2 J) = run ((bts s).drop b) b (.s3 J a nm)) := hidden (fun J => (hwn.out J).2 hn)
    clear hwn hw0 hn0 hn
    have kT : ∀ w1, Rd w1 r s b → Calls Tryd.prog 60 #[.pointer (some ⟨r, 0, none⟩), .int .u8 61] w1 fun e w' => e = .returned (.bool (tk (bts s) b 61)) ∧ Rd w' r s (tkAt (bts s) b 61) ∧ Chg (fun i => i = r) w1 w' := fun w1 h1 => takeP r s b 61 w1 h1 hwl hs
    have hta : tkAt (bts s) b 61 ≤ s.size := by rw [size_bts] at hwl ⊢; exact tkAt_le hwl
    cases hq : tk (bts s) b 61 with
    | false =>
      rw [hq] at kT
      have hQ : Hid (Ld (bts s) a ⟨⟨#[]⟩, ⟨#[]⟩⟩ (tkAt (bts s) b 61) false) := by
        refine ⟨by rw [← size_bts]; exact hta, Nat.zero_le _, Nat.zero_le _, (fun h => by cases h), fun _ J => ?_, by have := hab.out; have := tkAt_ge (bts s) b 61; omega⟩
        rw [hrs.out J]
        exact run_take_no (fun i => by simp [step]) hq (fun i x h1 h2 => by simp [step, h1, h2]) (fun i => rfl)
      clear hrs hq
      go_enter Tryd.func64, Tryd.ntmps64
      go_wp2_with (first
        | (go_at_call 76; refine k.mono ?_; rintro e w1 ⟨rfl, h1, hc1⟩)
        | (go_at_call 60; refine (kT _ h1).mono ?_; rintro e w2 ⟨rfl, h2, hc2⟩; have B1 := hc2.blk (hc1.blk hB0.out (fun e => by omega)) (fun e => by omega); have c0 : w2.cell? ⟨w.heap.size, 0, none⟩ = some (.string ⟨#[]⟩) := B1.cell 0; have c1 : w2.cell? ⟨w.heap.size, 1, none⟩ = some (.string ⟨#[]⟩) := B1.cell 1; have f0 := B1.frozen 0; have f1 := B1.frozen 1))
      have hcs : Chg (fun i => i = w.heap.size) w2 ((w2.setCell ⟨w.heap.size, 0, none⟩ (.string ⟨#[]⟩)).setCell ⟨w.heap.size, 1, none⟩ (.string ⟨#[]⟩)) := (Chg.set ⟨w.heap.size, 0, none⟩ _ w2).trans (Chg.set ⟨w.heap.size, 1, none⟩ _ _) (fun _ _ e => e)
      have hB2 := (B1.set 0 (.string ⟨#[]⟩)).set 1 (.string ⟨#[]⟩)
      refine bodyPost_ret (res_label _ _ w.heap.size ⟨#[]⟩ ⟨#[]⟩ false rfl rfl (hB2.cell 0) (hB2.cell 1)) rfl ?_
      refine ⟨⟨⟨#[]⟩, ⟨#[]⟩⟩, _, false, rfl, hQ.out, h2.chg hcs (fun e => by omega), ?_⟩
      exact lab_chg HAL.out (hc1.trans hc2 (fun _ _ e => e)) hcs
    | true =>
      rw [hq] at kT
      have hrs2 : Hid (∀ J, run ((bts s).drop a) a (.s2 J) = run ((bts s).drop (tkAt (bts s) b 61)) (tkAt (bts s) b 61) (.s4 J a nm)) := hidden (fun J => by rw [hrs.out J]; exact run_take_yes (fun i => by simp [step]) hq (by simp [step]))
      obtain ⟨d, hd⟩ : ∃ d, tkAt (bts s) b 61 = d := ⟨_, rfl⟩
      have hdb : Hid (b ≤ d) := by show b ≤ d; rw [← hd]; exact tkAt_ge _ _ _
      rw [hd] at kT hta hrs2
      have kQ : ∀ w2, Rd w2 r s d → Calls Tryd.prog 77 #[.pointer (some ⟨r, 0, none⟩)] w2 fun e w' => ∃ v a' ok, e = .returned (.tuple #[.string v, .bool ok]) ∧ Qd (bts s) d v a' ok ∧ Rd w' r s a' ∧ Chg (fun i => i = r) w2 w' := fun w2 h2 => quoteP r s d w2 h2 hta hs
      clear hrs hq hd
      go_enter Tryd.func64, Tryd.ntmps64
      go_wp2_with (first
        | (go_at_call 76; refine k.mono ?_; rintro e w1 ⟨rfl, h1, hc1⟩)
        | (go_at_call 60; refine (kT _ h1).mono ?_; rintro e w2 ⟨rfl, h2, hc2⟩)
        | (go_at_call 77; refine (kQ _ h2).mono ?_; rintro e w3 ⟨v, a', ok, rfl, hQd, h3, hc3⟩; have B1 := hc3.blk (hc2.blk (hc1.blk hB0.out (fun e => by omega)) (fun e => by omega)) (fun e => by omega); have c0 : w3.cell? ⟨w.heap.size, 0, none⟩ = some (.string ⟨#[]⟩) := B1.cell 0; have c1 : w3.cell? ⟨w.heap.size, 1, none⟩ = some (.string ⟨#[]⟩) := B1.cell 1; have f0 := B1.frozen 0; have f1 := B1.frozen 1))
      have hcs : Chg (fun i => i = w.heap.size) w3 ((w3.setCell ⟨w.heap.size, 0, none⟩ (.string (oft nm))).setCell ⟨w.heap.size, 1, none⟩ (.string v)) := (Chg.set ⟨w.heap.size, 0, none⟩ _ w3).trans (Chg.set ⟨w.heap.size, 1, none⟩ _ _) (fun _ _ e => e)
      have hB2 := (B1.set 0 (.string (oft nm))).set 1 (.string v)
      refine bodyPost_ret (res_label _ _ w.heap.size (oft nm) v ok rfl rfl (hB2.cell 0) (hB2.cell 1)) rfl ?_
      refine ⟨⟨oft nm, v⟩, a', ok, rfl, ?_, h3.chg hcs (fun e => by omega), lab_chg HAL.out ((hc1.trans hc2 (fun _ _ e => e)).trans hc3 (fun _ _ e => e)) hcs⟩
      refine ⟨hQd.1, by show (oft nm).size ≤ _; rw [size_bts, bts_oft, ← size_bts]; exact hws.out, hQd.2.1, fun h J => ?_, fun h J => ?_, by have := hab.out; have := hdb.out; have := hQd.2.2.2.2; omega⟩
      · rw [hrs2.out J]; exact hQd.2.2.1 h J a nm
      · rw [hrs2.out J]; exact hQd.2.2.2.1 h J a nm

end Go.Proofs.YtpdffdoogobhfaaDoor
