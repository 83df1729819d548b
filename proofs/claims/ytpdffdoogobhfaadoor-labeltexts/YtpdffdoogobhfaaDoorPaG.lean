/-
  The program's reader: a set.
-/
import Derived.Test.YtpdffdoogobhfaaDoorPaF
namespace Go.Proofs.YtpdffdoogobhfaaDoor
open Go.RowKit
set_option linter.unusedVariables false
set_option linter.unusedSimpArgs false

theorem tkAt_no {S : List UInt8} {a : Nat} {c : UInt8} (h : tk S a c = false) : tkAt S a c = sk S a := by rw [tkAt, if_neg (by rw [h]; simp)]
theorem tkAt_yes {S : List UInt8} {a : Nat} {c : UInt8} (h : tk S a c = true) : tkAt S a c = sk S a + 1 := by rw [tkAt, if_pos h]
theorem run_s6_end (S : List UInt8) (a : Nat) (J : Jd) : run (S.drop a) a (.s6 J) = if sk S a = S.length then .done J else if S.length < sk S a then .done J else .fault (sk S a) := by
  rw [run_sk (fun i => by simp [step])]
  by_cases h : S.length ≤ sk S a
  · rw [List.drop_of_length_le h, run_nil]
    by_cases h2 : sk S a = S.length
    · rw [if_pos h2]; rfl
    · rw [if_neg h2, if_pos (by omega)]; rfl
  · rw [if_neg (by omega), if_neg (by omega)]
    have hx : S[sk S a]? = some (S[sk S a]'(by omega)) := by simp
    rw [drop_at hx, run_none (by
      have := sk_next S a
      rw [hx] at this
      have h3 : S[sk S a]'(by omega) ≠ 32 := fun e => this (by rw [e])
      simp [step, h3])]
theorem run_s1_no {S : List UInt8} {a : Nat} (h : tk S a 125 = false) : run (S.drop a) a .s1 = run (S.drop (sk S a)) (sk S a) (.s2 ⟨[], none⟩) := by
  rw [run_sk (fun i => by simp [step])]
  cases hx : S[sk S a]? with
  | none => rw [List.drop_of_length_le (List.getElem?_eq_none_iff.1 hx)]; rfl
  | some c =>
    have h1 : c ≠ 32 := fun e => sk_next S a (by rw [hx, e])
    have h2 : c ≠ 125 := fun e => of_decide_eq_false h (by rw [hx, e])
    rw [drop_at hx]
    by_cases hl : lett c = true
    · rw [run_some (st' := .wd ⟨[], none⟩ (sk S a) [c]) (by simp [step, h1, h2, hl]), run_some (st' := .wd ⟨[], none⟩ (sk S a) [c]) (by simp [step, h1, hl])]
    · rw [run_none (by simp [step, h1, h2, hl]), run_none (by simp [step, h1, hl])]
theorem run_s5_comma {S : List UInt8} {a : Nat} (J : Jd) (h : tk S a 125 = false) (h2 : tk S (sk S a) 44 = true) : run (S.drop a) a (.s5 J) = run (S.drop (tkAt S (sk S a) 44)) (tkAt S (sk S a) 44) (.s2 J) := by
  rw [run_sk (fun i => by simp [step])]
  exact run_take_yes (fun i => by simp [step]) h2 (by simp [step])
theorem run_s5_no {S : List UInt8} {a : Nat} (J : Jd) (h : tk S a 125 = false) (h2 : tk S (sk S a) 44 = false) : run (S.drop a) a (.s5 J) = .fault (tkAt S (sk S a) 44) := by
  rw [run_sk (fun i => by simp [step]), tkAt_no h2, sk_sk]
  cases hx : S[sk S a]? with
  | none => rw [List.drop_of_length_le (List.getElem?_eq_none_iff.1 hx)]; rfl
  | some c =>
    have h1 : c ≠ 32 := fun e => sk_next S a (by rw [hx, e])
    have h3 : c ≠ 125 := fun e => of_decide_eq_false h (by rw [hx, e])
    have h4 : c ≠ 44 := fun e => of_decide_eq_false h2 (by rw [sk_sk, hx, e])
    rw [drop_at hx, run_none (by simp [step, h1, h3, h4])]

/-- What a text's set is. -/
def Sd (S : List UInt8) (J : Jd) (a' : Nat) (ok : Bool) : Prop := a' ≤ S.length ∧ (ok = true → run S 0 .s0 = .done J) ∧ (ok = false → run S 0 .s0 = .fault a')

theorem res_set (tmps : Array Value) (w : World) (g : Nat) (v : Value) (b : Bool) (p : Int) (ok : Bool) (hp : tmps.getD 2 undef = .pointer (some ⟨g, 0, none⟩)) (hq : tmps.getD 3 undef = .bool ok) (h0 : w.cell? ⟨g, 0, none⟩ = some v) (h1 : w.cell? ⟨g, 1, none⟩ = some (.bool b)) (h2 : w.cell? ⟨g, 2, none⟩ = some (.int .i64 p)) :
    (results Tryd.f48 tmps).run Tryd.prog w = .ok (.tuple #[.agg #[v, .bool b, .int .i64 p], .bool ok]) w := by
  have h : Tryd.f48.results = #[.cell 2 78, .tmp 3] := by kernel_rfl
  have hp' : tmps[2]?.getD undef = .pointer (some ⟨g, 0, none⟩) := by simpa using hp
  have hq' : tmps[3]?.getD undef = .bool ok := by simpa using hq
  simp [results, h, hp', hq', asAddr, loadVar, h0, h1, h2, go_sem]

/-- The reader, what is found, the result's cell: all that a set's walk holds. -/
structure SI (w0 w : World) (r : Nat) (s : ByteArray) (i : Nat) (J : Jd) (v : Value) : Prop where
  rd : Rd w r s i
  fd : Fd w w0.heap.size (w0.heap.size + 1) J v
  r2 : Blk w w0.heap.size 78 [.slice none 0 0, .bool false, .int .i64 0]
  ch : Chg (fun k => k = r) w0 w
  lt : r < w0.heap.size
  le : i ≤ s.size
theorem SI.size {w0 w : World} {r : Nat} {s : ByteArray} {i : Nat} {J : Jd} {v : Value} (h : SI w0 w r s i J v) : w0.heap.size ≤ w.heap.size := h.ch.size
theorem SI.moved {w0 w w' : World} {r : Nat} {s : ByteArray} {i j : Nat} {J : Jd} {v : Value} (h : SI w0 w r s i J v) (hr : Rd w' r s j) (hc : Chg (fun k => k = r) w w') (hj : j ≤ s.size) : SI w0 w' r s j J v := by
  have := h.lt
  refine ⟨hr, h.fd.chg hc (by omega) (fun g hg e => ?_), hc.blk h.r2 (by omega), h.ch.trans hc (fun _ _ e => e), h.lt, hj⟩
  have e' : g = r := e
  have := (h.fd.own.lt g hg).1
  omega
theorem SI.later {w0 w w' : World} {r : Nat} {s : ByteArray} {i : Nat} {J : Jd} {v : Value} (h : SI w0 w r s i J v) (hc : Below w.heap.size w w') : SI w0 w' r s i J v :=
  ⟨h.rd.chg (Chg.of_below (F := fun _ => False) hc) (fun h => h), h.fd.later hc, h.r2.later hc, h.ch.trans (Chg.of_below (F := fun _ => False) hc) (fun _ _ e => by cases e), h.lt, h.le⟩
theorem SI.added {w0 w w' : World} {r : Nat} {s : ByteArray} {i : Nat} {J J' : Jd} {v v' : Value} (h : SI w0 w r s i J v) (hf : Fd w' w0.heap.size (w0.heap.size + 1) J' v') (hc : Ad w0.heap.size (w0.heap.size + 1) w w') : SI w0 w' r s i J' v' := by
  have := h.lt
  refine ⟨hc.blk h.rd (by omega) (by decide), hf, hc.blk h.r2 (by omega) (by decide), h.ch.trans hc (fun k hk e => ?_), h.lt, h.le⟩
  rcases e with e | ⟨e, _⟩ <;> omega
/-- The result is laid down: what is found, in its cell. -/
theorem SI.ret {w0 w : World} {r : Nat} {s : ByteArray} {i : Nat} {J : Jd} {v : Value} (h : SI w0 w r s i J v) {w' : World} (hw : w' = ((w.setCell ⟨w0.heap.size, 0, none⟩ v).setCell ⟨w0.heap.size, 1, none⟩ (.bool J.bad.isSome)).setCell ⟨w0.heap.size, 2, none⟩ (.int .i64 ((J.bad.getD 0 : Nat) : Int))) :
    Blk w' w0.heap.size 78 [v, .bool J.bad.isSome, .int .i64 ((J.bad.getD 0 : Nat) : Int)] ∧ Rd w' r s i ∧ w'.ownsRow w0.heap.size 35 2 v J.ls.length (cL J.ls) ∧ Chg (fun k => k = r) w0 w' := by
  have hlt := h.lt
  have hc : Chg (fun k => k = w0.heap.size) w w' := by
    rw [hw]
    exact ((Chg.set ⟨w0.heap.size, 0, none⟩ _ _).trans (Chg.set ⟨w0.heap.size, 1, none⟩ _ _) (fun _ _ e => e)).trans (Chg.set ⟨w0.heap.size, 2, none⟩ _ _) (fun _ _ e => e)
  refine ⟨by rw [hw]; exact ((h.r2.set 0 v).set 1 _).set 2 _, hc.blk h.rd (by omega), hc.owns h.fd.own (fun g hg e => ?_), h.ch.trans hc (fun k hk e => by omega)⟩
  have e' : g = w0.heap.size := e
  rw [e'] at hg
  exact absurd ((owns_tg h.fd.own _ hg).one h.r2.tg) (by decide)

def SetR (w0 : World) (r : Nat) (s : ByteArray) (e : Ending) (w' : World) : Prop :=
  ∃ J v a' ok, e = .returned (.tuple #[.agg #[v, .bool J.bad.isSome, .int .i64 ((J.bad.getD 0 : Nat) : Int)], .bool ok]) ∧ Sd (bts s) J a' ok ∧ Rd w' r s a' ∧ w'.ownsRow w0.heap.size 35 2 v J.ls.length (cL J.ls) ∧ Szs J.ls ∧ J.gd ∧ Chg (fun k => k = r) w0 w'
theorem SI.fin {w0 w : World} {r : Nat} {s : ByteArray} {i : Nat} {J : Jd} {v : Value} {ok : Bool} (h : SI w0 w r s i J v) {w' : World} (hw : w' = ((w.setCell ⟨w0.heap.size, 0, none⟩ v).setCell ⟨w0.heap.size, 1, none⟩ (.bool J.bad.isSome)).setCell ⟨w0.heap.size, 2, none⟩ (.int .i64 ((J.bad.getD 0 : Nat) : Int)))
    (hsd : Sd (bts s) J i ok) {a : Act} (hd : a.defers = []) (hp : a.tmps.getD 2 undef = .pointer (some ⟨w0.heap.size, 0, none⟩)) (hq : a.tmps.getD 3 undef = .bool ok) : bodyPost Tryd.prog Tryd.f48 (SetR w0 r s) .ret a w' := by
  obtain ⟨hB, hr, ho, hc⟩ := h.ret hw
  exact bodyPost_ret (res_set _ _ w0.heap.size v _ _ ok hp hq (hB.cell 0) (hB.cell 1) (hB.cell 2)) hd ⟨J, v, i, ok, rfl, hsd, hr, ho, h.fd.sz, h.fd.gd, hc⟩

set_option maxRecDepth 100000 in
set_option maxHeartbeats 8000000 in
theorem setP (B0 r : Nat) (s : ByteArray) (w : World) (h : Rd w r s 0) (hs : s.size ≤ 140737488355328) (hT : Tb B0 w) (hrB : B0 ≤ r) :
    Calls Tryd.prog 48 #[.pointer (some ⟨r, 0, none⟩)] w fun e w' => SetR w r s e w' := by
  obtain ⟨wb, hwb⟩ : ∃ wb, (w.alloc (.cells #[.slice none 0 0, .bool false, .int .i64 0] 78)).alloc (.cells #[.slice none 0 0, .bool false, .int .i64 0] 78) = wb := ⟨_, rfl⟩
  obtain ⟨w2, hw2, b1, b2, hbl, hsz⟩ := two_new w 78 78 [.slice none 0 0, .bool false, .int .i64 0] [.slice none 0 0, .bool false, .int .i64 0]
  obtain rfl : w2 = wb := hw2.symm.trans hwb
  have H0 : Hid (SI w w2 r s 0 ⟨[], none⟩ (.slice none 0 0)) := by
    refine ⟨h.chg (Chg.of_below (F := fun _ => False) hbl) (fun h => h), ⟨b2, World.ownsRow_nil _ _ _ _, (fun x hx => by cases hx), gd_nil⟩, b1, Chg.of_below hbl, Blk.lt h, Nat.zero_le _⟩
  have HTW := hidden hT
  clear h hT b1 b2 hbl hsz hw2
  have HT4 : ∀ {wx : World} {i : Nat} {J : Jd} {v : Value}, SI w wx r s i J v → Tb B0 wx := fun {wx i J v} h => HTW.out.chg h.ch (fun k e => by rw [e]; exact hrB)
  have k1 : Calls Tryd.prog 60 #[.pointer (some ⟨r, 0, none⟩), .int .u8 123] w2 fun e w' => e = .returned (.bool (tk (bts s) 0 123)) ∧ Rd w' r s (tkAt (bts s) 0 123) ∧ Chg (fun i => i = r) w2 w' := takeP r s 0 123 w2 H0.out.rd (Nat.zero_le _) hs
  have hle1 : tkAt (bts s) 0 123 ≤ s.size := by rw [size_bts]; exact tkAt_le (Nat.zero_le _)
  cases hq : tk (bts s) 0 123 with
  | false =>
    rw [hq] at k1
    have hsd : Hid (Sd (bts s) ⟨[], none⟩ (tkAt (bts s) 0 123) false) := hidden ⟨by rw [← size_bts]; exact hle1, (fun h => by cases h), fun _ => run_take_no (S := bts s) (a := 0) (st := .s0) (fun i => by simp [step]) hq (fun i x h1 h2 => by simp [step, h1, h2]) (fun i => rfl)⟩
    clear hq
    go_enter Tryd.func48, Tryd.ntmps48
    go_wp2_with (go_at_call 60; refine k1.mono ?_; rintro e w3 ⟨rfl, h3, hc3⟩; have s3 := H0.out.moved h3 hc3 hle1; have f30 : w3.cell? ⟨w.heap.size + 1, 0, none⟩ = some (.slice none 0 0) := s3.fd.blk.cell 0; have f31 : w3.cell? ⟨w.heap.size + 1, 1, none⟩ = some (.bool (⟨[], none⟩ : Jd).bad.isSome) := s3.fd.blk.cell 1; have f32 : w3.cell? ⟨w.heap.size + 1, 2, none⟩ = some (.int .i64 (((⟨[], none⟩ : Jd).bad.getD 0 : Nat) : Int)) := s3.fd.blk.cell 2; have r30 : w3.cell? ⟨w.heap.size, 0, none⟩ = some (.slice none 0 0) := s3.r2.cell 0; have r31 : w3.cell? ⟨w.heap.size, 1, none⟩ = some (.bool false) := s3.r2.cell 1; have r32 : w3.cell? ⟨w.heap.size, 2, none⟩ = some (.int .i64 0) := s3.r2.cell 2; have z30 := s3.r2.frozen 0; have z31 := s3.r2.frozen 1; have z32 := s3.r2.frozen 2)
    exact s3.fin rfl hsd.out rfl rfl rfl
  | true =>
    rw [hq] at k1
    have hrun1 : Hid (run (bts s) 0 .s0 = run ((bts s).drop (tkAt (bts s) 0 123)) (tkAt (bts s) 0 123) .s1) := hidden (run_take_yes (S := bts s) (a := 0) (st := .s0) (fun i => by simp [step]) hq (by simp [step]))
    obtain ⟨a1, ha1⟩ : ∃ a1, tkAt (bts s) 0 123 = a1 := ⟨_, rfl⟩
    rw [ha1] at k1 hle1 hrun1
    clear hq ha1
    have k2 : ∀ w3, Rd w3 r s a1 → Calls Tryd.prog 60 #[.pointer (some ⟨r, 0, none⟩), .int .u8 125] w3 fun e w' => e = .returned (.bool (tk (bts s) a1 125)) ∧ Rd w' r s (tkAt (bts s) a1 125) ∧ Chg (fun i => i = r) w3 w' := fun w3 h3 => takeP r s a1 125 w3 h3 hle1 hs
    have hle2 : tkAt (bts s) a1 125 ≤ s.size := by rw [size_bts] at hle1 ⊢; exact tkAt_le hle1
    cases hq : tk (bts s) a1 125 with
    | true =>
      rw [hq] at k2
      have hat := tkAt_yes hq
      have hrun2 : Hid (run (bts s) 0 .s0 = run ((bts s).drop (tkAt (bts s) a1 125)) (tkAt (bts s) a1 125) (.s6 ⟨[], some (sk (bts s) a1)⟩)) := hidden (by rw [hrun1.out]; exact run_take_yes (fun i => by simp [step]) hq (by simp [step]))
      obtain ⟨b, hb⟩ : ∃ b, sk (bts s) a1 = b := ⟨_, rfl⟩
      rw [hb] at hat hrun2
      rw [hat] at k2 hle2 hrun2
      clear hq hat hrun1 hb
      have kE : ∀ w4, Rd w4 r s (b + 1) → Calls Tryd.prog 62 #[.pointer (some ⟨r, 0, none⟩)] w4 fun e w' => e = .returned (.bool (decide (sk (bts s) (b + 1) = s.size))) ∧ Rd w' r s (sk (bts s) (b + 1)) ∧ Chg (fun i => i = r) w4 w' := fun w4 h4 => atEndP r s (b + 1) w4 h4 hle2 hs
      have hle3 : sk (bts s) (b + 1) ≤ s.size := by rw [size_bts] at hle2 ⊢; exact sk_le hle2
      have hsd : Hid (Sd (bts s) ⟨[], some b⟩ (sk (bts s) (b + 1)) (decide (sk (bts s) (b + 1) = s.size))) := by
        refine ⟨by rw [← size_bts]; exact hle3, fun h => ?_, fun h => ?_⟩
        · rw [hrun2.out, run_s6_end, if_pos (by rw [← size_bts]; exact of_decide_eq_true h)]
        · rw [hrun2.out, run_s6_end, if_neg (by rw [← size_bts]; exact of_decide_eq_false h), if_neg (by rw [← size_bts]; omega)]
      obtain ⟨b2, hb2⟩ : ∃ b2, sk (bts s) (b + 1) = b2 := ⟨_, rfl⟩
      rw [hb2] at kE hle3 hsd
      obtain ⟨ok, hok⟩ : ∃ ok, decide (b2 = s.size) = ok := ⟨_, rfl⟩
      rw [hok] at kE hsd
      clear hrun2 hb2 hok
      have zb : ((b + 1 : Nat) : Int) - 1 = (b : Int) := by omega
      go_enter Tryd.func48, Tryd.ntmps48
      go_wp2_with (first
        | (go_at_call 60; refine k1.mono ?_; rintro e w3 ⟨rfl, h3, hc3⟩; have s3 := H0.out.moved h3 hc3 hle1; clear k1)
        | (go_at_call 60; refine (k2 _ h3).mono ?_; rintro e w4 ⟨rfl, h4, hc4⟩; have s4 := s3.moved h4 hc4 hle2; have c4 : w4.cell? ⟨r, 1, none⟩ = some (.int .i64 ((b + 1 : Nat) : Int)) := h4.cell 1)
        | (go_at_call 61; refine (refuseP w.heap.size (w.heap.size + 1) ⟨[], none⟩ (.slice none 0 0) b w4 s4.fd rfl).mono ?_; rintro e w5 ⟨rfl, h5, hc5⟩; have s5 := s4.added h5 (hc5.mono (fun i _ e => Or.inl e)); have f50 : w5.cell? ⟨w.heap.size + 1, 0, none⟩ = some (.slice none 0 0) := s5.fd.blk.cell 0; have f51 : w5.cell? ⟨w.heap.size + 1, 1, none⟩ = some (.bool (⟨[], some b⟩ : Jd).bad.isSome) := s5.fd.blk.cell 1; have f52 : w5.cell? ⟨w.heap.size + 1, 2, none⟩ = some (.int .i64 (((⟨[], some b⟩ : Jd).bad.getD 0 : Nat) : Int)) := s5.fd.blk.cell 2; have r50 : w5.cell? ⟨w.heap.size, 0, none⟩ = some (.slice none 0 0) := s5.r2.cell 0; have r51 : w5.cell? ⟨w.heap.size, 1, none⟩ = some (.bool false) := s5.r2.cell 1; have r52 : w5.cell? ⟨w.heap.size, 2, none⟩ = some (.int .i64 0) := s5.r2.cell 2; have z50 := s5.r2.frozen 0; have z51 := s5.r2.frozen 1; have z52 := s5.r2.frozen 2))
      have s5d := s5.later ((Below.refl _ _).drew)
      go_region_with (refine (kE _ s5d.rd).mono ?_; rintro e w6 ⟨rfl, h6, hc6⟩; have s6 := s5d.moved h6 hc6 hle3; have f60 : w6.cell? ⟨w.heap.size + 1, 0, none⟩ = some (.slice none 0 0) := s6.fd.blk.cell 0; have f61 : w6.cell? ⟨w.heap.size + 1, 1, none⟩ = some (.bool (⟨[], some b⟩ : Jd).bad.isSome) := s6.fd.blk.cell 1; have f62 : w6.cell? ⟨w.heap.size + 1, 2, none⟩ = some (.int .i64 (((⟨[], some b⟩ : Jd).bad.getD 0 : Nat) : Int)) := s6.fd.blk.cell 2; have r60 : w6.cell? ⟨w.heap.size, 0, none⟩ = some (.slice none 0 0) := s6.r2.cell 0; have r61 : w6.cell? ⟨w.heap.size, 1, none⟩ = some (.bool false) := s6.r2.cell 1; have r62 : w6.cell? ⟨w.heap.size, 2, none⟩ = some (.int .i64 0) := s6.r2.cell 2; have z60 := s6.r2.frozen 0; have z61 := s6.r2.frozen 1; have z62 := s6.r2.frozen 2)
      all_goals
        go_wp2_with fail
        exact s6.fin rfl hsd.out rfl rfl rfl
    | false =>
      rw [hq] at k2
      have hat := tkAt_no hq
      have hrun2 : Hid (run (bts s) 0 .s0 = run ((bts s).drop (sk (bts s) a1)) (sk (bts s) a1) (.s2 ⟨[], none⟩)) := hidden (by rw [hrun1.out]; exact run_s1_no hq)
      rw [hat] at k2 hle2
      obtain ⟨b, hb⟩ : ∃ b, sk (bts s) a1 = b := ⟨_, rfl⟩
      rw [hb] at k2 hle2 hrun2
      clear hq hat hrun1 hb
      go_enter Tryd.func48, Tryd.ntmps48
      go_wp2_with (first
        | (go_at_call 60; refine k1.mono ?_; rintro e w3 ⟨rfl, h3, hc3⟩; have s3 := H0.out.moved h3 hc3 hle1; clear k1)
        | (go_at_call 60; refine (k2 _ h3).mono ?_; rintro e w4 ⟨rfl, h4, hc4⟩; have S4 := hidden (s3.moved h4 hc4 hle2); clear k2 s3 h3 h4 hc3 hc4))
      go_loopw [] (fun wx => ∃ (i : Nat) (J : Jd) (v : Value), Hid (SI w wx r s i J v) ∧ Hid (run (bts s) 0 .s0 = run ((bts s).drop i) i (.s2 J)) ∧ Hid (Tb B0 wx)) (fun wx => s.size - rdAt r wx)
      case atStart => exact ⟨b, ⟨[], none⟩, .slice none 0 0, S4, hrun2, hidden (HT4 S4.out)⟩
      case round =>
        rename World => wr
        obtain ⟨i, J, v, hsi, hrun, htb⟩ := hrel
        obtain ⟨va, vc, rfl, _⟩ := owns_formL hsi.out.fd.own
        have kS := skipBlanksP r s i wr hsi.out.rd hsi.out.le hs
        have hlp : sk (bts s) i ≤ s.size := by have := hsi.out.le; rw [size_bts] at this ⊢; exact sk_le this
        have hrunp : Hid (run (bts s) 0 .s0 = run ((bts s).drop (sk (bts s) i)) (sk (bts s) i) (.s2 J)) := hidden (by rw [hrun.out]; exact run_sk (fun k => by simp [step]) _ _)
        have h32 := sk_next (bts s) i
        have hip : Hid (i ≤ sk (bts s) i) := hidden (sk_ge _ _)
        obtain ⟨p, hp⟩ : ∃ p, sk (bts s) i = p := ⟨_, rfl⟩
        rw [hp] at kS hlp hrunp h32 hip
        have kL : ∀ w5, Rd w5 r s p → Calls Tryd.prog 64 #[.pointer (some ⟨r, 0, none⟩)] w5 fun e w' => ∃ x a' ok, e = .returned (.tuple #[.agg #[.string x.n, .string x.v], .bool ok]) ∧ Ld (bts s) p x a' ok ∧ Rd w' r s a' ∧ Chg (fun i => i = r) w5 w' := fun w5 h5 => labelP r s p w5 h5 hlp hs h32
        clear hp hrun h32
        go_wp2_with (first
          | (go_at_call 63; refine kS.mono ?_; rintro e w5 ⟨rfl, h5, hc5⟩; have S5 := hidden (hsi.out.moved h5 hc5 hlp); have c5 : w5.cell? ⟨r, 1, none⟩ = some (.int .i64 (p : Int)) := h5.cell 1)
          | (go_at_call 64; refine (kL _ h5).mono ?_))
        intro e w6 hX
        obtain ⟨x, a', ok, rfl, hLd, h6, hc6⟩ := hX
        have hla : a' ≤ s.size := by rw [size_bts]; exact hLd.1
        have S6 := hidden ((S5.out.moved h6 hc6 hla).later ((Below.refl _ _).alloc (Nat.le_refl _) (.cells #[.string x.n, .string x.v] 35)))
        have HLD := hidden hLd
        clear kS kL h5 hc5 h6 hc6 hLd c5 S5
        obtain ⟨wa, hwa⟩ : ∃ wa, w6.alloc (.cells #[.string x.n, .string x.v] 35) = wa := ⟨_, rfl⟩
        have HOB : Hid (Blk wa w6.heap.size 35 [.string x.n, .string x.v]) := by show Blk _ _ _ _; rw [← hwa]; exact Blk.new w6 35 _
        rw [hwa] at S6
        have x0 : wa.cell? ⟨w6.heap.size, 0, none⟩ = some (.string x.n) := HOB.out.cell 0
        have x1 : wa.cell? ⟨w6.heap.size, 1, none⟩ = some (.string x.v) := HOB.out.cell 1
        cases ok with
        | false =>
          have hsd : Hid (Sd (bts s) J a' false) := hidden ⟨HLD.out.1, (fun h => by cases h), fun _ => by rw [hrunp.out]; exact HLD.out.2.2.2.2.1 rfl J⟩
          have s6 := S6.out
          have f60 : wa.cell? ⟨w.heap.size + 1, 0, none⟩ = some (.slice va J.ls.length vc) := s6.fd.blk.cell 0
          have f61 : wa.cell? ⟨w.heap.size + 1, 1, none⟩ = some (.bool J.bad.isSome) := s6.fd.blk.cell 1
          have f62 : wa.cell? ⟨w.heap.size + 1, 2, none⟩ = some (.int .i64 ((J.bad.getD 0 : Nat) : Int)) := s6.fd.blk.cell 2
          have r60 : wa.cell? ⟨w.heap.size, 0, none⟩ = some (.slice none 0 0) := s6.r2.cell 0
          have r61 : wa.cell? ⟨w.heap.size, 1, none⟩ = some (.bool false) := s6.r2.cell 1
          have r62 : wa.cell? ⟨w.heap.size, 2, none⟩ = some (.int .i64 0) := s6.r2.cell 2
          have z60 := s6.r2.frozen 0
          have z61 := s6.r2.frozen 1
          have z62 := s6.r2.frozen 2
          clear s6
          go_wp2_with fail
          exact S6.out.fin rfl hsd.out rfl rfl rfl
        | true =>
          have hrun5 : Hid (run (bts s) 0 .s0 = run ((bts s).drop a') a' (.s5 (J.add x p))) := hidden (by rw [hrunp.out]; exact HLD.out.2.2.2.1 rfl J)
          have kA := addP B0 w.heap.size (w.heap.size + 1) J (.slice va J.ls.length vc) x p wa S6.out.fd S6.out.size (HT4 S6.out) (by have := HLD.out.2.1; rw [← size_bts] at this; omega) (by have := HLD.out.2.2.1; rw [← size_bts] at this; omega)
          obtain ⟨J', hJ'⟩ : ∃ J', J.add x p = J' := ⟨_, rfl⟩
          rw [hJ'] at kA hrun5
          have hpa : Hid (p ≤ a') := hidden HLD.out.2.2.2.2.2
          have kT : ∀ w7, Rd w7 r s a' → Calls Tryd.prog 60 #[.pointer (some ⟨r, 0, none⟩), .int .u8 125] w7 fun e w' => e = .returned (.bool (tk (bts s) a' 125)) ∧ Rd w' r s (tkAt (bts s) a' 125) ∧ Chg (fun i => i = r) w7 w' := fun w7 h7 => takeP r s a' 125 w7 h7 hla hs
          have hle8 : tkAt (bts s) a' 125 ≤ s.size := by have := hla; rw [size_bts] at this ⊢; exact tkAt_le this
          clear hJ' HLD hrunp
          cases hq : tk (bts s) a' 125 with
          | true =>
            rw [hq] at kT
            have hrun6 : Hid (run (bts s) 0 .s0 = run ((bts s).drop (tkAt (bts s) a' 125)) (tkAt (bts s) a' 125) (.s6 J')) := hidden (by rw [hrun5.out]; exact run_take_yes (fun i => by simp [step]) hq (by simp [step]))
            obtain ⟨d, hd⟩ : ∃ d, tkAt (bts s) a' 125 = d := ⟨_, rfl⟩
            rw [hd] at kT hle8 hrun6
            have kE : ∀ w4, Rd w4 r s d → Calls Tryd.prog 62 #[.pointer (some ⟨r, 0, none⟩)] w4 fun e w' => e = .returned (.bool (decide (sk (bts s) d = s.size))) ∧ Rd w' r s (sk (bts s) d) ∧ Chg (fun i => i = r) w4 w' := fun w4 h4 => atEndP r s d w4 h4 hle8 hs
            have hle3 : sk (bts s) d ≤ s.size := by rw [size_bts] at hle8 ⊢; exact sk_le hle8
            have hsd : Hid (Sd (bts s) J' (sk (bts s) d) (decide (sk (bts s) d = s.size))) := by
              refine ⟨by rw [← size_bts]; exact hle3, fun h => ?_, fun h => ?_⟩
              · rw [hrun6.out, run_s6_end, if_pos (by rw [← size_bts]; exact of_decide_eq_true h)]
              · rw [hrun6.out, run_s6_end, if_neg (by rw [← size_bts]; exact of_decide_eq_false h), if_neg (by rw [← size_bts]; omega)]
            obtain ⟨d2, hd2⟩ : ∃ d2, sk (bts s) d = d2 := ⟨_, rfl⟩
            rw [hd2] at kE hle3 hsd
            obtain ⟨ok, hok⟩ : ∃ ok, decide (d2 = s.size) = ok := ⟨_, rfl⟩
            rw [hok] at kE hsd
            clear hrun6 hrun5 hd hd2 hok hq
            go_wp2_with (first
              | (go_at_call 65; refine kA.mono ?_; rintro e w7 ⟨rfl, v', hF7, hA7⟩; obtain ⟨ua, uc, rfl, _⟩ := owns_formL hF7.own; have s7 := S6.out.added hF7 hA7; clear kA)
              | (go_at_call 60; refine (kT _ s7.rd).mono ?_; rintro e w8 ⟨rfl, h8, hc8⟩; have s8 := s7.moved h8 hc8 hle8; clear kT; have f80 : w8.cell? ⟨w.heap.size + 1, 0, none⟩ = some (.slice ua J'.ls.length uc) := s8.fd.blk.cell 0; have f81 : w8.cell? ⟨w.heap.size + 1, 1, none⟩ = some (.bool J'.bad.isSome) := s8.fd.blk.cell 1; have f82 : w8.cell? ⟨w.heap.size + 1, 2, none⟩ = some (.int .i64 ((J'.bad.getD 0 : Nat) : Int)) := s8.fd.blk.cell 2; have r80 : w8.cell? ⟨w.heap.size, 0, none⟩ = some (.slice none 0 0) := s8.r2.cell 0; have r81 : w8.cell? ⟨w.heap.size, 1, none⟩ = some (.bool false) := s8.r2.cell 1; have r82 : w8.cell? ⟨w.heap.size, 2, none⟩ = some (.int .i64 0) := s8.r2.cell 2; have z80 := s8.r2.frozen 0; have z81 := s8.r2.frozen 1; have z82 := s8.r2.frozen 2))
            have s8d := s8.later ((Below.refl _ _).drew)
            go_region_with (refine (kE _ s8d.rd).mono ?_; rintro e w9 ⟨rfl, h9, hc9⟩; have s9 := s8d.moved h9 hc9 hle3; have f90 : w9.cell? ⟨w.heap.size + 1, 0, none⟩ = some (.slice ua J'.ls.length uc) := s9.fd.blk.cell 0; have f91 : w9.cell? ⟨w.heap.size + 1, 1, none⟩ = some (.bool J'.bad.isSome) := s9.fd.blk.cell 1; have f92 : w9.cell? ⟨w.heap.size + 1, 2, none⟩ = some (.int .i64 ((J'.bad.getD 0 : Nat) : Int)) := s9.fd.blk.cell 2; have r90 : w9.cell? ⟨w.heap.size, 0, none⟩ = some (.slice none 0 0) := s9.r2.cell 0; have r91 : w9.cell? ⟨w.heap.size, 1, none⟩ = some (.bool false) := s9.r2.cell 1; have r92 : w9.cell? ⟨w.heap.size, 2, none⟩ = some (.int .i64 0) := s9.r2.cell 2; have z90 := s9.r2.frozen 0; have z91 := s9.r2.frozen 1; have z92 := s9.r2.frozen 2)
            all_goals
              go_wp2_with fail
              exact s9.fin rfl hsd.out rfl rfl rfl
          | false =>
            rw [hq, tkAt_no hq] at kT
            rw [tkAt_no hq] at hle8
            have kC : ∀ w8, Rd w8 r s (sk (bts s) a') → Calls Tryd.prog 60 #[.pointer (some ⟨r, 0, none⟩), .int .u8 44] w8 fun e w' => e = .returned (.bool (tk (bts s) (sk (bts s) a') 44)) ∧ Rd w' r s (tkAt (bts s) (sk (bts s) a') 44) ∧ Chg (fun i => i = r) w8 w' := fun w8 h8 => takeP r s (sk (bts s) a') 44 w8 h8 hle8 hs
            have hle9 : tkAt (bts s) (sk (bts s) a') 44 ≤ s.size := by have := hle8; rw [size_bts] at this ⊢; exact tkAt_le this
            cases hq2 : tk (bts s) (sk (bts s) a') 44 with
            | true =>
              rw [hq2] at kC
              have hrun7 : Hid (run (bts s) 0 .s0 = run ((bts s).drop (tkAt (bts s) (sk (bts s) a') 44)) (tkAt (bts s) (sk (bts s) a') 44) (.s2 J')) := hidden (by rw [hrun5.out]; exact run_s5_comma J' hq hq2)
              have hmore : Hid (i < tkAt (bts s) (sk (bts s) a') 44) := hidden (by rw [tkAt_yes hq2]; have := hip.out; have := hpa.out; have := sk_ge (bts s) a'; have := sk_ge (bts s) (sk (bts s) a'); omega)
              obtain ⟨d, hd⟩ : ∃ d, tkAt (bts s) (sk (bts s) a') 44 = d := ⟨_, rfl⟩
              rw [hd] at kC hle9 hrun7 hmore
              clear hrun5 hq hq2 hd
              go_wp2_with (first
                | (go_at_call 65; refine kA.mono ?_; rintro e w7 ⟨rfl, v', hF7, hA7⟩; obtain ⟨ua, uc, rfl, _⟩ := owns_formL hF7.own; have s7 := S6.out.added hF7 hA7; clear kA)
                | (go_at_call 60; refine (kT _ s7.rd).mono ?_; rintro e w8 ⟨rfl, h8, hc8⟩; have s8 := s7.moved h8 hc8 hle8; clear kT)
                | (go_at_call 60; refine (kC _ s8.rd).mono ?_; rintro e w9 ⟨rfl, h9, hc9⟩; have s9 := s8.moved h9 hc9 hle9; clear kC))
              refine ⟨⟨d, J', _, hidden s9, hrun7, hidden (HT4 s9)⟩, ?_⟩
              rw [s9.rd.at', hsi.out.rd.at']
              have := hmore.out
              omega
            | false =>
              rw [hq2] at kC
              have hsd : Hid (Sd (bts s) J' (tkAt (bts s) (sk (bts s) a') 44) false) := hidden ⟨by rw [← size_bts]; exact hle9, (fun h => by cases h), fun _ => by rw [hrun5.out]; exact run_s5_no J' hq hq2⟩
              obtain ⟨d, hd⟩ : ∃ d, tkAt (bts s) (sk (bts s) a') 44 = d := ⟨_, rfl⟩
              rw [hd] at kC hle9 hsd
              clear hrun5 hq hq2 hd
              go_wp2_with (first
                | (go_at_call 65; refine kA.mono ?_; rintro e w7 ⟨rfl, v', hF7, hA7⟩; obtain ⟨ua, uc, rfl, _⟩ := owns_formL hF7.own; have s7 := S6.out.added hF7 hA7; clear kA)
                | (go_at_call 60; refine (kT _ s7.rd).mono ?_; rintro e w8 ⟨rfl, h8, hc8⟩; have s8 := s7.moved h8 hc8 hle8; clear kT)
                | (go_at_call 60; refine (kC _ s8.rd).mono ?_; rintro e w9 ⟨rfl, h9, hc9⟩; have s9 := s8.moved h9 hc9 hle9; clear kC; have f90 : w9.cell? ⟨w.heap.size + 1, 0, none⟩ = some (.slice ua J'.ls.length uc) := s9.fd.blk.cell 0; have f91 : w9.cell? ⟨w.heap.size + 1, 1, none⟩ = some (.bool J'.bad.isSome) := s9.fd.blk.cell 1; have f92 : w9.cell? ⟨w.heap.size + 1, 2, none⟩ = some (.int .i64 ((J'.bad.getD 0 : Nat) : Int)) := s9.fd.blk.cell 2; have r90 : w9.cell? ⟨w.heap.size, 0, none⟩ = some (.slice none 0 0) := s9.r2.cell 0; have r91 : w9.cell? ⟨w.heap.size, 1, none⟩ = some (.bool false) := s9.r2.cell 1; have r92 : w9.cell? ⟨w.heap.size, 2, none⟩ = some (.int .i64 0) := s9.r2.cell 2; have z90 := s9.r2.frozen 0; have z91 := s9.r2.frozen 1; have z92 := s9.r2.frozen 2))
              exact s9.fin rfl hsd.out rfl rfl rfl

end Go.Proofs.YtpdffdoogobhfaaDoor
