import Derived.Test.YtanlgplgplncdaaGreatDoorPuN
import Derived.BigQuiet
/-
  The program's reader: a byte that stands here, or behind blanks; an op; what an escape stands for.
-/
namespace Go.Proofs.YtanlgplgplncdaaGreatDoor.L
open Go.RowKit
set_option linter.unusedVariables false
set_option linter.unusedSimpArgs false

set_option maxHeartbeats 2000000 in
theorem letterM (x : UInt8) (w : World) : Calls Tryz.prog 83 #[.int .u8 (x.toNat : Int)] w fun e w' => e = .returned (.bool (lett x)) ∧ w' = w := by
  unfold lett
  generalize x.toNat = k
  by_cases h1 : 97 ≤ k <;> by_cases h2 : k ≤ 122 <;> by_cases h3 : 65 ≤ k <;> by_cases h4 : k ≤ 90 <;> by_cases h5 : k = 95 <;> first
    | (exfalso; omega)
    | (have z1 : (97 : Int) ≤ (k : Int) ↔ 97 ≤ k := by omega
       have z2 : (k : Int) ≤ 122 ↔ k ≤ 122 := by omega
       have z3 : (65 : Int) ≤ (k : Int) ↔ 65 ≤ k := by omega
       have z4 : (k : Int) ≤ 90 ↔ k ≤ 90 := by omega
       have z5 : ((k : Int) = 95) ↔ k = 95 := by omega
       have z6 : ((k : Int) == 95) = decide (k = 95) := by rw [Bool.eq_iff_iff]; simp; omega
       go_enter Tryz.func83, Tryz.ntmps83
       go_wp2
       go_ret
       simp [h1, h2, h3, h4, h5, z6])

set_option maxHeartbeats 2000000 in
theorem digitM (x : UInt8) (w : World) : Calls Tryz.prog 84 #[.int .u8 (x.toNat : Int)] w fun e w' => e = .returned (.bool (digi x)) ∧ w' = w := by
  unfold digi
  generalize x.toNat = k
  by_cases h1 : 48 ≤ k <;> by_cases h2 : k ≤ 57 <;> first
    | (exfalso; omega)
    | (have z1 : (48 : Int) ≤ (k : Int) ↔ 48 ≤ k := by omega
       have z2 : (k : Int) ≤ 57 ↔ k ≤ 57 := by omega
       go_enter Tryz.func84, Tryz.ntmps84
       go_wp2
       go_ret
       simp [h1, h2])


/-- Does this byte stand here? -/
def hr (S : List UInt8) (a : Nat) (c : UInt8) : Bool := decide (S[a]? = some c)
def hrAt (S : List UInt8) (a : Nat) (c : UInt8) : Nat := if hr S a c then a + 1 else a
theorem hrAt_le {S : List UInt8} {a : Nat} {c : UInt8} (h : a ≤ S.length) : hrAt S a c ≤ S.length := by
  unfold hrAt
  split
  · rename_i hh
    have := of_decide_eq_true hh
    have := (List.getElem?_eq_some_iff.1 this).1
    omega
  · exact h
theorem hrAt_ge (S : List UInt8) (a : Nat) (c : UInt8) : a ≤ hrAt S a c := by unfold hrAt; split <;> omega

set_option maxRecDepth 100000 in
set_option maxHeartbeats 2000000 in
theorem takeHereP (r : Nat) (s : ByteArray) (a : Nat) (c : UInt8) (w : World) (h : Rd w r s a) (ha : a ≤ s.size) (hs : s.size ≤ 140737488355328) :
    Calls Tryz.prog 65 #[.pointer (some ⟨r, 0, none⟩), .int .u8 (c.toNat : Int)] w fun e w' => e = .returned (.bool (hr (bts s) a c)) ∧ Rd w' r s (hrAt (bts s) a c) ∧ Chg (fun i => i = r) w w' := by
  obtain ⟨q, hq⟩ : ∃ q, hr (bts s) a c = q := ⟨_, rfl⟩
  unfold hrAt
  rw [hq]
  unfold hr at hq
  have c0 : w.cell? ⟨r, 0, none⟩ = some (.string s) := h.cell 0
  have c1 : w.cell? ⟨r, 1, none⟩ = some (.int .i64 (a : Int)) := h.cell 1
  have f1 := h.frozen 1
  have HH := hidden h
  clear h
  by_cases hend : a = s.size
  · have z : ((a : Int) == (s.size : Int)) = true := by simp; omega
    have hqf : q = false := by rw [← hq, List.getElem?_eq_none (by rw [← size_bts]; omega)]; rfl
    subst hqf
    clear hend hq
    go_enter Tryz.func65, Tryz.ntmps65
    go_wp2
    go_quiet (fail)
    go_wp2
    go_ret
    exact ⟨rfl, HH.out.drewN _, Chg.drewN (fun i => i = r) w _⟩
  · have z : ((a : Int) == (s.size : Int)) = false := by simp; omega
    have hlt : a < s.size := by omega
    have hltz : (a : Int) < (s.size : Int) := by omega
    obtain ⟨x, hx, hx2, _⟩ := byte_at s hlt
    have hqe : q = decide (x = c) := by rw [← hq, hx2]; simp
    have hne : (((x.toNat : Nat) : Int) != (c.toNat : Int)) = !q := by
      rw [hqe, bne, beq8 x c.toNat c.toNat_lt]; simp
    clear hq hqe hx2 hend
    generalize hC : ((c.toNat : Nat) : Int) = C at *
    generalize hX : ((x.toNat : Nat) : Int) = X at *
    clear hC
    cases q with
    | true =>
      have hne2 : (X != C) = false := hne
      go_enter Tryz.func65, Tryz.ntmps65
      go_wp2
      go_quiet (fail)
      go_wp2
      go_ret
      refine ⟨rfl, ?_, (Chg.drewN (fun i => i = r) w _).trans (Chg.set ⟨r, 1, none⟩ _ _) (fun _ _ e => e)⟩
      have := (HH.out.drewN nq).set (a + 1)
      simpa using this
    | false =>
      have hne2 : (X != C) = true := hne
      go_enter Tryz.func65, Tryz.ntmps65
      go_wp2
      go_quiet (fail)
      go_wp2
      go_ret
      exact ⟨rfl, HH.out.drewN _, Chg.drewN (fun i => i = r) w _⟩

theorem tkAt_ge (S : List UInt8) (a : Nat) (c : UInt8) : a ≤ tkAt S a c := Nat.le_trans (sk_ge S a) (hrAt_ge S _ c)

set_option maxRecDepth 100000 in
set_option maxHeartbeats 2000000 in
theorem takeP (r : Nat) (s : ByteArray) (a : Nat) (c : UInt8) (w : World) (h : Rd w r s a) (ha : a ≤ s.size) (hs : s.size ≤ 140737488355328) :
    Calls Tryz.prog 49 #[.pointer (some ⟨r, 0, none⟩), .int .u8 (c.toNat : Int)] w fun e w' => e = .returned (.bool (tk (bts s) a c)) ∧ Rd w' r s (tkAt (bts s) a c) ∧ Chg (fun i => i = r) w w' := by
  have k := skipBlanksP r s a w h ha hs
  have hle : sk (bts s) a ≤ s.size := by rw [size_bts] at ha ⊢; exact sk_le ha
  have K2 : Hid (∀ w1, Rd w1 r s (sk (bts s) a) → Calls Tryz.prog 65 #[.pointer (some ⟨r, 0, none⟩), .int .u8 (c.toNat : Int)] w1 fun e w' => e = .returned (.bool (tk (bts s) a c)) ∧ Rd w' r s (tkAt (bts s) a c) ∧ Chg (fun i => i = r) w1 w') := hidden (fun w1 h1 => takeHereP r s _ c w1 h1 hle hs)
  generalize sk (bts s) a = b at *
  generalize tk (bts s) a c = q at *
  generalize tkAt (bts s) a c = a' at *
  generalize ((c.toNat : Nat) : Int) = C at *
  clear h
  go_enter Tryz.func49, Tryz.ntmps49
  go_wp2_with fail
  refine k.mono ?_
  rintro e w1 ⟨rfl, h1, hc1⟩
  have C1 := hidden hc1
  have k2 := K2.out w1 h1
  clear hc1 k h1
  go_wp2_with fail
  refine k2.mono ?_
  rintro e w2 ⟨rfl, h2, hc2⟩
  have C2 := hidden hc2
  have H2 := hidden h2
  clear hc2 h2 k2
  go_wp2
  go_ret
  exact ⟨by first | rfl | simp, H2.out, C1.out.trans C2.out (fun _ _ e => e)⟩

theorem drop_at {S : List UInt8} {a : Nat} {c : UInt8} (h : S[a]? = some c) : S.drop a = c :: S.drop (a + 1) := by
  have hl : a < S.length := (List.getElem?_eq_some_iff.1 h).1
  rw [List.drop_eq_getElem_cons hl]
  rw [List.getElem?_eq_getElem hl] at h
  injection h with h; rw [h]
theorem run_here_yes {S : List UInt8} {a : Nat} {c : UInt8} {st st' : Sm} (h : hr S a c = true) (hs : stepM a c st = some st') : runM (S.drop a) a st = runM (S.drop (hrAt S a c)) (hrAt S a c) st' := by
  have hc : S[a]? = some c := of_decide_eq_true h
  rw [drop_at hc, runM_some hs, hrAt, if_pos h]
/-- Nothing of what may stand here does. -/
theorem run_none_of {S : List UInt8} {a : Nat} {st : Sm} (hs : ∀ x, S[a]? = some x → stepM a x st = none) (he : ∀ i, st.end i = .fault i) : runM (S.drop a) a st = .fault a := by
  cases hx : S[a]? with
  | none => rw [List.drop_of_length_le (List.getElem?_eq_none_iff.1 hx), runM_nil, he]
  | some x => rw [drop_at hx, runM_none (hs x hx)]
theorem hr_no {S : List UInt8} {a : Nat} {c : UInt8} (h : hr S a c = false) {x : UInt8} (hx : S[a]? = some x) : x ≠ c := by
  rintro rfl
  exact of_decide_eq_false h hx
theorem run_take_yes {S : List UInt8} {a : Nat} {c : UInt8} {st st' : Sm} (hb : Bl st) (h : tk S a c = true) (hs : stepM (sk S a) c st = some st') : runM (S.drop a) a st = runM (S.drop (tkAt S a c)) (tkAt S a c) st' := by
  rw [run_sk hb]
  exact run_here_yes h hs
theorem run_take_no {S : List UInt8} {a : Nat} {c : UInt8} {st : Sm} (hb : Bl st) (h : tk S a c = false) (hs : ∀ i x, x ≠ 32 → x ≠ c → stepM i x st = none) (he : ∀ i, st.end i = .fault i) : runM (S.drop a) a st = .fault (tkAt S a c) := by
  rw [run_sk hb, show tkAt S a c = sk S a from by unfold tkAt; rw [h]; rfl]
  refine run_none_of (fun x hx => hs _ x (fun e => sk_next S a (by rw [hx, e])) (hr_no h hx)) he

/-- What an op is read as. -/
def OpD (S : List UInt8) (a : Nat) (o : Int) (a' : Nat) (ok : Bool) : Prop :=
  a ≤ a' ∧ a' ≤ S.length ∧ (0 ≤ o ∧ o ≤ 4) ∧ (ok = true → ∀ J p nm, runM (S.drop a) a (.s3 J p nm) = runM (S.drop a') a' (.s4 J p nm o)) ∧ (ok = false → ∀ J p nm, runM (S.drop a) a (.s3 J p nm) = .fault a')
theorem bl3 (J : Jm) (p : Nat) (nm : List UInt8) : Bl (.s3 J p nm) := fun i => by simp [stepM]
theorem eq_s4 {S : List UInt8} {a : Nat} (h : hr S a 126 = false) (J : Jm) (p : Nat) (nm : List UInt8) : runM (S.drop a) a (.eq J p nm) = runM (S.drop a) a (.s4 J p nm 1) := by
  cases hx : S[a]? with
  | none => rw [List.drop_of_length_le (List.getElem?_eq_none_iff.1 hx), runM_nil, runM_nil]; rfl
  | some x =>
    have hne := hr_no h hx
    rw [drop_at hx]
    by_cases h1 : x = 32
    · subst h1
      rw [runM_some (st' := .s4 J p nm 1) (by simp [stepM]), runM_some (st' := .s4 J p nm 1) (by simp [stepM])]
    · by_cases h2 : x = 34
      · subst h2
        rw [runM_some (st' := .qt J p nm 1 []) (by simp [stepM]), runM_some (st' := .qt J p nm 1 []) (by simp [stepM])]
      · rw [runM_none (by simp [stepM, h1, h2, hne]), runM_none (by simp [stepM, h1, h2])]

set_option maxRecDepth 100000 in
set_option maxHeartbeats 2000000 in
theorem opP (r : Nat) (s : ByteArray) (a : Nat) (w : World) (h : Rd w r s a) (ha : a ≤ s.size) (hs : s.size ≤ 140737488355328) :
    Calls Tryz.prog 67 #[.pointer (some ⟨r, 0, none⟩)] w fun e w' => ∃ o a' ok, e = .returned (.tuple #[.int .i64 o, .bool ok]) ∧ OpD (bts s) a o a' ok ∧ Rd w' r s a' ∧ Chg (fun i => i = r) w w' := by
  have hsz := size_bts s
  obtain ⟨S, hS⟩ : ∃ S, bts s = S := ⟨_, rfl⟩
  have k1 := takeP r s a 61 w h ha hs
  have T33 : Hid (∀ w1 b, b ≤ s.size → Rd w1 r s b → Calls Tryz.prog 49 #[.pointer (some ⟨r, 0, none⟩), .int .u8 33] w1 fun e w' => e = .returned (.bool (tk S b 33)) ∧ Rd w' r s (tkAt S b 33) ∧ Chg (fun i => i = r) w1 w') := hidden (fun w1 b hb h1 => by rw [← hS]; exact takeP r s b 33 w1 h1 hb hs)
  have H126 : Hid (∀ w1 b, b ≤ s.size → Rd w1 r s b → Calls Tryz.prog 65 #[.pointer (some ⟨r, 0, none⟩), .int .u8 126] w1 fun e w' => e = .returned (.bool (hr S b 126)) ∧ Rd w' r s (hrAt S b 126) ∧ Chg (fun i => i = r) w1 w') := hidden (fun w1 b hb h1 => by rw [← hS]; exact takeHereP r s b 126 w1 h1 hb hs)
  have H61 : Hid (∀ w1 b, b ≤ s.size → Rd w1 r s b → Calls Tryz.prog 65 #[.pointer (some ⟨r, 0, none⟩), .int .u8 61] w1 fun e w' => e = .returned (.bool (hr S b 61)) ∧ Rd w' r s (hrAt S b 61) ∧ Chg (fun i => i = r) w1 w') := hidden (fun w1 b hb h1 => by rw [← hS]; exact takeHereP r s b 61 w1 h1 hb hs)
  rw [hS] at k1 hsz
  rw [hS]
  have haS : a ≤ S.length := by omega
  have HSZ := hidden hsz
  clear h hS hsz
  have hb1 : tkAt S a 61 ≤ s.size := by rw [HSZ.out]; exact tkAt_le haS
  have hg1 := tkAt_ge S a 61
  cases q1 : tk S a 61 with
  | true =>
    rw [q1] at k1
    have R1 : Hid (∀ J p nm, runM (S.drop a) a (.s3 J p nm) = runM (S.drop (tkAt S a 61)) (tkAt S a 61) (.eq J p nm)) := hidden (fun J p nm => run_take_yes (bl3 J p nm) q1 (by simp [stepM]))
    generalize tkAt S a 61 = b at *
    clear q1
    have hg2 := hrAt_ge S b 126
    have hb2 : hrAt S b 126 ≤ S.length := hrAt_le (by rw [← HSZ.out]; exact hb1)
    go_enter Tryz.func67, Tryz.ntmps67
    go_wp2_with fail
    refine k1.mono ?_
    rintro e w1 ⟨rfl, h1, hc1⟩
    have C1 := hidden hc1
    have k2 := H126.out w1 b hb1 h1
    clear hc1 k1 h1
    go_wp2_with fail
    refine k2.mono ?_
    rintro e w2 ⟨rfl, h2, hc2⟩
    have C2 := hidden (C1.out.trans hc2 (fun _ _ e => e))
    have H2 := hidden h2
    clear hc2 h2 k2
    cases q2 : hr S b 126 with
    | true =>
      have HQ2 := hidden q2
      clear q2
      go_wp2
      go_ret2
      refine ⟨3, _, true, rfl, ⟨by omega, hb2, by omega, fun _ J p nm => ?_, fun h => by cases h⟩, H2.out, C2.out⟩
      rw [R1.out]
      exact run_here_yes HQ2.out (by simp [stepM])
    | false =>
      have HQ2 := hidden q2
      clear q2
      go_wp2
      go_ret2
      refine ⟨1, _, true, rfl, ⟨by omega, hb2, by omega, fun _ J p nm => ?_, fun h => by cases h⟩, H2.out, C2.out⟩
      rw [R1.out, eq_s4 HQ2.out, show hrAt S b 126 = b from by unfold hrAt; rw [HQ2.out]; rfl]
  | false =>
    rw [q1] at k1
    have HQ1 := hidden q1
    have e1 : tkAt S a 61 = sk S a := by unfold tkAt; rw [q1]; rfl
    rw [e1] at k1 hb1 hg1
    have R1 : Hid (∀ J p nm, runM (S.drop a) a (.s3 J p nm) = runM (S.drop (sk S a)) (sk S a) (.s3 J p nm)) := hidden (fun J p nm => run_sk (bl3 J p nm) S a)
    have hss : sk S (sk S a) = sk S a := sk_stop (sk_next S a)
    have HN : Hid (S[sk S a]? ≠ some 32) := hidden (sk_next S a)
    have HN61 : Hid (hr S (sk S a) 61 = false) := hidden q1
    generalize sk S a = b at *
    have etk : tk S b 33 = hr S b 33 := by unfold tk; rw [hss]; rfl
    have eta : tkAt S b 33 = hrAt S b 33 := by unfold tkAt; rw [hss, etk]; rfl
    clear q1 e1 hss
    have hb2 : hrAt S b 33 ≤ S.length := hrAt_le (by rw [← HSZ.out]; exact hb1)
    have hg2 := hrAt_ge S b 33
    go_enter Tryz.func67, Tryz.ntmps67
    go_wp2_with fail
    refine k1.mono ?_
    rintro e w1 ⟨rfl, h1, hc1⟩
    have C1 := hidden hc1
    have k2 := T33.out w1 b hb1 h1
    rw [etk, eta] at k2
    clear hc1 k1 h1
    go_wp2_with fail
    refine k2.mono ?_
    rintro e w2 ⟨rfl, h2, hc2⟩
    have C2 := hidden (C1.out.trans hc2 (fun _ _ e => e))
    have H2 := hidden h2
    clear hc2 h2 k2 etk eta
    cases q2 : hr S b 33 with
    | false =>
      have HQ2 := hidden q2
      clear q2
      go_wp2
      go_ret2
      refine ⟨0, _, false, rfl, ⟨by omega, hb2, by omega, (fun h => by cases h), fun _ J p nm => ?_⟩, H2.out, C2.out⟩
      rw [R1.out, show hrAt S b 33 = b from by unfold hrAt; rw [HQ2.out]; rfl]
      refine run_none_of (fun x hx => ?_) (fun _ => rfl)
      have n1 : x ≠ 32 := fun e => HN.out (by rw [hx, e])
      simp [stepM, n1, hr_no HN61.out hx, hr_no HQ2.out hx]
    | true =>
      have R2 : Hid (∀ J p nm, runM (S.drop b) b (.s3 J p nm) = runM (S.drop (hrAt S b 33)) (hrAt S b 33) (.ba J p nm)) := hidden (fun J p nm => run_here_yes q2 (by simp [stepM]))
      generalize hrAt S b 33 = d at *
      clear q2
      have hd : d ≤ s.size := by rw [HSZ.out]; exact hb2
      have k3 := H61.out w2 d hd H2.out
      have hg3 := hrAt_ge S d 61
      have hb3 : hrAt S d 61 ≤ S.length := hrAt_le hb2
      clear H2
      go_wp2_with fail
      refine k3.mono ?_
      rintro e w3 ⟨rfl, h3, hc3⟩
      have C3 := hidden (C2.out.trans hc3 (fun _ _ e => e))
      have H3 := hidden h3
      clear hc3 h3 k3
      cases q3 : hr S d 61 with
      | true =>
        have HQ3 := hidden q3
        clear q3
        go_wp2
        go_ret2
        refine ⟨2, _, true, rfl, ⟨by omega, hb3, by omega, fun _ J p nm => ?_, fun h => by cases h⟩, H3.out, C3.out⟩
        rw [R1.out, R2.out]
        exact run_here_yes HQ3.out (by simp [stepM])
      | false =>
        have HQ3 := hidden q3
        have e3 : hrAt S d 61 = d := by unfold hrAt; rw [q3]; rfl
        rw [e3] at H3 hg3 hb3
        clear q3 e3
        have k4 := H126.out w3 d hd H3.out
        have hg4 := hrAt_ge S d 126
        have hb4 : hrAt S d 126 ≤ S.length := hrAt_le hb2
        clear H3
        go_wp2_with fail
        refine k4.mono ?_
        rintro e w4 ⟨rfl, h4, hc4⟩
        have C4 := hidden (C3.out.trans hc4 (fun _ _ e => e))
        have H4 := hidden h4
        clear hc4 h4 k4
        go_wp2
        go_ret2
        refine ⟨4, _, _, rfl, ⟨by omega, hb4, by omega, fun hk J p nm => ?_, fun hk J p nm => ?_⟩, H4.out, C4.out⟩
        · rw [R1.out, R2.out]
          exact run_here_yes hk (by simp [stepM])
        · rw [R1.out, R2.out, show hrAt S d 126 = d from by unfold hrAt; rw [hk]; rfl]
          refine run_none_of (fun x hx => ?_) (fun _ => rfl)
          simp [stepM, hr_no HQ3.out hx, hr_no hk hx]

end Go.Proofs.YtanlgplgplncdaaGreatDoor.L

/-
  The program's reader: a word; what an escape stands for.
-/
namespace Go.Proofs.YtanlgplgplncdaaGreatDoor.L
open Go.RowKit
set_option linter.unusedVariables false
set_option linter.unusedSimpArgs false

def wAt (S : List UInt8) (a : Nat) : Nat := a + wsz true (S.drop a)
theorem wAt_le {S : List UInt8} {a : Nat} (h : a ≤ S.length) : wAt S a ≤ S.length := by
  have := wsz_le true (S.drop a); rw [List.length_drop] at this; unfold wAt; omega
theorem wAt_ge (S : List UInt8) (a : Nat) : a ≤ wAt S a := by unfold wAt; omega
theorem extract_bts (s : ByteArray) (a b : Nat) (h : a ≤ b) (hb : b ≤ s.size) : s.extract a b = oft (((bts s).drop a).take (b - a)) := by
  apply bts_inj
  rw [bts_oft]
  unfold bts
  rw [ByteArray.data_extract, Array.toList_extract]

def ffl (i a : Nat) : Bool := decide (i = a)

set_option maxRecDepth 100000 in
set_option maxHeartbeats 4000000 in
theorem wordP (r : Nat) (s : ByteArray) (a : Nat) (w : World) (h : Rd w r s a) (ha : a ≤ s.size) (hs : s.size ≤ 140737488355328) :
    Calls Tryz.prog 66 #[.pointer (some ⟨r, 0, none⟩)] w fun e w' => e = .returned (.tuple #[.string (oft (((bts s).drop a).take (wsz true ((bts s).drop a)))), .bool (decide (0 < wsz true ((bts s).drop a)))]) ∧ Rd w' r s (wAt (bts s) a) ∧ Chg (fun i => i = r) w w' := by
  obtain ⟨E, hE⟩ : ∃ E, wAt (bts s) a = E := ⟨_, rfl⟩
  have hEs : E ≤ s.size := by rw [← hE, size_bts]; exact wAt_le (by rw [← size_bts]; exact ha)
  have hEa : a ≤ E := by rw [← hE]; exact wAt_ge _ _
  have hws : wsz true ((bts s).drop a) = E - a := by unfold wAt at hE; omega
  rw [hws, hE, ← extract_bts s a E hEa hEs]
  have HE : Hid (a + wsz (ffl a a) ((bts s).drop a) = E) := hidden (by rw [show ffl a a = true from decide_eq_true rfl]; exact hE)
  have c1 : w.cell? ⟨r, 1, none⟩ = some (.int .i64 (a : Int)) := h.cell 1
  have HH := hidden h
  have hpos : decide (0 < E - a) = decide ((a : Int) < (E : Int)) := by rw [Bool.eq_iff_iff]; simp; omega
  rw [hpos]
  clear hE hws h hpos
  go_enter Tryz.func66, Tryz.ntmps66
  go_wp2_with fail
  go_loopw [] (fun wx => ∃ i : Nat, i ≤ s.size ∧ a ≤ i ∧ Hid (i + wsz (ffl i a) ((bts s).drop i) = E) ∧ Hid (Rd wx r s i) ∧ Hid (Chg (fun i => i = r) w wx)) (fun wx => s.size - rdAt r wx)
  case atStart => exact ⟨a, ha, Nat.le_refl _, HE, HH, hidden (Chg.refl _ _)⟩
  case round =>
    rename World => wr
    obtain ⟨i, hi, hai, hrel, hrd, hch⟩ := hrel
    clear HE c1
    have c0 : wr.cell? ⟨r, 0, none⟩ = some (.string s) := hrd.out.cell 0
    have c1 : wr.cell? ⟨r, 1, none⟩ = some (.int .i64 (i : Int)) := hrd.out.cell 1
    have f1 := hrd.out.frozen 1
    by_cases hlt : i < s.size
    · have hltz : (i : Int) < (s.size : Int) := by omega
      have hd1 : decide ((i : Int) < (s.size : Int)) = true := decide_eq_true hltz
      obtain ⟨x, hx, hx2, hdr⟩ := byte_at s hlt
      have HL : Hid (wsz (ffl i a) ((bts s).drop i) = if lead (ffl i a) x then wsz false ((bts s).drop (i + 1)) + 1 else 0) := hidden (by rw [hdr]; rfl)
      by_cases hl : lett x = true
      · have kl := fun w => letterM x w
        rw [hl] at kl
        have hR1 : Hid (i + 1 + wsz (ffl (i + 1) a) ((bts s).drop (i + 1)) = E) := hidden (by
          have h1 := hrel.out
          rw [HL.out, if_pos (by unfold lead; rw [hl]; rfl)] at h1
          rw [show ffl (i + 1) a = false from decide_eq_false (by omega)]
          omega)
        clear hdr hx2 HL hl hrel
        go_wp2_with fail
        go_quiet (exact Calls.quiet_of_same (kl _))
        go_wp2
        have hr2 : Rd ((wr.drewN nq).setCell ⟨r, 1, none⟩ (.int .i64 ((i : Int) + 1))) r s (i + 1) := by have := (hrd.out.drewN nq).set (i + 1); simpa using this
        refine ⟨⟨i + 1, by omega, by omega, hR1, hr2, hidden (by have := chg_step (b := i + 1) (n := nq) hch.out; simpa using this)⟩, ?_⟩
        rw [hr2.at', hrd.out.at']
        omega
      · have hlf : lett x = false := by simpa using hl
        have kl := fun w => letterM x w
        rw [hlf] at kl
        have kd := fun w => digitM x w
        by_cases hia : i = a
        · subst hia
          have hd2 : decide ((i : Int) < (i : Int)) = false := decide_eq_false (by omega)
          have HEi : Hid (E = i) := hidden (by
            have h1 := hrel.out
            rw [HL.out, if_neg (by unfold lead ffl; rw [hlf, decide_eq_true rfl]; simp)] at h1
            omega)
          have HAI := hidden hai
          clear hdr hx2 HL hl hrel kd hai
          go_wp2_with fail
          go_quiet (exact Calls.quiet_of_same (kl _))
          go_wp2_with fail
          go_quiet (fail)
          go_wp2
          go_ret2
          refine ⟨by rw [HEi.out]; first | rfl | simp, by rw [HEi.out]; exact (hrd.out.drewN _).drewN _, hch.out.trans ((Chg.drewN (fun i => i = r) wr _).trans (Chg.drewN (fun i => i = r) _ _) (fun _ _ e => e)) (fun _ _ e => e)⟩
        · have haiz : (a : Int) < (i : Int) := by omega
          have hanz : (a : Int) ≤ (i : Int) := by omega
          by_cases hg : digi x = true
          · rw [hg] at kd
            have hR1 : Hid (i + 1 + wsz (ffl (i + 1) a) ((bts s).drop (i + 1)) = E) := hidden (by
              have h1 := hrel.out
              rw [HL.out, if_pos (by unfold lead ffl; rw [hlf, hg, decide_eq_false hia]; rfl)] at h1
              rw [show ffl (i + 1) a = false from decide_eq_false (by omega)]
              omega)
            clear hdr hx2 HL hl hrel hg hia
            go_wp2_with fail
            go_quiet (first | exact Calls.quiet_of_same (kl _) | exact Calls.quiet_of_same (kd _))
            go_wp2
            have hr2 : Rd ((wr.drewN nq).setCell ⟨r, 1, none⟩ (.int .i64 ((i : Int) + 1))) r s (i + 1) := by have := (hrd.out.drewN nq).set (i + 1); simpa using this
            refine ⟨⟨i + 1, by omega, by omega, hR1, hr2, hidden (by have := chg_step (b := i + 1) (n := nq) hch.out; simpa using this)⟩, ?_⟩
            rw [hr2.at', hrd.out.at']
            omega
          · have hgf : digi x = false := by simpa using hg
            rw [hgf] at kd
            have HEi : Hid (E = i) := hidden (by
              have h1 := hrel.out
              rw [HL.out, if_neg (by unfold lead ffl; rw [hlf, hgf]; simp)] at h1
              omega)
            clear hdr hx2 HL hl hrel hg hia
            go_wp2_with fail
            go_quiet (first | exact Calls.quiet_of_same (kl _) | exact Calls.quiet_of_same (kd _))
            go_wp2_with fail
            go_quiet (fail)
            go_wp2
            go_ret2
            refine ⟨by rw [HEi.out]; first | rfl | simp [haiz], by rw [HEi.out]; exact (hrd.out.drewN _).drewN _, hch.out.trans ((Chg.drewN (fun i => i = r) wr _).trans (Chg.drewN (fun i => i = r) _ _) (fun _ _ e => e)) (fun _ _ e => e)⟩
    · have hltz : ¬ (i : Int) < (s.size : Int) := by omega
      have hd1 : decide ((i : Int) < (s.size : Int)) = false := decide_eq_false hltz
      have hdz : (bts s).drop i = [] := List.drop_of_length_le (by rw [← size_bts]; omega)
      have HEi : Hid (E = i) := hidden (by
        have h1 := hrel.out
        rw [hdz] at h1
        simp [wsz] at h1
        omega)
      have hanz : (a : Int) ≤ (i : Int) := by omega
      have hisz : (i : Int) ≤ (s.size : Int) := by omega
      clear hdz hrel
      by_cases hia : i = a
      · subst hia
        go_wp2_with fail
        go_quiet (fail)
        go_wp2_with fail
        go_quiet (fail)
        go_wp2
        go_ret2
        refine ⟨by rw [HEi.out]; first | rfl | simp, by rw [HEi.out]; exact (hrd.out.drewN _).drewN _, hch.out.trans ((Chg.drewN (fun i => i = r) wr _).trans (Chg.drewN (fun i => i = r) _ _) (fun _ _ e => e)) (fun _ _ e => e)⟩
      · have haiz : (a : Int) < (i : Int) := by omega
        clear hia
        go_wp2_with fail
        go_quiet (fail)
        go_wp2_with fail
        go_quiet (fail)
        go_wp2
        go_ret2
        refine ⟨by rw [HEi.out]; first | rfl | simp [haiz], by rw [HEi.out]; exact (hrd.out.drewN _).drewN _, hch.out.trans ((Chg.drewN (fun i => i = r) wr _).trans (Chg.drewN (fun i => i = r) _ _) (fun _ _ e => e)) (fun _ _ e => e)⟩

end Go.Proofs.YtanlgplgplncdaaGreatDoor.L

/-
  The program's reader: what an escape stands for; a quote.
-/
namespace Go.Proofs.YtanlgplgplncdaaGreatDoor.L
open Go.RowKit
set_option linter.unusedVariables false
set_option linter.unusedSimpArgs false

def EsD (S : List UInt8) (a : Nat) (v : UInt8) (a' : Nat) (ok : Bool) : Prop :=
  a ≤ a' ∧ a' ≤ S.length ∧ a' ≤ a + 1 ∧ (ok = true → ∀ J p nm o b, runM (S.drop a) a (.es J p nm o b) = runM (S.drop a') a' (.qt J p nm o (b ++ [v]))) ∧ (ok = false → ∀ J p nm o b, runM (S.drop a) a (.es J p nm o b) = .fault a')
theorem hrAt_yes {S : List UInt8} {a : Nat} {c : UInt8} (h : hr S a c = true) : hrAt S a c = a + 1 := by unfold hrAt; rw [if_pos h]
theorem hrAt_no {S : List UInt8} {a : Nat} {c : UInt8} (h : hr S a c = false) : hrAt S a c = a := by unfold hrAt; rw [h]; rfl

set_option maxRecDepth 100000 in
set_option maxHeartbeats 2000000 in
theorem escapedP (r : Nat) (s : ByteArray) (a : Nat) (w : World) (h : Rd w r s a) (ha : a ≤ s.size) (hs : s.size ≤ 140737488355328) :
    Calls Tryz.prog 85 #[.pointer (some ⟨r, 0, none⟩)] w fun e w' => ∃ v a' ok, e = .returned (.tuple #[.int .u8 ((v : UInt8).toNat : Int), .bool ok]) ∧ EsD (bts s) a v a' ok ∧ Rd w' r s a' ∧ Chg (fun i => i = r) w w' := by
  obtain ⟨S, hS⟩ : ∃ S, bts s = S := ⟨_, rfl⟩
  have hsz := size_bts s
  have k1 := takeHereP r s a 92 w h ha hs
  have H34 : Hid (∀ w1, Rd w1 r s a → Calls Tryz.prog 65 #[.pointer (some ⟨r, 0, none⟩), .int .u8 34] w1 fun e w' => e = .returned (.bool (hr S a 34)) ∧ Rd w' r s (hrAt S a 34) ∧ Chg (fun i => i = r) w1 w') := hidden (fun w1 h1 => by rw [← hS]; exact takeHereP r s a 34 w1 h1 ha hs)
  have H110 : Hid (∀ w1, Rd w1 r s a → Calls Tryz.prog 65 #[.pointer (some ⟨r, 0, none⟩), .int .u8 110] w1 fun e w' => e = .returned (.bool (hr S a 110)) ∧ Rd w' r s (hrAt S a 110) ∧ Chg (fun i => i = r) w1 w') := hidden (fun w1 h1 => by rw [← hS]; exact takeHereP r s a 110 w1 h1 ha hs)
  rw [hS] at k1 hsz
  rw [hS]
  have haS : a ≤ S.length := by omega
  have HL : Hid (∀ c, hr S a c = true → a + 1 ≤ S.length) := hidden (fun c hc => by have := hrAt_le (c := c) haS; rwa [hrAt_yes hc] at this)
  clear h hS hsz
  cases q1 : hr S a 92 with
  | true =>
    rw [q1, hrAt_yes q1] at k1
    have HQ := hidden q1
    have hl := HL.out 92 q1
    clear q1
    go_enter Tryz.func85, Tryz.ntmps85
    go_wp2_with fail
    refine k1.mono ?_
    rintro e w1 ⟨rfl, h1, hc1⟩
    have C1 := hidden hc1
    have H1 := hidden h1
    clear hc1 k1 h1
    go_wp2
    go_ret2
    refine ⟨92, a + 1, true, rfl, ⟨by omega, hl, by omega, fun _ J p nm o b => ?_, fun h => by cases h⟩, H1.out, C1.out⟩
    have := run_here_yes (st := .es J p nm o b) (st' := .qt J p nm o (b ++ [92])) HQ.out (by simp [stepM])
    rwa [hrAt_yes HQ.out] at this
  | false =>
    rw [q1, hrAt_no q1] at k1
    have HQ1 := hidden q1
    clear q1
    go_enter Tryz.func85, Tryz.ntmps85
    go_wp2_with fail
    refine k1.mono ?_
    rintro e w1 ⟨rfl, h1, hc1⟩
    have C1 := hidden hc1
    have k2 := H34.out w1 h1
    clear hc1 k1 h1
    cases q2 : hr S a 34 with
    | true =>
      rw [q2, hrAt_yes q2] at k2
      have HQ := hidden q2
      have hl := HL.out 34 q2
      clear q2
      go_wp2_with fail
      refine k2.mono ?_
      rintro e w2 ⟨rfl, h2, hc2⟩
      have C2 := hidden (C1.out.trans hc2 (fun _ _ e => e))
      have H2 := hidden h2
      clear hc2 k2 h2
      go_wp2
      go_ret2
      refine ⟨34, a + 1, true, rfl, ⟨by omega, hl, by omega, fun _ J p nm o b => ?_, fun h => by cases h⟩, H2.out, C2.out⟩
      have := run_here_yes (st := .es J p nm o b) (st' := .qt J p nm o (b ++ [34])) HQ.out (by simp [stepM])
      rwa [hrAt_yes HQ.out] at this
    | false =>
      rw [q2, hrAt_no q2] at k2
      have HQ2 := hidden q2
      clear q2
      go_wp2_with fail
      refine k2.mono ?_
      rintro e w2 ⟨rfl, h2, hc2⟩
      have C2 := hidden (C1.out.trans hc2 (fun _ _ e => e))
      have k3 := H110.out w2 h2
      clear hc2 k2 h2
      cases q3 : hr S a 110 with
      | true =>
        rw [q3, hrAt_yes q3] at k3
        have HQ := hidden q3
        have hl := HL.out 110 q3
        clear q3
        go_wp2_with fail
        refine k3.mono ?_
        rintro e w3 ⟨rfl, h3, hc3⟩
        have C3 := hidden (C2.out.trans hc3 (fun _ _ e => e))
        have H3 := hidden h3
        clear hc3 k3 h3
        go_wp2
        go_ret2
        refine ⟨10, a + 1, true, rfl, ⟨by omega, hl, by omega, fun _ J p nm o b => ?_, fun h => by cases h⟩, H3.out, C3.out⟩
        have := run_here_yes (st := .es J p nm o b) (st' := .qt J p nm o (b ++ [10])) HQ.out (by simp [stepM])
        rwa [hrAt_yes HQ.out] at this
      | false =>
        rw [q3, hrAt_no q3] at k3
        have HQ3 := hidden q3
        clear q3
        go_wp2_with fail
        refine k3.mono ?_
        rintro e w3 ⟨rfl, h3, hc3⟩
        have C3 := hidden (C2.out.trans hc3 (fun _ _ e => e))
        have H3 := hidden h3
        clear hc3 k3 h3
        go_wp2
        go_ret2
        refine ⟨0, a, false, rfl, ⟨by omega, haS, by omega, (fun h => by cases h), fun _ J p nm o b => ?_⟩, H3.out, C3.out⟩
        refine run_none_of (fun x hx => ?_) (fun _ => rfl)
        simp [stepM, hr_no HQ1.out hx, hr_no HQ2.out hx, hr_no HQ3.out hx]

/-- What quote answers of a text at a place: the value, or the fault's place. -/
def Qd (S : List UInt8) (a : Nat) (v : ByteArray) (a' : Nat) (ok : Bool) : Prop :=
  a ≤ a' ∧ a' ≤ S.length ∧ v.size ≤ S.length ∧ (ok = true → ∀ J p nm o, runM (S.drop a) a (.s4 J p nm o) = runM (S.drop a') a' (.s5 (J.add ⟨oft nm, o, v⟩ p))) ∧ (ok = false → ∀ J p nm o, runM (S.drop a) a (.s4 J p nm o) = .fault a')
theorem bl4 (J : Jm) (p : Nat) (nm : List UInt8) (o : Int) : Bl (.s4 J p nm o) := fun i => by simp [stepM]
theorem chg_then {F : Nat → Prop} {u v w : World} (h : Chg F u v) (k : Below u.heap.size v w) : Chg F u w :=
  ⟨k.os.trans h.os, k.tape.trans h.tape, k.output.trans h.output, Nat.le_trans h.size k.size, fun i hi hF => (k.block i hi).trans (h.block i hi hF)⟩
/-- A reader and a builder beside it: where the quote was begun (w1), what has been read. -/
structure QS (S : List UInt8) (a : Nat) (r : Nat) (s : ByteArray) (w1 wx : World) (i : Nat) (l : List UInt8) : Prop where
  rd : Rd wx r s i
  bd : Lib.IsBuilder 75 5 w1.heap.size w1.heap.size (Lib.byteCells l) wx
  ch : Chg (fun i => i = r) w1 wx
  ll : l.length ≤ i
  ru : ∀ J p nm o, runM (S.drop a) a (.s4 J p nm o) = runM (S.drop i) i (.qt J p nm o l)

set_option maxRecDepth 100000 in
set_option maxHeartbeats 4000000 in
theorem quoteP (r : Nat) (s : ByteArray) (a : Nat) (w : World) (h : Rd w r s a) (ha : a ≤ s.size) (hs : s.size ≤ 140737488355328) :
    Calls Tryz.prog 68 #[.pointer (some ⟨r, 0, none⟩)] w fun e w' => ∃ v a' ok, e = .returned (.tuple #[.string v, .bool ok]) ∧ Qd (bts s) a v a' ok ∧ Rd w' r s a' ∧ Chg (fun i => i = r) w w' := by
  have k := takeP r s a 34 w h ha hs
  have hta : tkAt (bts s) a 34 ≤ s.size := by rw [size_bts] at ha ⊢; exact tkAt_le ha
  have hge := tkAt_ge (bts s) a 34
  have HSZ := hidden (size_bts s)
  cases hq : tk (bts s) a 34 with
  | false =>
    rw [hq] at k
    have hQ : Hid (Qd (bts s) a ⟨#[]⟩ (tkAt (bts s) a 34) false) := hidden ⟨hge, by rw [← size_bts]; exact hta, Nat.zero_le _, (fun h => by cases h), fun _ J p nm o => run_take_no (bl4 J p nm o) hq (fun i x h1 h2 => by simp [stepM, h1, h2]) (fun i => rfl)⟩
    clear hq h hge
    go_enter Tryz.func68, Tryz.ntmps68
    go_wp2_with fail
    refine k.mono ?_
    rintro e w1 ⟨rfl, h1, hc1⟩
    have C1 := hidden hc1
    have H1 := hidden h1
    clear hc1 k h1
    go_wp2
    go_ret2
    exact ⟨_, _, _, rfl, hQ.out, H1.out, C1.out⟩
  | true =>
    rw [hq] at k
    have hQ : Hid (∀ J p nm o, runM ((bts s).drop a) a (.s4 J p nm o) = runM ((bts s).drop (tkAt (bts s) a 34)) (tkAt (bts s) a 34) (.qt J p nm o [])) := hidden (fun J p nm o => run_take_yes (bl4 J p nm o) hq (by simp [stepM]))
    obtain ⟨a1, ha1⟩ : ∃ a1, tkAt (bts s) a 34 = a1 := ⟨_, rfl⟩
    rw [ha1] at k hta hQ hge
    clear hq h ha1
    go_enter Tryz.func68, Tryz.ntmps68
    go_wp2_with fail
    refine k.mono ?_
    rintro e w1 ⟨rfl, h1, hc1⟩
    have HR1 := hidden h1
    have HC1 := hidden hc1
    have hrw1 : Hid (r < w1.heap.size) := hidden (Blk.lt h1)
    have Q0 : Hid (QS (bts s) a r s w1 (w1.alloc (.cells #[.pointer none, .slice none 0 0] 75)) a1 []) := hidden (by
      have hal : Below w1.heap.size w1 (w1.alloc (.cells #[.pointer none, .slice none 0 0] 75)) := (Below.refl _ _).alloc (Nat.le_refl _) _
      exact ⟨h1.chg (Chg.of_below (F := fun _ => False) hal) (fun h => h), bd_new w1, Chg.of_below hal, by simp, hQ.out⟩)
    clear k h1 hc1 hQ
    go_wp2_with fail
    go_loopw [5, 6, 7] (fun v5 v6 v7 wx => ∃ (i : Nat) (l' : List UInt8), i ≤ s.size ∧ a ≤ i ∧ Hid (QS (bts s) a r s w1 wx i l')) (fun _ _ _ wx => s.size - rdAt r wx)
    case atStart => exact ⟨a1, [], hta, hge, Q0⟩
    case round =>
      rename World => wr
      obtain ⟨i, l', hi, hai, hq⟩ := hrel
      clear Q0
      have c0 : wr.cell? ⟨r, 0, none⟩ = some (.string s) := hq.out.rd.cell 0
      have c1 : wr.cell? ⟨r, 1, none⟩ = some (.int .i64 (i : Int)) := hq.out.rd.cell 1
      have f1 := hq.out.rd.frozen 1
      have HRDI : Hid (rdAt r wr = i) := hidden hq.out.rd.at'
      by_cases hlt : i < s.size
      · have hltz : (i : Int) < (s.size : Int) := by omega
        obtain ⟨x, hx, hx2, hdr⟩ := byte_at s hlt
        have hrr : Hid (∀ J p nm o, runM ((bts s).drop a) a (.s4 J p nm o) = runM (x :: (bts s).drop (i + 1)) i (.qt J p nm o l')) := hidden (fun J p nm o => by rw [hq.out.ru J p nm o, hdr])
        have e92 := beq92 x
        have e34 := beq34 x
        have e10 := beq10 x
        clear hx2 hdr
        by_cases h2 : x = 10
        · rw [decide_eq_true h2] at e10
          have hQ2 : Hid (Qd (bts s) a ⟨#[]⟩ i false) := hidden ⟨hai, by rw [← size_bts]; exact hi, Nat.zero_le _, (fun h => by cases h), fun _ J p nm o => by rw [hrr.out J p nm o, runM_none (by simp [stepM, h2])]⟩
          clear h2 hrr
          go_wp2_with fail
          go_quiet (fail)
          go_wp2_with fail
          go_quiet (fail)
          go_wp2
          go_ret2
          exact ⟨_, _, _, rfl, hQ2.out, hq.out.rd.drewN _, HC1.out.trans (hq.out.ch.trans (Chg.drewN (fun i => i = r) wr _) (fun _ _ e => e)) (fun _ _ e => e)⟩
        · rw [decide_eq_false h2] at e10
          have HS : Hid (∀ q, Rd ((wr.drewN q).setCell ⟨r, 1, none⟩ (.int .i64 ((i : Int) + 1))) r s (i + 1) ∧ Lib.IsBuilder 75 5 w1.heap.size w1.heap.size (Lib.byteCells l') ((wr.drewN q).setCell ⟨r, 1, none⟩ (.int .i64 ((i : Int) + 1))) ∧ w1.heap.size ≤ ((wr.drewN q).setCell ⟨r, 1, none⟩ (.int .i64 ((i : Int) + 1))).heap.size ∧ Chg (fun i => i = r) w1 ((wr.drewN q).setCell ⟨r, 1, none⟩ (.int .i64 ((i : Int) + 1)))) := hidden (by
            intro q
            have hcs : Chg (fun i => i = r) wr ((wr.drewN q).setCell ⟨r, 1, none⟩ (.int .i64 ((i : Int) + 1))) := (Chg.drewN (fun i => i = r) wr q).trans (Chg.set ⟨r, 1, none⟩ _ _) (fun _ _ e => e)
            refine ⟨by have := (hq.out.rd.drewN q).set (i + 1); simpa using this, bd_keep hq.out.bd (hcs.mono (fun k _ e => by rw [e]; exact hrw1.out)), Nat.le_trans hq.out.ch.size hcs.size, hq.out.ch.trans hcs (fun _ _ e => e)⟩)
          by_cases h1 : x = 34
          · rw [decide_eq_true h1] at e34
            have hQ2 : Hid (Qd (bts s) a (oft l') (i + 1) true) := hidden ⟨by omega, by rw [← size_bts]; omega, by have := hq.out.ll; rw [size_bts, bts_oft, ← size_bts]; omega, (fun _ J p nm o => by rw [hrr.out J p nm o, runM_some (st' := .s5 (J.add ⟨oft nm, o, oft l'⟩ p)) (by simp [stepM, h1])]), fun h => by cases h⟩
            clear h1 h2 hrr
            go_wp2_with fail
            go_quiet (fail)
            go_wp2_with fail
            go_quiet (fail)
            go_wp2_with (go_at_call 30; refine (stringP w1.heap.size w1.heap.size l' _ (HS.out _).2.1 (HS.out _).2.2.1).mono ?_; rintro e w5 ⟨rfl, hb5⟩)
            go_ret2
            exact ⟨_, _, _, rfl, hQ2.out, Blk.below ((HS.out _).1) hb5 hrw1.out, HC1.out.trans (chg_then (HS.out _).2.2.2 hb5) (fun _ _ e => e)⟩
          · rw [decide_eq_false h1] at e34
            by_cases h3 : x = 92
            · rw [decide_eq_true h3] at e92
              have hrr2 : Hid (∀ J p nm o, runM ((bts s).drop a) a (.s4 J p nm o) = runM ((bts s).drop (i + 1)) (i + 1) (.es J p nm o l')) := hidden (fun J p nm o => by rw [hrr.out J p nm o, runM_some (st' := .es J p nm o l') (by simp [stepM, h1, h2, h3])])
              have kE : ∀ w5, Rd w5 r s (i + 1) → Calls Tryz.prog 85 #[.pointer (some ⟨r, 0, none⟩)] w5 fun e w' => ∃ v a' ok, e = .returned (.tuple #[.int .u8 ((v : UInt8).toNat : Int), .bool ok]) ∧ EsD (bts s) (i + 1) v a' ok ∧ Rd w' r s a' ∧ Chg (fun i => i = r) w5 w' := fun w5 h5 => escapedP r s (i + 1) w5 h5 (by omega) hs
              have HKE := hidden kE
              have HLL : Hid (l'.length ≤ i) := hidden hq.out.ll
              clear h1 h2 h3 hrr kE hq
              go_wp2_with fail
              go_quiet (fail)
              go_wp2_with fail
              go_quiet (fail)
              go_wp2_with fail
              refine (HKE.out _ (HS.out _).1).mono ?_
              rintro e w5 ⟨v, a', ok, rfl, hes, hr5, hc5⟩
              have HES := hidden hes
              have HR5 := hidden hr5
              have HBD5 : Hid (Lib.IsBuilder 75 5 w1.heap.size w1.heap.size (Lib.byteCells l') w5) := hidden (bd_keep (HS.out _).2.1 (hc5.mono (fun k _ e => by rw [e]; exact hrw1.out)))
              have HCH5 : Hid (Chg (fun i => i = r) w1 w5) := hidden ((HS.out _).2.2.2.trans hc5 (fun _ _ e => e))
              clear hes hr5 hc5
              have hEa := HES.out.1
              have hEb : a' ≤ s.size := by rw [size_bts]; exact HES.out.2.1
              cases ok with
              | false =>
                have hQ2 : Hid (Qd (bts s) a ⟨#[]⟩ a' false) := hidden ⟨by omega, HES.out.2.1, Nat.zero_le _, (fun h => by cases h), fun _ J p nm o => by rw [hrr2.out J p nm o]; exact HES.out.2.2.2.2 rfl J p nm o l'⟩
                clear hrr2
                go_wp2
                go_ret2
                exact ⟨_, _, _, rfl, hQ2.out, HR5.out, HC1.out.trans HCH5.out (fun _ _ e => e)⟩
              | true =>
                have hz5 : w1.heap.size ≤ w5.heap.size := HCH5.out.size
                have kW := wbP w1.heap.size w1.heap.size l' v w5 HBD5.out (by have := HLL.out; omega) hz5
                have HRU : Hid (∀ J p nm o, runM ((bts s).drop a) a (.s4 J p nm o) = runM ((bts s).drop a') a' (.qt J p nm o (l' ++ [v]))) := hidden (fun J p nm o => by rw [hrr2.out J p nm o]; exact HES.out.2.2.2.1 rfl J p nm o l')
                clear hrr2
                go_wp2_with fail
                refine kW.mono ?_
                rintro e w6 ⟨rfl, h6, hb6, -⟩
                have hr6 : Rd w6 r s a' := Blk.below HR5.out hb6 hrw1.out
                have Q6 : Hid (QS (bts s) a r s w1 w6 a' (l' ++ [v])) := hidden ⟨hr6, h6, chg_then HCH5.out hb6, by have := HLL.out; simp; omega, HRU.out⟩
                have HR6 := hidden hr6
                have HRI : Hid (rdAt r wr = i) := HRDI
                clear h6 hb6 kW hr6
                go_wp2_with fail
                refine ⟨⟨a', _, hEb, by omega, Q6⟩, ?_⟩
                rw [HR6.out.at', HRI.out]
                omega
            · rw [decide_eq_false h3] at e92
              have hrr2 : Hid (∀ J p nm o, runM ((bts s).drop a) a (.s4 J p nm o) = runM ((bts s).drop (i + 1)) (i + 1) (.qt J p nm o (l' ++ [x]))) := hidden (fun J p nm o => by rw [hrr.out J p nm o, runM_some (st' := .qt J p nm o (l' ++ [x])) (by simp [stepM, h1, h2, h3])])
              have HLL : Hid (l'.length ≤ i) := hidden hq.out.ll
              have HKW : Hid (∀ q, Calls Tryz.prog 48 #[.pointer (some ⟨w1.heap.size, 0, none⟩), .int .u8 (x.toNat : Int)] ((wr.drewN q).setCell ⟨r, 1, none⟩ (.int .i64 ((i : Int) + 1))) fun e w' => e = .returned .nilIface ∧ Lib.IsBuilder 75 5 w1.heap.size w1.heap.size (Lib.byteCells (l' ++ [x])) w' ∧ Below w1.heap.size ((wr.drewN q).setCell ⟨r, 1, none⟩ (.int .i64 ((i : Int) + 1))) w' ∧ Wr w1.heap.size ((wr.drewN q).setCell ⟨r, 1, none⟩ (.int .i64 ((i : Int) + 1))) w') := hidden (fun q => wbP w1.heap.size w1.heap.size l' x _ (HS.out q).2.1 (by have := HLL.out; omega) (HS.out q).2.2.1)
              clear h1 h2 h3 hrr hq
              go_wp2_with fail
              go_quiet (fail)
              go_wp2_with fail
              go_quiet (fail)
              go_wp2_with fail
              refine (HKW.out _).mono ?_
              rintro e w6 ⟨rfl, h6, hb6, -⟩
              have hr6 : Rd w6 r s (i + 1) := Blk.below (HS.out _).1 hb6 hrw1.out
              have Q6 : Hid (QS (bts s) a r s w1 w6 (i + 1) (l' ++ [x])) := hidden ⟨hr6, h6, chg_then (HS.out _).2.2.2 hb6, by have := HLL.out; simp; omega, hrr2.out⟩
              have HR6 := hidden hr6
              have HRI : Hid (rdAt r wr = i) := HRDI
              clear h6 hb6 hr6
              go_wp2_with fail
              refine ⟨⟨i + 1, _, by omega, by omega, Q6⟩, ?_⟩
              rw [HR6.out.at', HRI.out]
              omega
      · have hltz : ¬ (i : Int) < (s.size : Int) := by omega
        have hQ2 : Hid (Qd (bts s) a ⟨#[]⟩ i false) := hidden ⟨hai, by rw [← size_bts]; exact hi, Nat.zero_le _, (fun h => by cases h), fun _ J p nm o => by rw [hq.out.ru J p nm o, List.drop_of_length_le (by rw [← size_bts]; omega)]; rfl⟩
        go_wp2_with fail
        go_quiet (fail)
        go_wp2
        go_ret2
        exact ⟨_, _, _, rfl, hQ2.out, hq.out.rd.drewN _, HC1.out.trans (hq.out.ch.trans (Chg.drewN (fun i => i = r) wr _) (fun _ _ e => e)) (fun _ _ e => e)⟩

end Go.Proofs.YtanlgplgplncdaaGreatDoor.L
