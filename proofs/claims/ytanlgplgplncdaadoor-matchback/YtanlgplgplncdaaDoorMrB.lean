/-
  The program's reader: a byte that stands here, or behind blanks; an op; what an escape stands for.
-/
import Derived.Test.YtanlgplgplncdaaDoorMrX
import Derived.BigQuiet
namespace Go.Proofs.YtanlgplgplncdaaDoor.L
open Go.RowKit
set_option linter.unusedVariables false
set_option linter.unusedSimpArgs false

set_option maxHeartbeats 2000000 in
theorem letterM (x : UInt8) (w : World) : Calls Tryd.prog 50 #[.int .u8 (x.toNat : Int)] w fun e w' => e = .returned (.bool (lett x)) ∧ w' = w := by
  unfold lett
  generalize x.toNat = k
  by_cases h1 : 97 ≤ k <;> by_cases h2 : k ≤ 122 <;> by_cases h3 : 65 ≤ k <;> by_cases h4 : k ≤ 90 <;> by_cases h5 : k = 95 <;> first
    | (exfalso; omega)
    | (have z1 : (97 : Int) ≤ (k : Int) ↔ 97 ≤ k := by omega
       have z2 : (k : Int) ≤ 122 ↔ k ≤ 122 := by omega
       have z3 : (65 : Int) ≤ (k : Int) ↔ 65 ≤ k := by omega
       have z4 : (k : Int) ≤ 90 ↔ k ≤ 90 := by omega
       have z5 : ((k : Int) = 95) ↔ k = 95 := by omega
       have z6 : ((k : Int) == 95) = decide (k = 95) := by rw [Bool.eq_iff_iff]; simp; omega
       go_enter Tryd.func50, Tryd.ntmps50
       go_wp2
       go_ret
       simp [h1, h2, h3, h4, h5, z6])

set_option maxHeartbeats 2000000 in
theorem digitM (x : UInt8) (w : World) : Calls Tryd.prog 51 #[.int .u8 (x.toNat : Int)] w fun e w' => e = .returned (.bool (digi x)) ∧ w' = w := by
  unfold digi
  generalize x.toNat = k
  by_cases h1 : 48 ≤ k <;> by_cases h2 : k ≤ 57 <;> first
    | (exfalso; omega)
    | (have z1 : (48 : Int) ≤ (k : Int) ↔ 48 ≤ k := by omega
       have z2 : (k : Int) ≤ 57 ↔ k ≤ 57 := by omega
       go_enter Tryd.func51, Tryd.ntmps51
       go_wp2
       go_ret
       simp [h1, h2])


/-- Does this byte stand here? -/
def hr (S : List UInt8) (a : Nat) (c : UInt8) : Bool := decide (S[a]? = some c)
def hrAt (S : List UInt8) (a : Nat) (c : UInt8) : Nat := if hr S a c then a + 1 else a
theorem hrAt_le {S : List UInt8} {a : Nat} {c : UInt8} (h : a ≤ S.length) : hrAt S a c ≤ S.length := by
  unfold hrAt
  split
  · rename_i hh
    have := of_decide_eq_true hh
    have := (List.getElem?_eq_some_iff.1 this).1
    omega
  · exact h
theorem hrAt_ge (S : List UInt8) (a : Nat) (c : UInt8) : a ≤ hrAt S a c := by unfold hrAt; split <;> omega

set_option maxRecDepth 100000 in
set_option maxHeartbeats 2000000 in
theorem takeHereP (r : Nat) (s : ByteArray) (a : Nat) (c : UInt8) (w : World) (h : Rd w r s a) (ha : a ≤ s.size) (hs : s.size ≤ 140737488355328) :
    Calls Tryd.prog 39 #[.pointer (some ⟨r, 0, none⟩), .int .u8 (c.toNat : Int)] w fun e w' => e = .returned (.bool (hr (bts s) a c)) ∧ Rd w' r s (hrAt (bts s) a c) ∧ Chg (fun i => i = r) w w' := by
  obtain ⟨q, hq⟩ : ∃ q, hr (bts s) a c = q := ⟨_, rfl⟩
  unfold hrAt
  rw [hq]
  unfold hr at hq
  have c0 : w.cell? ⟨r, 0, none⟩ = some (.string s) := h.cell 0
  have c1 : w.cell? ⟨r, 1, none⟩ = some (.int .i64 (a : Int)) := h.cell 1
  have f1 := h.frozen 1
  have HH := hidden h
  clear h
  by_cases hend : a = s.size
  · have z : ((a : Int) == (s.size : Int)) = true := by simp; omega
    have hqf : q = false := by rw [← hq, List.getElem?_eq_none (by rw [← size_bts]; omega)]; rfl
    subst hqf
    clear hend hq
    go_enter Tryd.func39, Tryd.ntmps39
    go_wp2
    go_quiet (fail)
    go_wp2
    go_ret
    exact ⟨rfl, HH.out.drewN _, Chg.drewN (fun i => i = r) w _⟩
  · have z : ((a : Int) == (s.size : Int)) = false := by simp; omega
    have hlt : a < s.size := by omega
    have hltz : (a : Int) < (s.size : Int) := by omega
    obtain ⟨x, hx, hx2, _⟩ := byte_at s hlt
    have hqe : q = decide (x = c) := by rw [← hq, hx2]; simp
    have hne : (((x.toNat : Nat) : Int) != (c.toNat : Int)) = !q := by
      rw [hqe, bne, beq8 x c.toNat c.toNat_lt]; simp
    clear hq hqe hx2 hend
    generalize hC : ((c.toNat : Nat) : Int) = C at *
    generalize hX : ((x.toNat : Nat) : Int) = X at *
    clear hC
    cases q with
    | true =>
      have hne2 : (X != C) = false := hne
      go_enter Tryd.func39, Tryd.ntmps39
      go_wp2
      go_quiet (fail)
      go_wp2
      go_ret
      refine ⟨rfl, ?_, (Chg.drewN (fun i => i = r) w _).trans (Chg.set ⟨r, 1, none⟩ _ _) (fun _ _ e => e)⟩
      have := (HH.out.drewN nq).set (a + 1)
      simpa using this
    | false =>
      have hne2 : (X != C) = true := hne
      go_enter Tryd.func39, Tryd.ntmps39
      go_wp2
      go_quiet (fail)
      go_wp2
      go_ret
      exact ⟨rfl, HH.out.drewN _, Chg.drewN (fun i => i = r) w _⟩

theorem tkAt_ge (S : List UInt8) (a : Nat) (c : UInt8) : a ≤ tkAt S a c := Nat.le_trans (sk_ge S a) (hrAt_ge S _ c)

set_option maxRecDepth 100000 in
set_option maxHeartbeats 2000000 in
theorem takeP (r : Nat) (s : ByteArray) (a : Nat) (c : UInt8) (w : World) (h : Rd w r s a) (ha : a ≤ s.size) (hs : s.size ≤ 140737488355328) :
    Calls Tryd.prog 27 #[.pointer (some ⟨r, 0, none⟩), .int .u8 (c.toNat : Int)] w fun e w' => e = .returned (.bool (tk (bts s) a c)) ∧ Rd w' r s (tkAt (bts s) a c) ∧ Chg (fun i => i = r) w w' := by
  have k := skipBlanksP r s a w h ha hs
  have hle : sk (bts s) a ≤ s.size := by rw [size_bts] at ha ⊢; exact sk_le ha
  have K2 : Hid (∀ w1, Rd w1 r s (sk (bts s) a) → Calls Tryd.prog 39 #[.pointer (some ⟨r, 0, none⟩), .int .u8 (c.toNat : Int)] w1 fun e w' => e = .returned (.bool (tk (bts s) a c)) ∧ Rd w' r s (tkAt (bts s) a c) ∧ Chg (fun i => i = r) w1 w') := hidden (fun w1 h1 => takeHereP r s _ c w1 h1 hle hs)
  generalize sk (bts s) a = b at *
  generalize tk (bts s) a c = q at *
  generalize tkAt (bts s) a c = a' at *
  generalize ((c.toNat : Nat) : Int) = C at *
  clear h
  go_enter Tryd.func27, Tryd.ntmps27
  go_wp2_with fail
  refine k.mono ?_
  rintro e w1 ⟨rfl, h1, hc1⟩
  have C1 := hidden hc1
  have k2 := K2.out w1 h1
  clear hc1 k h1
  go_wp2_with fail
  refine k2.mono ?_
  rintro e w2 ⟨rfl, h2, hc2⟩
  have C2 := hidden hc2
  have H2 := hidden h2
  clear hc2 h2 k2
  go_wp2
  go_ret
  exact ⟨by first | rfl | simp, H2.out, C1.out.trans C2.out (fun _ _ e => e)⟩

theorem drop_at {S : List UInt8} {a : Nat} {c : UInt8} (h : S[a]? = some c) : S.drop a = c :: S.drop (a + 1) := by
  have hl : a < S.length := (List.getElem?_eq_some_iff.1 h).1
  rw [List.drop_eq_getElem_cons hl]
  rw [List.getElem?_eq_getElem hl] at h
  injection h with h; rw [h]
theorem run_here_yes {S : List UInt8} {a : Nat} {c : UInt8} {st st' : Sm} (h : hr S a c = true) (hs : stepM a c st = some st') : runM (S.drop a) a st = runM (S.drop (hrAt S a c)) (hrAt S a c) st' := by
  have hc : S[a]? = some c := of_decide_eq_true h
  rw [drop_at hc, runM_some hs, hrAt, if_pos h]
/-- Nothing of what may stand here does. -/
theorem run_none_of {S : List UInt8} {a : Nat} {st : Sm} (hs : ∀ x, S[a]? = some x → stepM a x st = none) (he : ∀ i, st.end i = .fault i) : runM (S.drop a) a st = .fault a := by
  cases hx : S[a]? with
  | none => rw [List.drop_of_length_le (List.getElem?_eq_none_iff.1 hx), runM_nil, he]
  | some x => rw [drop_at hx, runM_none (hs x hx)]
theorem hr_no {S : List UInt8} {a : Nat} {c : UInt8} (h : hr S a c = false) {x : UInt8} (hx : S[a]? = some x) : x ≠ c := by
  rintro rfl
  exact of_decide_eq_false h hx
theorem run_take_yes {S : List UInt8} {a : Nat} {c : UInt8} {st st' : Sm} (hb : Bl st) (h : tk S a c = true) (hs : stepM (sk S a) c st = some st') : runM (S.drop a) a st = runM (S.drop (tkAt S a c)) (tkAt S a c) st' := by
  rw [run_sk hb]
  exact run_here_yes h hs
theorem run_take_no {S : List UInt8} {a : Nat} {c : UInt8} {st : Sm} (hb : Bl st) (h : tk S a c = false) (hs : ∀ i x, x ≠ 32 → x ≠ c → stepM i x st = none) (he : ∀ i, st.end i = .fault i) : runM (S.drop a) a st = .fault (tkAt S a c) := by
  rw [run_sk hb, show tkAt S a c = sk S a from by unfold tkAt; rw [h]; rfl]
  refine run_none_of (fun x hx => hs _ x (fun e => sk_next S a (by rw [hx, e])) (hr_no h hx)) he

/-- What an op is read as. -/
def OpD (S : List UInt8) (a : Nat) (o : Int) (a' : Nat) (ok : Bool) : Prop :=
  a ≤ a' ∧ a' ≤ S.length ∧ (0 ≤ o ∧ o ≤ 4) ∧ (ok = true → ∀ J p nm, runM (S.drop a) a (.s3 J p nm) = runM (S.drop a') a' (.s4 J p nm o)) ∧ (ok = false → ∀ J p nm, runM (S.drop a) a (.s3 J p nm) = .fault a')
theorem bl3 (J : Jm) (p : Nat) (nm : List UInt8) : Bl (.s3 J p nm) := fun i => by simp [stepM]
theorem eq_s4 {S : List UInt8} {a : Nat} (h : hr S a 126 = false) (J : Jm) (p : Nat) (nm : List UInt8) : runM (S.drop a) a (.eq J p nm) = runM (S.drop a) a (.s4 J p nm 1) := by
  cases hx : S[a]? with
  | none => rw [List.drop_of_length_le (List.getElem?_eq_none_iff.1 hx), runM_nil, runM_nil]; rfl
  | some x =>
    have hne := hr_no h hx
    rw [drop_at hx]
    by_cases h1 : x = 32
    · subst h1
      rw [runM_some (st' := .s4 J p nm 1) (by simp [stepM]), runM_some (st' := .s4 J p nm 1) (by simp [stepM])]
    · by_cases h2 : x = 34
      · subst h2
        rw [runM_some (st' := .qt J p nm 1 []) (by simp [stepM]), runM_some (st' := .qt J p nm 1 []) (by simp [stepM])]
      · rw [runM_none (by simp [stepM, h1, h2, hne]), runM_none (by simp [stepM, h1, h2])]

set_option maxRecDepth 100000 in
set_option maxHeartbeats 2000000 in
theorem opP (r : Nat) (s : ByteArray) (a : Nat) (w : World) (h : Rd w r s a) (ha : a ≤ s.size) (hs : s.size ≤ 140737488355328) :
    Calls Tryd.prog 41 #[.pointer (some ⟨r, 0, none⟩)] w fun e w' => ∃ o a' ok, e = .returned (.tuple #[.int .i64 o, .bool ok]) ∧ OpD (bts s) a o a' ok ∧ Rd w' r s a' ∧ Chg (fun i => i = r) w w' := by
  have hsz := size_bts s
  obtain ⟨S, hS⟩ : ∃ S, bts s = S := ⟨_, rfl⟩
  have k1 := takeP r s a 61 w h ha hs
  have T33 : Hid (∀ w1 b, b ≤ s.size → Rd w1 r s b → Calls Tryd.prog 27 #[.pointer (some ⟨r, 0, none⟩), .int .u8 33] w1 fun e w' => e = .returned (.bool (tk S b 33)) ∧ Rd w' r s (tkAt S b 33) ∧ Chg (fun i => i = r) w1 w') := hidden (fun w1 b hb h1 => by rw [← hS]; exact takeP r s b 33 w1 h1 hb hs)
  have H126 : Hid (∀ w1 b, b ≤ s.size → Rd w1 r s b → Calls Tryd.prog 39 #[.pointer (some ⟨r, 0, none⟩), .int .u8 126] w1 fun e w' => e = .returned (.bool (hr S b 126)) ∧ Rd w' r s (hrAt S b 126) ∧ Chg (fun i => i = r) w1 w') := hidden (fun w1 b hb h1 => by rw [← hS]; exact takeHereP r s b 126 w1 h1 hb hs)
  have H61 : Hid (∀ w1 b, b ≤ s.size → Rd w1 r s b → Calls Tryd.prog 39 #[.pointer (some ⟨r, 0, none⟩), .int .u8 61] w1 fun e w' => e = .returned (.bool (hr S b 61)) ∧ Rd w' r s (hrAt S b 61) ∧ Chg (fun i => i = r) w1 w') := hidden (fun w1 b hb h1 => by rw [← hS]; exact takeHereP r s b 61 w1 h1 hb hs)
  rw [hS] at k1 hsz
  rw [hS]
  have haS : a ≤ S.length := by omega
  have HSZ := hidden hsz
  clear h hS hsz
  have hb1 : tkAt S a 61 ≤ s.size := by rw [HSZ.out]; exact tkAt_le haS
  have hg1 := tkAt_ge S a 61
  cases q1 : tk S a 61 with
  | true =>
    rw [q1] at k1
    have R1 : Hid (∀ J p nm, runM (S.drop a) a (.s3 J p nm) = runM (S.drop (tkAt S a 61)) (tkAt S a 61) (.eq J p nm)) := hidden (fun J p nm => run_take_yes (bl3 J p nm) q1 (by simp [stepM]))
    generalize tkAt S a 61 = b at *
    clear q1
    have hg2 := hrAt_ge S b 126
    have hb2 : hrAt S b 126 ≤ S.length := hrAt_le (by rw [← HSZ.out]; exact hb1)
    go_enter Tryd.func41, Tryd.ntmps41
    go_wp2_with fail
    refine k1.mono ?_
    rintro e w1 ⟨rfl, h1, hc1⟩
    have C1 := hidden hc1
    have k2 := H126.out w1 b hb1 h1
    clear hc1 k1 h1
    go_wp2_with fail
    refine k2.mono ?_
    rintro e w2 ⟨rfl, h2, hc2⟩
    have C2 := hidden (C1.out.trans hc2 (fun _ _ e => e))
    have H2 := hidden h2
    clear hc2 h2 k2
    cases q2 : hr S b 126 with
    | true =>
      have HQ2 := hidden q2
      clear q2
      go_wp2
      go_ret2
      refine ⟨3, _, true, rfl, ⟨by omega, hb2, by omega, fun _ J p nm => ?_, fun h => by cases h⟩, H2.out, C2.out⟩
      rw [R1.out]
      exact run_here_yes HQ2.out (by simp [stepM])
    | false =>
      have HQ2 := hidden q2
      clear q2
      go_wp2
      go_ret2
      refine ⟨1, _, true, rfl, ⟨by omega, hb2, by omega, fun _ J p nm => ?_, fun h => by cases h⟩, H2.out, C2.out⟩
      rw [R1.out, eq_s4 HQ2.out, show hrAt S b 126 = b from by unfold hrAt; rw [HQ2.out]; rfl]
  | false =>
    rw [q1] at k1
    have HQ1 := hidden q1
    have e1 : tkAt S a 61 = sk S a := by unfold tkAt; rw [q1]; rfl
    rw [e1] at k1 hb1 hg1
    have R1 : Hid (∀ J p nm, runM (S.drop a) a (.s3 J p nm) = runM (S.drop (sk S a)) (sk S a) (.s3 J p nm)) := hidden (fun J p nm => run_sk (bl3 J p nm) S a)
    have hss : sk S (sk S a) = sk S a := sk_stop (sk_next S a)
    have HN : Hid (S[sk S a]? ≠ some 32) := hidden (sk_next S a)
    have HN61 : Hid (hr S (sk S a) 61 = false) := hidden q1
    generalize sk S a = b at *
    have etk : tk S b 33 = hr S b 33 := by unfold tk; rw [hss]; rfl
    have eta : tkAt S b 33 = hrAt S b 33 := by unfold tkAt; rw [hss, etk]; rfl
    clear q1 e1 hss
    have hb2 : hrAt S b 33 ≤ S.length := hrAt_le (by rw [← HSZ.out]; exact hb1)
    have hg2 := hrAt_ge S b 33
    go_enter Tryd.func41, Tryd.ntmps41
    go_wp2_with fail
    refine k1.mono ?_
    rintro e w1 ⟨rfl, h1, hc1⟩
    have C1 := hidden hc1
    have k2 := T33.out w1 b hb1 h1
    rw [etk, eta] at k2
    clear hc1 k1 h1
    go_wp2_with fail
    refine k2.mono ?_
    rintro e w2 ⟨rfl, h2, hc2⟩
    have C2 := hidden (C1.out.trans hc2 (fun _ _ e => e))
    have H2 := hidden h2
    clear hc2 h2 k2 etk eta
    cases q2 : hr S b 33 with
    | false =>
      have HQ2 := hidden q2
      clear q2
      go_wp2
      go_ret2
      refine ⟨0, _, false, rfl, ⟨by omega, hb2, by omega, (fun h => by cases h), fun _ J p nm => ?_⟩, H2.out, C2.out⟩
      rw [R1.out, show hrAt S b 33 = b from by unfold hrAt; rw [HQ2.out]; rfl]
      refine run_none_of (fun x hx => ?_) (fun _ => rfl)
      have n1 : x ≠ 32 := fun e => HN.out (by rw [hx, e])
      simp [stepM, n1, hr_no HN61.out hx, hr_no HQ2.out hx]
    | true =>
      have R2 : Hid (∀ J p nm, runM (S.drop b) b (.s3 J p nm) = runM (S.drop (hrAt S b 33)) (hrAt S b 33) (.ba J p nm)) := hidden (fun J p nm => run_here_yes q2 (by simp [stepM]))
      generalize hrAt S b 33 = d at *
      clear q2
      have hd : d ≤ s.size := by rw [HSZ.out]; exact hb2
      have k3 := H61.out w2 d hd H2.out
      have hg3 := hrAt_ge S d 61
      have hb3 : hrAt S d 61 ≤ S.length := hrAt_le hb2
      clear H2
      go_wp2_with fail
      refine k3.mono ?_
      rintro e w3 ⟨rfl, h3, hc3⟩
      have C3 := hidden (C2.out.trans hc3 (fun _ _ e => e))
      have H3 := hidden h3
      clear hc3 h3 k3
      cases q3 : hr S d 61 with
      | true =>
        have HQ3 := hidden q3
        clear q3
        go_wp2
        go_ret2
        refine ⟨2, _, true, rfl, ⟨by omega, hb3, by omega, fun _ J p nm => ?_, fun h => by cases h⟩, H3.out, C3.out⟩
        rw [R1.out, R2.out]
        exact run_here_yes HQ3.out (by simp [stepM])
      | false =>
        have HQ3 := hidden q3
        have e3 : hrAt S d 61 = d := by unfold hrAt; rw [q3]; rfl
        rw [e3] at H3 hg3 hb3
        clear q3 e3
        have k4 := H126.out w3 d hd H3.out
        have hg4 := hrAt_ge S d 126
        have hb4 : hrAt S d 126 ≤ S.length := hrAt_le hb2
        clear H3
        go_wp2_with fail
        refine k4.mono ?_
        rintro e w4 ⟨rfl, h4, hc4⟩
        have C4 := hidden (C3.out.trans hc4 (fun _ _ e => e))
        have H4 := hidden h4
        clear hc4 h4 k4
        go_wp2
        go_ret2
        refine ⟨4, _, _, rfl, ⟨by omega, hb4, by omega, fun hk J p nm => ?_, fun hk J p nm => ?_⟩, H4.out, C4.out⟩
        · rw [R1.out, R2.out]
          exact run_here_yes hk (by simp [stepM])
        · rw [R1.out, R2.out, show hrAt S d 126 = d from by unfold hrAt; rw [hk]; rfl]
          refine run_none_of (fun x hx => ?_) (fun _ => rfl)
          simp [stepM, hr_no HQ3.out hx, hr_no hk hx]

end Go.Proofs.YtanlgplgplncdaaDoor.L
