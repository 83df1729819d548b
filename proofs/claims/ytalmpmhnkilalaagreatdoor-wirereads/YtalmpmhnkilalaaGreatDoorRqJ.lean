/-
  Package wire: a response written; Answer.
-/
import Derived.Test.YtalmpmhnkilalaaGreatDoorRqF
namespace Go.Proofs.YtalmpmhnkilalaaGreatDoor
open Go Go.RowKit
set_option linter.unusedVariables false

theorem usedA_lt (k : Int) : (usedA k).length ≤ 4 ∧ ∀ i ∈ usedA k, i < 4 := by
  unfold usedA
  cases h : fieldsA k with
  | none => exact ⟨by simp, by simp⟩
  | some l =>
    refine ⟨?_, fun i hi => (fieldsA_some h).2.1 i (by simpa using hi)⟩
    unfold fieldsA at h
    repeat' split at h
    all_goals first | (cases h; done) | (injection h with h; subst h; simp)
/-- Fields that lie still under a writer. -/
def Mem (fm : Nat → FM) (n : Nat) (w : World) : Prop := (∀ i, i < n → (fm i).mem w) ∧ Gv w

set_option maxHeartbeats 2000000 in
set_option maxRecDepth 20000 in
theorem responseW0 (p : Nat) (rb : Option Nat) (s : Ws) (k : Int) (fm : Nat → FM) (w : World) (h : Wt w p rb s) (hk : ∀ i, i < 4 → (fm i).fv.kd = kdA i) (hm : ∀ wx, Chg (fpt p rb) w wx → Mem fm 4 wx) (hkk : I64n k) :
    Calls Tryz.prog 40 #[.pointer (some ⟨p, 0, none⟩), .agg (cA 0 k fm).toArray] w (WQ w p rb (wAns 0 k (fun i => (fm i).fv) s)) := by
  have HW := hidden h
  have HM := hidden hm
  have HK := hidden hk
  obtain ⟨hk0, hk1⟩ := hkk
  clear h hm hk
  have HE : Hid (wAns 0 k (fun i => (fm i).fv) s = putsF (fun i => (fm i).fv) (usedA k) (zerosF (fun i => (fm i).fv) (usedA k) (List.range 4) ((((s.must (decide (u64 0 ≤ 999))).put (Q.enc (u64 0))).must (fieldsA k).isSome).put [u8 k]))) := hidden (by unfold wAns; rw [if_neg (by simp)])
  rw [HE.out]
  go_enter Tryz.func40, Tryz.ntmps40
  go_wp2_with (refine wpList_box_blk rfl 57 (.tmp 1) rfl (cA 0 k fm) rfl ?_; intro w2 B2 bl2 hz2; have HB2 := hidden B2; have c0 : w2.cell? ⟨w.heap.size, 0, none⟩ = some (.int .i64 0) := B2.cell 0; have X2 := hidden ((WX.start HW.out).later bl2); clear B2 bl2 hz2)
  refine (numberW p rb s (u64 0) 999 w2 X2.out.wt (u64_le 0) (by omega)).mono ?_
  rintro en w3 hQ
  obtain ⟨rfl, ⟨rb3, X3⟩, K3⟩ := X2.out.step hQ
  have HX3 := hidden X3
  have HB3 := hidden (K3.blk _ _ _ HB2.out (by decide) (by decide))
  have c0' : w3.cell? ⟨w.heap.size, 0, none⟩ = some (.int .i64 0) := HB3.out.cell 0
  have c1' : w3.cell? ⟨w.heap.size, 1, none⟩ = some (.int .i64 k) := HB3.out.cell 1
  clear hQ X3 K3 c0
  go_wp2_with fail
  refine (fieldsOfAnswerP k w3 hk0 hk1).mono ?_
  rintro en w4 ⟨b4, uad, uc, huad, hin, rfl⟩
  have HB4 := hidden (HB3.out.later b4)
  have HX4 := hidden (HX3.out.later b4)
  have HIN := hidden (And.intro hin (fun y hy => (huad y hy).2))
  obtain ⟨uN, hUN⟩ : ∃ uN, (usedA k).length = uN := ⟨_, rfl⟩
  have HUN := hidden hUN
  have hul := (usedA_lt k).1
  rw [hUN] at hul ⊢
  have c14 : w4.cell? ⟨w.heap.size, 1, none⟩ = some (.int .i64 k) := HB4.out.cell 1
  clear b4 hin huad hUN c0' c1'
  go_wp2_with fail
  refine (mustW p rb3 _ (fieldsA k).isSome w4 HX4.out.wt).mono ?_
  rintro en w5 hQ
  obtain ⟨rfl, ⟨rb5, X5⟩, K5⟩ := HX4.out.step hQ
  have HX5 := hidden X5
  have HB5 := hidden (K5.blk _ _ _ HB4.out (by decide) (by decide))
  have HIN5 := hidden (K5.in' HIN.out.1 HIN.out.2)
  have c15 : w5.cell? ⟨w.heap.size, 1, none⟩ = some (.int .i64 k) := HB5.out.cell 1
  clear hQ X5 K5 c14
  go_wp2_with fail
  change Calls Tryz.prog 57 #[.pointer (some ⟨p, 0, none⟩), .int .u8 (u8 k)] w5 _
  refine (octetW p rb5 _ (u8 k) w5 HX5.out.wt (by unfold u8; omega) (by unfold u8; omega)).mono ?_
  rintro en w6 hQ
  obtain ⟨rfl, ⟨rb6, X6⟩, K6⟩ := HX5.out.step hQ
  have HX6 := hidden X6
  have HB6 := hidden (K6.blk _ _ _ HB5.out (by decide) (by decide))
  have HIN6 := hidden (K6.in' HIN5.out.1 HIN5.out.2)
  clear hQ X6 K6 c15
  go_wp2_with fail
  refine (responsePartsP w.heap.size 0 k fm w6 HB6.out HK.out).mono ?_
  rintro en w7 ⟨a, rfl, ha, b7, hbx, hP, hT⟩
  have HX7 := hidden (HX6.out.later b7)
  have HK7 := kpt_below b7
  have HB7 := hidden (HB6.out.later b7)
  have HBX := hidden hbx
  have HP := hidden (And.intro hP hT)
  have HIN7 := hidden (HK7.in' HIN6.out.1 HIN6.out.2)
  clear hbx hP hT HK7 b7
  go_wp2_with fail
  refine (wpartsP 4 pfA tfA (fun i => (fm i).fv) w6.heap.size a 0 (usedA k) uad uN uc p rb6 _ w7 cfA HX7.out.wt (fun wx hc => (kpt_chg HX7.out.wt hc).parts HP.out.1 HP.out.2) (fun wx hc => ((kpt_chg HX7.out.wt hc).in' HIN7.out.1 HIN7.out.2).1) HUN.out (usedA_lt k).2 (by omega) (by omega) (fun i hi s1 rb1 wx h1 hc hmv => putsA p w.heap.size w6.heap.size 0 k fm HK.out i ((usedA_lt k).2 i hi) s1 rb1 wx h1 ((kpt_chg HX7.out.wt hc).blk _ _ _ HB7.out (by decide) (by decide)) ((kpt_chg HX7.out.wt hc).blk _ _ _ HBX.out (by decide) (by decide)) (fun wy hy => ?_))).mono ?_
  · have := HM.out wy ((HX7.out.chg.trans hc (fun i hi hf => fpt_moved HX7.out.mv i hi hf)).trans hy (fun i hi hf => fpt_moved (HX7.out.mv.trans hmv HX7.out.chg.size) i hi hf))
    exact ⟨this.1 i ((usedA_lt k).2 i hi), this.2⟩
  · rintro en w8 hQ
    obtain ⟨rfl, ⟨rb8, X8⟩, _⟩ := HX7.out.step hQ
    have HX8 := hidden X8
    clear hQ X8
    go_wp2_with fail
    go_end0
    exact HX8.out.done

set_option maxHeartbeats 2000000 in
set_option maxRecDepth 20000 in
theorem responseW1 (p : Nat) (rb : Option Nat) (s : Ws) (e k : Int) (fm : Nat → FM) (w : World) (h : Wt w p rb s) (hk : ∀ i, i < 4 → (fm i).fv.kd = kdA i) (hm : ∀ wx, Chg (fpt p rb) w wx → Mem fm 4 wx) (he : I64n e) (hkk : I64n k) (hez : e ≠ 0) :
    Calls Tryz.prog 40 #[.pointer (some ⟨p, 0, none⟩), .agg (cA e k fm).toArray] w (WQ w p rb (wAns e k (fun i => (fm i).fv) s)) := by
  have HW := hidden h
  have HM := hidden hm
  have HK := hidden hk
  obtain ⟨hk0, hk1⟩ := hkk
  obtain ⟨he0, he1⟩ := he
  clear h hm hk
  have HE : Hid (wAns e k (fun i => (fm i).fv) s = zerosF (fun i => (fm i).fv) [] (List.range 4) (((s.must (decide (u64 e ≤ 999))).put (Q.enc (u64 e))).must (decide (k = 0)))) := hidden (by unfold wAns; rw [if_pos hez])
  rw [HE.out]
  have hu := u64_le e
  have hbq : (k == 0) = decide (k = 0) := beqi k
  go_enter Tryz.func40, Tryz.ntmps40
  go_wp2_with (refine wpList_box_blk rfl 57 (.tmp 1) rfl (cA e k fm) rfl ?_; intro w2 B2 bl2 hz2; have HB2 := hidden B2; have c0 : w2.cell? ⟨w.heap.size, 0, none⟩ = some (.int .i64 e) := B2.cell 0; have X2 := hidden ((WX.start HW.out).later bl2); clear B2 bl2 hz2)
  rw [wrap_u64]
  refine (numberW p rb s (u64 e) 999 w2 X2.out.wt hu (by omega)).mono ?_
  rintro en w3 hQ
  obtain ⟨rfl, ⟨rb3, X3⟩, K3⟩ := X2.out.step hQ
  have HX3 := hidden X3
  have HB3 := hidden (K3.blk _ _ _ HB2.out (by decide) (by decide))
  have c0' : w3.cell? ⟨w.heap.size, 0, none⟩ = some (.int .i64 e) := HB3.out.cell 0
  have c1' : w3.cell? ⟨w.heap.size, 1, none⟩ = some (.int .i64 k) := HB3.out.cell 1
  clear hQ X3 K3 c0
  go_wp2_with fail
  refine (mustW p rb3 _ (decide (k = 0)) w3 HX3.out.wt).mono ?_
  rintro en w5 hQ
  obtain ⟨rfl, ⟨rb5, X5⟩, K5⟩ := HX3.out.step hQ
  have HX5 := hidden X5
  have HB5 := hidden (K5.blk _ _ _ HB3.out (by decide) (by decide))
  clear hQ X5 K5 c0' c1'
  go_wp2_with fail
  refine (responsePartsP w.heap.size e k fm w5 HB5.out HK.out).mono ?_
  rintro en w7 ⟨a, rfl, ha, b7, hbx, hP, hT⟩
  have HX7 := hidden (HX5.out.later b7)
  have HP := hidden (And.intro hP hT)
  clear hbx hP hT b7
  go_wp2_with fail
  refine (wpartsP 4 pfA tfA (fun i => (fm i).fv) w5.heap.size a 0 [] none 0 0 p rb5 _ w7 cfA HX7.out.wt (fun wx hc => (kpt_chg HX7.out.wt hc).parts HP.out.1 HP.out.2) (fun wx hc => in_nil _ _) rfl (fun i hi => by cases hi) (by omega) (by omega) (fun i hi => by cases hi)).mono ?_
  rintro en w8 hQ
  obtain ⟨rfl, ⟨rb8, X8⟩, _⟩ := HX7.out.step hQ
  have HX8 := hidden X8
  clear hQ X8
  go_wp2_with fail
  first | go_end0 | go_ret
  exact HX8.out.done

/-- What Answer and Encode leave. -/
def EncP (w : World) (err : Int) (c : List Int) (e : Ending) (w' : World) : Prop :=
  ∃ ad n cp, e = .returned (.tuple #[.slice ad n cp, .int .i64 err]) ∧ w'.ownsRow w.heap.size 5 1 (.slice ad n cp) n (cells8 c) ∧ c.length = n ∧ Byte c ∧ n ≤ 1048576 ∧ Below w.heap.size w w'
theorem built72 (m : Int) : Tryz.prog.built 72 [(1, .int .i64 m)] = some #[.slice none 0 0, .int .i64 m, .bool false, .bool false] := by kernel_rfl
theorem wt_new {w : World} {p m : Nat} (hB : Blk w p 72 [.slice none 0 0, .int .i64 (m : Int), .bool false, .bool false]) (hm : m ≤ 1048576) : Wt w p none (ws0 m) :=
  ⟨.slice none 0 0, by simp, rfl, hB, World.ownsRow_nil _ _ _ _, fun n hn => (by cases hn), by simp [ws0], hm⟩
/-- What a writer that was made here leaves. -/
theorem enc_of {w w1 w' : World} {p : Nat} {rb : Option Nat} {s : Ws} (h : Wt w' p rb s) (hb : Below w.heap.size w w1) (hp : w.heap.size ≤ p) (hc : Chg (fpt p none) w1 w') (hm : Moved w1 none rb) :
    ∃ ad n cp, Blk w' p 72 [.slice ad n cp, .int .i64 (s.most : Int), .bool s.over, .bool s.wrong] ∧ w'.ownsRow w.heap.size 5 1 (.slice ad n cp) n (cells8 s.out) ∧ s.out.length = n ∧ Byte s.out ∧ n ≤ 1048576 ∧ Below w.heap.size w w' := by
  obtain ⟨v, h⟩ := h
  obtain ⟨ad, cp, rfl⟩ := owns_form h.row
  refine ⟨ad, s.out.length, cp, h.blk, owns_base h.row (fun g hg => ?_), rfl, h.byte, Nat.le_trans h.len h.most, hb.trans (hc.below hb.size (fun i hi => ?_))⟩
  · rw [h.own] at hg
    rcases hm with e | ⟨g', e, hg'⟩
    · rw [hg] at e; cases e
    · rw [hg] at e
      injection e with e
      have := hb.size
      omega
  · rcases hi with rfl | hi
    · exact hp
    · cases hi
set_option maxHeartbeats 2000000 in
set_option maxRecDepth 20000 in
theorem answerP (e k : Int) (fm : Nat → FM) (w : World) (hk : ∀ i, i < 4 → (fm i).fv.kd = kdA i) (hm : Mem fm 4 w) (he : I64n e) (hkk : I64n k) (h2 : 2 ≤ w.heap.size) :
    Calls Tryz.prog 18 #[.agg (cA e k fm).toArray] w (EncP w (ansQ e k (fun i => (fm i).fv)).1 (ansQ e k (fun i => (fm i).fv)).2) := by
  have HM := hidden hm
  have HK := hidden hk
  have HE := hidden he
  have HKK := hidden hkk
  clear hm hk he hkk
  obtain ⟨S, hS⟩ : ∃ S, wAns e k (fun i => (fm i).fv) (ws0 1048576) = S := ⟨_, rfl⟩
  have HA : Hid (ansQ e k (fun i => (fm i).fv) = if S.wrong then (180, []) else if S.over then (181, []) else (0, S.out)) := hidden (by unfold ansQ; rw [hS])
  have HSS := hidden hS
  clear hS
  go_enter Tryz.func18, Tryz.ntmps18
  go_wp2_with (first
    | (refine wpList_box_blk rfl 57 (.tmp 0) rfl (cA e k fm) rfl ?_; intro w2 B2 bl2 hz2; have HB2 := hidden B2; have HL2 := hidden bl2; have hz2' := hz2; clear B2 bl2 hz2)
    | (refine wpList_build_to rfl 72 #[(1, .const (.int .i64 1048576))] rfl [(1, .int .i64 1048576)] #[.slice none 0 0, .int .i64 1048576, .bool false, .bool false] rfl (built72 _) ?_)
    | (refine wpList_box_blk rfl 72 (.tmp 5) rfl [.slice none 0 0, .int .i64 1048576, .bool false, .bool false] rfl ?_; intro w3 B3 bl3 hz3; have HB3 := hidden B3; have HL3 := hidden bl3; have HBQ := hidden (HB2.out.later bl3); clear B3 bl3 hz3)
    | (refine wpList_load_blk rfl 57 (.tmp 1) rfl w.heap.size HBQ.out rfl rfl rfl rfl ?_))
  rw [hz2'] at HB3
  have HWT := hidden (wt_new (m := 1048576) HB3.out (by omega))
  have HMW : Hid (∀ wx, Chg (fpt (w.heap.size + 1) none) w3 wx → Mem fm 4 wx) := hidden (fun wx hc => by
    have hb : Below w.heap.size w wx := (HL2.out.trans (HL3.out.mono HL2.out.size)).trans (hc.below (Nat.le_trans HL2.out.size HL3.out.size) (fun i hi => by
      rcases hi with rfl | hi
      · omega
      · cases hi))
    exact ⟨fun i hi => (HM.out.1 i hi).later hb, HM.out.2.later hb⟩)
  have HCALL : Hid (Calls Tryz.prog 40 #[.pointer (some ⟨w.heap.size + 1, 0, none⟩), .agg (cA e k fm).toArray] w3 (WQ w3 (w.heap.size + 1) none S)) := hidden (by
    rw [← HSS.out]
    by_cases hez : e = 0
    · subst hez
      exact responseW0 _ none _ k fm w3 HWT.out HK.out HMW.out HKK.out
    · exact responseW1 _ none _ e k fm w3 HWT.out HK.out HMW.out HE.out HKK.out hez)
  refine HCALL.out.mono ?_
  rintro en w4 ⟨rfl, rb4, hW4, hC4, hM4⟩
  obtain ⟨ad, n, cp, hB4, ho, hl, hby, hn, hbw⟩ := enc_of hW4 (HL2.out.trans (HL3.out.mono HL2.out.size)) (by omega) hC4 hM4
  have HO := hidden (And.intro ho (And.intro hl (And.intro hby (And.intro hn hbw))))
  have d0 : w4.cell? ⟨w.heap.size + 1, 0, none⟩ = some (.slice ad n cp) := hB4.cell 0
  have d2 : w4.cell? ⟨w.heap.size + 1, 2, none⟩ = some (.bool S.over) := hB4.cell 2
  have d3 : w4.cell? ⟨w.heap.size + 1, 3, none⟩ = some (.bool S.wrong) := hB4.cell 3
  clear hW4 hC4 hM4 ho hl hby hn hbw hB4
  cases hwr : S.wrong with
  | true =>
    rw [hwr] at d3
    have HR := hidden hwr
    clear hwr
    go_wp2_with fail
    go_ret2
    have e1 := HA.out
    rw [HR.out, if_pos rfl] at e1
    rw [e1]
    exact ⟨none, 0, 0, rfl, World.ownsRow_nil _ _ _ _, rfl, fun n hn => (by cases hn), by omega, HO.out.2.2.2.2⟩
  | false =>
    rw [hwr] at d3
    cases hov : S.over with
    | true =>
      rw [hov] at d2
      have HR := hidden (And.intro hwr hov)
      clear hwr hov
      go_wp2_with fail
      go_ret2
      have e1 := HA.out
      rw [HR.out.1, HR.out.2, if_neg (by simp), if_pos rfl] at e1
      rw [e1]
      exact ⟨none, 0, 0, rfl, World.ownsRow_nil _ _ _ _, rfl, fun n hn => (by cases hn), by omega, HO.out.2.2.2.2⟩
    | false =>
      rw [hov] at d2
      have HR := hidden (And.intro hwr hov)
      clear hwr hov
      go_wp2_with fail
      go_ret2
      have e1 := HA.out
      rw [HR.out.1, HR.out.2, if_neg (by simp), if_neg (by simp)] at e1
      rw [e1]
      exact ⟨ad, n, cp, rfl, HO.out.1, HO.out.2.1, HO.out.2.2.1, HO.out.2.2.2.1, HO.out.2.2.2.2⟩

end Go.Proofs.YtalmpmhnkilalaaGreatDoor
