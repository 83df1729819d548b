/-
  Package wire: a request's parts; a request written; Encode. By genrql19.py.
-/
import Derived.Test.YtalmpmhnkilalaaGreatDoorRqG
import Derived.Test.YtalmpmhnkilalaaGreatDoorRqJ
namespace Go.Proofs.YtalmpmhnkilalaaGreatDoor
open Go Go.RowKit
set_option linter.unusedVariables false

def pfQ : Nat → FuncId
  | 0 => 88 | 1 => 92 | 2 => 96 | 3 => 100 | 4 => 104 | 5 => 108 | 6 => 110 | 7 => 114 | 8 => 116 | 9 => 120 | 10 => 122 | _ => 124
def tfQ : Nat → FuncId
  | 0 => 90 | 1 => 94 | 2 => 98 | 3 => 102 | 4 => 106 | 5 => 109 | 6 => 112 | 7 => 115 | 8 => 118 | 9 => 121 | 10 => 123 | _ => 125
/-- A request's cells. -/
def cQ (k : Int) (fm : Nat → FM) : List Value := .int .i64 k :: (List.range 12).map (fun i => (fm i).val)
theorem cQ_at (k : Int) (fm : Nat → FM) (i : Nat) (h : i < 12) : (cQ k fm)[i + 1]? = some (fm i).val := by
  unfold cQ
  simp [h]
theorem lst_nil (d : ByteArray) : d.toList.isEmpty = decide (d.size = 0) := by
  rw [ByteArray.toList_eq, Bool.eq_iff_iff, List.isEmpty_iff, decide_eq_true_eq, ← List.length_eq_zero_iff, Array.length_toList]
  rfl
theorem lt12 {i : Nat} (h : i < 12) : i = 0 ∨ i = 1 ∨ i = 2 ∨ i = 3 ∨ i = 4 ∨ i = 5 ∨ i = 6 ∨ i = 7 ∨ i = 8 ∨ i = 9 ∨ i = 10 ∨ i = 11 := by omega

set_option maxHeartbeats 4000000 in
set_option maxRecDepth 100000 in
theorem requestPartsP (q : Nat) (k : Int) (fm : Nat → FM) (w : World) (hq : Blk w q 26 (cQ k fm)) (hk : ∀ i, i < 12 → (fm i).fv.kd = kdQ i) (htk : ∀ i, i < 12 → ∀ a n c l, fm i = .tk a n c l → l.length = n) :
    Calls Tryz.prog 59 #[.pointer (some ⟨q, 0, none⟩)] w fun e w' => ∃ a, e = .returned (.slice (some ⟨a, 0, none⟩) 12 12) ∧ w.heap.size < a ∧ Below w.heap.size w w' ∧ Blk w' w.heap.size 93 [.pointer (some ⟨q, 0, none⟩)] ∧ PartsM w' a 0 w.heap.size 12 (fun i => (fm i).fv) pfQ tfQ ∧ Ty w' a 139 := by
  have cc : ∀ i, i < 12 → (w.alloc (.cells #[.pointer (some ⟨q, 0, none⟩)] 93)).cell? ⟨q, i + 1, none⟩ = some (fm i).val := fun i hi => by
    rw [(hq.alloc _).cell, cQ_at k fm i hi]
  obtain ⟨t0, h0⟩ : ∃ d, fm 0 = .tx d := by have := hk 0 (by omega); cases h : fm 0 <;> rw [h] at this <;> first | (cases this; done) | exact ⟨_, rfl⟩
  obtain ⟨a1, n1, c1, l1, h1⟩ : ∃ a n c l, fm 1 = .tk a n c l := by have := hk 1 (by omega); cases h : fm 1 <;> rw [h] at this <;> first | (cases this; done) | exact ⟨_, _, _, _, rfl⟩
  obtain ⟨a2, c2, l2, h2⟩ : ∃ a c l, fm 2 = .ws a c l := by have := hk 2 (by omega); cases h : fm 2 <;> rw [h] at this <;> first | (cases this; done) | exact ⟨_, _, _, rfl⟩
  obtain ⟨a3, c3, l3, h3⟩ : ∃ a c l, fm 3 = .ms a c l := by have := hk 3 (by omega); cases h : fm 3 <;> rw [h] at this <;> first | (cases this; done) | exact ⟨_, _, _, rfl⟩
  obtain ⟨m4, h4⟩ : ∃ d, fm 4 = .tm d := by have := hk 4 (by omega); cases h : fm 4 <;> rw [h] at this <;> first | (cases this; done) | exact ⟨_, rfl⟩
  obtain ⟨m5, h5⟩ : ∃ d, fm 5 = .tm d := by have := hk 5 (by omega); cases h : fm 5 <;> rw [h] at this <;> first | (cases this; done) | exact ⟨_, rfl⟩
  obtain ⟨t6, h6⟩ : ∃ d, fm 6 = .qu d := by have := hk 6 (by omega); cases h : fm 6 <;> rw [h] at this <;> first | (cases this; done) | exact ⟨_, rfl⟩
  obtain ⟨t7, h7⟩ : ∃ d, fm 7 = .tx d := by have := hk 7 (by omega); cases h : fm 7 <;> rw [h] at this <;> first | (cases this; done) | exact ⟨_, rfl⟩
  obtain ⟨m8, h8⟩ : ∃ d, fm 8 = .am d := by have := hk 8 (by omega); cases h : fm 8 <;> rw [h] at this <;> first | (cases this; done) | exact ⟨_, rfl⟩
  obtain ⟨m9, h9⟩ : ∃ d, fm 9 = .am d := by have := hk 9 (by omega); cases h : fm 9 <;> rw [h] at this <;> first | (cases this; done) | exact ⟨_, rfl⟩
  obtain ⟨m10, h10⟩ : ∃ d, fm 10 = .am d := by have := hk 10 (by omega); cases h : fm 10 <;> rw [h] at this <;> first | (cases this; done) | exact ⟨_, rfl⟩
  obtain ⟨a11, n11, c11, l11, h11⟩ : ∃ a n c l, fm 11 = .tk a n c l := by have := hk 11 (by omega); cases h : fm 11 <;> rw [h] at this <;> first | (cases this; done) | exact ⟨_, _, _, _, rfl⟩
  have e0 := cc 0 (by omega)
  rw [h0] at e0
  have e1 := cc 1 (by omega)
  rw [h1] at e1
  have e2 := cc 2 (by omega)
  rw [h2] at e2
  have e3 := cc 3 (by omega)
  rw [h3] at e3
  have e4 := cc 4 (by omega)
  rw [h4] at e4
  have e5 := cc 5 (by omega)
  rw [h5] at e5
  have e6 := cc 6 (by omega)
  rw [h6] at e6
  have e7 := cc 7 (by omega)
  rw [h7] at e7
  have e8 := cc 8 (by omega)
  rw [h8] at e8
  have e9 := cc 9 (by omega)
  rw [h9] at e9
  have e10 := cc 10 (by omega)
  rw [h10] at e10
  have e11 := cc 11 (by omega)
  rw [h11] at e11
  simp only [FM.val, Nat.reduceAdd] at e0 e1 e2 e3 e4 e5 e6 e7 e8 e9 e10 e11
  have HB : Hid ((w.alloc (.cells #[.pointer (some ⟨q, 0, none⟩)] 93)).cell? ⟨w.heap.size, 0, none⟩ = some (.pointer (some ⟨q, 0, none⟩))) := hidden ((Blk.new w 93 [.pointer (some ⟨q, 0, none⟩)]).cell 0)
  have HBB := hidden (Blk.new w 93 [.pointer (some ⟨q, 0, none⟩)])
  have HE0 := hidden e0
  have HH0 := hidden h0
  have HE1 := hidden e1
  have HH1 := hidden h1
  have HE2 := hidden e2
  have HH2 := hidden h2
  have HE3 := hidden e3
  have HH3 := hidden h3
  have HE4 := hidden e4
  have HH4 := hidden h4
  have HE5 := hidden e5
  have HH5 := hidden h5
  have HE6 := hidden e6
  have HH6 := hidden h6
  have HE7 := hidden e7
  have HH7 := hidden h7
  have HE8 := hidden e8
  have HH8 := hidden h8
  have HE9 := hidden e9
  have HH9 := hidden h9
  have HE10 := hidden e10
  have HH10 := hidden h10
  have HE11 := hidden e11
  have HH11 := hidden h11
  have HTK1 := hidden (htk 1 (by omega) _ _ _ _ h1)
  have HTK11 := hidden (htk 11 (by omega) _ _ _ _ h11)
  clear htk h0 h1 h2 h3 h4 h5 h6 h7 h8 h9 h10 h11 cc hk hq e0 e1 e2 e3 e4 e5 e6 e7 e8 e9 e10 e11
  go_enter Tryz.func59, Tryz.ntmps59
  go_wp2_with (refine parts59_r1 q w.heap.size t0 a1 n1 c1 a2 l2.length c2 a3 l3.length c3 m4 m5 t6 t7 m8 m9 m10 a11 n11 c11 _ _ _ rfl rfl (fun w1 hL => lat_cell hL HB.out) (fun w1 hL => lat_cell hL HE0.out) (fun w1 hL => lat_cell hL HE1.out) (fun w1 hL => lat_cell hL HE2.out) (fun w1 hL => lat_cell hL HE3.out) (fun w1 hL => lat_cell hL HE4.out) (fun w1 hL => lat_cell hL HE5.out) (fun w1 hL => lat_cell hL HE6.out) (fun w1 hL => lat_cell hL HE7.out) (fun w1 hL => lat_cell hL HE8.out) (fun w1 hL => lat_cell hL HE9.out) (fun w1 hL => lat_cell hL HE10.out) (fun w1 hL => lat_cell hL HE11.out) ?_; intro a w1 g hsz hde hS hg hB hL)
  refine bodyPost_ret (results_tmp (t := 2) (by kernel_rfl) _ _ _) hde ?_
  rw [hS]
  rw [World.size_alloc] at hg
  have hbl : Below w.heap.size w w1 := ((Below.refl _ _).alloc (Nat.le_refl _) _).trans (Below.mono hL (by simp))
  refine ⟨g, rfl, by omega, hbl, HBB.out.later hL, fun i hi => ?_, ty_blk hB⟩
  rw [hB.cell, hB.cell, hB.cell]
  rcases lt12 hi with rfl | rfl | rfl | rfl | rfl | rfl | rfl | rfl | rfl | rfl | rfl | rfl
  · refine ⟨?_, rfl, rfl⟩
    show some (Value.bool _) = some (.bool (isZ (fm 0).fv))
    rw [HH0.out]
    show some (Value.bool _) = some (.bool (decide (t0.size = 0)))
    rw [lst_nil]
  · refine ⟨?_, rfl, rfl⟩
    show some (Value.bool _) = some (.bool (isZ (fm 1).fv))
    rw [HH1.out]
    show some (Value.bool _) = some (.bool (decide (l1.length = 0)))
    rw [HTK1.out, beq0]
  · refine ⟨?_, rfl, rfl⟩
    show some (Value.bool _) = some (.bool (isZ (fm 2).fv))
    rw [HH2.out]
    show some (Value.bool _) = some (.bool (decide ((l2.map prS).length = 0)))
    rw [List.length_map, beq0]
  · refine ⟨?_, rfl, rfl⟩
    show some (Value.bool _) = some (.bool (isZ (fm 3).fv))
    rw [HH3.out]
    show some (Value.bool _) = some (.bool (decide (l3.length = 0)))
    rw [beq0]
  · refine ⟨?_, rfl, rfl⟩
    show some (Value.bool _) = some (.bool (isZ (fm 4).fv))
    rw [HH4.out]
    show some (Value.bool _) = some (.bool (decide (m4 = 0)))
    rw [beqi]
  · refine ⟨?_, rfl, rfl⟩
    show some (Value.bool _) = some (.bool (isZ (fm 5).fv))
    rw [HH5.out]
    show some (Value.bool _) = some (.bool (decide (m5 = 0)))
    rw [beqi]
  · refine ⟨?_, rfl, rfl⟩
    show some (Value.bool _) = some (.bool (isZ (fm 6).fv))
    rw [HH6.out]
    show some (Value.bool _) = some (.bool (decide (t6.size = 0)))
    rw [lst_nil]
  · refine ⟨?_, rfl, rfl⟩
    show some (Value.bool _) = some (.bool (isZ (fm 7).fv))
    rw [HH7.out]
    show some (Value.bool _) = some (.bool (decide (t7.size = 0)))
    rw [lst_nil]
  · refine ⟨?_, rfl, rfl⟩
    show some (Value.bool _) = some (.bool (isZ (fm 8).fv))
    rw [HH8.out]
    show some (Value.bool _) = some (.bool (decide (m8 = 0)))
    rw [beqi]
  · refine ⟨?_, rfl, rfl⟩
    show some (Value.bool _) = some (.bool (isZ (fm 9).fv))
    rw [HH9.out]
    show some (Value.bool _) = some (.bool (decide (m9 = 0)))
    rw [beqi]
  · refine ⟨?_, rfl, rfl⟩
    show some (Value.bool _) = some (.bool (isZ (fm 10).fv))
    rw [HH10.out]
    show some (Value.bool _) = some (.bool (decide (m10 = 0)))
    rw [beqi]
  · refine ⟨?_, rfl, rfl⟩
    show some (Value.bool _) = some (.bool (isZ (fm 11).fv))
    rw [HH11.out]
    show some (Value.bool _) = some (.bool (decide (l11.length = 0)))
    rw [HTK11.out, beq0]

theorem putsQ (p q bx : Nat) (k : Int) (fm : Nat → FM) (hk : ∀ i, i < 12 → (fm i).fv.kd = kdQ i) : ∀ i, i < 12 → ∀ s1 rb1 wx, Wt wx p rb1 s1 → Blk wx q 26 (cQ k fm) → Blk wx bx 93 [.pointer (some ⟨q, 0, none⟩)] → (∀ wy, Chg (fpt p rb1) wx wy → (fm i).mem wy ∧ Gv wy) →
    Calls Tryz.prog (pfQ i) #[.pointer (some ⟨p, 0, none⟩), .pointer (some ⟨bx, 0, none⟩)] wx (WQ wx p rb1 (putV (fm i).fv s1)) := by
  intro i hi s1 rb1 wx hW hq hb hm
  have hkk := hk i hi
  have hv := cQ_at k fm i hi
  rcases lt12 hi with rfl | rfl | rfl | rfl | rfl | rfl | rfl | rfl | rfl | rfl | rfl | rfl
  · exact put88 p rb1 s1 q bx _ _ wx hW hq hb hv hkk hm
  · exact put92 p rb1 s1 q bx _ _ wx hW hq hb hv hkk hm
  · exact put96 p rb1 s1 q bx _ _ wx hW hq hb hv hkk hm
  · exact put100 p rb1 s1 q bx _ _ wx hW hq hb hv hkk hm
  · exact put104 p rb1 s1 q bx _ _ wx hW hq hb hv hkk hm
  · exact put108 p rb1 s1 q bx _ _ wx hW hq hb hv hkk hm
  · exact put110 p rb1 s1 q bx _ _ wx hW hq hb hv hkk hm
  · exact put114 p rb1 s1 q bx _ _ wx hW hq hb hv hkk hm
  · exact put116 p rb1 s1 q bx _ _ wx hW hq hb hv hkk hm
  · exact put120 p rb1 s1 q bx _ _ wx hW hq hb hv hkk hm
  · exact put122 p rb1 s1 q bx _ _ wx hW hq hb hv hkk hm
  · exact put124 p rb1 s1 q bx _ _ wx hW hq hb hv hkk hm
theorem cfQ (i : Nat) (hi : i < 12) (a : Array Value) (w : World) : (callFunc (pfQ i) a).run Tryz.prog w = .ok (.enter (pfQ i) a) w := by
  rcases lt12 hi with rfl | rfl | rfl | rfl | rfl | rfl | rfl | rfl | rfl | rfl | rfl | rfl <;> kernel_rfl
theorem cfQt (i : Nat) (hi : i < 12) (a : Array Value) (w : World) : (callFunc (tfQ i) a).run Tryz.prog w = .ok (.enter (tfQ i) a) w := by
  rcases lt12 hi with rfl | rfl | rfl | rfl | rfl | rfl | rfl | rfl | rfl | rfl | rfl | rfl <;> kernel_rfl
theorem usedQ_lt (k : Int) : (usedQ k).length ≤ 12 ∧ ∀ i ∈ usedQ k, i < 12 := by
  unfold usedQ
  cases h : fieldsK k with
  | none => exact ⟨by simp, by simp⟩
  | some l =>
    refine ⟨?_, fun i hi => (fieldsK_some h).2.1 i (by simpa using hi)⟩
    unfold fieldsK at h
    repeat' split at h
    all_goals first | (cases h; done) | (injection h with h; subst h; simp)
theorem Mem.tk {fm : Nat → FM} {n : Nat} {w : World} (h : Mem fm n w) : ∀ i, i < n → ∀ a m c l, fm i = .tk a m c l → l.length = m := fun i hi a m c l e => by
  have := h.1 i hi
  rw [e] at this
  exact this.1.len

set_option maxHeartbeats 2000000 in
set_option maxRecDepth 20000 in
theorem requestW (p : Nat) (rb : Option Nat) (s : Ws) (k : Int) (fm : Nat → FM) (w : World) (h : Wt w p rb s) (hk : ∀ i, i < 12 → (fm i).fv.kd = kdQ i) (hm : ∀ wx, Chg (fpt p rb) w wx → Mem fm 12 wx) (hkk : I64n k) :
    Calls Tryz.prog 27 #[.pointer (some ⟨p, 0, none⟩), .agg (cQ k fm).toArray] w (WQ w p rb (wEnc k (fun i => (fm i).fv) s)) := by
  have HW := hidden h
  have HM := hidden hm
  have HK := hidden hk
  obtain ⟨hk0, hk1⟩ := hkk
  clear h hm hk
  have HE : Hid (wEnc k (fun i => (fm i).fv) s = putsF (fun i => (fm i).fv) (usedQ k) (zerosF (fun i => (fm i).fv) (usedQ k) (List.range 12) ((s.must (fieldsK k).isSome).put [u8 k]))) := hidden rfl
  rw [HE.out]
  go_enter Tryz.func27, Tryz.ntmps27
  go_wp2_with (refine wpList_box_blk rfl 26 (.tmp 1) rfl (cQ k fm) rfl ?_; intro w3 B2 bl2 hz2; have HB3 := hidden B2; have c1' : w3.cell? ⟨w.heap.size, 0, none⟩ = some (.int .i64 k) := B2.cell 0; have HX3 := hidden ((WX.start HW.out).later bl2); clear B2 bl2 hz2)
  refine (fieldsOfR k w3 hk0 hk1).mono ?_
  rintro en w4 ⟨b4, uad, uc, huad, hin, rfl⟩
  have HB4 := hidden (HB3.out.later b4)
  have HX4 := hidden (HX3.out.later b4)
  have HIN := hidden (And.intro hin (fun y hy => (huad y hy).2))
  obtain ⟨uN, hUN⟩ : ∃ uN, (usedQ k).length = uN := ⟨_, rfl⟩
  have HUN := hidden hUN
  have hul := (usedQ_lt k).1
  rw [hUN] at hul ⊢
  have c14 : w4.cell? ⟨w.heap.size, 0, none⟩ = some (.int .i64 k) := HB4.out.cell 0
  clear b4 hin huad hUN c1'
  go_wp2_with fail
  refine (mustW p rb _ (fieldsK k).isSome w4 HX4.out.wt).mono ?_
  rintro en w5 hQ
  obtain ⟨rfl, ⟨rb5, X5⟩, K5⟩ := HX4.out.step hQ
  have HX5 := hidden X5
  have HB5 := hidden (K5.blk _ _ _ HB4.out (by decide) (by decide))
  have HIN5 := hidden (K5.in' HIN.out.1 HIN.out.2)
  have c15 : w5.cell? ⟨w.heap.size, 0, none⟩ = some (.int .i64 k) := HB5.out.cell 0
  clear hQ X5 K5 c14
  go_wp2_with fail
  change Calls Tryz.prog 57 #[.pointer (some ⟨p, 0, none⟩), .int .u8 (u8 k)] w5 _
  refine (octetW p rb5 _ (u8 k) w5 HX5.out.wt (by unfold u8; omega) (by unfold u8; omega)).mono ?_
  rintro en w6 hQ
  obtain ⟨rfl, ⟨rb6, X6⟩, K6⟩ := HX5.out.step hQ
  have HX6 := hidden X6
  have HB6 := hidden (K6.blk _ _ _ HB5.out (by decide) (by decide))
  have HIN6 := hidden (K6.in' HIN5.out.1 HIN5.out.2)
  clear hQ X6 K6 c15
  go_wp2_with fail
  refine (requestPartsP w.heap.size k fm w6 HB6.out HK.out (HM.out w (Chg.refl _ _)).tk).mono ?_
  rintro en w7 ⟨a, rfl, ha, b7, hbx, hP, hT⟩
  have HX7 := hidden (HX6.out.later b7)
  have HK7 := kpt_below b7
  have HB7 := hidden (HB6.out.later b7)
  have HBX := hidden hbx
  have HP := hidden (And.intro hP hT)
  have HIN7 := hidden (HK7.in' HIN6.out.1 HIN6.out.2)
  clear hbx hP hT HK7 b7
  go_wp2_with fail
  refine (wpartsP 12 pfQ tfQ (fun i => (fm i).fv) w6.heap.size a 0 (usedQ k) uad uN uc p rb6 _ w7 cfQ HX7.out.wt (fun wx hc => (kpt_chg HX7.out.wt hc).parts HP.out.1 HP.out.2) (fun wx hc => ((kpt_chg HX7.out.wt hc).in' HIN7.out.1 HIN7.out.2).1) HUN.out (usedQ_lt k).2 (by omega) (by omega) (fun i hi s1 rb1 wx h1 hc hmv => putsQ p w.heap.size w6.heap.size k fm HK.out i ((usedQ_lt k).2 i hi) s1 rb1 wx h1 ((kpt_chg HX7.out.wt hc).blk _ _ _ HB7.out (by decide) (by decide)) ((kpt_chg HX7.out.wt hc).blk _ _ _ HBX.out (by decide) (by decide)) (fun wy hy => ?_))).mono ?_
  · have := HM.out wy ((HX7.out.chg.trans hc (fun i hi hf => fpt_moved HX7.out.mv i hi hf)).trans hy (fun i hi hf => fpt_moved (HX7.out.mv.trans hmv HX7.out.chg.size) i hi hf))
    exact ⟨this.1 i ((usedQ_lt k).2 i hi), this.2⟩
  · rintro en w8 hQ
    obtain ⟨rfl, ⟨rb8, X8⟩, _⟩ := HX7.out.step hQ
    have HX8 := hidden X8
    clear hQ X8
    go_wp2_with fail
    go_end0
    exact HX8.out.done

/-- Encode's error and bytes, purely. -/
def encE2 (k : Int) (f : Nat → FV) : Int × List Int := match encQ k f with | some c => (0, c) | none => (180, [])
set_option maxHeartbeats 2000000 in
set_option maxRecDepth 20000 in
theorem encodeP (k : Int) (fm : Nat → FM) (w : World) (hk : ∀ i, i < 12 → (fm i).fv.kd = kdQ i) (hm : Mem fm 12 w) (hkk : I64n k) (h2 : 2 ≤ w.heap.size) :
    Calls Tryz.prog 12 #[.agg (cQ k fm).toArray] w (EncP w (encE2 k (fun i => (fm i).fv)).1 (encE2 k (fun i => (fm i).fv)).2) := by
  have HM := hidden hm
  have HK := hidden hk
  have HKK := hidden hkk
  clear hm hk hkk
  obtain ⟨S, hS⟩ : ∃ S, wEnc k (fun i => (fm i).fv) (ws0 65536) = S := ⟨_, rfl⟩
  have HA : Hid (encQ k (fun i => (fm i).fv) = if S.wrong || S.over then none else some S.out) := hidden (by unfold encQ; rw [hS])
  have HSS := hidden hS
  clear hS
  go_enter Tryz.func12, Tryz.ntmps12
  go_wp2_with (first
    | (refine wpList_box_blk rfl 26 (.tmp 0) rfl (cQ k fm) rfl ?_; intro w2 B2 bl2 hz2; have HB2 := hidden B2; have HL2 := hidden bl2; have hz2' := hz2; clear B2 bl2 hz2)
    | (refine wpList_build_to rfl 72 #[(1, .const (.int .i64 65536))] rfl [(1, .int .i64 65536)] #[.slice none 0 0, .int .i64 65536, .bool false, .bool false] rfl (built72 _) ?_)
    | (refine wpList_box_blk rfl 72 (.tmp 5) rfl [.slice none 0 0, .int .i64 65536, .bool false, .bool false] rfl ?_; intro w3 B3 bl3 hz3; have HB3 := hidden B3; have HL3 := hidden bl3; have HBQ := hidden (HB2.out.later bl3); clear B3 bl3 hz3)
    | (refine wpList_load_blk rfl 26 (.tmp 1) rfl w.heap.size HBQ.out rfl rfl rfl rfl ?_))
  rw [hz2'] at HB3
  have HWT := hidden (wt_new (m := 65536) HB3.out (by omega))
  have HMW : Hid (∀ wx, Chg (fpt (w.heap.size + 1) none) w3 wx → Mem fm 12 wx) := hidden (fun wx hc => by
    have hb : Below w.heap.size w wx := (HL2.out.trans (HL3.out.mono HL2.out.size)).trans (hc.below (Nat.le_trans HL2.out.size HL3.out.size) (fun i hi => by
      rcases hi with rfl | hi
      · omega
      · cases hi))
    exact ⟨fun i hi => (HM.out.1 i hi).later hb, HM.out.2.later hb⟩)
  have HCALL : Hid (Calls Tryz.prog 27 #[.pointer (some ⟨w.heap.size + 1, 0, none⟩), .agg (cQ k fm).toArray] w3 (WQ w3 (w.heap.size + 1) none S)) := hidden (by
    rw [← HSS.out]
    exact requestW _ none _ k fm w3 HWT.out HK.out HMW.out HKK.out)
  refine HCALL.out.mono ?_
  rintro en w4 ⟨rfl, rb4, hW4, hC4, hM4⟩
  obtain ⟨ad, n, cp, hB4, ho, hl, hby, hn, hbw⟩ := enc_of hW4 (HL2.out.trans (HL3.out.mono HL2.out.size)) (by omega) hC4 hM4
  have HO := hidden (And.intro ho (And.intro hl (And.intro hby (And.intro hn hbw))))
  have d0 : w4.cell? ⟨w.heap.size + 1, 0, none⟩ = some (.slice ad n cp) := hB4.cell 0
  have d2 : w4.cell? ⟨w.heap.size + 1, 2, none⟩ = some (.bool S.over) := hB4.cell 2
  have d3 : w4.cell? ⟨w.heap.size + 1, 3, none⟩ = some (.bool S.wrong) := hB4.cell 3
  clear hW4 hC4 hM4 ho hl hby hn hbw hB4
  cases hwr : S.wrong with
  | true =>
    rw [hwr] at d3
    have HR := hidden hwr
    clear hwr
    go_wp2_with fail
    go_ret2
    have e1 := HA.out
    rw [HR.out, Bool.true_or, if_pos rfl] at e1
    unfold encE2
    rw [e1]
    exact ⟨none, 0, 0, rfl, World.ownsRow_nil _ _ _ _, rfl, fun n hn => (by cases hn), by omega, HO.out.2.2.2.2⟩
  | false =>
    rw [hwr] at d3
    cases hov : S.over with
    | true =>
      rw [hov] at d2
      have HR := hidden (And.intro hwr hov)
      clear hwr hov
      go_wp2_with fail
      go_ret2
      have e1 := HA.out
      rw [HR.out.1, HR.out.2, Bool.or_true, if_pos rfl] at e1
      unfold encE2
      rw [e1]
      exact ⟨none, 0, 0, rfl, World.ownsRow_nil _ _ _ _, rfl, fun n hn => (by cases hn), by omega, HO.out.2.2.2.2⟩
    | false =>
      rw [hov] at d2
      have HR := hidden (And.intro hwr hov)
      clear hwr hov
      go_wp2_with fail
      go_ret2
      have e1 := HA.out
      rw [HR.out.1, HR.out.2, Bool.or_self, if_neg (by simp)] at e1
      unfold encE2
      rw [e1]
      exact ⟨ad, n, cp, rfl, HO.out.1, HO.out.2.1, HO.out.2.2.1, HO.out.2.2.2.1, HO.out.2.2.2.2⟩

end Go.Proofs.YtalmpmhnkilalaaGreatDoor
