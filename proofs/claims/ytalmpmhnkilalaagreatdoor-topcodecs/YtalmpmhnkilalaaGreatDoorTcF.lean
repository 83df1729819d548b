import Derived.Test.YtalmpmhnkilalaaGreatDoorTcE
import Derived.BigQuiet
/-
  TopCodecs: requests. By gentcf20.py.
-/
namespace Go.Proofs.YtalmpmhnkilalaaGreatDoor
open Go Go.RowKit
set_option linter.unusedVariables false
set_option linter.unusedSimpArgs false

theorem wpList_nev {w : World} {ops : Array Oper} {rest : List Oper} {o : Oper} {a : Act} {Q : Exit → Act → World → Prop} (t : TypeId) (x : Operand) (hg : o.guard = none) (ho : o.op = .binOp .neq t x (.const .nilIface) t) (ev : Value) (hx : a.eval x = ev) (bo : Bool) (h : (binOp .neq t ev .nilIface).run Tryz.prog w = .ok (.bool bo) w)
    (hk : wpList Tryz.prog ops Q rest (a.put o.dst (.bool bo)) w) : wpList Tryz.prog ops Q (o :: rest) a w := by
  refine wpList_plain hg fun K hK => wp_valP (.bool bo) ?_ (hK _ _ hk)
  unfold execOp
  simp only [ho]
  have hc : a.eval (.const .nilIface) = .nilIface := rfl
  simp only [hx, hc, Sem.run_bind, Sem.run_pure]
  have hq : (eqGuard BinOp.neq t x (Operand.const Value.nilIface) ev Value.nilIface).run Tryz.prog w = .ok () w := by
    cases ev <;> simp [eqGuard, go_sem]
  rw [hq]
  simp only [Result.andThen_ok, h]
theorem dec_anyN {w w' : World} {b : List Int} {e : Ending} (h : DecR w b e w') (hb : Byte b) : Below w.heap.size w w' ∧ ∃ (l : List Value) (ev : Value) (bo : Bool), e = .returned (.tuple #[.agg l.toArray, ev]) ∧ l.length = 13 ∧ (∀ u ∈ l, u.oneCell' = true) ∧ (∀ wx, (binOp .neq 36 ev .nilIface).run Tryz.prog wx = .ok (.bool (!bo)) wx) ∧ (bo = true → ∃ (k : Int) (fm : Nat → FM), l = cQ k fm ∧ RqM w' k fm ∧ encE2 k (fun i => (fm i).fv) = (0, b)) := by
  unfold DecR at h
  cases hd : decQ b with
  | none =>
    rw [hd] at h
    obtain ⟨h1, rfl⟩ := h
    exact ⟨h1, _, _, false, rfl, rfl, cQ_one _ _, ne180nil, fun h => (by cases h)⟩
  | some q =>
    obtain ⟨k, f⟩ := q
    rw [hd] at h
    obtain ⟨h1, K, fm, rfl, _, hf⟩ := h
    obtain ⟨r1, r2, r3⟩ := dec_rqm (w' := w') hb hd hf
    exact ⟨h1, _, _, true, rfl, rfl, cQ_one _ _, nenilnil, fun _ => ⟨k, ext12 fm, (cQ_ext k fm).symm, r1, r3⟩⟩
/-- The block of a slice of bytes. -/
theorem sl_blk {w : World} {ad : Option Addr} {n : Nat} {b : List Int} (h : Sl w ad n b) (h2 : 2 ≤ w.heap.size) : ∃ K, K < w.heap.size ∧ ∀ x, ad = some x → 0 < n → x.block = K ∧ x.spot = none := by
  by_cases h0 : 0 < n
  · obtain ⟨bb, off, rfl, hlt, _⟩ := h.at h0
    exact ⟨bb, hlt, fun x hx _ => (by cases hx; exact ⟨rfl, rfl⟩)⟩
  · exact ⟨0, by omega, fun x hx h => absurd h h0⟩

set_option maxHeartbeats 16000000 in
set_option maxRecDepth 100000 in
theorem requestsP (k : Int) (fm : Nat → FM) (bad : Option Addr) (bn bc : Nat) (b : List Int) (at1 turn : Int) (w : World) (hr : RqM w k fm) (hs : Sl w bad bn b) (hno : bad = none → bn = 0 ∧ bc = 0) (hcap : bn ≤ bc ∧ bc ≤ 9223372036854775807) (ha : I64n at1) (ht : I64n turn) (hG : Gv w) :
    Calls Tryz.prog 25 #[.agg (cQ k fm).toArray, .slice bad bn bc, .int .i64 at1, .int .i64 turn] w fun e w' => e = .returned (.bool true) ∧ Below w.heap.size w w' := by
  have HR := hidden hr
  have HS := hidden hs
  have HNO := hidden hno
  have HG := hidden hG
  have HA := hidden ha
  have HT := hidden ht
  have HCP := hidden hcap
  have h2w : 2 ≤ w.heap.size := World.block_lt_of_cell? w _ (hG.tab 0 (by omega))
  clear hr hs hno hG ha ht hcap
  have HB1 := hidden (Blk.new w 26 (cQ k fm))
  go_enter Tryz.func25, Tryz.ntmps25
  go_wp2_with (first
    | (refine wpList_load_blk rfl 26 (.tmp 4) rfl w.heap.size HB1.out rfl rfl rfl rfl ?_))
  obtain ⟨w2, hw2⟩ : ∃ w2, w.alloc (.cells (cQ k fm).toArray 26) = w2 := ⟨_, rfl⟩
  have HL2 : Hid (Below w.heap.size w w2) := hidden (by rw [← hw2]; exact (Below.refl _ _).alloc (Nat.le_refl _) _)
  rw [hw2] at HB1
  rw [hw2]
  clear hw2
  have HR2 := hidden (HR.out.later HL2.out)
  refine (encodeP k fm w2 HR2.out.kd ⟨HR2.out.mem, HG.out.later HL2.out⟩ HR2.out.k64 (by have := HL2.out.size; omega)).mono ?_
  rintro e w6 ⟨ad6, n7, cp6, rfl, o6, hl6, by6, hle6, b6⟩
  obtain ⟨E1, C1, hE1⟩ : ∃ E C, encE2 k (fun i => (fm i).fv) = (E, C) := ⟨_, _, rfl⟩
  rw [hE1] at o6 hl6 by6 ⊢
  simp only at o6 hl6 by6 ⊢
  have HE1 := hidden hE1
  have HX6 : Hid (Lat w2 w6) := hidden b6
  have HO6 := hidden o6
  have HY6 := hidden (And.intro hl6 by6)
  have hnc6 := owns_cap o6
  have HNO6 := hidden hnc6.2.2.2
  have hc61 : n7 ≤ cp6 := hnc6.2.1
  have hc62 : cp6 ≤ 9223372036854775807 := by have := hnc6.2.2.1; unfold maxLen at this; omega
  have hn7 : n7 ≤ 1048576 := hle6
  have HS6 := hidden (sl_of_owns o6 by6)
  clear o6 hl6 by6 b6 hE1 hnc6
  go_upto_if 26 with fail
  obtain ⟨bo, hbo⟩ : ∃ bo, (E1 == 0) = bo := ⟨_, rfl⟩
  rw [hbo]
  have HBO := hidden hbo
  clear hbo
  go_cut [11, 12, 13] from 27 to 40 (fun v11 v12 v13 wx => Hid (Lat w6 wx))
  case first =>
    cases bo with
    | false =>
      go_wp2_with fail
      go_meet
      exact hidden (Below.refl _ _)
    | true =>
      have HE0 : Hid (E1 = 0) := hidden (by have := HBO.out; simpa using this)
      have HE1z : Hid (encE2 k (fun i => (fm i).fv) = (0, C1)) := hidden (by rw [HE1.out, HE0.out])
      have HL6 : Hid (Below w.heap.size w w6) := hidden (HL2.out.trans (Below.mono HX6.out HL2.out.size))
      have HOK := hidden (encE2_ok HR2.out.sh HY6.out.2 HE1z.out)
      have hnn := nenilnil
      go_wp2_with fail
      refine (decodeP ad6 n7 cp6 C1 w6 HS6.out HNO6.out (HG.out.later HL6.out)).mono ?_
      rintro e w7 hD
      unfold DecR at hD
      rw [HOK.out.1] at hD
      obtain ⟨b7, K7, fm7, rfl, _, hfo7⟩ := hD
      have H67 := hidden b7
      have HF7 := hidden hfo7
      have HX7 : Hid (Lat w2 w7) := hidden (Lat.trans _ _ _ HX6.out b7)
      clear b7 hfo7
      have HQ7 := hidden (HB1.out.later HX7.out)
      go_wp2_with (first
        | (refine wpList_new_var rfl rfl 26 11 (.tmp 30) rfl rfl rfl rfl 13 (by kernel_rfl) (cQ k fm7) rfl (cQ_one _ _) (by simp) rfl ?_; intro w8 B8 bl8 hz8; have HV8 := hidden B8; have HQ8 := hidden (HQ7.out.later bl8); have H78 := hidden bl8; clear B8 bl8 hz8)
        | (refine wpList_load_blk rfl 26 (.tmp 11) rfl w7.heap.size HV8.out rfl rfl rfl rfl ?_)
        | (refine wpList_load_blk rfl 26 (.tmp 4) rfl w.heap.size HQ8.out rfl rfl rfl rfl ?_))
      have HX8 : Hid (Lat w2 w8) := hidden (Lat.trans _ _ _ HX7.out H78.out)
      refine (sameReqT k fm7 fm w8 (fun i hi => by rw [(HF7.out i hi).1]; exact HR2.out.kd i hi) (fun i hi => (HF7.out i hi).1) (fun i hi => ((HF7.out i hi).2.mem).later H78.out) (fun i hi => (HR2.out.mem i hi).later HX8.out)).mono ?_
      rintro e w9 ⟨rfl, b9⟩
      have H69 : Hid (Lat w6 w9) := hidden (Lat.trans _ _ _ H67.out (Lat.trans _ _ _ H78.out b9))
      clear b9
      go_wp2_with fail
      go_meet
      exact H69
  case rest =>
    have H6c : Hid (Lat w6 wc) := hidden hcut.out
    clear hcut
    have HLc : Hid (Below w.heap.size w wc) := hidden (HL2.out.trans (Below.mono (Lat.trans _ _ _ HX6.out H6c.out) HL2.out.size))
    have HS6c := hidden ((Chg.of_below (F := fun _ => False) H6c.out).sl HS6.out (fun _ _ _ e => e))
    go_wp2_with fail
    refine (spoiltP ad6 n7 cp6 C1 at1 turn wc HS6c.out HNO6.out hn7 HA.out HT.out).mono ?_
    rintro e wd ⟨⟨vd, rfl, hBt⟩, bd⟩
    obtain ⟨ads, ns, cs, bs, rfl, hss, hsn, hsc, hsd⟩ := hBt
    have HSs := hidden hss
    have HSn := hidden hsn
    have Hcd := hidden bd
    clear hss hsn bd
    go_wp2_with fail
    obtain ⟨vs, hvs⟩ : ∃ vs, [Value.slice ad6 n7 cp6, .slice ads ns cs, .slice bad bn bc] = vs := ⟨_, rfl⟩
    obtain ⟨we, hwe⟩ : ∃ we, wd.alloc (.cells #[.slice ad6 n7 cp6, .slice ads ns cs, .slice bad bn bc] 22) = we := ⟨_, rfl⟩
    have Hde : Hid (Lat wd we) := hidden (by rw [← hwe]; exact (Below.refl _ _).alloc (Nat.le_refl _) _)
    have HBe : Hid (Blk we wd.heap.size 22 vs) := hidden (by rw [← hwe, ← hvs]; exact Blk.new wd 22 _)
    have HLe : Hid (Below w.heap.size w we) := hidden (HLc.out.trans ((Lat.trans _ _ _ Hcd.out Hde.out).mono HLc.out.size))
    have HBT : Hid (∀ i, i < 3 → ∃ ad n c bb, vs[i]? = some (.slice ad n c) ∧ Sl we ad n bb ∧ (ad = none → n = 0 ∧ c = 0) ∧ n ≤ c ∧ c ≤ 9223372036854775807) := hidden (fun i hi => by
      rw [← hvs]
      rcases (show i = 0 ∨ i = 1 ∨ i = 2 by omega) with rfl | rfl | rfl
      · exact ⟨_, _, _, _, rfl, (Chg.of_below (F := fun _ => False) (Lat.trans _ _ _ Hcd.out Hde.out)).sl HS6c.out (fun _ _ _ e => e), HNO6.out, hc61, hc62⟩
      · exact ⟨_, _, _, _, rfl, (Chg.of_below (F := fun _ => False) Hde.out).sl HSs.out (fun _ _ _ e => e), HSn.out, hsc, hsd⟩
      · exact ⟨_, _, _, _, rfl, (Chg.of_below (F := fun _ => False) HLe.out).sl HS.out (fun _ _ _ e => e), HNO.out, HCP.out.1, HCP.out.2⟩)
    rw [hwe]
    clear hwe hvs
    obtain ⟨gB, hgB⟩ : ∃ gB, wd.heap.size = gB := ⟨_, rfl⟩
    rw [hgB] at HBe
    rw [hgB]
    clear hgB
    go_loopw [15, 16, 17, 18, 19] (fun v15 v16 v17 v18 v19 wx => ∃ i : Nat, v15 = .int .i64 (i : Int) ∧ i ≤ 3 ∧ Hid (Lat we wx)) (fun v15 _ _ _ _ _ => 3 - (intOf v15).toNat)
    case atStart => exact ⟨0, rfl, by omega, hidden (Below.refl _ _)⟩
    case round =>
      obtain ⟨i, rfl, hi, hI⟩ := hrel
      have HLr : Hid (Below w.heap.size w wr) := hidden (HLe.out.trans (Below.mono hI.out HLe.out.size))
      by_cases hin : i < 3
      · have hin' : (i : Int) < 3 := by omega
        obtain ⟨ad, n, c, bb, hv, hsl, hnn1, hc1, hc2⟩ := HBT.out i hin
        have HSL := hidden hsl
        have HN1 := hidden hnn1
        have HCI : Hid (∀ wx, Lat wr wx → wx.cell? ⟨gB, i, none⟩ = some (.slice ad n c)) := hidden (fun wx hx => by rw [((HBe.out.later hI.out).later hx).cell]; exact hv)
        have HSR := hidden ((Chg.of_below (F := fun _ => False) hI.out).sl hsl (fun _ _ _ e => e))
        have ci := HCI.out wr (Below.refl _ _)
        clear hv hsl hnn1
        go_wp2_with fail
        refine (decodeP ad n c bb wr HSR.out HN1.out (HG.out.later HLr.out)).mono ?_
        rintro e wf hD
        obtain ⟨cf, lf, ev, bo2, rfl, hlf, hof, hne, hyf⟩ := dec_anyN hD HSR.out.byte
        have Hrf := hidden cf
        have HF := hidden (And.intro hlf hof)
        have HYF := hidden hyf
        clear hD cf hlf hof hyf ci
        cases bo2 with
        | false =>
          go_wp2_with (first
            | (refine wpList_new_var rfl rfl 26 16 (.tmp 60) rfl rfl rfl rfl 13 (by kernel_rfl) lf HF.out.1 HF.out.2 (by simp) rfl ?_; intro wg Bg blg hzg; have Hfg := hidden blg; clear Bg blg hzg)
            | (refine wpList_nev 36 (.tmp 62) rfl rfl ev rfl true (hne _) ?_))
          refine ⟨⟨i + 1, by first | rfl | simp, by omega, hidden (Lat.trans _ _ _ hI.out (Lat.trans _ _ _ Hrf.out Hfg.out))⟩, ?_⟩
          show 3 - ((i : Int) + 1).toNat < 3 - (i : Int).toNat
          omega
        | true =>
          obtain ⟨kf, ff, hl, hrf, hef⟩ := HYF.out rfl
          have HRF := hidden hrf
          have HEF := hidden hef
          have HZ : Hid (lf = cQ kf ff) := hidden hl
          clear hl hrf hef
          go_wp2_with (first
            | (refine wpList_new_var rfl rfl 26 16 (.tmp 60) rfl rfl rfl rfl 13 (by kernel_rfl) lf HF.out.1 HF.out.2 (by simp) rfl ?_; intro wg Bg blg hzg; have HVg : Hid (Blk wg wf.heap.size 26 (cQ kf ff)) := hidden (by rw [← HZ.out]; exact Bg); have Hfg := hidden blg; clear Bg blg hzg)
            | (refine wpList_nev 36 (.tmp 62) rfl rfl ev rfl false (hne _) ?_)
            | (refine wpList_load_blk rfl 26 (.tmp 16) rfl wf.heap.size HVg.out rfl rfl rfl rfl ?_))
          have HLg : Hid (Below w.heap.size w wg) := hidden (HLr.out.trans ((Lat.trans _ _ _ Hrf.out Hfg.out).mono HLr.out.size))
          have HRG := hidden (HRF.out.later Hfg.out)
          refine (encodeP kf ff wg HRG.out.kd ⟨HRG.out.mem, HG.out.later HLg.out⟩ HRG.out.k64 (by have := HLg.out.size; omega)).mono ?_
          rintro e wh ⟨adh, nh, cph, rfl, oh, hlh, byh, hleh, bh⟩
          rw [HEF.out] at oh hlh byh ⊢
          simp only at oh hlh byh ⊢
          have Hrh : Hid (Lat wr wh) := hidden (Lat.trans _ _ _ Hrf.out (Lat.trans _ _ _ Hfg.out bh))
          have s1 := fun q => run_string_of (P := Tryz.prog) 22 5 9 Tryz.underlying22 Tryz.underlying5 Tryz.underlying9 (cap := cph) ((Chg.drewN (fun _ => False) wh q).sl (sl_of_owns oh byh) (fun _ _ _ e => e))
          have s2 := fun q => run_string_of (P := Tryz.prog) 22 5 9 Tryz.underlying22 Tryz.underlying5 Tryz.underlying9 (cap := c) ((Chg.drewN (fun _ => False) wh q).sl ((Chg.of_below (F := fun _ => False) Hrh.out).sl HSR.out (fun _ _ _ e => e)) (fun _ _ _ e => e))
          have ch := HCI.out wh Hrh.out
          clear oh hlh byh hleh bh
          go_wp2_with fail
          go_quiet (fail)
          go_wp2_with fail
          refine ⟨⟨i + 1, by first | rfl | simp, by omega, hidden (below_drewN (Lat.trans _ _ _ hI.out Hrh.out) nq)⟩, ?_⟩
          show 3 - ((i : Int) + 1).toNat < 3 - (i : Int).toNat
          omega
      · obtain rfl : i = 3 := by omega
        go_wp2_with fail
        go_ret
        exact ⟨rfl, HLr.out⟩

end Go.Proofs.YtalmpmhnkilalaaGreatDoor

/-
  TopCodecs: answers. By gentcf20.py.
-/
namespace Go.Proofs.YtalmpmhnkilalaaGreatDoor
open Go Go.RowKit
set_option linter.unusedVariables false
set_option linter.unusedSimpArgs false

set_option maxHeartbeats 16000000 in
set_option maxRecDepth 100000 in
theorem answersP (er k : Int) (fm : Nat → FM) (bad : Option Addr) (bn bc : Nat) (b : List Int) (at1 turn : Int) (w : World) (hr : RsM w er k fm) (hs : Sl w bad bn b) (hno : bad = none → bn = 0 ∧ bc = 0) (hcap : bn ≤ bc ∧ bc ≤ 9223372036854775807) (ha : I64n at1) (ht : I64n turn) (hG : Gv w) :
    Calls Tryz.prog 26 #[.agg (cA er k fm).toArray, .slice bad bn bc, .int .i64 at1, .int .i64 turn] w fun e w' => e = .returned (.bool true) ∧ Below w.heap.size w w' := by
  have HR := hidden hr
  have HS := hidden hs
  have HNO := hidden hno
  have HG := hidden hG
  have HA := hidden ha
  have HT := hidden ht
  have HCP := hidden hcap
  have h2w : 2 ≤ w.heap.size := World.block_lt_of_cell? w _ (hG.tab 0 (by omega))
  clear hr hs hno hG ha ht hcap
  have HB1 := hidden (Blk.new w 57 (cA er k fm))
  go_enter Tryz.func26, Tryz.ntmps26
  go_wp2_with (first
    | (refine wpList_load_blk rfl 57 (.tmp 4) rfl w.heap.size HB1.out rfl rfl rfl rfl ?_))
  obtain ⟨w2, hw2⟩ : ∃ w2, w.alloc (.cells (cA er k fm).toArray 57) = w2 := ⟨_, rfl⟩
  have HL2 : Hid (Below w.heap.size w w2) := hidden (by rw [← hw2]; exact (Below.refl _ _).alloc (Nat.le_refl _) _)
  rw [hw2] at HB1
  rw [hw2]
  clear hw2
  have HR2 := hidden (HR.out.later HL2.out)
  refine (answerP er k fm w2 HR2.out.kd ⟨HR2.out.mem, HG.out.later HL2.out⟩ HR2.out.e64 HR2.out.k64 (by have := HL2.out.size; omega)).mono ?_
  rintro e w6 ⟨ad6, n7, cp6, rfl, o6, hl6, by6, hle6, b6⟩
  obtain ⟨E1, C1, hE1⟩ : ∃ E C, ansQ er k (fun i => (fm i).fv) = (E, C) := ⟨_, _, rfl⟩
  rw [hE1] at o6 hl6 by6 ⊢
  simp only at o6 hl6 by6 ⊢
  have HE1 := hidden hE1
  have HX6 : Hid (Lat w2 w6) := hidden b6
  have HO6 := hidden o6
  have HY6 := hidden (And.intro hl6 by6)
  have hnc6 := owns_cap o6
  have HNO6 := hidden hnc6.2.2.2
  have hc61 : n7 ≤ cp6 := hnc6.2.1
  have hc62 : cp6 ≤ 9223372036854775807 := by have := hnc6.2.2.1; unfold maxLen at this; omega
  have hn7 : n7 ≤ 1048576 := hle6
  have HS6 := hidden (sl_of_owns o6 by6)
  clear o6 hl6 by6 b6 hE1 hnc6
  go_upto_if 26 with fail
  obtain ⟨bo, hbo⟩ : ∃ bo, (E1 == 0) = bo := ⟨_, rfl⟩
  rw [hbo]
  have HBO := hidden hbo
  clear hbo
  go_cut [11, 12, 13] from 27 to 40 (fun v11 v12 v13 wx => Hid (Lat w6 wx))
  case first =>
    cases bo with
    | false =>
      go_wp2_with fail
      go_meet
      exact hidden (Below.refl _ _)
    | true =>
      have HE0 : Hid (E1 = 0) := hidden (by have := HBO.out; simpa using this)
      have HE1z : Hid (ansQ er k (fun i => (fm i).fv) = (0, C1)) := hidden (by rw [HE1.out, HE0.out])
      have HL6 : Hid (Below w.heap.size w w6) := hidden (HL2.out.trans (Below.mono HX6.out HL2.out.size))
      have HOK := hidden (read_ansQ HR2.out.sh HR2.out.e64.1 HR2.out.e64.2 HE1z.out)
      obtain ⟨K6, hK61, hK62⟩ := sl_blk HS6.out (by have := HL6.out.size; omega)
      have HK62 := hidden hK62
      clear hK62
      go_wp2_with fail
      refine (readW ad6 n7 cp6 C1 K6 w6 HS6.out HK62.out hK61 HNO6.out ⟨hc61, hc62⟩ (HG.out.later HL6.out)).mono ?_
      rintro e w7 hD
      unfold ReadR at hD
      rw [HOK.out.1] at hD
      obtain ⟨b7, fm7, rfl, hfo7⟩ := hD
      have H67 := hidden b7
      have HF7 := hidden hfo7
      have HX7 : Hid (Lat w2 w7) := hidden (Lat.trans _ _ _ HX6.out b7)
      clear b7 hfo7
      have HQ7 := hidden (HB1.out.later HX7.out)
      go_wp2_with (first
        | (refine wpList_new_var rfl rfl 57 11 (.tmp 30) rfl rfl rfl rfl 6 (by kernel_rfl) (cA er k fm7) rfl (cA_one _ _ _) (by simp) rfl ?_; intro w8 B8 bl8 hz8; have HV8 := hidden B8; have HQ8 := hidden (HQ7.out.later bl8); have H78 := hidden bl8; clear B8 bl8 hz8)
        | (refine wpList_load_blk rfl 57 (.tmp 11) rfl w7.heap.size HV8.out rfl rfl rfl rfl ?_)
        | (refine wpList_load_blk rfl 57 (.tmp 4) rfl w.heap.size HQ8.out rfl rfl rfl rfl ?_))
      have HX8 : Hid (Lat w2 w8) := hidden (Lat.trans _ _ _ HX7.out H78.out)
      refine (sameRspT er k fm7 fm w8 (fun i hi => by rw [(HF7.out i hi).1]; exact HR2.out.kd i hi) (fun i hi => (HF7.out i hi).1) (fun i hi => ((HF7.out i hi).2.mem).later H78.out) (fun i hi => (HR2.out.mem i hi).later HX8.out)).mono ?_
      rintro e w9 ⟨rfl, b9⟩
      have H69 : Hid (Lat w6 w9) := hidden (Lat.trans _ _ _ H67.out (Lat.trans _ _ _ H78.out b9))
      clear b9
      go_wp2_with fail
      go_meet
      exact H69
  case rest =>
    have H6c : Hid (Lat w6 wc) := hidden hcut.out
    clear hcut
    have HLc : Hid (Below w.heap.size w wc) := hidden (HL2.out.trans (Below.mono (Lat.trans _ _ _ HX6.out H6c.out) HL2.out.size))
    have HS6c := hidden ((Chg.of_below (F := fun _ => False) H6c.out).sl HS6.out (fun _ _ _ e => e))
    go_wp2_with fail
    refine (spoiltP ad6 n7 cp6 C1 at1 turn wc HS6c.out HNO6.out hn7 HA.out HT.out).mono ?_
    rintro e wd ⟨⟨vd, rfl, hBt⟩, bd⟩
    obtain ⟨ads, ns, cs, bs, rfl, hss, hsn, hsc, hsd⟩ := hBt
    have HSs := hidden hss
    have HSn := hidden hsn
    have Hcd := hidden bd
    clear hss hsn bd
    go_wp2_with fail
    obtain ⟨vs, hvs⟩ : ∃ vs, [Value.slice ad6 n7 cp6, .slice ads ns cs, .slice bad bn bc] = vs := ⟨_, rfl⟩
    obtain ⟨we, hwe⟩ : ∃ we, wd.alloc (.cells #[.slice ad6 n7 cp6, .slice ads ns cs, .slice bad bn bc] 22) = we := ⟨_, rfl⟩
    have Hde : Hid (Lat wd we) := hidden (by rw [← hwe]; exact (Below.refl _ _).alloc (Nat.le_refl _) _)
    have HBe : Hid (Blk we wd.heap.size 22 vs) := hidden (by rw [← hwe, ← hvs]; exact Blk.new wd 22 _)
    have HLe : Hid (Below w.heap.size w we) := hidden (HLc.out.trans ((Lat.trans _ _ _ Hcd.out Hde.out).mono HLc.out.size))
    have HBT : Hid (∀ i, i < 3 → ∃ ad n c bb, vs[i]? = some (.slice ad n c) ∧ Sl we ad n bb ∧ (ad = none → n = 0 ∧ c = 0) ∧ n ≤ c ∧ c ≤ 9223372036854775807) := hidden (fun i hi => by
      rw [← hvs]
      rcases (show i = 0 ∨ i = 1 ∨ i = 2 by omega) with rfl | rfl | rfl
      · exact ⟨_, _, _, _, rfl, (Chg.of_below (F := fun _ => False) (Lat.trans _ _ _ Hcd.out Hde.out)).sl HS6c.out (fun _ _ _ e => e), HNO6.out, hc61, hc62⟩
      · exact ⟨_, _, _, _, rfl, (Chg.of_below (F := fun _ => False) Hde.out).sl HSs.out (fun _ _ _ e => e), HSn.out, hsc, hsd⟩
      · exact ⟨_, _, _, _, rfl, (Chg.of_below (F := fun _ => False) HLe.out).sl HS.out (fun _ _ _ e => e), HNO.out, HCP.out.1, HCP.out.2⟩)
    rw [hwe]
    clear hwe hvs
    obtain ⟨gB, hgB⟩ : ∃ gB, wd.heap.size = gB := ⟨_, rfl⟩
    rw [hgB] at HBe
    rw [hgB]
    clear hgB
    go_loopw [15, 16, 17, 18, 19] (fun v15 v16 v17 v18 v19 wx => ∃ i : Nat, v15 = .int .i64 (i : Int) ∧ i ≤ 3 ∧ Hid (Lat we wx)) (fun v15 _ _ _ _ _ => 3 - (intOf v15).toNat)
    case atStart => exact ⟨0, rfl, by omega, hidden (Below.refl _ _)⟩
    case round =>
      obtain ⟨i, rfl, hi, hI⟩ := hrel
      have HLr : Hid (Below w.heap.size w wr) := hidden (HLe.out.trans (Below.mono hI.out HLe.out.size))
      by_cases hin : i < 3
      · have hin' : (i : Int) < 3 := by omega
        obtain ⟨ad, n, c, bb, hv, hsl, hnn1, hc1, hc2⟩ := HBT.out i hin
        have HSL := hidden hsl
        have HN1 := hidden hnn1
        have HCI : Hid (∀ wx, Lat wr wx → wx.cell? ⟨gB, i, none⟩ = some (.slice ad n c)) := hidden (fun wx hx => by rw [((HBe.out.later hI.out).later hx).cell]; exact hv)
        have HSR := hidden ((Chg.of_below (F := fun _ => False) hI.out).sl hsl (fun _ _ _ e => e))
        have ci := HCI.out wr (Below.refl _ _)
        clear hv hsl hnn1
        obtain ⟨Kr, hKr1, hKr2⟩ := sl_blk HSR.out (by have := HLr.out.size; omega)
        have HKR := hidden hKr2
        clear hKr2
        go_wp2_with fail
        refine (readW ad n c bb Kr wr HSR.out HKR.out hKr1 HN1.out ⟨hc1, hc2⟩ (HG.out.later HLr.out)).mono ?_
        rintro e wf hD
        obtain ⟨cf, lf, E3, rfl, hlf, hof, hyf⟩ := read_any hD HSR.out.byte
        have Hrf := hidden cf
        have HF := hidden (And.intro hlf hof)
        have HYF := hidden hyf
        clear hD cf hlf hof hyf ci
        by_cases hE3 : E3 = 0
        case neg =>
          have hE3' : (E3 != 0) = true := by simpa using hE3
          go_wp2_with (first
            | (refine wpList_new_var rfl rfl 57 16 (.tmp 60) rfl rfl rfl rfl 6 (by kernel_rfl) lf HF.out.1 HF.out.2 (by simp) rfl ?_; intro wg Bg blg hzg; have Hfg := hidden blg; clear Bg blg hzg))
          refine ⟨⟨i + 1, by first | rfl | simp, by omega, hidden (Lat.trans _ _ _ hI.out (Lat.trans _ _ _ Hrf.out Hfg.out))⟩, ?_⟩
          show 3 - ((i : Int) + 1).toNat < 3 - (i : Int).toNat
          omega
        case pos =>
          obtain ⟨ef, kf, ff, hl, hrf, hef⟩ := HYF.out hE3
          subst hE3
          have HRF := hidden hrf
          have HEF := hidden hef
          have HZ : Hid (lf = cA ef kf ff) := hidden hl
          clear hl hrf hef
          go_wp2_with (first
            | (refine wpList_new_var rfl rfl 57 16 (.tmp 60) rfl rfl rfl rfl 6 (by kernel_rfl) lf HF.out.1 HF.out.2 (by simp) rfl ?_; intro wg Bg blg hzg; have HVg : Hid (Blk wg wf.heap.size 57 (cA ef kf ff)) := hidden (by rw [← HZ.out]; exact Bg); have Hfg := hidden blg; clear Bg blg hzg)
            | (refine wpList_load_blk rfl 57 (.tmp 16) rfl wf.heap.size HVg.out rfl rfl rfl rfl ?_))
          have HLg : Hid (Below w.heap.size w wg) := hidden (HLr.out.trans ((Lat.trans _ _ _ Hrf.out Hfg.out).mono HLr.out.size))
          have HRG := hidden (HRF.out.later Hfg.out)
          refine (answerP ef kf ff wg HRG.out.kd ⟨HRG.out.mem, HG.out.later HLg.out⟩ HRG.out.e64 HRG.out.k64 (by have := HLg.out.size; omega)).mono ?_
          rintro e wh ⟨adh, nh, cph, rfl, oh, hlh, byh, hleh, bh⟩
          rw [HEF.out] at oh hlh byh ⊢
          simp only at oh hlh byh ⊢
          have Hrh : Hid (Lat wr wh) := hidden (Lat.trans _ _ _ Hrf.out (Lat.trans _ _ _ Hfg.out bh))
          have s1 := fun q => run_string_of (P := Tryz.prog) 22 5 9 Tryz.underlying22 Tryz.underlying5 Tryz.underlying9 (cap := cph) ((Chg.drewN (fun _ => False) wh q).sl (sl_of_owns oh byh) (fun _ _ _ e => e))
          have s2 := fun q => run_string_of (P := Tryz.prog) 22 5 9 Tryz.underlying22 Tryz.underlying5 Tryz.underlying9 (cap := c) ((Chg.drewN (fun _ => False) wh q).sl ((Chg.of_below (F := fun _ => False) Hrh.out).sl HSR.out (fun _ _ _ e => e)) (fun _ _ _ e => e))
          have ch := HCI.out wh Hrh.out
          clear oh hlh byh hleh bh
          go_wp2_with fail
          go_quiet (fail)
          go_wp2_with fail
          refine ⟨⟨i + 1, by first | rfl | simp, by omega, hidden (below_drewN (Lat.trans _ _ _ hI.out Hrh.out) nq)⟩, ?_⟩
          show 3 - ((i : Int) + 1).toNat < 3 - (i : Int).toNat
          omega
      · obtain rfl : i = 3 := by omega
        go_wp2_with fail
        go_ret
        exact ⟨rfl, HLr.out⟩

end Go.Proofs.YtalmpmhnkilalaaGreatDoor

/-
  TopCodecs: the walk.
-/
namespace Go.Proofs.YtalmpmhnkilalaaGreatDoor
open Go Go.RowKit
set_option linter.unusedVariables false
set_option linter.unusedSimpArgs false

set_option maxHeartbeats 16000000 in
set_option maxRecDepth 100000 in
theorem codecs_any (k : Int) (fm : Nat → FM) (er ka : Int) (fa : Nat → FM) (bad : Option Addr) (bn bc : Nat) (b : List Int) (at1 turn : Int) (w : World) (hr : RqM w k fm) (hp : RsM w er ka fa) (hs : Sl w bad bn b) (hno : bad = none → bn = 0 ∧ bc = 0) (hcap : bn ≤ bc ∧ bc ≤ 9223372036854775807) (ha : I64n at1) (ht : I64n turn) (hG : Gv w) :
    Calls Tryz.prog 8 #[.agg (cQ k fm).toArray, .agg (cA er ka fa).toArray, .slice bad bn bc, .int .i64 at1, .int .i64 turn] w fun e w' => e = .returned (.bool true) ∧ Below w.heap.size w w' := by
  obtain ⟨a2, c2, l2, q2⟩ : ∃ a c l, fm 2 = .ws a c l := by have := hr.kd 2 (by omega); cases h : fm 2 <;> rw [h] at this <;> first | (cases this; done) | exact ⟨_, _, _, rfl⟩
  obtain ⟨a4, c4, l4, q4⟩ : ∃ a c l, fa 0 = .se a c l := by have := hp.kd 0 (by omega); cases h : fa 0 <;> rw [h] at this <;> first | (cases this; done) | exact ⟨_, _, _, rfl⟩
  have HR := hidden hr
  have HP := hidden hp
  have HS := hidden hs
  have HNO := hidden hno
  have HG := hidden hG
  have HA := hidden ha
  have HT := hidden ht
  have HCP := hidden hcap
  have HM2 : Hid (l2.length ≤ 9223372036854775807 ∧ Es w a2 2 (l2.map Ser.cells)) := hidden (by have := hr.mem 2 (by omega); rw [q2] at this; exact ⟨this.1, this.2.1⟩)
  have HM4 : Hid (l4.length ≤ 9223372036854775807 ∧ Es w a4 2 (l4.map Ser.cells)) := hidden (by have := hp.mem 0 (by omega); rw [q4] at this; exact ⟨this.1, this.2.1⟩)
  clear hr hp hs hno hG ha ht hcap
  obtain ⟨w2, hw2, B1, B2, bl2, hz2⟩ := two_new w 26 57 (cQ k fm) (cA er ka fa)
  obtain ⟨n2, hn2⟩ : ∃ n, l2.length = n := ⟨_, rfl⟩
  obtain ⟨n4, hn4⟩ : ∃ n, l4.length = n := ⟨_, rfl⟩
  have HB1 := hidden B1
  have HB2 := hidden B2
  have HLAY : Hid (∀ wx, Lat w2 wx → wx.cell? ⟨w.heap.size, 3, none⟩ = some (.slice a2 n2 c2) ∧ wx.cell? ⟨w.heap.size + 1, 2, none⟩ = some (.slice a4 n4 c4)) := hidden (fun wx hx => by
    have A := HB1.out.later hx
    have B := HB2.out.later hx
    rw [A.cell, B.cell]
    refine ⟨?_, ?_⟩
    · rw [show (3 : Nat) = 2 + 1 from rfl, cQ_at k fm 2 (by omega), q2, ← hn2]; rfl
    · rw [show (2 : Nat) = 0 + 2 from rfl, cA_at er ka fa 0 (by omega), q4, ← hn4]; rfl)
  have HL2 := hidden bl2
  have HNN := hidden (And.intro hn2 hn4)
  rw [hn2] at HM2
  rw [hn4] at HM4
  clear B1 B2 bl2 q2 q4 hn2 hn4
  go_enter Tryz.func8, Tryz.ntmps8
  go_wp2_with fail
  try rw [hw2]
  refine (speaksP w2 (HG.out.later HL2.out)).mono ?_
  rintro e w3 ⟨rfl, b3⟩
  have HX3 : Hid (Lat w2 w3) := hidden b3
  obtain ⟨y1, y2⟩ := HLAY.out w3 b3
  clear b3
  go_wp2_with fail
  refine (beyondP a2 n2 c2 l2 w3 (HM2.out.2.later (HL2.out.trans (Below.mono HX3.out HL2.out.size))) HNN.out.1 HM2.out.1).mono ?_
  rintro e w4 ⟨z4, rfl, b4⟩
  have HX4 : Hid (Lat w2 w4) := hidden (Lat.trans _ _ _ HX3.out b4)
  clear b4 y1 y2
  obtain ⟨y1, y2⟩ := HLAY.out w4 HX4.out
  cases z4 with
  | true =>
    go_wp2_with fail
    go_ret
    exact ⟨rfl, HL2.out.trans (Below.mono HX4.out HL2.out.size)⟩
  | false =>
    go_wp2_with fail
    refine (beyondP a4 n4 c4 l4 w4 (HM4.out.2.later (HL2.out.trans (Below.mono HX4.out HL2.out.size))) HNN.out.2 HM4.out.1).mono ?_
    rintro e w5 ⟨z5, rfl, b5⟩
    have HX5 : Hid (Lat w2 w5) := hidden (Lat.trans _ _ _ HX4.out b5)
    clear b5 y1 y2
    cases z5 with
    | true =>
      go_wp2_with fail
      go_ret
      exact ⟨rfl, HL2.out.trans (Below.mono HX5.out HL2.out.size)⟩
    | false =>
      have HL5 : Hid (Below w.heap.size w w5) := hidden (HL2.out.trans (Below.mono HX5.out HL2.out.size))
      have HQ5 := hidden (HB1.out.later HX5.out)
      go_wp2_with (first
        | (refine wpList_load_blk rfl 26 (.tmp 5) rfl w.heap.size HQ5.out rfl rfl rfl rfl ?_))
      refine (requestsP k fm bad bn bc b at1 turn w5 (HR.out.later HL5.out) ((Chg.of_below (F := fun _ => False) HL5.out).sl HS.out (fun _ _ _ e => e)) HNO.out HCP.out HA.out HT.out (HG.out.later HL5.out)).mono ?_
      rintro e w6 ⟨rfl, b6⟩
      have HX6 : Hid (Lat w2 w6) := hidden (Lat.trans _ _ _ HX5.out b6)
      have HL6 : Hid (Below w.heap.size w w6) := hidden (HL2.out.trans (Below.mono HX6.out HL2.out.size))
      have HP6 := hidden (HB2.out.later HX6.out)
      clear b6
      go_wp2_with (first
        | (refine wpList_load_blk rfl 57 (.tmp 6) rfl (w.heap.size + 1) HP6.out rfl rfl rfl rfl ?_))
      refine (answersP er ka fa bad bn bc b at1 turn w6 (HP.out.later HL6.out) ((Chg.of_below (F := fun _ => False) HL6.out).sl HS.out (fun _ _ _ e => e)) HNO.out HCP.out HA.out HT.out (HG.out.later HL6.out)).mono ?_
      rintro e w7 ⟨rfl, b7⟩
      have HL7 : Hid (Below w.heap.size w w7) := hidden (HL6.out.trans (b7.mono HL6.out.size))
      clear b7
      go_wp2_with fail
      go_ret
      exact ⟨rfl, HL7.out⟩

end Go.Proofs.YtalmpmhnkilalaaGreatDoor
