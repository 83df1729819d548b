import Derived.Test.YtalmpmhnkilalaaGreatDoorWwE
import Derived.Test.YtalmpmhnkilalaaGreatDoorChU
/-
  Package wire's writer: samples.
-/
namespace Go.Proofs.YtalmpmhnkilalaaGreatDoor
open Go.RowKit
set_option linter.unusedVariables false

theorem encC_take {l : List Sm} (h : ∀ x ∈ l, OkS x) : ∀ (i : Nat), (encC (l.take i)).length ≤ (encC l).length := by
  intro i
  have key : ∀ (m l : List Sm), (∀ x ∈ l ++ m, OkS x) → (encC l).length ≤ (encC (l ++ m)).length := by
    intro m
    induction m with
    | nil => intro l _; simp
    | cons s t ih =>
      intro l hl
      have h1 := (encC_mono (l := l) (s := s) (fun x hx => hl x (by simp [hx])) (hl s (by simp))).1
      have h2 := ih (l ++ [s]) (by simpa using hl)
      rw [List.append_assoc] at h2
      exact Nat.le_trans h1 h2
  have := key (l.drop i) (l.take i) (by rw [List.take_append_drop]; exact h)
  rwa [List.take_append_drop] at this
theorem rowB_ge : ∀ (l : List Sm), l.length ≤ (rowB l).length
  | [] => by simp
  | s :: t => by
    have := moB_ge t (tr0 s)
    rw [rowB, List.length_append]
    simp only [fiB, List.length_append, low_len, List.length_cons]
    omega
theorem fits_small {l : List Sm} {m : Nat} (h : (encC l).length ≤ m) : (rowB l).length ≤ 8 * m := by
  by_cases h0 : l = []
  · subst h0; simp [rowB]
  · unfold encC at h
    rw [if_neg h0, List.length_append, pk_len] at h
    omega

theorem encC_byte (l : List Sm) (h : l.length ≤ 18446744073709551615) : Byte (encC l) := by
  unfold encC
  split
  · exact fun n hn => by simp at hn
  · exact (Q.enc_byte _ (by omega)).append (pk_byte _)
/-- samples, purely. -/
def Ws.samples (s : Ws) (l : List Sm) : Ws :=
  if s.over then s else if (encC l).length ≤ s.most - s.out.length then s.put (Q.enc (encC l).length ++ encC l) else { s with over := true }

set_option maxHeartbeats 4000000 in
set_option maxRecDepth 8000 in
theorem samplesW (p : Nat) (rb : Option Nat) (s : Ws) (ad : Option Addr) (N c : Nat) (l : List Sm) (w : World) (h : Wt w p rb s) (hG : Gv w) (hN : l.length = N) (hN9 : N ≤ 9223372036854775807) (hS : Ss w ad l) (hm : s.most ≤ 1048576) :
    Calls Tryz.prog 184 #[.pointer (some ⟨p, 0, none⟩), .slice ad N c] w (WQ w p rb (s.samples l)) := by
  have HW := hidden h
  obtain ⟨v, h⟩ := h
  obtain ⟨a1, c1, rfl⟩ := owns_form h.row
  obtain ⟨k, hk⟩ : ∃ k, s.out.length = k := ⟨_, rfl⟩
  obtain ⟨M, hM⟩ : ∃ M, s.most = M := ⟨_, rfl⟩
  have hL := h.len
  have hsz : 2 ≤ w.heap.size := World.block_lt_of_cell? w _ (hG.tab 0 (by omega))
  rw [hk, hM] at hL
  rw [hM] at hm
  have c0 : w.cell? ⟨p, 0, none⟩ = some (.slice a1 k c1) := by rw [← hk]; exact h.blk.cell 0
  have cM : w.cell? ⟨p, 1, none⟩ = some (.int .i64 (M : Int)) := by rw [← hM]; exact h.blk.cell 1
  have c2 : w.cell? ⟨p, 2, none⟩ = some (.bool s.over) := h.blk.cell 2
  have HG := hidden hG
  have HN := hidden hN
  have HS := hidden hS
  have HK := hidden hk
  have HM := hidden hM
  clear h hG hN hS hk hM
  cases ho : s.over with
  | true =>
    rw [ho] at c2
    have e : s.samples l = s := by unfold Ws.samples; rw [ho]; rfl
    rw [e]
    clear ho
    go_enter Tryz.func184, Tryz.ntmps184
    go_wp2_with fail
    first | go_ret | go_end0
    exact ⟨rfl, rb, HW.out, Chg.refl _ _, .inl rfl⟩
  | false =>
    rw [ho] at c2
    have HO := hidden ho
    clear ho
    obtain ⟨R, hR⟩ : ∃ R : Nat, M - k = R := ⟨_, rfl⟩
    have HE := hidden (show s.samples l = if (encC l).length ≤ R then s.put (Q.enc (encC l).length ++ encC l) else { s with over := true } by unfold Ws.samples; rw [HO.out, HM.out, HK.out, hR]; rfl)
    have HCN : Hid (∀ wx, Lat w wx → Calls Tryz.prog 191 #[.int .i64 (R : Int)] wx fun e w' => ∃ c p, e = .returned (.pointer (some ⟨c, 0, none⟩)) ∧ Hid (wx.heap.size ≤ c ∧ wx.heap.size ≤ p ∧ CS w' c p none (R : Int) [] ∧ Below wx.heap.size wx w')) := hidden (fun wx hx => by
      refine (newP wx (R : Int) (by unfold I64; omega) (Nat.le_trans hsz hx.size)).mono ?_
      rintro e w' ⟨c, p, rfl, h1⟩
      exact ⟨c, p, rfl, hidden h1⟩)
    have hw : IntKind.i64.wrap ((M : Int) - (k : Int)) = (R : Int) := by rw [i64_id (by omega) (by omega)]; omega
    go_enter Tryz.func184, Tryz.ntmps184
    go_wp2_with fail
    go_cut [4] from 11 to 21 (fun s4 wx => ∃ cc pp, s4 = .pointer (some ⟨cc, 0, none⟩) ∧ Hid (w.heap.size ≤ cc ∧ w.heap.size ≤ pp ∧ CS wx cc pp none (R : Int) [] ∧ Below w.heap.size w wx))
    case first =>
      go_region_with (refine (HCN.out _ (by first | exact Lat.refl _ | exact (Below.refl _ _).drew | exact below_drewN (Below.refl _ _) _)).mono ?_; rintro e w1 ⟨cc, pp, rfl, h1⟩)
      all_goals
        have HH1 : Hid (w.heap.size ≤ cc ∧ w.heap.size ≤ pp ∧ CS w1 cc pp none (R : Int) [] ∧ Below w.heap.size w w1) := hidden ⟨h1.out.1, h1.out.2.1, h1.out.2.2.1, ((Below.refl _ _).drew).trans h1.out.2.2.2⟩
        clear h1
        go_wp2_with fail
        go_meet
        exact ⟨cc, pp, rfl, HH1⟩
    case rest =>
      obtain ⟨cc, pp, rfl, H1⟩ := hcut
      clear HCN hw c0 cM c2
      go_wp2_with fail
      go_loopw [6, 24] (fun v6 v24 wx => ∃ i : Nat, v24 = .int .i64 (i : Int) ∧ i ≤ N ∧ Hid (∃ rb', CS wx cc pp rb' (R : Int) (l.take i) ∧ Below w.heap.size w wx ∧ (∀ g, rb' = some g → w.heap.size ≤ g) ∧ (encC (l.take i)).length ≤ R)) (fun _ v24 _ => N - (intOf v24).toNat)
      case atStart => exact ⟨0, rfl, by omega, hidden ⟨none, H1.out.2.2.1, H1.out.2.2.2, by simp, by simp [encC]⟩⟩
      case round =>
        obtain ⟨i, rfl, hi, hI⟩ := hrel
        by_cases hin : i < N
        · obtain ⟨rb', hCS, hB, hrb, hfit⟩ := hI.out
          obtain ⟨bb, off, x, rfl, hbb, hx, _, e0, e1, hok⟩ := (HS.out.later hB).get (i := i) (by have := HN.out; omega)
          have htk : l.take (i + 1) = l.take i ++ [x] := by rw [List.take_add_one, hx]; rfl
          have hsm := fits_small hfit
          have hge := rowB_ge (l.take i)
          have bw : Below wr.heap.size wr (wr.alloc (.cells #[.int .i64 x.t, .int .u64 (x.v : Int)] 50)) := (Below.refl _ _).alloc (Nat.le_refl _) _
          have HAP := hidden (cappendP (wr.alloc (.cells #[.int .i64 x.t, .int .u64 (x.v : Int)] 50)) cc pp rb' (R : Int) (l.take i) x (hCS.later bw) ((HG.out.later hB).later bw) hok (by omega) (by omega))
          have HB4 := hidden (hB.trans (bw.mono hB.size))
          have HRB := hidden hrb
          have HTK := hidden htk
          clear hCS hB hrb hfit hbb hx htk hsm hge bw hok
          go_wp2_with fail
          refine HAP.out.mono ?_
          rintro e w5 ⟨rfl, rb2, h5, hC5, hM5⟩
          have HB5 := hidden (HB4.out.trans (hC5.below (B := w.heap.size) HB4.out.size (fun g hg => by
            rcases hg with (rfl | hg) | rfl
            · exact H1.out.2.1
            · exact HRB.out g hg
            · exact H1.out.1)))
          have HRB2 : Hid (∀ g, rb2 = some g → w.heap.size ≤ g) := hidden (fun g hg => by
            rcases hM5 with e | ⟨g2, e, hg2⟩
            · exact HRB.out g (e ▸ hg)
            · have := HB4.out.size
              rw [e] at hg
              simp at hg
              omega)
          have H5 := hidden h5
          clear h5 hC5 hM5 e0 e1 HAP
          by_cases hf : ((encC (l.take i ++ [x])).length : Int) ≤ (R : Int)
          · rw [decide_eq_true hf]
            have HF := hidden hf
            clear hf
            go_wp2_with fail
            refine ⟨⟨i + 1, by first | rfl | simp, by omega, hidden ⟨rb2, ?_, HB5.out, HRB2.out, ?_⟩⟩, ?_⟩
            · have h9 := H5.out
              rw [if_pos HF.out] at h9
              rw [HTK.out]
              exact h9
            · rw [HTK.out]
              have := HF.out
              omega
            · show N - ((i : Int) + 1).toNat < N - (i : Int).toNat
              omega
          · rw [decide_eq_false hf]
            have HF := hidden hf
            clear hf
            obtain ⟨v9, hV9⟩ := HW.out.later HB5.out
            have f2 := hV9.blk.frozen 2
            have c2 : w5.cell? ⟨p, 2, none⟩ = some (.bool s.over) := hV9.blk.cell 2
            have HV9 := hidden hV9
            clear hV9
            go_wp2_with fail
            first | go_ret | go_end0
            have hno : ¬ (encC l).length ≤ R := fun h => by
              have h1 := HF.out
              have := encC_take HS.out.sz (i + 1)
              rw [HTK.out] at this
              omega
            refine ⟨rfl, rb, ⟨v9, ?_⟩, ?_, .inl rfl⟩
            · rw [HE.out, if_neg hno]
              exact HV9.out.setOver
            · exact (Chg.of_below HB5.out).trans ((Chg.set ⟨p, 2, none⟩ _ _).mono (G := fpt p rb) (fun i _ hi => .inl hi)) (fun _ _ e => e)
        · have hiN : i = N := by omega
          obtain ⟨rb', hCS, hB, hrb, hfit⟩ := hI.out
          rw [List.take_of_length_le (by have := HN.out; omega)] at hCS hfit
          have hsm := fits_small hfit
          have hge := rowB_ge l
          have HBY := hidden (cbytesP wr cc pp rb' (R : Int) l hCS (by omega))
          have HB := hidden hB
          have HFI := hidden hfit
          clear hCS hB hrb hfit hsm hge hI
          go_wp2_with fail
          refine HBY.out.mono ?_
          rintro e w6 ⟨a6, c6, rfl, o6, b6⟩
          have HS6 := hidden (sl_of_owns o6 (encC_byte l (by have := HN.out; omega)))
          have HN6 := hidden (owns_cap o6).2.2.2
          have HB6 := hidden (HB.out.trans (b6.mono HB.out.size))
          clear o6 b6
          obtain ⟨E, hE⟩ : ∃ E, (encC l).length = E := ⟨_, rfl⟩
          have HEE := hidden hE
          have hER : E ≤ R := by rw [← hE]; exact HFI.out
          rw [hE] at HS6 HN6 ⊢
          clear hE
          go_wp2_with fail
          refine (bytesNil a6 E c6 (encC l) w6 HS6.out HN6.out (by omega)).mono ?_
          rintro e w7 ⟨n7, c7, rfl, s7, l7, b7⟩
          have HS7 := hidden s7
          have HB7 := hidden (HB6.out.trans (b7.mono HB6.out.size))
          clear s7 b7
          go_wp2_with fail
          refine (putW p rb s _ n7 c7 _ w7 (HW.out.later HB7.out) HS7.out (fun h => by cases h) (by omega)).mono ?_
          rintro e w8 hQ
          have HQ := hidden (hQ.later HB7.out)
          obtain ⟨rfl, hQ⟩ := hQ
          clear hQ
          go_wp2_with fail
          go_end0
          rw [HE.out, if_pos HFI.out, HEE.out]
          exact HQ.out

end Go.Proofs.YtalmpmhnkilalaaGreatDoor

/-
  Package wire's writer: oneSeries, series, writes.
-/
namespace Go.Proofs.YtalmpmhnkilalaaGreatDoor
open Go.RowKit
set_option linter.unusedVariables false

theorem must_most (s : Ws) (b : Bool) : (s.must b).most = s.most := rfl
theorem put_most (s : Ws) (b : List Int) : (s.put b).most = s.most := by unfold Ws.put; split <;> rfl
theorem limited_most (s : Ws) (d : ByteArray) (m : Nat) : (s.limited d m).most = s.most := by
  unfold Ws.limited
  split
  · rfl
  · exact put_most _ _
theorem label_most (s : Ws) (n v : ByteArray) : (s.label n v).most = s.most := by unfold Ws.label; rw [limited_most, limited_most]
theorem samples_most (s : Ws) (l : List Sm) : (s.samples l).most = s.most := by
  unfold Ws.samples
  split
  · rfl
  · split
    · exact put_most _ _
    · rfl
theorem eachS_most {α : Type} (step : Ws → α → Ws) (h : ∀ s x, (step s x).most = s.most) : ∀ (l : List α) (s : Ws), (eachS step l s).most = s.most
  | [], s => rfl
  | x :: r, s => by
    show (eachS step r (if s.wrong then s else step s x)).most = s.most
    rw [eachS_most step h r]
    split
    · rfl
    · exact h s x
theorem each_most {α : Type} (step : Ws → α → Ws) (h : ∀ s x, (step s x).most = s.most) (m : Nat) (l : List α) (s : Ws) : (s.each m step l).most = s.most := by
  unfold Ws.each
  rw [eachS_most step h, put_most, must_most]
theorem stepL_most (s : Ws) (x : La) : (stepL s x).most = s.most := label_most s x.n x.v

/-- A series: its labels, its samples. -/
def stepE (s : Ws) (x : Ser) : Ws := (s.each 16 stepL x.L).samples x.S
theorem stepE_most (s : Ws) (x : Ser) : (stepE s x).most = s.most := by unfold stepE; rw [samples_most, each_most stepL stepL_most]
/-- A series' lists in memory, and Go's tables. -/
def SerM (w : World) (x : Ser) : Prop := Es w x.la 2 (x.L.map La.cells) ∧ x.L.length = x.ln ∧ x.ln ≤ 9223372036854775807 ∧ Ss w x.sa x.S ∧ x.S.length = x.sn ∧ x.sn ≤ 281474976710656 ∧ Gv w
theorem seriesOneW (p : Nat) (rb : Option Nat) (s : Ws) (x : Ser) (w : World) (h : Wt w p rb s) (hS : ∀ wx, Chg (fpt p rb) w wx → SerM wx x) :
    Calls Tryz.prog 163 #[.pointer (some ⟨p, 0, none⟩), .agg #[.slice x.la x.ln x.lc, .slice x.sa x.sn x.sc]] w (WQ w p rb (stepE s x)) := by
  have HW := hidden h
  have HS := hidden hS
  clear h hS
  go_enter Tryz.func163, Tryz.ntmps163
  go_wp2_with (refine wpList_box_blk rfl 45 (.tmp 1) rfl [.slice x.la x.ln x.lc, .slice x.sa x.sn x.sc] rfl ?_; intro w2 B2 bl2 hz2; have HL2 := hidden bl2; have HB2 := hidden B2; have c2 := B2.cell 0; simp at c2; have HW2 := hidden (HW.out.later bl2); clear B2 bl2 hz2)
  have hR := HS.out w (Chg.refl _ _)
  refine (labelsW p rb s x.la x.ln x.lc x.L w2 HW2.out hR.2.1 hR.2.2.1 (keep_on (Q := fun wx => Es wx x.la 2 (x.L.map La.cells)) (fun wx hx => (HS.out wx hx).1) (Chg.of_below HL2.out) (.inl rfl))).mono ?_
  rintro e w3 ⟨rfl, rb1, hW1, hC1, hM1⟩
  have HW1 := hidden hW1
  have HC1 := hidden hC1
  have HM1 := hidden hM1
  have c3 := (HW.out.apart (Nat.le_refl _) HB2.out hC1).cell 1
  simp at c3
  have HR3 := hidden (HS.out w3 ((Chg.of_below HL2.out).trans hC1 (fun _ _ e => e)))
  clear hW1 hC1 hM1 c2 hR
  go_wp2_with fail
  refine (samplesW p rb1 _ x.sa x.sn x.sc x.S w3 HW1.out HR3.out.2.2.2.2.2.2 HR3.out.2.2.2.2.1 (by have := HR3.out.2.2.2.2.2.1; omega) HR3.out.2.2.2.1 HW1.out.most).mono ?_
  rintro e w4 hQ
  have HQ := hidden ((hQ.pre HC1.out HM1.out).later HL2.out)
  obtain ⟨rfl, hQ⟩ := hQ
  clear hQ
  go_wp2_with fail
  go_end0
  exact HQ.out

theorem seriesW (p : Nat) (rb : Option Nat) (s : Ws) (ad : Option Addr) (N c : Nat) (l : List Ser) (w : World) (h : Wt w p rb s) (hN : l.length = N) (hN9 : N ≤ 9223372036854775807) (hS : ∀ wx, Chg (fpt p rb) w wx → Es wx ad 2 (l.map Ser.cells)) (hR : ∀ x ∈ l, ∀ wx, Chg (fpt p rb) w wx → SerM wx x) :
    Calls Tryz.prog 131 #[.pointer (some ⟨p, 0, none⟩), .slice ad N c] w (WQ w p rb (s.each 18446744073709551615 stepE l)) := by
  have HW := hidden h
  have HN := hidden hN
  have HS := hidden hS
  have HR := hidden hR
  clear h hN hS hR
  go_enter Tryz.func131, Tryz.ntmps131
  go_wp2_with fail
  refine (eachEP 163 (.pointer (some ⟨p, 0, none⟩)) stepE p rb s ad N c 18446744073709551615 l w (fun a w => by kernel_rfl) HW.out HN.out hN9 (by omega) HS.out (fun x hx s1 rb1 wx h1 hC hM => seriesOneW p rb1 s1 x wx h1 (keep_on (HR.out x hx) hC hM))).mono ?_
  rintro e w3 hQ
  have HQ := hidden hQ
  obtain ⟨rfl, hQ⟩ := hQ
  clear hQ
  go_wp2_with fail
  go_end0
  exact HQ.out


/-- writes, purely. -/
def Ws.writes (s : Ws) (l : List Ser) : Ws := if areW l then s.each 18446744073709551615 stepE l else { s with wrong := true }
theorem writesW (p : Nat) (rb : Option Nat) (s : Ws) (ad : Option Addr) (N c : Nat) (l : List Ser) (w : World) (h : Wt w p rb s) (hN : l.length = N) (hN9 : N ≤ 9223372036854775807) (hS : ∀ wx, Chg (fpt p rb) w wx → Es wx ad 2 (l.map Ser.cells)) (hR : ∀ x ∈ l, ∀ wx, Chg (fpt p rb) w wx → SerM wx x) :
    Calls Tryz.prog 97 #[.pointer (some ⟨p, 0, none⟩), .slice ad N c] w (WQ w p rb (s.writes l)) := by
  have HW := hidden h
  have HN := hidden hN
  have HS := hidden hS
  have HR := hidden hR
  have HA := hidden (areWritesP ad N c l w hN hN9 (hS w (Chg.refl _ _)) (fun x hx => (hR x hx w (Chg.refl _ _)).2.2.2.2.2.1))
  clear h hN hS hR
  go_enter Tryz.func97, Tryz.ntmps97
  go_wp2_with fail
  refine HA.out.mono ?_
  rintro e w1 ⟨rfl, b1⟩
  have HB1 := hidden b1
  clear b1
  cases ha : areW l with
  | false =>
    have HAF := hidden ha
    clear ha
    obtain ⟨v, hV⟩ := HW.out.later HB1.out
    have f3 := hV.blk.frozen 3
    have c3 : w1.cell? ⟨p, 3, none⟩ = some (.bool s.wrong) := hV.blk.cell 3
    have HV := hidden hV
    clear hV
    go_wp2_with fail
    first | go_ret | go_end0
    refine ⟨rfl, rb, ⟨v, ?_⟩, (Chg.of_below HB1.out).trans ((Chg.set ⟨p, 3, none⟩ _ _).mono (G := fpt p rb) (fun i _ hi => .inl hi)) (fun _ _ e => e), .inl rfl⟩
    have e : s.writes l = { s with wrong := true } := by unfold Ws.writes; rw [HAF.out]; rfl
    rw [e]
    exact HV.out.setWrong
  | true =>
    have HAT := hidden ha
    clear ha
    go_wp2_with fail
    refine (seriesW p rb s ad N c l w1 (HW.out.later HB1.out) HN.out hN9 (keep_on (Q := fun wx => Es wx ad 2 (l.map Ser.cells)) HS.out (Chg.of_below HB1.out) (.inl rfl)) (fun x hx => keep_on (Q := fun wx => SerM wx x) (HR.out x hx) (Chg.of_below HB1.out) (.inl rfl))).mono ?_
    rintro e w3 hQ
    have HQ := hidden (hQ.later HB1.out)
    obtain ⟨rfl, hQ⟩ := hQ
    clear hQ
    go_wp2_with fail
    go_end0
    have e : s.writes l = s.each 18446744073709551615 stepE l := by unfold Ws.writes; rw [HAT.out]; rfl
    rw [e]
    exact HQ.out

end Go.Proofs.YtalmpmhnkilalaaGreatDoor

/-
  Package wire: which fields a kind of request uses.
-/
namespace Go.Proofs.YtalmpmhnkilalaaGreatDoor
open Go.RowKit
set_option linter.unusedVariables false

/-- Ints in memory. -/
def In (w : World) (ad : Option Addr) (l : List Nat) : Prop := Es w ad 1 (l.map (fun (n : Nat) => [Value.int .i64 (n : Int)]))
theorem in_lit (w : World) (l : List Nat) (C : Array Value) (hC : C = (l.map (fun (n : Nat) => Value.int .i64 (n : Int))).toArray) (e : TypeId) : In (w.alloc (.cells C e)) (some ⟨w.heap.size, 0, none⟩) l := by
  subst hC
  intro _
  refine ⟨_, _, rfl, by simp, fun i x hx j v hv => ?_⟩
  rw [List.getElem?_map] at hx
  cases hn : l[i]? with
  | none => rw [hn] at hx; cases hx
  | some n =>
    rw [hn] at hx
    simp at hx
    subst hx
    obtain ⟨rfl, rfl⟩ : j = 0 ∧ v = Value.int .i64 (n : Int) := by
      cases j with
      | zero => simp at hv; exact ⟨rfl, hv.symm⟩
      | succ j => simp at hv
    have h := (Blk.new w e (l.map (fun (n : Nat) => Value.int .i64 (n : Int)))).cell i
    rw [List.getElem?_map, hn] at h
    simpa using h

/-- What a kind of request uses. -/
def fieldsK (k : Int) : Option (List Nat) :=
  if k = 1 then some [0, 1, 2] else if k = 2 then some [0, 1, 3, 4, 5] else if k = 3 then some [0, 1, 6] else if k = 4 ∨ k = 5 then some [0, 1, 3]
  else if k = 6 then some [0, 1, 3, 7] else if k = 7 ∨ k = 17 then some [0, 1] else if k = 16 then some [0, 1, 8, 9] else if k = 18 then some [0, 1, 11, 10, 3]
  else if k = 19 then some [0, 1, 11] else none

def fieldsQ (w : World) (k : Int) (e : Ending) (w' : World) : Prop :=
  Below w.heap.size w w' ∧ match fieldsK k with
    | some l => e = .returned (.tuple #[.slice (some ⟨w.heap.size, 0, none⟩) l.length l.length, .bool true]) ∧ In w' (some ⟨w.heap.size, 0, none⟩) l
    | none => e = .returned (.tuple #[.slice none 0 0, .bool false])

theorem fieldsOfP (k : Int) (w : World) (h0 : -9223372036854775808 ≤ k) (h1 : k ≤ 9223372036854775807) : Calls Tryz.prog 55 #[.int .i64 k] w (fieldsQ w k) := by
  by_cases k1 : k = 1
  · subst k1
    go_enter Tryz.func55, Tryz.ntmps55
    go_wp2_with fail
    go_ret2
    exact ⟨(Below.refl _ _).alloc (Nat.le_refl _) _, rfl, in_lit w [0, 1, 2] _ rfl _⟩
  by_cases k2 : k = 2
  · subst k2
    go_enter Tryz.func55, Tryz.ntmps55
    go_wp2_with fail
    go_ret2
    exact ⟨(Below.refl _ _).alloc (Nat.le_refl _) _, rfl, in_lit w [0, 1, 3, 4, 5] _ rfl _⟩
  by_cases k3 : k = 3
  · subst k3
    go_enter Tryz.func55, Tryz.ntmps55
    go_wp2_with fail
    go_ret2
    exact ⟨(Below.refl _ _).alloc (Nat.le_refl _) _, rfl, in_lit w [0, 1, 6] _ rfl _⟩
  by_cases k4 : k = 4
  · subst k4
    go_enter Tryz.func55, Tryz.ntmps55
    go_wp2_with fail
    go_ret2
    exact ⟨(Below.refl _ _).alloc (Nat.le_refl _) _, rfl, in_lit w [0, 1, 3] _ rfl _⟩
  by_cases k5 : k = 5
  · subst k5
    go_enter Tryz.func55, Tryz.ntmps55
    go_wp2_with fail
    go_ret2
    exact ⟨(Below.refl _ _).alloc (Nat.le_refl _) _, rfl, in_lit w [0, 1, 3] _ rfl _⟩
  by_cases k6 : k = 6
  · subst k6
    go_enter Tryz.func55, Tryz.ntmps55
    go_wp2_with fail
    go_ret2
    exact ⟨(Below.refl _ _).alloc (Nat.le_refl _) _, rfl, in_lit w [0, 1, 3, 7] _ rfl _⟩
  by_cases k7 : k = 7
  · subst k7
    go_enter Tryz.func55, Tryz.ntmps55
    go_wp2_with fail
    go_ret2
    exact ⟨(Below.refl _ _).alloc (Nat.le_refl _) _, rfl, in_lit w [0, 1] _ rfl _⟩
  by_cases k17 : k = 17
  · subst k17
    go_enter Tryz.func55, Tryz.ntmps55
    go_wp2_with fail
    go_ret2
    exact ⟨(Below.refl _ _).alloc (Nat.le_refl _) _, rfl, in_lit w [0, 1] _ rfl _⟩
  by_cases k16 : k = 16
  · subst k16
    go_enter Tryz.func55, Tryz.ntmps55
    go_wp2_with fail
    go_ret2
    exact ⟨(Below.refl _ _).alloc (Nat.le_refl _) _, rfl, in_lit w [0, 1, 8, 9] _ rfl _⟩
  by_cases k18 : k = 18
  · subst k18
    go_enter Tryz.func55, Tryz.ntmps55
    go_wp2_with fail
    go_ret2
    exact ⟨(Below.refl _ _).alloc (Nat.le_refl _) _, rfl, in_lit w [0, 1, 11, 10, 3] _ rfl _⟩
  by_cases k19 : k = 19
  · subst k19
    go_enter Tryz.func55, Tryz.ntmps55
    go_wp2_with fail
    go_ret2
    exact ⟨(Below.refl _ _).alloc (Nat.le_refl _) _, rfl, in_lit w [0, 1, 11] _ rfl _⟩
  have hk : fieldsK k = none := by
    unfold fieldsK
    rw [if_neg k1, if_neg k2, if_neg k3, if_neg (by omega), if_neg k6, if_neg (by omega), if_neg k16, if_neg k18, if_neg k19]
  go_enter Tryz.func55, Tryz.ntmps55
  go_wp2_with fail
  go_ret2
  refine ⟨Below.refl _ _, ?_⟩
  rw [hk]
  rfl

end Go.Proofs.YtalmpmhnkilalaaGreatDoor

/-
  Package wire: slices.Contains over ints.
-/
namespace Go.Proofs.YtalmpmhnkilalaaGreatDoor
open Go.RowKit
set_option linter.unusedVariables false

set_option maxHeartbeats 1000000 in
theorem indexP (ad : Option Addr) (N c : Nat) (l : List Nat) (y : Nat) (w : World) (hN : l.length = N) (hN9 : N ≤ 9223372036854775807) (hE : In w ad l) :
    Calls Tryz.prog 149 #[.slice ad N c, .int .i64 (y : Int)] w fun e w' => ∃ r : Int, e = .returned (.int .i64 r) ∧ (0 ≤ r ↔ y ∈ l) ∧ w' = w := by
  have HN := hidden hN
  have HE := hidden hE
  clear hN hE
  go_enter Tryz.func149, Tryz.ntmps149
  go_wp2_with fail
  go_loopw [4, 5, 8] (fun v4 v5 v8 wx => ∃ i : Nat, v8 = .int .i64 (i : Int) ∧ i ≤ N ∧ wx = w ∧ Hid (y ∉ l.take i)) (fun _ _ v8 _ => N - (intOf v8).toNat)
  case atStart => exact ⟨0, rfl, by omega, rfl, hidden (by simp)⟩
  case round =>
    obtain ⟨i, rfl, hi, rfl, hI⟩ := hrel
    by_cases hin : i < N
    · obtain ⟨x, hx⟩ : ∃ x, l[i]? = some x := ⟨l[i]'(by have := HN.out; omega), by simp⟩
      have hxm : (l.map (fun (n : Nat) => [Value.int .i64 (n : Int)]))[i]? = some [.int .i64 (x : Int)] := by rw [List.getElem?_map, hx]; rfl
      obtain ⟨bb, off, rfl, hbb, hcell⟩ := HE.out (by intro h0; rw [h0] at hxm; simp at hxm)
      have c0 := hcell i _ hxm 0 _ rfl
      rw [Nat.add_zero, Nat.mul_one] at c0
      have HX := hidden (And.intro (List.mem_of_getElem? hx) (show l.take (i + 1) = l.take i ++ [x] by rw [List.take_add_one, hx]; rfl))
      clear hcell hxm hx hbb
      by_cases hxy : y = x
      · subst hxy
        go_wp2_with fail
        go_ret
        exact ⟨(i : Int), rfl, ⟨fun _ => HX.out.1, fun _ => by omega⟩, rfl⟩
      · have hne : ¬ (y : Int) = (x : Int) := by omega
        go_wp2_with fail
        refine ⟨⟨i + 1, by first | rfl | simp, by omega, by first | trivial | rfl, hidden ?_⟩, ?_⟩
        · rw [HX.out.2]
          intro h
          rcases List.mem_append.1 h with h | h
          · exact hI.out h
          · simp at h
            exact hxy h
        · show N - ((i : Int) + 1).toNat < N - (i : Int).toNat
          omega
    · have hT := hidden (show y ∉ l by have h9 := hI.out; rwa [List.take_of_length_le (by have := HN.out; omega)] at h9)
      clear hI
      go_wp2_with fail
      go_ret
      exact ⟨-1, rfl, ⟨fun h => by omega, fun h => absurd h hT.out⟩, rfl⟩

theorem containsP (ad : Option Addr) (N c : Nat) (l : List Nat) (y : Nat) (w : World) (hN : l.length = N) (hN9 : N ≤ 9223372036854775807) (hE : In w ad l) :
    Calls Tryz.prog 87 #[.slice ad N c, .int .i64 (y : Int)] w fun e w' => e = .returned (.bool (decide (y ∈ l))) ∧ w' = w := by
  have HI := hidden (indexP ad N c l y w hN hN9 hE)
  clear hN hE
  go_enter Tryz.func87, Tryz.ntmps87
  go_wp2_with fail
  refine HI.out.mono ?_
  rintro e w1 ⟨r, rfl, hr, rfl⟩
  have HR := hidden hr
  clear hr
  go_wp2_with fail
  go_ret
  refine ⟨?_, rfl⟩
  show Ending.returned (.bool (decide (0 ≤ r))) = _
  rw [decide_eq_decide.2 HR.out]

end Go.Proofs.YtalmpmhnkilalaaGreatDoor
