import Derived.Test.YtndegcgcbhcokaaDoorPuS
/-
  Words: of one spot, of rows, of a group.
-/
namespace Go.Proofs.YtndegcgcbhcokaaDoor
open Go.RowKit
set_option linter.unusedVariables false
set_option linter.unusedSimpArgs false

def WC (p : Pt) : Prop := ∀ (F : Nat → Prop) (w : World) (v : Value), PtV F w p v → p.fine → p.cnt ≤ 64 → Calls Tryd.prog 22 #[v] w (WdR w.heap.size none w p.wds)
def RowWC (l : List Pt) : Prop := ∀ (F : Nat → Prop) (w : World) (ad : Option Addr) (c b off : Nat), (l ≠ [] → ad = some ⟨b, off, none⟩ ∧ F b) → RowV F w l b off → rowFine l → rowCnt l ≤ 64 → l.length ≤ 1000 → Calls Tryd.prog 22 #[.iface 83 (.slice ad l.length c)] w (WdR w.heap.size none w (rowW l [noText]))
def RowsWC (l : List (List Pt)) : Prop := ∀ (F : Nat → Prop) (w : World) (ad : Option Addr) (c b off : Nat), (l ≠ [] → ad = some ⟨b, off, none⟩ ∧ F b) → RowsV F w l b off → rowsFine l → rowsCnt l ≤ 64 → l.length ≤ 1000 → Calls Tryd.prog 22 #[.iface 47 (.slice ad l.length c)] w (WdR w.heap.size none w (rowsW l []))

theorem WdR.up {w w1 w' : World} {R : Option Wl} {e : Ending} (h : WdR w1.heap.size none w1 R e w') (hb : Below w.heap.size w w1) : WdR w.heap.size none w R e w' := by
  obtain ⟨a', m', c', ok, rfl, hc, hm, h⟩ := h
  have hc2 : Chg (fun b => (none : Option Nat) = some b) w w' := (Chg.of_below hb).trans hc (fun _ _ e => e)
  refine ⟨a', m', c', ok, rfl, hc2, hm, ?_⟩
  rcases h with ⟨rfl, lr, h1, h2, h3, h4⟩ | h
  · refine .inl ⟨rfl, lr, h1, h2, owns_base h3 (fun g hg => ?_), ?_⟩
    · rcases h4 with e | ⟨g', e, hg'⟩
      · rw [e] at hg; cases hg
      · rw [e] at hg; injection hg with hg; have := hb.size; omega
    · rcases h4 with e | ⟨g', e, hg'⟩
      · exact .inl e
      · exact .inr ⟨g', e, Nat.le_trans hb.size hg'⟩
  · exact .inr h
theorem Wr.mono {F G : Nat → Prop} {w : World} {ad : Option Addr} {l : Wl} (h : Wr F w ad l) (hFG : ∀ b, F b → G b) : Wr G w ad l := fun h0 => by
  obtain ⟨b, off, e, hF, hc⟩ := h h0
  exact ⟨b, off, e, hFG b hF, hc⟩

set_option maxRecDepth 100000 in
set_option maxHeartbeats 8000000 in
theorem words_leaf (p : Pt) (hp : ∀ (F : Nat → Prop) (w : World) (v : Value), PtV F w p v → ∃ t u, v = .iface t u ∧ leafT t) (ha : p.wds = spF p.spans []) : WC p := by
  intro F w v hv hfine hcnt
  obtain ⟨t, u, rfl, ht⟩ := hp F w v hv
  have k25 := spans_of F p (.iface t u) w hv hfine ⟨t, u, rfl, ht⟩
  have k1 := fun w => atL_45 ht u w
  have k2 := fun w => atL_64 ht u w
  have k3 := fun w => atL_74 ht u w
  have k4 := fun w => atL_76 ht u w
  rw [ha]
  have HK : Hid (∀ (w2 : World) (tv : Value), TkV (fun b => F b ∨ FW w w2 b) w2 tv p.spans → Below w.heap.size w w2 → Calls Tryd.prog 37 #[tv] w2 (WdR w.heap.size none w (spF p.spans []))) := hidden (by
    rintro w2 tv ⟨ad, c, rfl, hs, _, hl⟩ hb
    exact (spansWP ad c p.spans w2 hs hl).mono (fun e w' h => h.up hb))
  obtain ⟨R, hR⟩ : ∃ R, spF p.spans [] = R := ⟨_, rfl⟩
  rw [hR] at HK ⊢
  clear hv ht hfine hcnt hR ha hp
  go_enter Tryd.func22, Tryd.ntmps22
  go_wp2_with (first
    | (go_at_call 38; refine k25.mono ?_; rintro e w2 ⟨tv, rfl, h1, h2⟩; have kS := HK.out w2 tv h1 h2; clear k25 h1 h2 HK)
    | (go_at_call 37; refine kS.mono ?_; rintro e w3 ⟨a3, m3, c3, ok3, rfl, h3⟩; have H3 := hidden h3; clear kS h3))
  go_ret2
  exact ⟨a3, m3, c3, ok3, rfl, H3.out⟩
theorem words_chr (c : Nat) : WC (.chr c) := words_leaf _ (fun F w v h => by simp only [PtV] at h; exact ⟨126, _, h.1, .inl rfl⟩) (by rw [Pt.wds]; rfl)
theorem words_any : WC .any := words_leaf _ (fun F w v h => by simp only [PtV] at h; exact ⟨128, _, h, .inr (.inl rfl)⟩) (by rw [Pt.wds]; rfl)
theorem words_cls (neg : Bool) (l : Sn) : WC (.cls neg l) := words_leaf _ (fun F w v h => by simp only [PtV] at h; obtain ⟨ad, c, e, _⟩ := h; exact ⟨131, _, e, .inr (.inr rfl)⟩) (by rw [Pt.wds]; rfl)

set_option maxRecDepth 100000 in
set_option maxHeartbeats 8000000 in
theorem rows21 (l : List (List Pt)) (hl : ∀ r ∈ l, RowWC r) (F : Nat → Prop) (w : World) (ad : Option Addr) (c b off : Nat) (hb : l ≠ [] → ad = some ⟨b, off, none⟩ ∧ F b) (hrv : RowsV F w l b off) (hfine : rowsFine l) (hcnt : rowsCnt l ≤ 64) (hn1 : l.length ≤ 1000) :
    Calls Tryd.prog 34 #[.slice ad l.length c] w (WdR w.heap.size none w (rowsW l [])) := by
  obtain ⟨n, hn⟩ : ∃ n, l.length = n := ⟨_, rfl⟩
  have HN := hidden hn
  have HHL := hidden hl
  have HFI := hidden hfine
  have HCN : Hid (∀ r ∈ l, rowCnt r ≤ 64) := hidden (fun r hr => by
    have key : ∀ l : List (List Pt), r ∈ l → rowCnt r ≤ rowsCnt l := fun l => by
      induction l with
      | nil => intro h; cases h
      | cons x t ih => intro h; rw [rowsCnt]; rcases List.mem_cons.1 h with rfl | h
                       · omega
                       · have := ih h; omega
    have := key l hr
    omega)
  rw [hn] at hn1 ⊢
  obtain ⟨R, hR⟩ : ∃ R, rowsW l [] = R := ⟨_, rfl⟩
  have HR : Hid (rowsW (l.drop 0) [] = R) := hidden (by rw [List.drop_zero]; exact hR)
  rw [hR]
  have HRV := hidden hrv
  have HBF := hidden hb
  clear hb hrv hfine hcnt hl hn hR
  go_enter Tryd.func34, Tryd.ntmps34
  go_wp2
  go_loopw [4, 8, 11] (fun s4 _ s11 wx => ∃ (i m cc : Nat) (aa : Option Addr), s4 = .slice aa m cc ∧ s11 = .int .i64 (i : Int) ∧ i ≤ n ∧ m ≤ 16 ∧ Hid (∃ lo : Wl, wx.ownsRow w.heap.size 9 1 (.slice aa m cc) m (sV lo) ∧ rowsW (l.drop i) lo = R ∧ Cm w wx none (Value.slice aa m cc).ownBlock)) (fun _ _ s11 _ => n - (intOf s11).toNat)
  case atStart => exact ⟨0, 0, 0, none, rfl, rfl, by omega, by omega, hidden ⟨[], World.ownsRow_nil _ _ _ _, HR.out, Cm.refl _ _⟩⟩
  case round =>
    rename World => wr
    obtain ⟨i, m, cc, aa, rfl, rfl, hi, hm, hex⟩ := hrel
    obtain ⟨lo, hown, hrel, hcm⟩ := hex.out
    clear hex HR
    by_cases hlt : i < n
    · have hltz : (i : Int) < (n : Int) := by omega
      obtain ⟨x, hx⟩ : ∃ x, l[i]? = some x := ⟨l[i]'(by rw [HN.out]; exact hlt), by simp⟩
      have hxm : x ∈ l := List.mem_of_getElem? hx
      have hl0 : l ≠ [] := by intro e; rw [e] at hx; simp at hx
      obtain ⟨hade, hFb⟩ := HBF.out hl0
      subst hade
      have hkeep := RowsV.keep hcm.chg (fun b hb e => by cases e) l b off (fun _ => hFb) HRV.out
      obtain ⟨ad2, c2, b2', off2, hcell, hx2, hrow⟩ := hkeep.get hx
      obtain ⟨nx, hnx⟩ : ∃ nx, x.length = nx := ⟨_, rfl⟩
      have k15 := HHL.out x hxm F wr ad2 c2 b2' off2 hx2 hrow (rowsFine_at HFI.out hxm).1 (HCN.out x hxm) (rowsFine_at HFI.out hxm).2
      rw [hnx] at k15 hcell
      rw [drop_at hx, rowsW] at hrel
      have HREL := hidden hrel
      have HOWN := hidden hown
      have HCM := hidden hcm
      clear hrel hown hcm hx hxm hl0 hFb hkeep hx2 hrow hnx
      go_upto_region 6 with (go_at_call 22; refine k15.mono ?_; rintro e w2 ⟨a2, m2, c3, ok2, rfl, hc2, hm2, hres⟩; clear k15)
      have hbl : Below wr.heap.size wr w2 := hc2.below (Nat.le_refl _) (fun i e => by cases e)
      have hcm2 : Cm w w2 none (Value.slice aa m cc).ownBlock := ⟨HCM.out.chg.trans hc2 (fun _ _ e => e), HCM.out.mv⟩
      rcases hres with ⟨rfl, lr, hRr, hlr, hor, hmr⟩ | ⟨rfl, hRr, _⟩
      · have hr2 := HREL.out
        rw [hRr] at hr2
        simp only at hr2
        have hown2 := owl HOWN.out hbl
        have k33 := togetherP w.heap.size lo lr aa a2 m cc m2 c3 w2 _ hown2 hm hcm2.chg.size (wr_owns hor) hlr (by omega) (fun b hb => ⟨fun e => by have := owns_lt HOWN.out b e; have := hb.2.1; omega, hb.2.2⟩)
        have HR2 := hidden hr2
        have HCM2 := hidden hcm2
        clear hr2 hown2 hcm2 hbl hc2 hRr hor hmr hlr HREL HOWN HCM
        go_upto_region 9 with (go_at_call 56; refine k33.mono ?_; rintro e w3 ⟨a4, m4, c4, ok4, rfl, hc4, hm4, hres4⟩; clear k33)
        rcases hres4 with ⟨rfl, lt, hRt, hlt2, hot, hmt⟩ | ⟨rfl, hRt, _⟩
        · have HX : Hid (∃ lo : Wl, w3.ownsRow w.heap.size 9 1 (.slice a4 m4 c4) m4 (sV lo) ∧ rowsW (l.drop (i + 1)) lo = R ∧ Cm w w3 none (Value.slice a4 m4 c4).ownBlock) := hidden ⟨lt, hot, by rw [← HR2.out, hRt], HCM2.out.trans ⟨hc4, hmt⟩⟩
          clear hot hmt hRt hc4 HR2 HCM2
          go_wp2
          refine ⟨⟨i + 1, m4, c4, a4, by first | rfl | simp, by first | rfl | simp, by omega, hm4, HX⟩, ?_⟩
          simp [intOf]
          omega
        · have HRN : Hid (R = none) := hidden (by rw [← HR2.out, hRt])
          have HCC := hidden (HCM2.out.chg.trans hc4 (fun i hi e => by
            rcases HCM2.out.mv with e1 | ⟨g, e1, hg⟩
            · rw [e1] at e; exact e
            · rw [e1] at e; injection e with e; omega))
          clear hRt hc4
          go_wp2
          go_ret2
          exact ⟨none, 0, 0, false, rfl, HCC.out, by omega, Or.inr ⟨rfl, HRN.out, rfl, rfl, rfl⟩⟩
      · have HRN : Hid (R = none) := hidden (by rw [← HREL.out, hRr])
        have HCC := hidden hcm2.chg
        clear hRr hcm2 hbl hc2
        go_wp2
        go_ret2
        exact ⟨none, 0, 0, false, rfl, HCC.out, by omega, Or.inr ⟨rfl, HRN.out, rfl, rfl, rfl⟩⟩
    · have hltz : ¬ (i : Int) < (n : Int) := by omega
      have hend : l.drop i = [] := List.drop_of_length_le (by rw [HN.out]; omega)
      rw [hend, rowsW] at hrel
      have HREL := hidden hrel
      have HOWN := hidden hown
      have HCM := hidden hcm
      clear hrel hown hcm hend
      go_wp2
      go_ret2
      exact ⟨aa, m, cc, true, rfl, HCM.out.chg, hm, Or.inl ⟨rfl, lo, HREL.out.symm, by have := HOWN.out.1; rw [sV_length] at this; omega, HOWN.out, HCM.out.mv⟩⟩

set_option maxRecDepth 100000 in
set_option maxHeartbeats 8000000 in
theorem words_rows (l : List (List Pt)) (hl : ∀ r ∈ l, RowWC r) : RowsWC l := by
  intro F w ad c b off hb hrv hfine hcnt hn1
  have k21 := rows21 l hl F w ad c b off hb hrv hfine hcnt hn1
  obtain ⟨n, hn⟩ : ∃ n, l.length = n := ⟨_, rfl⟩
  rw [hn] at k21 ⊢
  have k1 := fun w => at45 (.slice ad n c) w
  obtain ⟨R, hR⟩ : ∃ R, rowsW l [] = R := ⟨_, rfl⟩
  rw [hR] at k21 ⊢
  clear hb hrv hfine hcnt hn1 hl hn hR
  go_enter Tryd.func22, Tryd.ntmps22
  go_wp2_with (go_at_call 34; refine k21.mono ?_; rintro e w3 ⟨a3, m3, c3, ok3, rfl, h3⟩; have H3 := hidden h3; clear k21 h3)
  go_ret2
  exact ⟨a3, m3, c3, ok3, rfl, H3.out⟩

set_option maxRecDepth 100000 in
set_option maxHeartbeats 8000000 in
theorem words_grp (l : List (List Pt)) (hl : RowsWC l) : WC (.grp l) := by
  intro F w v hv hfine hcnt
  simp only [PtV] at hv
  obtain ⟨ad, c, b, off, rfl, hb, hrv⟩ := hv
  simp only [Pt.cnt] at hcnt
  simp only [Pt.fine] at hfine
  rw [Pt.wds]
  obtain ⟨n, hn⟩ : ∃ n, l.length = n := ⟨_, rfl⟩
  have hal : Below w.heap.size w (w.alloc (.cells #[.slice ad n c] 98)) := (Below.refl _ w).alloc (Nat.le_refl _) _
  have k15 := (hl F (w.alloc (.cells #[.slice ad n c] 98)) ad c b off hb (RowsV.keep (Chg.of_below (F := fun _ => False) hal) (fun _ _ h => h) l b off (fun h0 => (hb h0).2) hrv) hfine.1 hcnt hfine.2).mono (fun e w' h => h.up hal)
  rw [hn] at k15 ⊢
  have k1 := fun w => at74_45 (.agg #[.slice ad n c]) w
  have k2 := fun w => at74_64 (.agg #[.slice ad n c]) w
  have k3 := fun w => at74 (.agg #[.slice ad n c]) w
  obtain ⟨R, hR⟩ : ∃ R, rowsW l [] = R := ⟨_, rfl⟩
  rw [hR] at k15 ⊢
  clear hb hrv hfine hcnt hl hn hR hal
  go_enter Tryd.func22, Tryd.ntmps22
  go_wp2_with (go_at_call 22; refine k15.mono ?_; rintro e w3 ⟨a3, m3, c3, ok3, rfl, h3⟩; have H3 := hidden h3; clear k15 h3)
  go_ret2
  exact ⟨a3, m3, c3, ok3, rfl, H3.out⟩

end Go.Proofs.YtndegcgcbhcokaaDoor

/-
  Words: of a row, of a repetition; Words.
-/
namespace Go.Proofs.YtndegcgcbhcokaaDoor
open Go.RowKit
set_option linter.unusedVariables false
set_option linter.unusedSimpArgs false

/-- A list of one text, new. -/
theorem owns_new (w : World) (x : ByteArray) : (w.alloc (.cells #[.string x] 9)).ownsRow w.heap.size 9 1 (.slice (some ⟨w.heap.size, 0, none⟩) 1 1) 1 (sV [x]) := by
  refine ⟨rfl, .inr ⟨w.heap.size, 1, #[.string x], rfl, Nat.le_refl _, ?_, Nat.le_refl _, by unfold maxLen; omega, rfl, rfl⟩⟩
  exact Blk.new w 9 [.string x]

/-- What is held in a round of a row. -/
def RS (w wx : World) (R : Option Wl) (t : List Pt) (i : Nat) (few : Bool) (aa : Option Addr) (m cc : Nat) : Prop :=
  Below w.heap.size w wx ∧ (few = true → ∃ lo : Wl, wx.ownsRow w.heap.size 9 1 (.slice aa m cc) m (sV lo) ∧ rowW t lo = R ∧ (∀ x ∈ lo, x.size ≤ 256 * i) ∧ m ≤ 16) ∧ (few = false → rowN t = R)

set_option maxRecDepth 100000 in
set_option maxHeartbeats 8000000 in
theorem row22 (l : List Pt) (hl : ∀ p ∈ l, WC p) (F : Nat → Prop) (w : World) (ad : Option Addr) (c b off : Nat) (hb : l ≠ [] → ad = some ⟨b, off, none⟩ ∧ F b) (hrv : RowV F w l b off) (hfine : rowFine l) (hcnt : rowCnt l ≤ 64) (hn1 : l.length ≤ 1000) :
    Calls Tryd.prog 35 #[.slice ad l.length c] w (WdR w.heap.size none w (rowW l [noText])) := by
  obtain ⟨n, hn⟩ : ∃ n, l.length = n := ⟨_, rfl⟩
  have HN := hidden hn
  have HHL := hidden hl
  have HFI := hidden hfine
  have HCN : Hid (∀ r ∈ l, r.cnt ≤ 64) := hidden (fun r hr => by
    have key : ∀ l : List Pt, r ∈ l → r.cnt ≤ rowCnt l := fun l => by
      induction l with
      | nil => intro h; cases h
      | cons x t ih => intro h; rw [rowCnt]; rcases List.mem_cons.1 h with rfl | h
                       · omega
                       · have := ih h; omega
    have := key l hr
    omega)
  rw [hn] at hn1 ⊢
  obtain ⟨R, hR⟩ : ∃ R, rowW l [noText] = R := ⟨_, rfl⟩
  have hal : Below w.heap.size w (w.alloc (.cells #[.string noText] 9)) := (Below.refl _ w).alloc (Nat.le_refl _) _
  have HST : Hid (RS w (w.alloc (.cells #[.string noText] 9)) R (l.drop 0) 0 true (some ⟨w.heap.size, 0, none⟩) 1 1) := hidden ⟨hal, fun _ => ⟨[noText], owns_new w noText, by rw [List.drop_zero]; exact hR, (fun x hx => by rw [List.mem_singleton.1 hx]; exact Nat.le_refl _), by omega⟩, (fun h => by cases h)⟩
  rw [hR]
  have HRV := hidden hrv
  have HBF := hidden hb
  clear hb hrv hfine hcnt hl hn hR hal
  go_enter Tryd.func35, Tryd.ntmps35
  go_wp2
  go_loopw [4, 5, 13] (fun s4 s5 s13 wx => ∃ (i m cc : Nat) (aa : Option Addr) (few : Bool), s4 = .slice aa m cc ∧ s5 = .bool few ∧ s13 = .int .i64 (i : Int) ∧ i ≤ n ∧ Hid (RS w wx R (l.drop i) i few aa m cc)) (fun _ _ s13 _ => n - (intOf s13).toNat)
  case atStart => exact ⟨0, 1, 1, _, true, rfl, rfl, rfl, by omega, HST⟩
  case round =>
    rename World => wr
    obtain ⟨i, m, cc, aa, few, rfl, rfl, rfl, hi, hex⟩ := hrel
    clear HST
    by_cases hlt : i < n
    · have hltz : (i : Int) < (n : Int) := by omega
      obtain ⟨x, hx⟩ : ∃ x, l[i]? = some x := ⟨l[i]'(by rw [HN.out]; exact hlt), by simp⟩
      have hxm : x ∈ l := List.mem_of_getElem? hx
      have hl0 : l ≠ [] := by intro e; rw [e] at hx; simp at hx
      obtain ⟨hade, hFb⟩ := HBF.out hl0
      subst hade
      have hkeep := RowV.keep (Chg.of_below (F := fun _ => False) hex.out.1) (fun _ _ h => h) l b off (fun _ => hFb) HRV.out
      obtain ⟨xv, hcell, hpx⟩ := hkeep.get hx
      obtain ⟨tx, ux, rfl⟩ := hpx.form
      have k15 := HHL.out x hxm F wr _ hpx (rowFine_at HFI.out hxm) (HCN.out x hxm)
      have hsz := Pt.wds_size x
      have hxc := HCN.out x hxm
      have HDR := hidden (drop_at hx)
      clear hx hxm hl0 hFb hkeep hpx
      go_upto_region 6 with (go_at_call 22; refine k15.mono ?_; rintro e w2 ⟨a2, m2, c3, ok2, rfl, hc2, hm2, hres⟩; clear k15)
      have hbl : Below wr.heap.size wr w2 := hc2.below (Nat.le_refl _) (fun i e => by cases e)
      have hbl2 : Below w.heap.size w w2 := hex.out.1.trans (hbl.mono hex.out.1.size)
      have HB2 := hidden hbl2
      have hwn : Chg (fun b => (none : Option Nat) = some b) w w2 := Chg.of_below hbl2
      have HWN := hidden hwn
      rcases hres with ⟨rfl, lr, hRr, hlr, hor, hmr⟩ | ⟨rfl, hRr, _⟩
      · cases lr with
        | nil =>
          have hm0 : m2 = 0 := by rw [← hlr]; rfl
          have hm0z : (m2 : Int) = 0 := by omega
          have hm0y : ((m2 : Int) == 0) = true := by simp [hm0z]
          have HRE : Hid (R = some []) := hidden (by
            obtain ⟨_, h1, h2⟩ := hex.out
            cases few with
            | true => obtain ⟨lo, _, h3, _⟩ := h1 rfl; rw [HDR.out, rowW, hRr] at h3; exact h3.symm
            | false => have h3 := h2 rfl; rw [HDR.out, rowN, hRr] at h3; exact h3.symm)
          clear hRr hlr hor hmr hc2 hbl hbl2 hwn
          go_wp2
          go_ret2
          exact ⟨none, 0, 0, true, rfl, HWN.out, by omega, Or.inl ⟨rfl, [], HRE.out, rfl, World.ownsRow_nil _ _ _ _, .inl rfl⟩⟩
        | cons y lr =>
          have hm0 : m2 ≠ 0 := by rw [← hlr]; simp
          have hm0z : ¬ (m2 : Int) = 0 := by omega
          have hm0y : ((m2 : Int) == 0) = false := by simp; omega
          cases few with
          | true =>
            obtain ⟨lo, ho1, h3, h4, h5⟩ := hex.out.2.1 rfl
            rw [HDR.out, rowW, hRr] at h3
            simp only at h3
            have k34 := chainedP lo (y :: lr) aa a2 m cc m2 c3 w2 (fun _ => True) ((wr_owns (owl ho1 hbl)).mono (fun _ _ => trivial)) (by have := ho1.1; rw [sV_length] at this; omega) ((wr_owns hor).mono (fun _ _ => trivial)) hlr (by omega) (by omega) (fun x hx => by have := h4 x hx; omega) (fun z hz => by have := hsz _ hRr z hz; omega)
            have k34' := k34.mono (fun e w' h => WdR.up h hbl2)
            have hsz2 : ∀ o, chF [] lo (y :: lr) = some o → ∀ x ∈ o, x.size ≤ 256 * (i + 1) := fun o ho x hx => by
              rcases (chF_mem _ _ _ _ ho x).1 hx with hx | ⟨a, ha, z, hz, rfl⟩
              · simp at hx
              · rw [size_app]; have := h4 a ha; have := hsz _ hRr z hz; omega
            have HSZ2 := hidden hsz2
            have H3 := hidden h3
            clear k34 hsz2 h3 h4 ho1 hRr hlr hor hmr hc2 hbl hbl2 hwn hsz
            go_upto_region 11 with (go_at_call 57; refine k34'.mono ?_; rintro e w3 ⟨a4, m4, c4, ok4, rfl, hc4, hm4, hres4⟩; clear k34')
            have hb4 : Below w.heap.size w w3 := hc4.below (Nat.le_refl _) (fun i e => by cases e)
            have HX : Hid (RS w w3 R (l.drop (i + 1)) (i + 1) ok4 a4 m4 c4) := hidden (by
              refine ⟨hb4, fun hk => ?_, fun hk => ?_⟩
              · rcases hres4 with ⟨_, lt, hRt, hlt2, hot, hmt⟩ | ⟨hf, _⟩
                · exact ⟨lt, hot, by have := H3.out; rw [hRt] at this; exact this, HSZ2.out lt hRt, hm4⟩
                · rw [hf] at hk; cases hk
              · rcases hres4 with ⟨hf, _⟩ | ⟨_, hRt, _⟩
                · rw [hf] at hk; cases hk
                · have := H3.out; rw [hRt] at this; exact this)
            clear hres4 hc4 hb4 H3 HSZ2
            go_wp2
            refine ⟨⟨i + 1, m4, c4, a4, ok4, by first | rfl | simp, by first | rfl | simp, by first | rfl | simp, by omega, HX⟩, ?_⟩
            simp [intOf]
            omega
          | false =>
            have HX : Hid (RS w w2 R (l.drop (i + 1)) (i + 1) false aa m cc) := hidden ⟨hbl2, (fun h => by cases h), fun _ => by have h3 := hex.out.2.2 rfl; rw [HDR.out, rowN, hRr] at h3; exact h3⟩
            clear hRr hlr hor hmr hc2 hbl hbl2 hwn hsz
            go_wp2
            refine ⟨⟨i + 1, m, cc, aa, false, by first | rfl | simp, by first | rfl | simp, by first | rfl | simp, by omega, HX⟩, ?_⟩
            simp [intOf]
            omega
      · have HX : Hid (RS w w2 R (l.drop (i + 1)) (i + 1) false aa m cc) := hidden (by
          refine ⟨hbl2, fun h => (by cases h), fun _ => ?_⟩
          obtain ⟨_, h1, h2⟩ := hex.out
          cases few with
          | true => obtain ⟨lo, _, h3, _⟩ := h1 rfl; rw [HDR.out, rowW, hRr] at h3; exact h3
          | false => have h3 := h2 rfl; rw [HDR.out, rowN, hRr] at h3; exact h3)
        clear hRr hc2 hbl hbl2 hwn hsz
        cases few
        all_goals
          go_wp2
          refine ⟨⟨i + 1, m, cc, aa, false, by first | rfl | simp, by first | rfl | simp, by first | rfl | simp, by omega, HX⟩, ?_⟩
          simp [intOf]
          omega
    · have hltz : ¬ (i : Int) < (n : Int) := by omega
      have hend : l.drop i = [] := List.drop_of_length_le (by rw [HN.out]; omega)
      obtain ⟨hbel, h1, h2⟩ := hex.out
      have HWN : Hid (Chg (fun b => (none : Option Nat) = some b) w wr) := hidden (Chg.of_below hbel)
      cases few with
      | true =>
        obtain ⟨lo, ho1, h3, _, hm⟩ := h1 rfl
        rw [hend, rowW] at h3
        have HREL := hidden h3
        have HOWN := hidden ho1
        clear h1 h2 h3 ho1 hend hex hbel
        go_wp2
        go_ret2
        refine ⟨aa, m, cc, true, rfl, HWN.out, hm, Or.inl ⟨rfl, lo, HREL.out.symm, by have := HOWN.out.1; rw [sV_length] at this; omega, HOWN.out, ?_⟩⟩
        cases hob : (Value.slice aa m cc).ownBlock with
        | none => exact .inl rfl
        | some g => exact .inr ⟨g, rfl, (HOWN.out.lt g hob).1⟩
      | false =>
        have h3 := h2 rfl
        rw [hend, rowN] at h3
        have HREL := hidden h3
        clear h1 h2 h3 hend hex hbel
        go_wp2
        go_ret2
        exact ⟨none, 0, 0, false, rfl, HWN.out, by omega, Or.inr ⟨rfl, HREL.out.symm, rfl, rfl, rfl⟩⟩

set_option maxRecDepth 100000 in
set_option maxHeartbeats 8000000 in
theorem words_row (l : List Pt) (hl : ∀ p ∈ l, WC p) : RowWC l := by
  intro F w ad c b off hb hrv hfine hcnt hn1
  have k22 := row22 l hl F w ad c b off hb hrv hfine hcnt hn1
  obtain ⟨n, hn⟩ : ∃ n, l.length = n := ⟨_, rfl⟩
  rw [hn] at k22 ⊢
  have k1 := fun w => at64_45 (.slice ad n c) w
  have k2 := fun w => at64 (.slice ad n c) w
  obtain ⟨R, hR⟩ : ∃ R, rowW l [noText] = R := ⟨_, rfl⟩
  rw [hR] at k22 ⊢
  clear hb hrv hfine hcnt hn1 hl hn hR
  go_enter Tryd.func22, Tryd.ntmps22
  go_wp2_with (go_at_call 35; refine k22.mono ?_; rintro e w3 ⟨a3, m3, c3, ok3, rfl, h3⟩; have H3 := hidden h3; clear k22 h3)
  go_ret2
  exact ⟨a3, m3, c3, ok3, rfl, H3.out⟩

end Go.Proofs.YtndegcgcbhcokaaDoor

/-
  Words: of a repetition; Words.
-/
namespace Go.Proofs.YtndegcgcbhcokaaDoor
open Go.RowKit
set_option linter.unusedVariables false
set_option linter.unusedSimpArgs false

set_option maxRecDepth 100000 in
set_option maxHeartbeats 8000000 in
theorem rep23 (a : Pt) (s : Nat) (ha : WC a) (F : Nat → Prop) (w : World) (u : Value) (hu : PtV F w a u) (hfine : a.fine) (hs : s = 42 ∨ s = 43 ∨ s = 63) (hcnt : a.cnt ≤ 64) :
    Calls Tryd.prog 36 #[.agg #[u, .int .u8 (s : Int)]] w (WdR w.heap.size none w (repW a.wds s)) := by
  obtain ⟨t, u', rfl⟩ := hu.form
  obtain ⟨W, hW⟩ : ∃ W, w.alloc (.cells #[.iface t u', .int .u8 (s : Int)] 100) = W := ⟨_, rfl⟩
  have hal : Below w.heap.size w W := by rw [← hW]; exact (Below.refl _ w).alloc (Nat.le_refl _) _
  have B1 : Blk W w.heap.size 100 [.iface t u', .int .u8 (s : Int)] := by rw [← hW]; exact Blk.new w 100 _
  have k15 := ha F W _ (PtV.keep (Chg.of_below (F := fun _ => False) hal) (fun _ _ h => h) a _ hu) hfine hcnt
  have HAL := hidden hal
  have HB1 := hidden B1
  have HW := hidden hW
  rw [← hW] at k15
  obtain ⟨A, hA⟩ : ∃ A, a.wds = A := ⟨_, rfl⟩
  rw [hA] at k15 ⊢
  obtain ⟨R0, hR0⟩ : ∃ R0, repW A s = R0 := ⟨_, rfl⟩
  have HR0 := hidden hR0
  rw [hR0]
  clear hal B1 hW hu hfine hcnt hA hR0
  go_enter Tryd.func36, Tryd.ntmps36
  go_upto_region 2 with (go_at_call 22; refine k15.mono ?_; rintro e w2 ⟨a2, m2, c2, ok2, rfl, hc2, hm2, hres⟩; rw [HW.out] at hc2 hres; clear k15)
  have hbl : Below W.heap.size W w2 := hc2.below (Nat.le_refl _) (fun i e => by cases e)
  have hbl2 : Below w.heap.size w w2 := HAL.out.trans (hbl.mono HAL.out.size)
  have hB2 := HB1.out.later hbl
  have e1 : w2.cell? ⟨w.heap.size, 1, none⟩ = some (.int .u8 (s : Int)) := hB2.cell 1
  have HWN : Hid (Chg (fun b => (none : Option Nat) = some b) w w2) := hidden (Chg.of_below hbl2)
  have HB2 := hidden hbl2
  have HWl : Hid (w.heap.size ≤ W.heap.size) := hidden HAL.out.size
  rcases hres with ⟨rfl, lr, rfl, hlr, hor, hmr⟩ | ⟨rfl, rfl, _⟩
  · have HOR := hidden (owns_base hor (b' := w.heap.size) (fun g hg => Nat.le_trans HWl.out (hor.lt g hg).1))
    have hmr2 : Moved w none (Value.slice a2 m2 c2).ownBlock := by
      rcases hmr with e | ⟨g, e, hg⟩
      · exact .inl e
      · exact .inr ⟨g, e, Nat.le_trans HWl.out hg⟩
    have HMR := hidden hmr2
    have HLR := hidden hlr
    -- together with the empty text
    have k33 : Hid (Calls Tryd.prog 56 #[.slice a2 m2 c2, .slice (some ⟨w2.heap.size, 0, none⟩) 1 1] (w2.alloc (.cells #[.string noText] 9)) (WdR w.heap.size none w (togF lr [noText]))) := hidden (by
      have hal2 : Below w2.heap.size w2 (w2.alloc (.cells #[.string noText] 9)) := (Below.refl _ w2).alloc (Nat.le_refl _) _
      have k := togetherP w.heap.size lr [noText] a2 (some ⟨w2.heap.size, 0, none⟩) m2 c2 1 1 (w2.alloc (.cells #[.string noText] 9)) (fun b => b = w2.heap.size) (HOR.out.alloc _) hm2 (by have := hal2.size; have := HB2.out.size; omega) (fun _ => ⟨w2.heap.size, 0, rfl, rfl, fun i x hx => by
        have := (Blk.new w2 9 [.string noText]).cell (0 + i)
        rw [this, Nat.zero_add]
        cases i with
        | zero => simp at hx; subst hx; rfl
        | succ i => simp at hx⟩) rfl (by omega) (fun b hb => by
          have hb' : b = w2.heap.size := hb
          subst hb'
          exact ⟨fun e => by have := owns_lt HOR.out _ e; omega, by simp⟩)
      refine k.mono ?_
      rintro e w' ⟨a', m', c', ok, rfl, hc, hm, h⟩
      have hcc : Chg (fun b => (none : Option Nat) = some b) w w' := by
        have d1 : Chg (fun b => (none : Option Nat) = some b) w (w2.alloc (.cells #[.string noText] 9)) := HWN.out.trans (Chg.of_below (F := fun _ => False) hal2) (fun _ _ h => h.elim)
        refine d1.trans hc (fun i hi e => ?_)
        have := (HOR.out.lt i e).1
        omega
      refine ⟨a', m', c', ok, rfl, hcc, hm, ?_⟩
      rcases h with ⟨rfl, lr', h1, h2, h3, h4⟩ | h
      · refine .inl ⟨rfl, lr', h1, h2, h3, ?_⟩
        rcases h4 with e | ⟨g, e, hg⟩
        · rw [e]; exact HMR.out
        · exact .inr ⟨g, e, by have := hal2.size; have := HB2.out.size; omega⟩
      · exact .inr h)
    have HSTAY : Hid (WdR w.heap.size none w (some lr) (.returned (.tuple #[.slice a2 m2 c2, .bool true])) w2) := hidden ⟨a2, m2, c2, true, rfl, HWN.out, hm2, .inl ⟨rfl, lr, rfl, HLR.out, HOR.out, HMR.out⟩⟩
    have HNONE : Hid (WdR w.heap.size none w none (.returned (.tuple #[.slice none 0 0, .bool false])) w2) := hidden ⟨none, 0, 0, false, rfl, HWN.out, by omega, .inr ⟨rfl, rfl, rfl, rfl, rfl⟩⟩
    have hshape : (letters lr = false ∧ m2 = 0) ∨ (∃ x g, letters lr = !x.toList.isEmpty ∧ m2 = 1 ∧ a2 = some ⟨g, 0, none⟩ ∧ w2.cell? ⟨g, 0, none⟩ = some (.string x)) ∨ (letters lr = true ∧ 1 < m2) := by
      cases lr with
      | nil => exact .inl ⟨rfl, by rw [← hlr]; rfl⟩
      | cons x l =>
        cases l with
        | nil =>
          refine .inr (.inl ?_)
          rcases HOR.out.2 with ⟨_, e⟩ | ⟨g, cap, cur, e0, _⟩
          · rw [e] at hlr; simp at hlr
          · injection e0 with e0 _ _
            subst e0
            have := HOR.out.cells (g := g) (by simp [Value.ownBlock]) _ _ (sV_get (l := [x]) (i := 0) (x := x) (by simp))
            rw [Addr.add_lit, Nat.zero_add] at this
            exact ⟨x, g, by simp [letters], by rw [← hlr]; rfl, rfl, this⟩
        | cons y l => exact .inr (.inr ⟨by simp [letters], by rw [← hlr]; simp⟩)
    clear hor hmr hmr2 hlr hc2 hbl hbl2 hB2
    obtain ⟨L, hL⟩ : ∃ L, letters lr = L := ⟨_, rfl⟩
    rw [hL] at hshape
    have HREP : Hid (repW (some lr) s = if L = true ∧ s ≠ 63 then none else if s = 43 then some lr else togF lr [noText]) := hidden (by rw [repW, hL])
    clear hL
    rcases hshape with ⟨rfl, h0⟩ | ⟨x, g, h1, h2, rfl, hx⟩ | ⟨rfl, h2⟩
    · have h0z : ¬ (1 : Int) < (m2 : Int) := by omega
      have h0y : ((m2 : Int) == 1) = false := by simp; omega
      have h0x : ¬ (m2 : Int) = 1 := by omega
      clear h0
      rcases hs with rfl | rfl | rfl
      · have HE : Hid (R0 = togF lr [noText]) := hidden (by rw [← HR0.out, HREP.out]; simp)
        have k := k33.out
        clear k33 HSTAY HNONE HREP
        go_wp2_with (go_at_call 56; refine k.mono ?_; rintro e w3 ⟨a3, m3, c3, ok3, rfl, h3⟩; have H3 := hidden h3; clear k h3)
        go_ret2
        rw [HE.out]
        exact ⟨a3, m3, c3, ok3, rfl, H3.out⟩
      · have HE : Hid (R0 = some lr) := hidden (by rw [← HR0.out, HREP.out]; simp)
        clear k33 HNONE HREP
        go_wp2
        go_ret2
        rw [HE.out]
        exact HSTAY.out
      · have HE : Hid (R0 = togF lr [noText]) := hidden (by rw [← HR0.out, HREP.out]; simp)
        have k := k33.out
        clear k33 HSTAY HNONE HREP
        go_wp2_with (go_at_call 56; refine k.mono ?_; rintro e w3 ⟨a3, m3, c3, ok3, rfl, h3⟩; have H3 := hidden h3; clear k h3)
        go_ret2
        rw [HE.out]
        exact ⟨a3, m3, c3, ok3, rfl, H3.out⟩
    · subst h2
      cases hxe : x.toList.isEmpty with
      | true =>
        rw [hxe] at h1
        rcases hs with rfl | rfl | rfl
        · have HE : Hid (R0 = togF lr [noText]) := hidden (by rw [← HR0.out, HREP.out, h1]; simp)
          have k := k33.out
          clear k33 HSTAY HNONE HREP h1
          go_wp2_with (go_at_call 56; refine k.mono ?_; rintro e w3 ⟨a3, m3, c3, ok3, rfl, h3⟩; have H3 := hidden h3; clear k h3)
          go_ret2
          rw [HE.out]
          exact ⟨a3, m3, c3, ok3, rfl, H3.out⟩
        · have HE : Hid (R0 = some lr) := hidden (by rw [← HR0.out, HREP.out, h1]; simp)
          clear k33 HNONE HREP h1
          go_wp2
          go_ret2
          rw [HE.out]
          exact HSTAY.out
        · have HE : Hid (R0 = togF lr [noText]) := hidden (by rw [← HR0.out, HREP.out]; simp)
          have k := k33.out
          clear k33 HSTAY HNONE HREP h1
          go_wp2_with (go_at_call 56; refine k.mono ?_; rintro e w3 ⟨a3, m3, c3, ok3, rfl, h3⟩; have H3 := hidden h3; clear k h3)
          go_ret2
          rw [HE.out]
          exact ⟨a3, m3, c3, ok3, rfl, H3.out⟩
      | false =>
        rw [hxe] at h1
        rcases hs with rfl | rfl | rfl
        · have HE : Hid (R0 = none) := hidden (by rw [← HR0.out, HREP.out, h1]; simp)
          clear k33 HSTAY HREP h1
          go_wp2
          go_ret2
          rw [HE.out]
          exact HNONE.out
        · have HE : Hid (R0 = none) := hidden (by rw [← HR0.out, HREP.out, h1]; simp)
          clear k33 HSTAY HREP h1
          go_wp2
          go_ret2
          rw [HE.out]
          exact HNONE.out
        · have HE : Hid (R0 = togF lr [noText]) := hidden (by rw [← HR0.out, HREP.out]; simp)
          have k := k33.out
          clear k33 HSTAY HNONE HREP h1
          go_wp2_with (go_at_call 56; refine k.mono ?_; rintro e w3 ⟨a3, m3, c3, ok3, rfl, h3⟩; have H3 := hidden h3; clear k h3)
          go_ret2
          rw [HE.out]
          exact ⟨a3, m3, c3, ok3, rfl, H3.out⟩
    · have h0z : (1 : Int) < (m2 : Int) := by omega
      clear h2
      rcases hs with rfl | rfl | rfl
      · have HE : Hid (R0 = none) := hidden (by rw [← HR0.out, HREP.out]; simp)
        clear k33 HSTAY HREP
        go_wp2
        go_ret2
        rw [HE.out]
        exact HNONE.out
      · have HE : Hid (R0 = none) := hidden (by rw [← HR0.out, HREP.out]; simp)
        clear k33 HSTAY HREP
        go_wp2
        go_ret2
        rw [HE.out]
        exact HNONE.out
      · have HE : Hid (R0 = togF lr [noText]) := hidden (by rw [← HR0.out, HREP.out]; simp)
        have k := k33.out
        clear k33 HSTAY HNONE HREP
        go_wp2_with (go_at_call 56; refine k.mono ?_; rintro e w3 ⟨a3, m3, c3, ok3, rfl, h3⟩; have H3 := hidden h3; clear k h3)
        go_ret2
        rw [HE.out]
        exact ⟨a3, m3, c3, ok3, rfl, H3.out⟩
  · have HNONE : Hid (WdR w.heap.size none w none (.returned (.tuple #[.slice none 0 0, .bool false])) w2) := hidden ⟨none, 0, 0, false, rfl, HWN.out, by omega, .inr ⟨rfl, rfl, rfl, rfl, rfl⟩⟩
    have HE : Hid (R0 = none) := hidden HR0.out.symm
    clear hc2 hbl hbl2 hB2
    go_wp2
    go_ret2
    rw [HE.out]
    exact HNONE.out

set_option maxRecDepth 100000 in
set_option maxHeartbeats 8000000 in
theorem words_rep (a : Pt) (s : Nat) (ha : WC a) : WC (.rep a s) := by
  intro F w v hv hfine hcnt
  simp only [PtV] at hv
  obtain ⟨u, rfl, hu⟩ := hv
  simp only [Pt.cnt] at hcnt
  simp only [Pt.fine] at hfine
  rw [Pt.wds]
  obtain ⟨t, u', rfl⟩ := hu.form
  have hal : Below w.heap.size w (w.alloc (.cells #[.iface t u', .int .u8 (s : Int)] 100)) := (Below.refl _ w).alloc (Nat.le_refl _) _
  have k23 := (rep23 a s ha F (w.alloc (.cells #[.iface t u', .int .u8 (s : Int)] 100)) _ (PtV.keep (Chg.of_below (F := fun _ => False) hal) (fun _ _ h => h) a _ hu) hfine.1 hfine.2 hcnt).mono (fun e w' h => h.up hal)
  have k1 := fun w => at76_45 (.agg #[.iface t u', .int .u8 (s : Int)]) w
  have k2 := fun w => at76_64 (.agg #[.iface t u', .int .u8 (s : Int)]) w
  have k3 := fun w => at76_74 (.agg #[.iface t u', .int .u8 (s : Int)]) w
  have k4 := fun w => at76 (.agg #[.iface t u', .int .u8 (s : Int)]) w
  obtain ⟨R, hR⟩ : ∃ R, repW a.wds s = R := ⟨_, rfl⟩
  rw [hR] at k23 ⊢
  clear hu hfine hcnt ha hR hal
  go_enter Tryd.func22, Tryd.ntmps22
  go_wp2_with (go_at_call 36; refine k23.mono ?_; rintro e w3 ⟨a3, m3, c3, ok3, rfl, h3⟩; have H3 := hidden h3; clear k23 h3)
  go_ret2
  exact ⟨a3, m3, c3, ok3, rfl, H3.out⟩

mutual
/-- WORDSOF TELLS A PART'S WORDS. -/
theorem wordsP : ∀ p : Pt, WC p
  | .chr c => words_chr c
  | .any => words_any
  | .cls neg l => words_cls neg l
  | .grp l => words_grp l (words_rows l (fun r hr => words_row r (wordsRows l r hr)))
  | .rep a s => words_rep a s (wordsP a)
theorem wordsRow : ∀ (r : List Pt) (p : Pt), p ∈ r → WC p
  | [], p, h => by cases h
  | q :: t, p, h => by
    rcases List.mem_cons.1 h with e | h
    · rw [e]; exact wordsP q
    · exact wordsRow t p h
theorem wordsRows : ∀ (l : List (List Pt)) (r : List Pt), r ∈ l → ∀ p ∈ r, WC p
  | [], r, h => by cases h
  | q :: t, r, h => by
    rcases List.mem_cons.1 h with e | h
    · rw [e]; exact wordsRow q
    · exact wordsRows t r h
end

set_option maxRecDepth 100000 in
set_option maxHeartbeats 8000000 in
/-- WORDS. -/
theorem wordsTP (F : Nat → Prop) (w : World) (p : Nat) (l : List (List Pt)) (hP : PaR F w p l) : Calls Tryd.prog 9 #[.pointer (some ⟨p, 0, none⟩)] w (WdR w.heap.size none w (rowsW l [])) := by
  obtain ⟨ad, c, b, off, sa, sc, vs, h⟩ := hP
  have k15 := words_rows l (fun r hr => words_row r (wordsRows l r hr)) F w ad c b off h.at' h.rows h.fine.1 h.cnt h.fine.2.2
  have c0 := h.blk.cell 0
  obtain ⟨n, hn⟩ : ∃ n, l.length = n := ⟨_, rfl⟩
  rw [hn] at k15 c0
  have c0 : w.cell? ⟨p, 0, none⟩ = some (.slice ad n c) := c0
  obtain ⟨R, hR⟩ : ∃ R, rowsW l [] = R := ⟨_, rfl⟩
  rw [hR] at k15 ⊢
  clear h hn hR
  go_enter Tryd.func9, Tryd.ntmps9
  go_wp2_with (go_at_call 22; refine k15.mono ?_; rintro e w3 ⟨a3, m3, c3, ok3, rfl, h3⟩; have H3 := hidden h3; clear k15 h3)
  go_ret2
  exact ⟨a3, m3, c3, ok3, rfl, H3.out⟩

end Go.Proofs.YtndegcgcbhcokaaDoor
