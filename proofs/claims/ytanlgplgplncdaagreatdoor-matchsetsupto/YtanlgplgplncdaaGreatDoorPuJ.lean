/-
  The machine: add, of a row and of rows.
-/
import Derived.Test.YtanlgplgplncdaaGreatDoorPuH
namespace Go.Proofs.YtanlgplgplncdaaGreatDoor
open Go.RowKit
set_option linter.unusedVariables false
set_option linter.unusedSimpArgs false

/-- What is held in a round. -/
structure LI (F : Nat → Prop) (w wx : World) (r : Nat) (E : Es) (o : Option Nat) (e : Es) (M : List Sp) (F' : Nat → Prop) (o' : Option Nat) : Prop where
  m : Mch F' wx r E M o'
  v : Mv F F' w wx r o o'
  b0 : Blk wx w.heap.size 163 (esC ⟨0, 0, false⟩)
  b1 : Blk wx (w.heap.size + 1) 163 (esC e)
  o0 : Own F' wx r o' w.heap.size
  o1 : Own F' wx r o' (w.heap.size + 1)
theorem LI.call {F F' F2 : Nat → Prop} {w wx w2 : World} {r : Nat} {E e : Es} {M M2 : List Sp} {o o' o2 : Option Nat} (h : LI F w wx r E o e M F' o') (h2 : Mch F2 w2 r E M2 o2) (hv : Mv F' F2 wx w2 r o' o2) : LI F w w2 r E o e M2 F2 o2 :=
  ⟨h2, h.v.trans hv, h.o0.blk hv h.b0, h.o1.blk hv h.b1, h.o0.on hv, h.o1.on hv⟩
theorem LI.store {F F' : Nat → Prop} {w wx : World} {r : Nat} {E e : Es} {M : List Sp} {o o' : Option Nat} (h : LI F w wx r E o e M F' o') (e2 : Es) : LI F w (wx.setCells (w.heap.size + 1) 0 (esC e2)) r E o e2 M F' o' := by
  have hc := Chg.sets (w.heap.size + 1) (esC e2) 0 wx
  exact ⟨h.m.store h.o1 _, h.v.store (by omega) _, hc.blk h.b0 (fun e => by have e' : w.heap.size = w.heap.size + 1 := e; omega), blk_stored h.b1 rfl, h.o0.later hc.size, h.o1.later hc.size⟩
theorem LI.below {F F' : Nat → Prop} {w wx w2 : World} {r : Nat} {E e : Es} {M : List Sp} {o o' : Option Nat} (h : LI F w wx r E o e M F' o') (hb : Below wx.heap.size wx w2) : LI F w w2 r E o e M F' o' :=
  h.call (h.m.later hb) (Mv.below hb)
theorem LI.start {F : Nat → Prop} {w : World} {r : Nat} {E : Es} {M : List Sp} {o : Option Nat} (hM : Mch F w r E M o) (e : Bool) : LI F w ((w.alloc (.cells #[.int .u64 0, .int .u64 0, .bool false] 163)).alloc (.cells #[.int .u64 0, .int .u64 0, .bool e] 163)) r E o ⟨0, 0, e⟩ M F o := by
  have h1 := (Below.refl w.heap.size w).alloc (Nat.le_refl _) (.cells #[.int .u64 0, .int .u64 0, .bool false] 163)
  have hal := h1.alloc h1.size (.cells #[.int .u64 0, .int .u64 0, .bool e] 163)
  have B1 : Blk ((w.alloc (.cells #[.int .u64 0, .int .u64 0, .bool false] 163)).alloc (.cells #[.int .u64 0, .int .u64 0, .bool e] 163)) w.heap.size 163 (esC ⟨0, 0, false⟩) := (Blk.new w 163 (esC ⟨0, 0, false⟩)).alloc _
  have B2 := Blk.new (w.alloc (.cells #[.int .u64 0, .int .u64 0, .bool false] 163)) 163 (esC ⟨0, 0, e⟩)
  rw [show (w.alloc (.cells #[.int .u64 0, .int .u64 0, .bool false] 163)).heap.size = w.heap.size + 1 by simp] at B2
  exact ⟨hM.later hal, Mv.below hal, B1, B2, hM.fresh (Nat.le_refl _) B1.lt, hM.fresh (by omega) B2.lt⟩
/-- Its end: what was held is answered. -/
theorem LI.fin {F F' : Nat → Prop} {w wx : World} {r : Nat} {E e : Es} {M : List Sp} {o o' : Option Nat} (h : LI F w wx r E o e M F' o') : Blk (wx.setCells w.heap.size 0 (esC e)) w.heap.size 163 (esC e) ∧ ∃ F' o', Mch F' (wx.setCells w.heap.size 0 (esC e)) r E M o' ∧ Mv F F' w (wx.setCells w.heap.size 0 (esC e)) r o o' :=
  ⟨blk_stored h.b0 rfl, F', o', h.m.store h.o0 _, h.v.store (Nat.le_refl _) _⟩

theorem RowsV.get {F : Nat → Prop} {w : World} : ∀ {l : List (List Pt)} {b off i : Nat} {r : List Pt}, RowsV F w l b off → l[i]? = some r → ∃ ad c b' off', w.cell? ⟨b, off + i, none⟩ = some (.slice ad r.length c) ∧ (r ≠ [] → ad = some ⟨b', off', none⟩ ∧ F b') ∧ RowV F w r b' off'
  | [], b, off, i, r, h, hi => by simp at hi
  | x :: t, b, off, 0, r, h, hi => by
    simp at hi; subst hi
    simp only [RowsV] at h
    exact h.1
  | x :: t, b, off, i + 1, r, h, hi => by
    simp only [List.getElem?_cons_succ] at hi
    simp only [RowsV] at h
    have := RowsV.get h.2 hi
    rw [show off + 1 + i = off + (i + 1) by omega] at this
    exact this
theorem RowV.get {F : Nat → Prop} {w : World} : ∀ {l : List Pt} {b off i : Nat} {p : Pt}, RowV F w l b off → l[i]? = some p → ∃ v, w.cell? ⟨b, off + i, none⟩ = some v ∧ PtV F w p v
  | [], b, off, i, r, h, hi => by simp at hi
  | x :: t, b, off, 0, r, h, hi => by
    simp at hi; subst hi
    simp only [RowV] at h
    exact h.1
  | x :: t, b, off, i + 1, r, h, hi => by
    simp only [List.getElem?_cons_succ] at hi
    simp only [RowV] at h
    have := RowV.get h.2 hi
    rw [show off + 1 + i = off + (i + 1) by omega] at this
    exact this
theorem drop_at {α : Type} {l : List α} {i : Nat} {x : α} (h : l[i]? = some x) : l.drop i = x :: l.drop (i + 1) := by
  have hl := (List.getElem?_eq_some_iff.1 h).1
  rw [List.drop_eq_getElem_cons hl]
  rw [List.getElem?_eq_getElem hl] at h
  injection h with h
  rw [h]
theorem rowsFine_at : ∀ {l : List (List Pt)} {r : List Pt}, rowsFine l → r ∈ l → rowFine r ∧ r.length ≤ 1000
  | [], r, h, hm => by cases hm
  | x :: t, r, h, hm => by
    simp only [rowsFine] at h
    rcases List.mem_cons.1 hm with rfl | hm
    · exact ⟨h.1, h.2.1⟩
    · exact rowsFine_at h.2.2 hm
theorem rowFine_at : ∀ {l : List Pt} {p : Pt}, rowFine l → p ∈ l → p.fine
  | [], r, h, hm => by cases hm
  | x :: t, r, h, hm => by
    simp only [rowFine] at h
    rcases List.mem_cons.1 hm with rfl | hm
    · exact h.1
    · exact rowFine_at h.2 hm

set_option maxRecDepth 100000 in
set_option maxHeartbeats 8000000 in
theorem add_rows (l : List (List Pt)) (hl : ∀ r ∈ l, RowAC r) : RowsAC l := by
  intro F w r E M o ad c b off hb hrv hM hlen hfine hn1
  obtain ⟨n, hn⟩ : ∃ n, l.length = n := ⟨_, rfl⟩
  have HN := hidden hn
  have HHL := hidden hl
  have HFI := hidden hfine
  rw [hn] at hn1
  obtain ⟨⟨E9, M9⟩, hR⟩ : ∃ R, rowsAdd l ⟨0, 0, false⟩ M = R := ⟨_, rfl⟩
  have HR : Hid (rowsAdd (l.drop 0) ⟨0, 0, false⟩ M = (E9, M9)) := hidden (by rw [List.drop_zero]; exact hR)
  have HL0 : Hid (M.length + rowsCnt (l.drop 0) ≤ 64) := hidden (by rw [List.drop_zero]; exact hlen)
  rw [hn, hR]
  have HRV := hidden hrv
  have HBF := hidden hb
  have HNF := hidden hM.nof
  have HST := hidden (LI.start hM false)
  have k1 := fun w => at45 (.slice ad n c) w
  clear hb hrv hM hlen hfine hl hn hR
  unfold AddR
  go_enter Tryz.func98, Tryz.ntmps98
  go_wp2
  go_loopw [8, 21] (fun _ sx wx => ∃ (i fi li : Nat) (bi : Bool), sx = .int .i64 (i : Int) ∧ i ≤ n ∧ Hid (∃ Mi F' o', LI F w wx r E o ⟨fi, li, bi⟩ Mi F' o' ∧ (⟨fi, li, bi⟩ : Es).b64 ∧ rowsAdd (l.drop i) ⟨fi, li, bi⟩ Mi = (E9, M9) ∧ Mi.length + rowsCnt (l.drop i) ≤ 64)) (fun _ sx _ => n - (intOf sx).toNat)
  case atStart => exact ⟨0, 0, 0, false, rfl, by omega, hidden ⟨M, F, o, HST.out, Es.b64.zero _, HR.out, HL0.out⟩⟩
  case round =>
    rename World => wr
    obtain ⟨i, fi, li, bi, rfl, hi, hex⟩ := hrel
    obtain ⟨Mi, F', o', hli, hb64, hadd, hcnt⟩ := hex.out
    clear hex HST HR HL0
    have HLI := hidden hli
    have z0 : wr.cell? ⟨w.heap.size + 1, 0, none⟩ = some (.int .u64 (fi : Int)) := hli.b1.cell 0
    have z1 : wr.cell? ⟨w.heap.size + 1, 1, none⟩ = some (.int .u64 (li : Int)) := hli.b1.cell 1
    have z2 : wr.cell? ⟨w.heap.size + 1, 2, none⟩ = some (.bool bi) := hli.b1.cell 2
    by_cases hlt : i < n
    · have hltz : (i : Int) < (n : Int) := by omega
      obtain ⟨x, hx⟩ : ∃ x, l[i]? = some x := ⟨l[i]'(by rw [HN.out]; exact hlt), by simp⟩
      have hdr := drop_at hx
      have hxm : x ∈ l := List.mem_of_getElem? hx
      rw [hdr] at hadd hcnt
      simp only [rowsAdd] at hadd
      simp only [rowsCnt] at hcnt
      have hl0 : l ≠ [] := by intro e; rw [e] at hx; simp at hx
      obtain ⟨hade, hFb⟩ := HBF.out hl0
      subst hade
      have hkeep := RowsV.keep hli.v.chg (hli.v.part HNF.out.1 HNF.out.2) l b off (fun _ => hFb) HRV.out
      obtain ⟨ad2, c2, b2', off2, hcell, hx2, hrow⟩ := hkeep.get hx
      obtain ⟨nx, hnx⟩ : ∃ nx, x.length = nx := ⟨_, rfl⟩
      have hbd : Below wr.heap.size wr wr.drew := below_drew wr _
      have hlid := hli.below hbd
      have k19 := HHL.out x hxm F' wr.drew r E Mi o' ad2 c2 b2' off2 (fun h0 => ⟨(hx2 h0).1, hli.v.sub _ (hx2 h0).2⟩) (RowV.mono hli.v.sub x b2' off2 (RowV.keep (Chg.drew (fun _ => False) wr) (fun _ _ h => h) x b2' off2 (fun h0 => (hx2 h0).2) hrow)) hlid.m (by omega) (rowsFine_at HFI.out hxm).1 (rowsFine_at HFI.out hxm).2
      rw [hnx] at k19 hcell
      have hln := rowAdd_len x ⟨0, 0, true⟩ Mi
      have hb1 := rowAdd_b64 x ⟨0, 0, true⟩ Mi (by omega) (Es.b64.zero _)
      obtain ⟨⟨E1, M1⟩, hR1⟩ : ∃ R, rowAdd x ⟨0, 0, true⟩ Mi = R := ⟨_, rfl⟩
      rw [hR1] at k19 hadd hln hb1
      simp only at hadd hln hb1
      have HNX : Hid (∀ w2 F2 o2, Mch F2 w2 r E M1 o2 → Mv F' F2 wr.drew w2 r o' o2 → w2.cell? ⟨w.heap.size + 1, 0, none⟩ = some (.int .u64 (fi : Int)) ∧ w2.cell? ⟨w.heap.size + 1, 1, none⟩ = some (.int .u64 (li : Int)) ∧ w2.cell? ⟨w.heap.size + 1, 2, none⟩ = some (.bool bi) ∧ Calls Tryz.prog 106 #[esV ⟨fi, li, bi⟩, esV E1] w2 fun e w3 => e = .returned (esV (Es.either ⟨fi, li, bi⟩ E1)) ∧ LI F w w3 r E o ⟨fi, li, bi⟩ (M1) F2 o2) := hidden (fun w2 F2 o2 h1 h2 => by
        have hl2 := hlid.call h1 h2
        refine ⟨hl2.b1.cell 0, hl2.b1.cell 1, hl2.b1.cell 2, ?_⟩
        refine (eitherP ⟨fi, li, bi⟩ E1 hb64 hb1 w2).mono ?_
        rintro e w3 ⟨rfl, hbel⟩
        exact ⟨rfl, hl2.below hbel⟩)
      have hb9 : (Es.either ⟨fi, li, bi⟩ E1).b64 := hb64.either hb1
      obtain ⟨⟨f2, l2, b2⟩, hE2⟩ : ∃ e, Es.either ⟨fi, li, bi⟩ E1 = e := ⟨_, rfl⟩
      rw [hE2] at HNX hadd hb9
      have HNX : Hid (∀ w2 F2 o2, Mch F2 w2 r E M1 o2 → Mv F' F2 wr.drew w2 r o' o2 → w2.cell? ⟨w.heap.size + 1, 0, none⟩ = some (.int .u64 (fi : Int)) ∧ w2.cell? ⟨w.heap.size + 1, 1, none⟩ = some (.int .u64 (li : Int)) ∧ w2.cell? ⟨w.heap.size + 1, 2, none⟩ = some (.bool bi) ∧ Calls Tryz.prog 106 #[esV ⟨fi, li, bi⟩, esV E1] w2 fun e w3 => e = .returned (.agg #[.int .u64 (f2 : Int), .int .u64 (l2 : Int), .bool b2]) ∧ LI F w w3 r E o ⟨fi, li, bi⟩ (M1) F2 o2) := HNX
      have HADD := hidden hadd
      have HB9 := hidden hb9
      have HCN : Hid ((M1).length + rowsCnt (l.drop (i + 1)) ≤ 64) := hidden (by omega)
      clear hli hb64 hadd hcnt hx hdr hxm hl0 hFb hkeep hbd hlid hln hb1 hR1 hE2 hb9
      unfold AddR at k19
      go_upto_region 8 with fail
      go_region_with (first
        | (go_at_call 98; refine k19.mono ?_; rintro e w2 ⟨rfl, F2, o2, h1, h2⟩; have HH := hidden (HNX.out w2 F2 o2 h1 h2); have u0 := HH.out.1; have u1 := HH.out.2.1; have u2 := HH.out.2.2.1; clear h1 h2)
        | (go_at_call 106; refine HH.out.2.2.2.mono ?_; rintro e w3 ⟨rfl, h3⟩; have H3 := hidden h3; have y0 : w3.cell? ⟨w.heap.size + 1, 0, none⟩ = some (.int .u64 (fi : Int)) := h3.b1.cell 0; have y1 : w3.cell? ⟨w.heap.size + 1, 1, none⟩ = some (.int .u64 (li : Int)) := h3.b1.cell 1; have y2 : w3.cell? ⟨w.heap.size + 1, 2, none⟩ = some (.bool bi) := h3.b1.cell 2; have q0 := h3.b1.frozen 0; have q1 := h3.b1.frozen 1; have q2 := h3.b1.frozen 2; clear h3))
      all_goals
        go_wp2
        refine ⟨⟨i + 1, f2, l2, b2, by first | rfl | simp, by omega, hidden ⟨_, _, _, H3.out.store ⟨f2, l2, b2⟩, HB9.out, HADD.out, HCN.out⟩⟩, ?_⟩
        simp [intOf]
        omega
    · have hltz : ¬ (i : Int) < (n : Int) := by omega
      have hend : l.drop i = [] := List.drop_of_length_le (by rw [HN.out]; omega)
      rw [hend] at hadd
      simp only [rowsAdd, Prod.mk.injEq] at hadd
      obtain ⟨rfl, rfl⟩ := hadd
      have HB0 := hidden hli.b0
      clear hli hend hcnt
      go_wp2_with (refine wpList_store_blk (l := esC ⟨fi, li, bi⟩) rfl 163 (.tmp 4) (.tmp 32) rfl rfl w.heap.size HB0.out rfl rfl rfl info52 (esC_one _) ?_)
      refine bodyPost_ret (res_add _ _ w.heap.size ⟨fi, li, bi⟩ rfl HLI.out.fin.1) rfl ?_
      exact ⟨rfl, HLI.out.fin.2⟩

set_option maxRecDepth 100000 in
set_option maxHeartbeats 8000000 in
theorem add_row (l : List Pt) (hl : ∀ p ∈ l, AddC p) : RowAC l := by
  intro F w r E M o ad c b off hb hrv hM hlen hfine hn1
  obtain ⟨n, hn⟩ : ∃ n, l.length = n := ⟨_, rfl⟩
  have HN := hidden hn
  have HHL := hidden hl
  have HFI := hidden hfine
  rw [hn] at hn1
  obtain ⟨⟨E9, M9⟩, hR⟩ : ∃ R, rowAdd l ⟨0, 0, true⟩ M = R := ⟨_, rfl⟩
  have HR : Hid (rowAdd (l.drop 0) ⟨0, 0, true⟩ M = (E9, M9)) := hidden (by rw [List.drop_zero]; exact hR)
  have HL0 : Hid (M.length + rowCnt (l.drop 0) ≤ 64) := hidden (by rw [List.drop_zero]; exact hlen)
  rw [hn, hR]
  have HRV := hidden hrv
  have HBF := hidden hb
  have HNF := hidden hM.nof
  have HST := hidden (LI.start hM true)
  have k1 := fun w => at64_45 (.slice ad n c) w
  have k2 := fun w => at64 (.slice ad n c) w
  clear hb hrv hM hlen hfine hl hn hR
  unfold AddR
  go_enter Tryz.func98, Tryz.ntmps98
  go_wp2
  go_loopw [12, 39] (fun _ sx wx => ∃ (i fi li : Nat) (bi : Bool), sx = .int .i64 (i : Int) ∧ i ≤ n ∧ Hid (∃ Mi F' o', LI F w wx r E o ⟨fi, li, bi⟩ Mi F' o' ∧ (⟨fi, li, bi⟩ : Es).b64 ∧ rowAdd (l.drop i) ⟨fi, li, bi⟩ Mi = (E9, M9) ∧ Mi.length + rowCnt (l.drop i) ≤ 64)) (fun _ sx _ => n - (intOf sx).toNat)
  case atStart => exact ⟨0, 0, 0, true, rfl, by omega, hidden ⟨M, F, o, HST.out, Es.b64.zero _, HR.out, HL0.out⟩⟩
  case round =>
    rename World => wr
    obtain ⟨i, fi, li, bi, rfl, hi, hex⟩ := hrel
    obtain ⟨Mi, F', o', hli, hb64, hadd, hcnt⟩ := hex.out
    clear hex HST HR HL0
    have HLI := hidden hli
    have z0 : wr.cell? ⟨w.heap.size + 1, 0, none⟩ = some (.int .u64 (fi : Int)) := hli.b1.cell 0
    have z1 : wr.cell? ⟨w.heap.size + 1, 1, none⟩ = some (.int .u64 (li : Int)) := hli.b1.cell 1
    have z2 : wr.cell? ⟨w.heap.size + 1, 2, none⟩ = some (.bool bi) := hli.b1.cell 2
    by_cases hlt : i < n
    · have hltz : (i : Int) < (n : Int) := by omega
      obtain ⟨x, hx⟩ : ∃ x, l[i]? = some x := ⟨l[i]'(by rw [HN.out]; exact hlt), by simp⟩
      have hdr := drop_at hx
      have hxm : x ∈ l := List.mem_of_getElem? hx
      rw [hdr] at hadd hcnt
      simp only [rowAdd] at hadd
      simp only [rowCnt] at hcnt
      have hl0 : l ≠ [] := by intro e; rw [e] at hx; simp at hx
      obtain ⟨hade, hFb⟩ := HBF.out hl0
      subst hade
      have hkeep := RowV.keep hli.v.chg (hli.v.part HNF.out.1 HNF.out.2) l b off (fun _ => hFb) HRV.out
      obtain ⟨xv, hcell, hpx⟩ := hkeep.get hx
      obtain ⟨tx, ux, rfl⟩ := hpx.form
      have hbd : Below wr.heap.size wr wr.drew := below_drew wr _
      have hlid := hli.below hbd
      have k19 := HHL.out x hxm F' wr.drew r E Mi o' (.iface tx ux) (PtV.mono hli.v.sub x _ (PtV.keep (Chg.drew (fun _ => False) wr) (fun _ _ h => h) x _ hpx)) hlid.m (by omega) (rowFine_at HFI.out hxm)
      have hln := Pt.add_len x Mi
      have hb1 := Pt.add_b64 x Mi (by omega)
      obtain ⟨⟨E1, M1⟩, hR1⟩ : ∃ R, x.add Mi = R := ⟨_, rfl⟩
      rw [hR1] at k19 hadd hln hb1
      simp only at hadd hln hb1
      have HNX : Hid (∀ w2 F2 o2, Mch F2 w2 r E M1 o2 → Mv F' F2 wr.drew w2 r o' o2 → w2.cell? ⟨w.heap.size + 1, 0, none⟩ = some (.int .u64 (fi : Int)) ∧ w2.cell? ⟨w.heap.size + 1, 1, none⟩ = some (.int .u64 (li : Int)) ∧ w2.cell? ⟨w.heap.size + 1, 2, none⟩ = some (.bool bi) ∧ Calls Tryz.prog 107 #[.pointer (some ⟨r, 0, none⟩), esV ⟨fi, li, bi⟩, esV E1] w2 fun e w3 => e = .returned (esV (Es.chain ⟨fi, li, bi⟩ E1)) ∧ LI F w w3 r E o ⟨fi, li, bi⟩ (lnkM M1 li E1.first) F2 o2) := hidden (fun w2 F2 o2 h1 h2 => by
        have hl2 := hlid.call h1 h2
        refine ⟨hl2.b1.cell 0, hl2.b1.cell 1, hl2.b1.cell 2, ?_⟩
        refine (chainP F2 w2 r E M1 o2 ⟨fi, li, bi⟩ E1 hb64 hb1 hl2.m (by omega)).mono ?_
        rintro e w3 ⟨rfl, hm3, hv3⟩
        exact ⟨rfl, hl2.call hm3 hv3⟩)
      have hb9 : (Es.chain ⟨fi, li, bi⟩ E1).b64 := hb64.chain hb1
      obtain ⟨⟨f2, l2, b2⟩, hE2⟩ : ∃ e, Es.chain ⟨fi, li, bi⟩ E1 = e := ⟨_, rfl⟩
      rw [hE2] at HNX hadd hb9
      have HNX : Hid (∀ w2 F2 o2, Mch F2 w2 r E M1 o2 → Mv F' F2 wr.drew w2 r o' o2 → w2.cell? ⟨w.heap.size + 1, 0, none⟩ = some (.int .u64 (fi : Int)) ∧ w2.cell? ⟨w.heap.size + 1, 1, none⟩ = some (.int .u64 (li : Int)) ∧ w2.cell? ⟨w.heap.size + 1, 2, none⟩ = some (.bool bi) ∧ Calls Tryz.prog 107 #[.pointer (some ⟨r, 0, none⟩), esV ⟨fi, li, bi⟩, esV E1] w2 fun e w3 => e = .returned (.agg #[.int .u64 (f2 : Int), .int .u64 (l2 : Int), .bool b2]) ∧ LI F w w3 r E o ⟨fi, li, bi⟩ (lnkM M1 li E1.first) F2 o2) := HNX
      have HADD := hidden hadd
      have HB9 := hidden hb9
      have HCN : Hid ((lnkM M1 li E1.first).length + rowCnt (l.drop (i + 1)) ≤ 64) := hidden (by rw [lnk_length]; omega)
      clear hli hb64 hadd hcnt hx hdr hxm hl0 hFb hkeep hbd hlid hln hb1 hR1 hE2 hb9
      unfold AddR at k19
      go_upto_region 17 with fail
      go_region_with (first
        | (go_at_call 98; refine k19.mono ?_; rintro e w2 ⟨rfl, F2, o2, h1, h2⟩; have HH := hidden (HNX.out w2 F2 o2 h1 h2); have u0 := HH.out.1; have u1 := HH.out.2.1; have u2 := HH.out.2.2.1; clear h1 h2)
        | (go_at_call 107; refine HH.out.2.2.2.mono ?_; rintro e w3 ⟨rfl, h3⟩; have H3 := hidden h3; have y0 : w3.cell? ⟨w.heap.size + 1, 0, none⟩ = some (.int .u64 (fi : Int)) := h3.b1.cell 0; have y1 : w3.cell? ⟨w.heap.size + 1, 1, none⟩ = some (.int .u64 (li : Int)) := h3.b1.cell 1; have y2 : w3.cell? ⟨w.heap.size + 1, 2, none⟩ = some (.bool bi) := h3.b1.cell 2; have q0 := h3.b1.frozen 0; have q1 := h3.b1.frozen 1; have q2 := h3.b1.frozen 2; clear h3))
      all_goals
        go_wp2
        refine ⟨⟨i + 1, f2, l2, b2, by first | rfl | simp, by omega, hidden ⟨_, _, _, H3.out.store ⟨f2, l2, b2⟩, HB9.out, HADD.out, HCN.out⟩⟩, ?_⟩
        simp [intOf]
        omega
    · have hltz : ¬ (i : Int) < (n : Int) := by omega
      have hend : l.drop i = [] := List.drop_of_length_le (by rw [HN.out]; omega)
      rw [hend] at hadd
      simp only [rowAdd, Prod.mk.injEq] at hadd
      obtain ⟨rfl, rfl⟩ := hadd
      have HB0 := hidden hli.b0
      clear hli hend hcnt
      go_wp2_with (refine wpList_store_blk (l := esC ⟨fi, li, bi⟩) rfl 163 (.tmp 4) (.tmp 50) rfl rfl w.heap.size HB0.out rfl rfl rfl info52 (esC_one _) ?_)
      refine bodyPost_ret (res_add _ _ w.heap.size ⟨fi, li, bi⟩ rfl HLI.out.fin.1) rfl ?_
      exact ⟨rfl, HLI.out.fin.2⟩

end Go.Proofs.YtanlgplgplncdaaGreatDoor
