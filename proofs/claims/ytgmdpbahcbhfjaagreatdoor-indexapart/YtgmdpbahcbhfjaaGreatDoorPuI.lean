import Derived.Test.YtgmdpbahcbhfjaaGreatDoorPuC
import Derived.Deep.RegionWith
set_option linter.unusedSimpArgs false
set_option linter.unusedVariables false
set_option maxHeartbeats 40000000
set_option maxRecDepth 100000
/-
  The machine: add, of a group and of a repetition.
-/
namespace Go.Proofs.YtgmdpbahcbhfjaaGreatDoor
open Go.RowKit

/-- A block of a caller's, that a machine knows nothing of. -/
structure Own (F : Nat → Prop) (w : World) (r : Nat) (o : Option Nat) (g : Nat) : Prop where
  lt : g < w.heap.size
  nr : g ≠ r
  no : o ≠ some g
  nF : ¬ F g
theorem Own.on {F F' : Nat → Prop} {w w' : World} {r : Nat} {o o' : Option Nat} {g : Nat} (h : Own F w r o g) (hv : Mv F F' w w' r o o') : Own F' w' r o' g := by
  have := hv.apart h.lt h.nr h.no h.nF
  exact ⟨Nat.lt_of_lt_of_le h.lt hv.chg.size, h.nr, this.1, this.2⟩
theorem Own.blk {F F' : Nat → Prop} {w w' : World} {r : Nat} {o o' : Option Nat} {g : Nat} {t : TypeId} {l : List Value} (h : Own F w r o g) (hv : Mv F F' w w' r o o') (hB : Blk w g t l) : Blk w' g t l :=
  hv.chg.blk hB (by
    rintro (e | e)
    · exact h.nr e
    · exact h.no e)
theorem Own.later {F : Nat → Prop} {w w' : World} {r : Nat} {o : Option Nat} {g : Nat} (h : Own F w r o g) (hb : w.heap.size ≤ w'.heap.size) : Own F w' r o g := ⟨Nat.lt_of_lt_of_le h.lt hb, h.nr, h.no, h.nF⟩
theorem Mch.flt {F : Nat → Prop} {w : World} {r : Nat} {E : Es} {M : List Sp} {o : Option Nat} (h : Mch F w r E M o) : ∀ b, F b → b < w.heap.size := by
  obtain ⟨_, _, _, h, _⟩ := h
  exact h.lt
theorem Mch.nof {F : Nat → Prop} {w : World} {r : Nat} {E : Es} {M : List Sp} {o : Option Nat} (h : Mch F w r E M o) : ¬ F r ∧ ∀ b, F b → o ≠ some b := by
  obtain ⟨_, _, _, h, e⟩ := h
  exact ⟨h.nr, fun b hb => by rw [← e]; exact h.no b hb⟩
theorem Mch.fresh {F : Nat → Prop} {w w' : World} {r : Nat} {E : Es} {M : List Sp} {o : Option Nat} (h : Mch F w r E M o) {g : Nat} (hg : w.heap.size ≤ g) (hl : g < w'.heap.size) : Own F w' r o g :=
  ⟨hl, by have := h.rlt; omega, fun e => by have := h.olt g e; omega, fun e => by have := h.flt g e; omega⟩
/-- A store into such a block. -/
theorem Mch.store {F : Nat → Prop} {w : World} {r : Nat} {E : Es} {M : List Sp} {o : Option Nat} {g : Nat} (h : Mch F w r E M o) (hg : Own F w r o g) (l : List Value) : Mch F (w.setCells g 0 l) r E M o :=
  h.keep (Chg.sets g l 0 w) (fun e => hg.nr (by have e' : r = g := e; exact e'.symm)) (fun b hb e => hg.no (by have e' : b = g := e; rw [← e']; exact hb)) (fun b hb e => hg.nF (by have e' : b = g := e; rw [← e']; exact hb))
theorem Mv.store {F F' : Nat → Prop} {w w' : World} {r : Nat} {o o' : Option Nat} {g : Nat} (h : Mv F F' w w' r o o') (hg : w.heap.size ≤ g) (l : List Value) : Mv F F' w (w'.setCells g 0 l) r o o' :=
  ⟨h.chg.trans (Chg.sets g l 0 w') (fun i hi e => by have e' : i = g := e; omega), h.mv, h.sub, h.new⟩
theorem Mv.pre {F F' : Nat → Prop} {w W w' : World} {r : Nat} {o o' : Option Nat} (hb : Below w.heap.size w W) (h : Mv F F' W w' r o o') : Mv F F' w w' r o o' := (Mv.below hb).trans h

set_option maxRecDepth 100000 in
set_option maxHeartbeats 8000000 in
theorem add_grp (l : List (List Pt)) (hl : RowsAC l) : AddC (.grp l) := by
  intro F w r E M o v hv hM hlen hfine
  simp only [PtV] at hv
  obtain ⟨ad, c, b, off, rfl, hb, hrv⟩ := hv
  simp only [Pt.cnt] at hlen
  simp only [Pt.fine] at hfine
  simp only [Pt.add]
  obtain ⟨n, hn⟩ : ∃ n, l.length = n := ⟨_, rfl⟩
  obtain ⟨W, hW⟩ : ∃ W, (w.alloc (.cells #[.int .u64 0, .int .u64 0, .bool false] 223)).alloc (.cells #[.slice ad n c] 274) = W := ⟨_, rfl⟩
  have hal : Below w.heap.size w W := by
    have h1 := (Below.refl w.heap.size w).alloc (Nat.le_refl _) (.cells #[.int .u64 0, .int .u64 0, .bool false] 223)
    rw [← hW]; exact h1.alloc h1.size _
  have B1 : Blk W w.heap.size 223 (esC ⟨0, 0, false⟩) := by rw [← hW]; exact (Blk.new w 223 (esC ⟨0, 0, false⟩)).alloc _
  have k19 := hl F W r E M o ad c b off hb (RowsV.keep (Chg.of_below (F := fun _ => False) hal) (fun _ _ h => h) l b off (fun h0 => (hb h0).2) hrv) (hM.later hal) hlen hfine.1 hfine.2
  have hO := hM.fresh (g := w.heap.size) (Nat.le_refl _) B1.lt
  rw [hn] at k19 ⊢
  have k1 := fun w => at74_45 (.agg #[.slice ad n c]) w
  have k2 := fun w => at74_64 (.agg #[.slice ad n c]) w
  have k3 := fun w => at74 (.agg #[.slice ad n c]) w
  have HB1 := hidden B1
  have HO := hidden hO
  have HAL := hidden hal
  rw [← hW] at k19
  have HW := hidden hW
  obtain ⟨R, hR⟩ : ∃ R, rowsAdd l ⟨0, 0, false⟩ M = R := ⟨_, rfl⟩
  rw [hR] at k19 ⊢
  clear hal B1 hM hW hR hb hrv hl hn hO hlen hfine
  unfold AddR
  go_enter Tryz.func151, Tryz.ntmps151
  go_wp2_with (first
    | (go_at_call 151; refine k19.mono ?_; rintro e w2 ⟨rfl, F', o', h1, h2⟩; rw [HW.out] at h2; have H1 := hidden h1; have H2 := hidden h2; have H3 := hidden (HO.out.blk h2 HB1.out); clear k19 h1 h2)
    | (refine wpList_store_blk (l := esC R.1) rfl 223 (.tmp 4) (.tmp 58) rfl rfl w.heap.size H3.out rfl rfl rfl info52 (esC_one _) ?_))
  refine bodyPost_ret (res_add _ _ w.heap.size R.1 rfl (blk_stored H3.out rfl)) rfl ?_
  exact ⟨rfl, F', o', H1.out.store (HO.out.on H2.out) _, (H2.out.pre HAL.out).store (Nat.le_refl _) _⟩

theorem below_drew (w : World) (B : Nat) : Below B w w.drew := ⟨rfl, rfl, rfl, Nat.le_refl _, fun _ _ => rfl⟩

set_option maxRecDepth 100000 in
set_option maxHeartbeats 8000000 in
theorem add_rep (a : Pt) (s : Nat) (ha : AddC a) : AddC (.rep a s) := by
  intro F w r E M o v hv hM hlen hfine
  simp only [PtV] at hv
  obtain ⟨u, rfl, hu⟩ := hv
  simp only [Pt.cnt] at hlen
  simp only [Pt.fine] at hfine
  simp only [Pt.add]
  obtain ⟨t, u', rfl⟩ := hu.form
  obtain ⟨W, hW⟩ : ∃ W, (w.alloc (.cells #[.int .u64 0, .int .u64 0, .bool false] 223)).alloc (.cells #[.iface t u', .int .u8 (s : Int)] 276) = W := ⟨_, rfl⟩
  have hal : Below w.heap.size w W := by
    have h1 := (Below.refl w.heap.size w).alloc (Nat.le_refl _) (.cells #[.int .u64 0, .int .u64 0, .bool false] 223)
    rw [← hW]; exact h1.alloc h1.size _
  have B1 : Blk W w.heap.size 223 (esC ⟨0, 0, false⟩) := by rw [← hW]; exact (Blk.new w 223 (esC ⟨0, 0, false⟩)).alloc _
  have B2 : Blk W (w.heap.size + 1) 276 [.iface t u', .int .u8 (s : Int)] := by
    have := Blk.new (w.alloc (.cells #[.int .u64 0, .int .u64 0, .bool false] 223)) 276 [.iface t u', .int .u8 (s : Int)]
    rw [show (w.alloc (.cells #[.int .u64 0, .int .u64 0, .bool false] 223)).heap.size = w.heap.size + 1 by simp] at this
    rw [← hW]
    exact this
  have hal2 : Below w.heap.size w W.drew := hal.trans (below_drew W _)
  have k19 := ha F W.drew r E M o (.iface t u') (PtV.keep (Chg.of_below (F := fun _ => False) hal2) (fun _ _ h => h) a _ hu) (hM.later hal2) hlen hfine.1
  have hO := hM.fresh (g := w.heap.size) (Nat.le_refl _) B1.lt
  have hO2 := hM.fresh (g := w.heap.size + 1) (by omega) B2.lt
  have k1 := fun w => at76_45 (.agg #[.iface t u', .int .u8 (s : Int)]) w
  have k2 := fun w => at76_64 (.agg #[.iface t u', .int .u8 (s : Int)]) w
  have k3 := fun w => at76_74 (.agg #[.iface t u', .int .u8 (s : Int)]) w
  have k4 := fun w => at76 (.agg #[.iface t u', .int .u8 (s : Int)]) w
  have hb64 := Pt.add_b64 a M hlen
  have hln := Pt.add_len a M
  obtain ⟨⟨E1, M1⟩, hR⟩ : ∃ R, a.add M = R := ⟨_, rfl⟩
  rw [hR] at k19 hb64 hln ⊢
  simp only at hb64 hln
  have HNX : Hid (∀ w2, AddR F W.drew r E o (E1, M1) (.returned (esV E1)) w2 → (w2.cell? ⟨w.heap.size + 1, 1, none⟩ = some (.int .u8 (s : Int))) ∧ Calls Tryz.prog 168 #[.pointer (some ⟨r, 0, none⟩), esV E1, .int .u8 (s : Int)] w2 fun e w3 => e = .returned (esV (repM E1 M1 s).1) ∧ Blk w3 w.heap.size 223 (esC ⟨0, 0, false⟩) ∧ ∃ F' o', Mch F' (w3.setCells w.heap.size 0 (esC (repM E1 M1 s).1)) r E (repM E1 M1 s).2 o' ∧ Mv F F' w (w3.setCells w.heap.size 0 (esC (repM E1 M1 s).1)) r o o') := hidden (by
    rintro w2 ⟨_, F', o', h1, h2⟩
    have hOd : Own F W.drew r o w.heap.size := hO.later (Nat.le_refl _)
    have hO2d : Own F W.drew r o (w.heap.size + 1) := hO2.later (Nat.le_refl _)
    have hx := hO2d.blk h2 B2.drew
    refine ⟨hx.cell 1, ?_⟩
    refine (repeatedP F' w2 r E M1 o' E1 s hb64 h1 (by omega)).mono ?_
    rintro e w3 ⟨rfl, h3, h4⟩
    have hv := h2.trans h4
    exact ⟨rfl, hOd.blk hv B1.drew, F', o', h3.store (hOd.on hv) _, (hv.pre hal2).store (Nat.le_refl _) _⟩)
  rw [← hW] at k19
  have HW := hidden hW
  obtain ⟨⟨E2, M2⟩, hR2⟩ : ∃ R, repM E1 M1 s = R := ⟨_, rfl⟩
  rw [hR2] at HNX ⊢
  obtain ⟨f2, l2, e2⟩ := E2
  have HNX : Hid (∀ w2, AddR F W.drew r E o (E1, M1) (.returned (esV E1)) w2 → (w2.cell? ⟨w.heap.size + 1, 1, none⟩ = some (.int .u8 (s : Int))) ∧ Calls Tryz.prog 168 #[.pointer (some ⟨r, 0, none⟩), esV E1, .int .u8 (s : Int)] w2 fun e w3 => e = .returned (.agg #[.int .u64 (f2 : Int), .int .u64 (l2 : Int), .bool e2]) ∧ Blk w3 w.heap.size 223 (esC ⟨0, 0, false⟩) ∧ ∃ F' o', Mch F' (w3.setCells w.heap.size 0 (esC ⟨f2, l2, e2⟩)) r E M2 o' ∧ Mv F F' w (w3.setCells w.heap.size 0 (esC ⟨f2, l2, e2⟩)) r o o') := HNX
  clear hal hal2 B1 B2 hM hW hR hR2 hu hO hO2 hlen hfine hb64 hln
  unfold AddR
  go_enter Tryz.func151, Tryz.ntmps151
  go_upto_region 25 with fail
  go_region_with (first
    | (go_at_call 151; refine k19.mono ?_; intro e w2 hh; obtain ⟨rfl, F', o', h1, h2⟩ := hh; rw [HW.out] at h2; have HH := hidden (HNX.out w2 ⟨rfl, F', o', h1, h2⟩); have z1 := HH.out.1; clear h1 h2)
    | (go_at_call 168; refine HH.out.2.mono ?_; rintro e w3 ⟨rfl, h3, h4⟩; have H3 := hidden h3; have H4 := hidden h4; have y0 : w3.cell? ⟨w.heap.size, 0, none⟩ = some (.int .u64 0) := h3.cell 0; have y1 : w3.cell? ⟨w.heap.size, 1, none⟩ = some (.int .u64 0) := h3.cell 1; have y2 : w3.cell? ⟨w.heap.size, 2, none⟩ = some (.bool false) := h3.cell 2; have q0 := h3.frozen 0; have q1 := h3.frozen 1; have q2 := h3.frozen 2; clear h3 h4))
  all_goals
    go_wp2
    refine bodyPost_ret (res_add _ _ w.heap.size ⟨f2, l2, e2⟩ rfl (blk_stored (l := esC ⟨f2, l2, e2⟩) H3.out rfl)) rfl ?_
    exact ⟨rfl, H4.out⟩

end Go.Proofs.YtgmdpbahcbhfjaaGreatDoor
/-
  The machine: add, of a row and of rows.
-/
namespace Go.Proofs.YtgmdpbahcbhfjaaGreatDoor
open Go.RowKit

/-- What is held in a round. -/
structure LI (F : Nat → Prop) (w wx : World) (r : Nat) (E : Es) (o : Option Nat) (e : Es) (M : List Sp) (F' : Nat → Prop) (o' : Option Nat) : Prop where
  m : Mch F' wx r E M o'
  v : Mv F F' w wx r o o'
  b0 : Blk wx w.heap.size 223 (esC ⟨0, 0, false⟩)
  b1 : Blk wx (w.heap.size + 1) 223 (esC e)
  o0 : Own F' wx r o' w.heap.size
  o1 : Own F' wx r o' (w.heap.size + 1)
theorem LI.call {F F' F2 : Nat → Prop} {w wx w2 : World} {r : Nat} {E e : Es} {M M2 : List Sp} {o o' o2 : Option Nat} (h : LI F w wx r E o e M F' o') (h2 : Mch F2 w2 r E M2 o2) (hv : Mv F' F2 wx w2 r o' o2) : LI F w w2 r E o e M2 F2 o2 :=
  ⟨h2, h.v.trans hv, h.o0.blk hv h.b0, h.o1.blk hv h.b1, h.o0.on hv, h.o1.on hv⟩
theorem LI.store {F F' : Nat → Prop} {w wx : World} {r : Nat} {E e : Es} {M : List Sp} {o o' : Option Nat} (h : LI F w wx r E o e M F' o') (e2 : Es) : LI F w (wx.setCells (w.heap.size + 1) 0 (esC e2)) r E o e2 M F' o' := by
  have hc := Chg.sets (w.heap.size + 1) (esC e2) 0 wx
  exact ⟨h.m.store h.o1 _, h.v.store (by omega) _, hc.blk h.b0 (fun e => by have e' : w.heap.size = w.heap.size + 1 := e; omega), blk_stored h.b1 rfl, h.o0.later hc.size, h.o1.later hc.size⟩
theorem LI.below {F F' : Nat → Prop} {w wx w2 : World} {r : Nat} {E e : Es} {M : List Sp} {o o' : Option Nat} (h : LI F w wx r E o e M F' o') (hb : Below wx.heap.size wx w2) : LI F w w2 r E o e M F' o' :=
  h.call (h.m.later hb) (Mv.below hb)
theorem LI.start {F : Nat → Prop} {w : World} {r : Nat} {E : Es} {M : List Sp} {o : Option Nat} (hM : Mch F w r E M o) (e : Bool) : LI F w ((w.alloc (.cells #[.int .u64 0, .int .u64 0, .bool false] 223)).alloc (.cells #[.int .u64 0, .int .u64 0, .bool e] 223)) r E o ⟨0, 0, e⟩ M F o := by
  have h1 := (Below.refl w.heap.size w).alloc (Nat.le_refl _) (.cells #[.int .u64 0, .int .u64 0, .bool false] 223)
  have hal := h1.alloc h1.size (.cells #[.int .u64 0, .int .u64 0, .bool e] 223)
  have B1 : Blk ((w.alloc (.cells #[.int .u64 0, .int .u64 0, .bool false] 223)).alloc (.cells #[.int .u64 0, .int .u64 0, .bool e] 223)) w.heap.size 223 (esC ⟨0, 0, false⟩) := (Blk.new w 223 (esC ⟨0, 0, false⟩)).alloc _
  have B2 := Blk.new (w.alloc (.cells #[.int .u64 0, .int .u64 0, .bool false] 223)) 223 (esC ⟨0, 0, e⟩)
  rw [show (w.alloc (.cells #[.int .u64 0, .int .u64 0, .bool false] 223)).heap.size = w.heap.size + 1 by simp] at B2
  exact ⟨hM.later hal, Mv.below hal, B1, B2, hM.fresh (Nat.le_refl _) B1.lt, hM.fresh (by omega) B2.lt⟩
/-- Its end: what was held is answered. -/
theorem LI.fin {F F' : Nat → Prop} {w wx : World} {r : Nat} {E e : Es} {M : List Sp} {o o' : Option Nat} (h : LI F w wx r E o e M F' o') : Blk (wx.setCells w.heap.size 0 (esC e)) w.heap.size 223 (esC e) ∧ ∃ F' o', Mch F' (wx.setCells w.heap.size 0 (esC e)) r E M o' ∧ Mv F F' w (wx.setCells w.heap.size 0 (esC e)) r o o' :=
  ⟨blk_stored h.b0 rfl, F', o', h.m.store h.o0 _, h.v.store (Nat.le_refl _) _⟩

theorem RowsV.get {F : Nat → Prop} {w : World} : ∀ {l : List (List Pt)} {b off i : Nat} {r : List Pt}, RowsV F w l b off → l[i]? = some r → ∃ ad c b' off', w.cell? ⟨b, off + i, none⟩ = some (.slice ad r.length c) ∧ (r ≠ [] → ad = some ⟨b', off', none⟩ ∧ F b') ∧ RowV F w r b' off'
  | [], b, off, i, r, h, hi => by simp at hi
  | x :: t, b, off, 0, r, h, hi => by
    simp at hi; subst hi
    simp only [RowsV] at h
    exact h.1
  | x :: t, b, off, i + 1, r, h, hi => by
    simp only [List.getElem?_cons_succ] at hi
    simp only [RowsV] at h
    have := RowsV.get h.2 hi
    rw [show off + 1 + i = off + (i + 1) by omega] at this
    exact this
theorem RowV.get {F : Nat → Prop} {w : World} : ∀ {l : List Pt} {b off i : Nat} {p : Pt}, RowV F w l b off → l[i]? = some p → ∃ v, w.cell? ⟨b, off + i, none⟩ = some v ∧ PtV F w p v
  | [], b, off, i, r, h, hi => by simp at hi
  | x :: t, b, off, 0, r, h, hi => by
    simp at hi; subst hi
    simp only [RowV] at h
    exact h.1
  | x :: t, b, off, i + 1, r, h, hi => by
    simp only [List.getElem?_cons_succ] at hi
    simp only [RowV] at h
    have := RowV.get h.2 hi
    rw [show off + 1 + i = off + (i + 1) by omega] at this
    exact this
theorem drop_at {α : Type} {l : List α} {i : Nat} {x : α} (h : l[i]? = some x) : l.drop i = x :: l.drop (i + 1) := by
  have hl := (List.getElem?_eq_some_iff.1 h).1
  rw [List.drop_eq_getElem_cons hl]
  rw [List.getElem?_eq_getElem hl] at h
  injection h with h
  rw [h]
theorem rowsFine_at : ∀ {l : List (List Pt)} {r : List Pt}, rowsFine l → r ∈ l → rowFine r ∧ r.length ≤ 1000
  | [], r, h, hm => by cases hm
  | x :: t, r, h, hm => by
    simp only [rowsFine] at h
    rcases List.mem_cons.1 hm with rfl | hm
    · exact ⟨h.1, h.2.1⟩
    · exact rowsFine_at h.2.2 hm
theorem rowFine_at : ∀ {l : List Pt} {p : Pt}, rowFine l → p ∈ l → p.fine
  | [], r, h, hm => by cases hm
  | x :: t, r, h, hm => by
    simp only [rowFine] at h
    rcases List.mem_cons.1 hm with rfl | hm
    · exact h.1
    · exact rowFine_at h.2 hm

set_option maxRecDepth 100000 in
set_option maxHeartbeats 8000000 in
theorem add_rows (l : List (List Pt)) (hl : ∀ r ∈ l, RowAC r) : RowsAC l := by
  intro F w r E M o ad c b off hb hrv hM hlen hfine hn1
  obtain ⟨n, hn⟩ : ∃ n, l.length = n := ⟨_, rfl⟩
  have HN := hidden hn
  have HHL := hidden hl
  have HFI := hidden hfine
  rw [hn] at hn1
  obtain ⟨⟨E9, M9⟩, hR⟩ : ∃ R, rowsAdd l ⟨0, 0, false⟩ M = R := ⟨_, rfl⟩
  have HR : Hid (rowsAdd (l.drop 0) ⟨0, 0, false⟩ M = (E9, M9)) := hidden (by rw [List.drop_zero]; exact hR)
  have HL0 : Hid (M.length + rowsCnt (l.drop 0) ≤ 64) := hidden (by rw [List.drop_zero]; exact hlen)
  rw [hn, hR]
  have HRV := hidden hrv
  have HBF := hidden hb
  have HNF := hidden hM.nof
  have HST := hidden (LI.start hM false)
  have k1 := fun w => at45 (.slice ad n c) w
  clear hb hrv hM hlen hfine hl hn hR
  unfold AddR
  go_enter Tryz.func151, Tryz.ntmps151
  go_wp2
  go_loopw [8, 21] (fun _ sx wx => ∃ (i fi li : Nat) (bi : Bool), sx = .int .i64 (i : Int) ∧ i ≤ n ∧ Hid (∃ Mi F' o', LI F w wx r E o ⟨fi, li, bi⟩ Mi F' o' ∧ (⟨fi, li, bi⟩ : Es).b64 ∧ rowsAdd (l.drop i) ⟨fi, li, bi⟩ Mi = (E9, M9) ∧ Mi.length + rowsCnt (l.drop i) ≤ 64)) (fun _ sx _ => n - (intOf sx).toNat)
  case atStart => exact ⟨0, 0, 0, false, rfl, by omega, hidden ⟨M, F, o, HST.out, Es.b64.zero _, HR.out, HL0.out⟩⟩
  case round =>
    rename World => wr
    obtain ⟨i, fi, li, bi, rfl, hi, hex⟩ := hrel
    obtain ⟨Mi, F', o', hli, hb64, hadd, hcnt⟩ := hex.out
    clear hex HST HR HL0
    have HLI := hidden hli
    have z0 : wr.cell? ⟨w.heap.size + 1, 0, none⟩ = some (.int .u64 (fi : Int)) := hli.b1.cell 0
    have z1 : wr.cell? ⟨w.heap.size + 1, 1, none⟩ = some (.int .u64 (li : Int)) := hli.b1.cell 1
    have z2 : wr.cell? ⟨w.heap.size + 1, 2, none⟩ = some (.bool bi) := hli.b1.cell 2
    by_cases hlt : i < n
    · have hltz : (i : Int) < (n : Int) := by omega
      obtain ⟨x, hx⟩ : ∃ x, l[i]? = some x := ⟨l[i]'(by rw [HN.out]; exact hlt), by simp⟩
      have hdr := drop_at hx
      have hxm : x ∈ l := List.mem_of_getElem? hx
      rw [hdr] at hadd hcnt
      simp only [rowsAdd] at hadd
      simp only [rowsCnt] at hcnt
      have hl0 : l ≠ [] := by intro e; rw [e] at hx; simp at hx
      obtain ⟨hade, hFb⟩ := HBF.out hl0
      subst hade
      have hkeep := RowsV.keep hli.v.chg (hli.v.part HNF.out.1 HNF.out.2) l b off (fun _ => hFb) HRV.out
      obtain ⟨ad2, c2, b2', off2, hcell, hx2, hrow⟩ := hkeep.get hx
      obtain ⟨nx, hnx⟩ : ∃ nx, x.length = nx := ⟨_, rfl⟩
      have hbd : Below wr.heap.size wr wr.drew := below_drew wr _
      have hlid := hli.below hbd
      have k19 := HHL.out x hxm F' wr.drew r E Mi o' ad2 c2 b2' off2 (fun h0 => ⟨(hx2 h0).1, hli.v.sub _ (hx2 h0).2⟩) (RowV.mono hli.v.sub x b2' off2 (RowV.keep (Chg.drew (fun _ => False) wr) (fun _ _ h => h) x b2' off2 (fun h0 => (hx2 h0).2) hrow)) hlid.m (by omega) (rowsFine_at HFI.out hxm).1 (rowsFine_at HFI.out hxm).2
      rw [hnx] at k19 hcell
      have hln := rowAdd_len x ⟨0, 0, true⟩ Mi
      have hb1 := rowAdd_b64 x ⟨0, 0, true⟩ Mi (by omega) (Es.b64.zero _)
      obtain ⟨⟨E1, M1⟩, hR1⟩ : ∃ R, rowAdd x ⟨0, 0, true⟩ Mi = R := ⟨_, rfl⟩
      rw [hR1] at k19 hadd hln hb1
      simp only at hadd hln hb1
      have HNX : Hid (∀ w2 F2 o2, Mch F2 w2 r E M1 o2 → Mv F' F2 wr.drew w2 r o' o2 → w2.cell? ⟨w.heap.size + 1, 0, none⟩ = some (.int .u64 (fi : Int)) ∧ w2.cell? ⟨w.heap.size + 1, 1, none⟩ = some (.int .u64 (li : Int)) ∧ w2.cell? ⟨w.heap.size + 1, 2, none⟩ = some (.bool bi) ∧ Calls Tryz.prog 166 #[esV ⟨fi, li, bi⟩, esV E1] w2 fun e w3 => e = .returned (esV (Es.either ⟨fi, li, bi⟩ E1)) ∧ LI F w w3 r E o ⟨fi, li, bi⟩ (M1) F2 o2) := hidden (fun w2 F2 o2 h1 h2 => by
        have hl2 := hlid.call h1 h2
        refine ⟨hl2.b1.cell 0, hl2.b1.cell 1, hl2.b1.cell 2, ?_⟩
        refine (eitherP ⟨fi, li, bi⟩ E1 hb64 hb1 w2).mono ?_
        rintro e w3 ⟨rfl, hbel⟩
        exact ⟨rfl, hl2.below hbel⟩)
      have hb9 : (Es.either ⟨fi, li, bi⟩ E1).b64 := hb64.either hb1
      obtain ⟨⟨f2, l2, b2⟩, hE2⟩ : ∃ e, Es.either ⟨fi, li, bi⟩ E1 = e := ⟨_, rfl⟩
      rw [hE2] at HNX hadd hb9
      have HNX : Hid (∀ w2 F2 o2, Mch F2 w2 r E M1 o2 → Mv F' F2 wr.drew w2 r o' o2 → w2.cell? ⟨w.heap.size + 1, 0, none⟩ = some (.int .u64 (fi : Int)) ∧ w2.cell? ⟨w.heap.size + 1, 1, none⟩ = some (.int .u64 (li : Int)) ∧ w2.cell? ⟨w.heap.size + 1, 2, none⟩ = some (.bool bi) ∧ Calls Tryz.prog 166 #[esV ⟨fi, li, bi⟩, esV E1] w2 fun e w3 => e = .returned (.agg #[.int .u64 (f2 : Int), .int .u64 (l2 : Int), .bool b2]) ∧ LI F w w3 r E o ⟨fi, li, bi⟩ (M1) F2 o2) := HNX
      have HADD := hidden hadd
      have HB9 := hidden hb9
      have HCN : Hid ((M1).length + rowsCnt (l.drop (i + 1)) ≤ 64) := hidden (by omega)
      clear hli hb64 hadd hcnt hx hdr hxm hl0 hFb hkeep hbd hlid hln hb1 hR1 hE2 hb9
      unfold AddR at k19
      go_upto_region 8 with fail
      go_region_with (first
        | (go_at_call 151; refine k19.mono ?_; rintro e w2 ⟨rfl, F2, o2, h1, h2⟩; have HH := hidden (HNX.out w2 F2 o2 h1 h2); have u0 := HH.out.1; have u1 := HH.out.2.1; have u2 := HH.out.2.2.1; clear h1 h2)
        | (go_at_call 166; refine HH.out.2.2.2.mono ?_; rintro e w3 ⟨rfl, h3⟩; have H3 := hidden h3; have y0 : w3.cell? ⟨w.heap.size + 1, 0, none⟩ = some (.int .u64 (fi : Int)) := h3.b1.cell 0; have y1 : w3.cell? ⟨w.heap.size + 1, 1, none⟩ = some (.int .u64 (li : Int)) := h3.b1.cell 1; have y2 : w3.cell? ⟨w.heap.size + 1, 2, none⟩ = some (.bool bi) := h3.b1.cell 2; have q0 := h3.b1.frozen 0; have q1 := h3.b1.frozen 1; have q2 := h3.b1.frozen 2; clear h3))
      all_goals
        go_wp2
        refine ⟨⟨i + 1, f2, l2, b2, by first | rfl | simp, by omega, hidden ⟨_, _, _, H3.out.store ⟨f2, l2, b2⟩, HB9.out, HADD.out, HCN.out⟩⟩, ?_⟩
        simp [intOf]
        omega
    · have hltz : ¬ (i : Int) < (n : Int) := by omega
      have hend : l.drop i = [] := List.drop_of_length_le (by rw [HN.out]; omega)
      rw [hend] at hadd
      simp only [rowsAdd, Prod.mk.injEq] at hadd
      obtain ⟨rfl, rfl⟩ := hadd
      have HB0 := hidden hli.b0
      clear hli hend hcnt
      go_wp2_with (refine wpList_store_blk (l := esC ⟨fi, li, bi⟩) rfl 223 (.tmp 4) (.tmp 32) rfl rfl w.heap.size HB0.out rfl rfl rfl info52 (esC_one _) ?_)
      refine bodyPost_ret (res_add _ _ w.heap.size ⟨fi, li, bi⟩ rfl HLI.out.fin.1) rfl ?_
      exact ⟨rfl, HLI.out.fin.2⟩

set_option maxRecDepth 100000 in
set_option maxHeartbeats 8000000 in
theorem add_row (l : List Pt) (hl : ∀ p ∈ l, AddC p) : RowAC l := by
  intro F w r E M o ad c b off hb hrv hM hlen hfine hn1
  obtain ⟨n, hn⟩ : ∃ n, l.length = n := ⟨_, rfl⟩
  have HN := hidden hn
  have HHL := hidden hl
  have HFI := hidden hfine
  rw [hn] at hn1
  obtain ⟨⟨E9, M9⟩, hR⟩ : ∃ R, rowAdd l ⟨0, 0, true⟩ M = R := ⟨_, rfl⟩
  have HR : Hid (rowAdd (l.drop 0) ⟨0, 0, true⟩ M = (E9, M9)) := hidden (by rw [List.drop_zero]; exact hR)
  have HL0 : Hid (M.length + rowCnt (l.drop 0) ≤ 64) := hidden (by rw [List.drop_zero]; exact hlen)
  rw [hn, hR]
  have HRV := hidden hrv
  have HBF := hidden hb
  have HNF := hidden hM.nof
  have HST := hidden (LI.start hM true)
  have k1 := fun w => at64_45 (.slice ad n c) w
  have k2 := fun w => at64 (.slice ad n c) w
  clear hb hrv hM hlen hfine hl hn hR
  unfold AddR
  go_enter Tryz.func151, Tryz.ntmps151
  go_wp2
  go_loopw [12, 39] (fun _ sx wx => ∃ (i fi li : Nat) (bi : Bool), sx = .int .i64 (i : Int) ∧ i ≤ n ∧ Hid (∃ Mi F' o', LI F w wx r E o ⟨fi, li, bi⟩ Mi F' o' ∧ (⟨fi, li, bi⟩ : Es).b64 ∧ rowAdd (l.drop i) ⟨fi, li, bi⟩ Mi = (E9, M9) ∧ Mi.length + rowCnt (l.drop i) ≤ 64)) (fun _ sx _ => n - (intOf sx).toNat)
  case atStart => exact ⟨0, 0, 0, true, rfl, by omega, hidden ⟨M, F, o, HST.out, Es.b64.zero _, HR.out, HL0.out⟩⟩
  case round =>
    rename World => wr
    obtain ⟨i, fi, li, bi, rfl, hi, hex⟩ := hrel
    obtain ⟨Mi, F', o', hli, hb64, hadd, hcnt⟩ := hex.out
    clear hex HST HR HL0
    have HLI := hidden hli
    have z0 : wr.cell? ⟨w.heap.size + 1, 0, none⟩ = some (.int .u64 (fi : Int)) := hli.b1.cell 0
    have z1 : wr.cell? ⟨w.heap.size + 1, 1, none⟩ = some (.int .u64 (li : Int)) := hli.b1.cell 1
    have z2 : wr.cell? ⟨w.heap.size + 1, 2, none⟩ = some (.bool bi) := hli.b1.cell 2
    by_cases hlt : i < n
    · have hltz : (i : Int) < (n : Int) := by omega
      obtain ⟨x, hx⟩ : ∃ x, l[i]? = some x := ⟨l[i]'(by rw [HN.out]; exact hlt), by simp⟩
      have hdr := drop_at hx
      have hxm : x ∈ l := List.mem_of_getElem? hx
      rw [hdr] at hadd hcnt
      simp only [rowAdd] at hadd
      simp only [rowCnt] at hcnt
      have hl0 : l ≠ [] := by intro e; rw [e] at hx; simp at hx
      obtain ⟨hade, hFb⟩ := HBF.out hl0
      subst hade
      have hkeep := RowV.keep hli.v.chg (hli.v.part HNF.out.1 HNF.out.2) l b off (fun _ => hFb) HRV.out
      obtain ⟨xv, hcell, hpx⟩ := hkeep.get hx
      obtain ⟨tx, ux, rfl⟩ := hpx.form
      have hbd : Below wr.heap.size wr wr.drew := below_drew wr _
      have hlid := hli.below hbd
      have k19 := HHL.out x hxm F' wr.drew r E Mi o' (.iface tx ux) (PtV.mono hli.v.sub x _ (PtV.keep (Chg.drew (fun _ => False) wr) (fun _ _ h => h) x _ hpx)) hlid.m (by omega) (rowFine_at HFI.out hxm)
      have hln := Pt.add_len x Mi
      have hb1 := Pt.add_b64 x Mi (by omega)
      obtain ⟨⟨E1, M1⟩, hR1⟩ : ∃ R, x.add Mi = R := ⟨_, rfl⟩
      rw [hR1] at k19 hadd hln hb1
      simp only at hadd hln hb1
      have HNX : Hid (∀ w2 F2 o2, Mch F2 w2 r E M1 o2 → Mv F' F2 wr.drew w2 r o' o2 → w2.cell? ⟨w.heap.size + 1, 0, none⟩ = some (.int .u64 (fi : Int)) ∧ w2.cell? ⟨w.heap.size + 1, 1, none⟩ = some (.int .u64 (li : Int)) ∧ w2.cell? ⟨w.heap.size + 1, 2, none⟩ = some (.bool bi) ∧ Calls Tryz.prog 167 #[.pointer (some ⟨r, 0, none⟩), esV ⟨fi, li, bi⟩, esV E1] w2 fun e w3 => e = .returned (esV (Es.chain ⟨fi, li, bi⟩ E1)) ∧ LI F w w3 r E o ⟨fi, li, bi⟩ (lnkM M1 li E1.first) F2 o2) := hidden (fun w2 F2 o2 h1 h2 => by
        have hl2 := hlid.call h1 h2
        refine ⟨hl2.b1.cell 0, hl2.b1.cell 1, hl2.b1.cell 2, ?_⟩
        refine (chainP F2 w2 r E M1 o2 ⟨fi, li, bi⟩ E1 hb64 hb1 hl2.m (by omega)).mono ?_
        rintro e w3 ⟨rfl, hm3, hv3⟩
        exact ⟨rfl, hl2.call hm3 hv3⟩)
      have hb9 : (Es.chain ⟨fi, li, bi⟩ E1).b64 := hb64.chain hb1
      obtain ⟨⟨f2, l2, b2⟩, hE2⟩ : ∃ e, Es.chain ⟨fi, li, bi⟩ E1 = e := ⟨_, rfl⟩
      rw [hE2] at HNX hadd hb9
      have HNX : Hid (∀ w2 F2 o2, Mch F2 w2 r E M1 o2 → Mv F' F2 wr.drew w2 r o' o2 → w2.cell? ⟨w.heap.size + 1, 0, none⟩ = some (.int .u64 (fi : Int)) ∧ w2.cell? ⟨w.heap.size + 1, 1, none⟩ = some (.int .u64 (li : Int)) ∧ w2.cell? ⟨w.heap.size + 1, 2, none⟩ = some (.bool bi) ∧ Calls Tryz.prog 167 #[.pointer (some ⟨r, 0, none⟩), esV ⟨fi, li, bi⟩, esV E1] w2 fun e w3 => e = .returned (.agg #[.int .u64 (f2 : Int), .int .u64 (l2 : Int), .bool b2]) ∧ LI F w w3 r E o ⟨fi, li, bi⟩ (lnkM M1 li E1.first) F2 o2) := HNX
      have HADD := hidden hadd
      have HB9 := hidden hb9
      have HCN : Hid ((lnkM M1 li E1.first).length + rowCnt (l.drop (i + 1)) ≤ 64) := hidden (by rw [lnk_length]; omega)
      clear hli hb64 hadd hcnt hx hdr hxm hl0 hFb hkeep hbd hlid hln hb1 hR1 hE2 hb9
      unfold AddR at k19
      go_upto_region 17 with fail
      go_region_with (first
        | (go_at_call 151; refine k19.mono ?_; rintro e w2 ⟨rfl, F2, o2, h1, h2⟩; have HH := hidden (HNX.out w2 F2 o2 h1 h2); have u0 := HH.out.1; have u1 := HH.out.2.1; have u2 := HH.out.2.2.1; clear h1 h2)
        | (go_at_call 167; refine HH.out.2.2.2.mono ?_; rintro e w3 ⟨rfl, h3⟩; have H3 := hidden h3; have y0 : w3.cell? ⟨w.heap.size + 1, 0, none⟩ = some (.int .u64 (fi : Int)) := h3.b1.cell 0; have y1 : w3.cell? ⟨w.heap.size + 1, 1, none⟩ = some (.int .u64 (li : Int)) := h3.b1.cell 1; have y2 : w3.cell? ⟨w.heap.size + 1, 2, none⟩ = some (.bool bi) := h3.b1.cell 2; have q0 := h3.b1.frozen 0; have q1 := h3.b1.frozen 1; have q2 := h3.b1.frozen 2; clear h3))
      all_goals
        go_wp2
        refine ⟨⟨i + 1, f2, l2, b2, by first | rfl | simp, by omega, hidden ⟨_, _, _, H3.out.store ⟨f2, l2, b2⟩, HB9.out, HADD.out, HCN.out⟩⟩, ?_⟩
        simp [intOf]
        omega
    · have hltz : ¬ (i : Int) < (n : Int) := by omega
      have hend : l.drop i = [] := List.drop_of_length_le (by rw [HN.out]; omega)
      rw [hend] at hadd
      simp only [rowAdd, Prod.mk.injEq] at hadd
      obtain ⟨rfl, rfl⟩ := hadd
      have HB0 := hidden hli.b0
      clear hli hend hcnt
      go_wp2_with (refine wpList_store_blk (l := esC ⟨fi, li, bi⟩) rfl 223 (.tmp 4) (.tmp 50) rfl rfl w.heap.size HB0.out rfl rfl rfl info52 (esC_one _) ?_)
      refine bodyPost_ret (res_add _ _ w.heap.size ⟨fi, li, bi⟩ rfl HLI.out.fin.1) rfl ?_
      exact ⟨rfl, HLI.out.fin.2⟩

end Go.Proofs.YtgmdpbahcbhfjaaGreatDoor
/-
  The machine of a pattern: machineOf.
-/
namespace Go.Proofs.YtgmdpbahcbhfjaaGreatDoor
open Go.RowKit

mutual
/-- ADD LAYS A PART'S MACHINE. -/
theorem addP : ∀ p : Pt, AddC p
  | .chr c => add_chr c
  | .any => add_any
  | .cls neg l => add_cls neg l
  | .grp l => add_grp l (add_rows l (fun r hr => add_row r (addRows l r hr)))
  | .rep a s => add_rep a s (addP a)
theorem addRow : ∀ (r : List Pt) (p : Pt), p ∈ r → AddC p
  | [], p, h => by cases h
  | q :: t, p, h => by
    rcases List.mem_cons.1 h with e | h
    · rw [e]; exact addP q
    · exact addRow t p h
theorem addRows : ∀ (l : List (List Pt)) (r : List Pt), r ∈ l → ∀ p ∈ r, AddC p
  | [], r, h => by cases h
  | q :: t, r, h => by
    rcases List.mem_cons.1 h with e | h
    · rw [e]; exact addRow q
    · exact addRows t r h
end

def Z54 (a : Value) (e : Es) : List Value := [a, .int .u64 (e.first : Int), .int .u64 (e.last : Int), .bool e.emp]
theorem res_mach (tmps : Array Value) (w : World) (g : Nat) (sa : Option Addr) (n c : Nat) (e : Es) (hp : tmps.getD 2 undef = .pointer (some ⟨g, 0, none⟩)) (h : Blk w g 225 (Z54 (.slice sa n c) e)) :
    (results Tryz.f129 tmps).run Tryz.prog w = .ok (.agg (Z54 (.slice sa n c) e).toArray) w := by
  have h0 : w.cell? ⟨g, 0, none⟩ = some (.slice sa n c) := h.cell 0
  have h1 : w.cell? ⟨g, 1, none⟩ = some (.int .u64 (e.first : Int)) := h.cell 1
  have h2 : w.cell? ⟨g, 2, none⟩ = some (.int .u64 (e.last : Int)) := h.cell 2
  have h3 : w.cell? ⟨g, 3, none⟩ = some (.bool e.emp) := h.cell 3
  have hr : Tryz.f129.results = #[.cell 2 225] := by kernel_rfl
  have hp' : tmps[2]?.getD undef = .pointer (some ⟨g, 0, none⟩) := by simpa using hp
  simp [results, hr, hp', asAddr, loadVar, h0, h1, h2, h3, go_sem, Z54]
theorem info54 : (Tryz.prog.info? 225).map (·.size) = some 4 := by kernel_rfl
theorem Z54_one (sa : Option Addr) (n c : Nat) (e : Es) : ∀ v ∈ Z54 (.slice sa n c) e, v.oneCell' = true := by
  intro v hv; simp [Z54] at hv; rcases hv with rfl | rfl | rfl | rfl <;> rfl

/-- The spots of a machine, to be read. -/
structure SpM (F : Nat → Prop) (w : World) (sa : Option Addr) (c : Nat) (M : List Sp) (vs : List (Value × Nat)) : Prop where
  own : w.ownsRow 0 282 2 (.slice sa M.length c) M.length (cQ vs)
  sp : SpL F w vs M
  at' : ∀ b, (Value.slice sa M.length c).ownBlock = some b → F b
  b64 : ∀ (i : Nat) (s : Sp), M[i]? = some s → s.next < 18446744073709551616

set_option maxRecDepth 100000 in
set_option maxHeartbeats 8000000 in
theorem machineOfP (l : List (List Pt)) (F : Nat → Prop) (w : World) (ad : Option Addr) (c b off : Nat) (hb : l ≠ [] → ad = some ⟨b, off, none⟩ ∧ F b) (hrv : RowsV F w l b off) (hF : ∀ b, F b → b < w.heap.size) (hcnt : rowsCnt l ≤ 64) (hfine : rowsFine l) (hln : l.length ≤ 1000) :
    Calls Tryz.prog 129 #[.slice ad l.length c] w fun e w' => ∃ sa sc vs F', e = .returned (.agg (Z54 (.slice sa (machL l).2.length sc) (machL l).1).toArray) ∧ SpM F' w' sa sc (machL l).2 vs ∧ (∀ b, F b → F' b) ∧ (∀ b, F' b → F b ∨ (w.heap.size ≤ b ∧ b < w'.heap.size)) ∧ Below w.heap.size w w' := by
  obtain ⟨n, hn⟩ : ∃ n, l.length = n := ⟨_, rfl⟩
  obtain ⟨W, hW⟩ : ∃ W, (w.alloc (.cells #[.slice none 0 0, .int .u64 0, .int .u64 0, .bool false] 225)).alloc (.cells #[.slice none 0 0, .int .u64 0, .int .u64 0, .bool false] 225) = W := ⟨_, rfl⟩
  have hal : Below w.heap.size w W := by
    have h1 := (Below.refl w.heap.size w).alloc (Nat.le_refl _) (.cells #[.slice none 0 0, .int .u64 0, .int .u64 0, .bool false] 225)
    rw [← hW]; exact h1.alloc h1.size _
  have B0 : Blk W w.heap.size 225 (Z54 (.slice none 0 0) ⟨0, 0, false⟩) := by rw [← hW]; exact (Blk.new w 225 (Z54 (.slice none 0 0) ⟨0, 0, false⟩)).alloc _
  have B1 : Blk W (w.heap.size + 1) 225 (Z54 (.slice none 0 0) ⟨0, 0, false⟩) := by
    have := Blk.new (w.alloc (.cells #[.slice none 0 0, .int .u64 0, .int .u64 0, .bool false] 225)) 225 (Z54 (.slice none 0 0) ⟨0, 0, false⟩)
    rw [show (w.alloc (.cells #[.slice none 0 0, .int .u64 0, .int .u64 0, .bool false] 225)).heap.size = w.heap.size + 1 by simp] at this
    rw [← hW]
    exact this
  have hM : Mch F W (w.heap.size + 1) ⟨0, 0, false⟩ [] none := by
    refine ⟨none, 0, [], ⟨B1, World.ownsRow_nil _ _ _ _, ⟨rfl, fun i x s h => by simp at h⟩, fun h => by have := hF _ h; omega, fun b hb e => by simp [Value.ownBlock] at e, by simp [Value.ownBlock], fun b hb => by have := hF b hb; have := hal.size; omega, fun i s h => by simp at h⟩, by simp [Value.ownBlock]⟩
  have k19 := add_rows l (fun r hr => add_row r (addRows l r hr)) F W (w.heap.size + 1) ⟨0, 0, false⟩ [] none ad c b off hb (RowsV.keep (Chg.of_below (F := fun _ => False) hal) (fun _ _ h => h) l b off (fun h0 => (hb h0).2) hrv) hM (by simpa using hcnt) hfine hln
  have e1 : rowsAdd l ⟨0, 0, false⟩ [] = machL l := rfl
  rw [e1, hn] at k19
  rw [hn]
  obtain ⟨⟨E, M⟩, hR⟩ : ∃ R, machL l = R := ⟨_, rfl⟩
  rw [hR] at k19 ⊢
  have HO : Hid (Own F W (w.heap.size + 1) none w.heap.size) := hidden ⟨B0.lt, by omega, by simp, fun h => by have := hF _ h; omega⟩
  have HX : Hid (∀ w3 F' o', Mch F' w3 (w.heap.size + 1) ⟨0, 0, false⟩ M o' → Mv F F' W w3 (w.heap.size + 1) none o' → ∃ sa sc vs, Blk w3 (w.heap.size + 1) 225 (Z54 (.slice sa M.length sc) ⟨0, 0, false⟩) ∧ Blk (w3.setCells (w.heap.size + 1) 1 (esC E)) (w.heap.size + 1) 225 (Z54 (.slice sa M.length sc) E) ∧ Blk (w3.setCells (w.heap.size + 1) 1 (esC E)) w.heap.size 225 (Z54 (.slice none 0 0) ⟨0, 0, false⟩) ∧ Blk ((w3.setCells (w.heap.size + 1) 1 (esC E)).setCells w.heap.size 0 (Z54 (.slice sa M.length sc) E)) w.heap.size 225 (Z54 (.slice sa M.length sc) E) ∧
      ∃ F2, SpM F2 ((w3.setCells (w.heap.size + 1) 1 (esC E)).setCells w.heap.size 0 (Z54 (.slice sa M.length sc) E)) sa sc M vs ∧ (∀ b, F b → F2 b) ∧ (∀ b, F2 b → F b ∨ (w.heap.size ≤ b ∧ b < ((w3.setCells (w.heap.size + 1) 1 (esC E)).setCells w.heap.size 0 (Z54 (.slice sa M.length sc) E)).heap.size)) ∧ Below w.heap.size w ((w3.setCells (w.heap.size + 1) 1 (esC E)).setCells w.heap.size 0 (Z54 (.slice sa M.length sc) E))) := hidden (by
    rintro w3 F' o' h1 h2
    have hB0 := HO.out.blk h2 B0
    have ho3 := HO.out.on h2
    have hr3 := h1.rlt
    obtain ⟨sa, sc, vs, hm, ho⟩ := h1
    have c1 := Chg.sets (w.heap.size + 1) (esC E) 1 w3
    have c2 := Chg.sets w.heap.size (Z54 (.slice sa M.length sc) E) 0 (w3.setCells (w.heap.size + 1) 1 (esC E))
    have c12 : Chg (fun b => b = w.heap.size ∨ b = w.heap.size + 1) w3 ((w3.setCells (w.heap.size + 1) 1 (esC E)).setCells w.heap.size 0 (Z54 (.slice sa M.length sc) E)) := (c1.mono (G := fun b => b = w.heap.size ∨ b = w.heap.size + 1) (fun i _ h => .inr h)).trans c2 (fun i _ h => .inl h)
    have b4 : Blk (w3.setCells (w.heap.size + 1) 1 (esC E)) (w.heap.size + 1) 225 (Z54 (.slice sa M.length sc) E) := by
      have := Blk.sets (esC E) 1 w3 _ hm.blk (by simp [esC])
      simpa [esC, Z54] using this
    have b5 := c1.blk hB0 (fun e => by have e' : w.heap.size = w.heap.size + 1 := e; omega)
    refine ⟨sa, sc, vs, hm.blk, b4, b5, blk_stored b5 rfl, fun b => F' b ∨ o' = some b, ⟨c12.owns hm.own ?_, (hm.sp.keep c12 ?_).mono (fun b hb => .inl hb), fun b hb => .inr (by rw [← ho]; exact hb), hm.b64⟩, fun b hb => .inl (h2.sub b hb), fun b hb => ?_, ?_⟩
    · rintro g hg (e | e)
      · exact ho3.no (by rw [← ho, hg, e])
      · exact hm.ne (by rw [hg, e])
    · rintro g hg (e | e)
      · exact ho3.nF (by rw [← e]; exact hg)
      · exact hm.nr (by rw [← e]; exact hg)
    · rcases hb with hb | hb
      · rcases h2.new b hb with h | h
        · exact .inl h
        · exact .inr ⟨by have := hal.size; omega, by have := hm.lt b hb; have := c12.size; omega⟩
      · have h3 : b < w3.heap.size := owns_lt hm.own b (by rw [ho]; exact hb)
        rcases h2.mv with e | ⟨g, e, hg⟩
        · rw [e] at hb; cases hb
        · rw [e] at hb
          injection hb with hb
          exact .inr ⟨by have := hal.size; omega, by have := c12.size; omega⟩
    · have d1 : Chg (fun b => b = w.heap.size + 1 ∨ (none : Option Nat) = some b) w W := Chg.of_below hal
      have d2 := d1.trans h2.chg (fun i _ h => h)
      have d3 := (d2.mono (G := fun b => b = w.heap.size ∨ b = w.heap.size + 1) (fun i _ h => by
        rcases h with h | h
        · exact .inr h
        · cases h)).trans c12 (fun i _ h => h)
      exact d3.below (Nat.le_refl _) (fun i h => by rcases h with h | h <;> omega))
  rw [← hW] at k19
  have HW := hidden hW
  clear hal B0 B1 hM hW hR e1 hb hrv hF hcnt hfine hln hn
  unfold AddR at k19
  go_enter Tryz.func129, Tryz.ntmps129
  go_wp2_with (first
    | (go_at_call 151; refine k19.mono ?_; rintro e w3 ⟨rfl, F', o', h1, h2⟩; rw [HW.out] at h2; obtain ⟨sa, sc, vs, x1, x2, x3, x4, x5⟩ := HX.out w3 F' o' h1 h2; have X1 := hidden x1; have X2 := hidden x2; have X3 := hidden x3; have X4 := hidden x4; have X5 := hidden x5; clear k19 h1 h2 x1 x2 x3 x4 x5)
    | (refine wpList_store_mid rfl 223 (.tmp 7) (.tmp 6) rfl (w.heap.size + 1) 1 (esC E).toArray rfl rfl (X1.out.there 1 3 (by simp [Z54])) info52 (all_oneCell_toArray (esC_one E)) ?_)
    | (refine wpList_load_blk rfl 225 (.tmp 3) rfl (w.heap.size + 1) X2.out rfl Tryz.underlying225 rfl info54 ?_)
    | (refine wpList_store_blk (l := Z54 (.slice sa M.length sc) E) rfl 225 (.tmp 2) (.tmp 8) rfl rfl w.heap.size X3.out rfl rfl rfl info54 (Z54_one _ _ _ _) ?_))
  refine bodyPost_ret (res_mach _ _ w.heap.size sa M.length sc E rfl X4.out) rfl ?_
  obtain ⟨F2, y1, y2, y3, y4⟩ := X5.out
  exact ⟨sa, sc, vs, F2, rfl, y1, y2, y3, y4⟩

end Go.Proofs.YtgmdpbahcbhfjaaGreatDoor
/-
  A pattern in memory; Parse.
-/
namespace Go.Proofs.YtgmdpbahcbhfjaaGreatDoor
open Go.RowKit

theorem SpM.keep {F G : Nat → Prop} {w w' : World} {sa : Option Addr} {c : Nat} {M : List Sp} {vs : List (Value × Nat)} (h : SpM F w sa c M vs) (hc : Chg G w w') (hd : ∀ b, F b → ¬ G b) : SpM F w' sa c M vs :=
  ⟨hc.owns h.own (fun g hg => hd g (h.at' g hg)), h.sp.keep hc hd, h.at', h.b64⟩

/-- A pattern: the tree l, and its machine; all of it lies in F. -/
structure PaC (F : Nat → Prop) (w : World) (p : Nat) (l : List (List Pt)) (ad : Option Addr) (c b off : Nat) (sa : Option Addr) (sc : Nat) (vs : List (Value × Nat)) : Prop where
  blk : Blk w p 228 [.slice ad l.length c, .slice sa (machL l).2.length sc, .int .u64 ((machL l).1.first : Int), .int .u64 ((machL l).1.last : Int), .bool (machL l).1.emp]
  at' : l ≠ [] → ad = some ⟨b, off, none⟩ ∧ F b
  rows : RowsV F w l b off
  sp : SpM F w sa sc (machL l).2 vs
  fp : F p
  lt : ∀ b, F b → b < w.heap.size
  fine : rowsFine l ∧ l ≠ [] ∧ l.length ≤ 1000
  cnt : rowsCnt l ≤ 64
def PaR (F : Nat → Prop) (w : World) (p : Nat) (l : List (List Pt)) : Prop := ∃ ad c b off sa sc vs, PaC F w p l ad c b off sa sc vs
theorem PaR.keep {F G : Nat → Prop} {w w' : World} {p : Nat} {l : List (List Pt)} (h : PaR F w p l) (hc : Chg G w w') (hd : ∀ b, F b → ¬ G b) : PaR F w' p l := by
  obtain ⟨ad, c, b, off, sa, sc, vs, h⟩ := h
  exact ⟨ad, c, b, off, sa, sc, vs, hc.blk h.blk (hd p h.fp), h.at', RowsV.keep hc hd l b off (fun h0 => (h.at' h0).2) h.rows, h.sp.keep hc hd, h.fp, fun b hb => Nat.lt_of_lt_of_le (h.lt b hb) hc.size, h.fine, h.cnt⟩
theorem PaR.later {F : Nat → Prop} {w w' : World} {p : Nat} {l : List (List Pt)} (h : PaR F w p l) (hb : Below w.heap.size w w') : PaR F w' p l :=
  h.keep (Chg.of_below (F := fun _ => False) hb) (fun _ _ h => h)

/-- Parse, as a function. -/
def endF (S : List UInt8) : Pr (List (List Pt)) → Pr (List (List Pt))
  | .ok l b => if b < S.length then .bad b else .ok l b
  | .bad k => .bad k
  | .out => .out
def prs (S : List UInt8) : Pr (List (List Pt)) := if 64 < S.length then .bad 64 else endF S (rowsF S (4 * S.length + 4) 0 0)
/-- What Parse answers. -/
def ParseR (s : ByteArray) (w : World) (e : Ending) (w' : World) : Prop :=
  Below w.heap.size w w' ∧ ((∃ p F l, (∃ b, prs (bts s) = .ok l b) ∧ e = .returned (.tuple #[.pointer (some ⟨p, 0, none⟩), .nilIface]) ∧ PaR F w' p l ∧ ∀ b, F b → w.heap.size ≤ b) ∨
    (∃ k g, prs (bts s) = .bad k ∧ e = .returned (.tuple #[.pointer none, .iface 211 (.pointer (some ⟨g, 0, none⟩))]) ∧ Blk w' g 213 [.int .i64 (k : Int), .int .i64 80] ∧ k ≤ s.size))

set_option maxRecDepth 100000 in
set_option maxHeartbeats 8000000 in
theorem parseP (s : ByteArray) (w : World) : Calls Tryz.prog 100 #[.string s] w (ParseR s w) := by
  have hsb := size_bts s
  unfold ParseR
  by_cases h64 : s.size ≤ 64
  · have h64z : ¬ (64 : Int) < (s.size : Int) := by omega
    obtain ⟨W, hW⟩ : ∃ W, w.alloc (.cells #[.string s, .int .i64 0, .int .i64 0] 215) = W := ⟨_, rfl⟩
    have hal : Below w.heap.size w W := by rw [← hW]; exact (Below.refl _ w).alloc (Nat.le_refl _) _
    have hrd : Rd W w.heap.size s 0 0 := by rw [← hW]; exact Blk.new w 215 [.string s, .int .i64 0, .int .i64 0]
    have hbd := (read_bd (bts s) (4 * (bts s).length + 4) 0 0 (by omega)).1
    have hno : rowsF (bts s) (4 * (bts s).length + 4) 0 0 ≠ .out := hbd.2 (by omega)
    have hcn := (read_cnt (bts s) (by omega) (4 * (bts s).length + 4) 0 0 (by omega)).1
    have k12 := (reads (4 * (bts s).length + 4)).1 w.heap.size s 0 0 W hrd (by omega) h64 (by omega) hno
    obtain ⟨R, hR⟩ : ∃ R, rowsF (bts s) (4 * (bts s).length + 4) 0 0 = R := ⟨_, rfl⟩
    have hps : prs (bts s) = endF (bts s) R := by unfold prs; rw [if_neg (by omega), hR]
    rw [hR] at k12 hbd hcn
    have HP := hidden hps
    have HBD := hidden hbd.1
    have HCN := hidden hcn
    have HAL := hidden hal
    have HSB := hidden hsb
    have HWL : Hid (w.heap.size < W.heap.size) := hidden hrd.lt
    rw [← hW] at k12
    have HW := hidden hW
    clear hal hrd hbd hno hcn hR hps hW hsb
    unfold RowsR at k12
    go_enter Tryz.func100, Tryz.ntmps100
    go_upto_region 5 with (go_at_call 128; refine k12.mono ?_; rintro e w2 ⟨ad, n, c, b, ok, rfl, hrd, hch, hbl, hres⟩; rw [HW.out] at hch hres; clear k12)
    have a1 : w2.cell? ⟨w.heap.size, 1, none⟩ = some (.int .i64 (b : Int)) := Blk.cell hrd 1
    have HB2 : Hid (Below w.heap.size w w2) := hidden (HAL.out.trans (hch.below HAL.out.size (fun i e => by have e' : i = w.heap.size := e; omega)))
    have hbz : b ≤ s.size := by rw [HSB.out]; exact hbl
    rcases hres with ⟨rfl, l, g, off, rfl, hRl, hlg, hrv⟩ | ⟨rfl, hRb⟩
    · subst hRl
      have hfi := HCN.out l b rfl
      by_cases hlt : b < s.size
      · have hltz : (b : Int) < (s.size : Int) := by omega
        have HPB : Hid (prs (bts s) = .bad b) := hidden (by rw [HP.out, endF, if_pos (by have := HSB.out; omega)])
        have HBX := hidden (HB2.out.alloc HB2.out.size (.cells #[.int .i64 (b : Int), .int .i64 80] 213))
        have HBN : Hid (Blk (w2.alloc (.cells #[.int .i64 (b : Int), .int .i64 80] 213)) w2.heap.size 213 [.int .i64 (b : Int), .int .i64 80]) := hidden (Blk.new w2 213 _)
        clear hrd hch hlg hrv hfi
        go_wp2_with fail
        go_region
        go_wp2
        go_ret2
        exact ⟨HBX.out.trans (below_drew _ _), Or.inr ⟨b, w2.heap.size, HPB.out, rfl, HBN.out.drew, by omega⟩⟩
      · have hltz : ¬ (b : Int) < (s.size : Int) := by omega
        have HPB : Hid (prs (bts s) = .ok l b) := hidden (by rw [HP.out, endF, if_neg (by have := HSB.out; omega)])
        have k13 := machineOfP l (FW W w2) w2 ad c g off hlg hrv (fun b hb => hb.2) (by omega) hfi.2.1 (by omega)
        have HFI := hidden hfi
        have HLG := hidden hlg
        have HRV := hidden hrv
        obtain ⟨nl, hnl⟩ : ∃ nl, l.length = nl := ⟨_, rfl⟩
        have HNL := hidden hnl
        obtain ⟨nm, hnm⟩ : ∃ nm, (machL l).2.length = nm := ⟨_, rfl⟩
        have HNM := hidden hnm
        have hcl : rowsCnt l ≤ 64 := by omega
        have HCL := hidden hcl
        rw [hnl, hnm] at k13
        rw [hnl]
        clear hrd hch hlg hrv hfi hnl hnm hcl
        go_wp2_with (go_at_call 129; refine k13.mono ?_; rintro e w3 ⟨sa, sc, vs, F', rfl, y1, y2, y3, y4⟩; have Y1 := hidden y1; have Y2 := hidden y2; have Y3 := hidden y3; have Y4 := hidden y4; clear k13 y1 y2 y3 y4; simp only [Z54])
        go_ret2
        have hbel := HB2.out.trans (Y4.out.mono HB2.out.size)
        have hl3 := hbel.alloc hbel.size (.cells #[.slice ad nl c, .slice sa nm sc, .int .u64 ((machL l).1.first : Int), .int .u64 ((machL l).1.last : Int), .bool (machL l).1.emp] 228)
        have hwl := HWL.out
        have hs2 := HB2.out.size
        have hs3 := Y4.out.size
        refine ⟨hl3, Or.inl ⟨w3.heap.size, fun b => F' b ∨ b = w3.heap.size, l, ⟨b, HPB.out⟩, rfl, ?_, ?_⟩⟩
        · have hc3 : Chg (fun _ => False) w2 w3 := Chg.of_below Y4.out
          have hc4 : Chg (fun _ => False) w3 (w3.alloc (.cells #[.slice ad nl c, .slice sa nm sc, .int .u64 ((machL l).1.first : Int), .int .u64 ((machL l).1.last : Int), .bool (machL l).1.emp] 228)) := Chg.alloc _ _ _
          have hsz : (w3.alloc (.cells #[.slice ad nl c, .slice sa nm sc, .int .u64 ((machL l).1.first : Int), .int .u64 ((machL l).1.last : Int), .bool (machL l).1.emp] 228)).heap.size = w3.heap.size + 1 := by simp
          have hsp := Y1.out.keep hc4 (fun _ _ h => h)
          refine ⟨ad, c, g, off, sa, sc, vs, ?_, fun h0 => ⟨(HLG.out h0).1, .inl (Y2.out _ (HLG.out h0).2)⟩, ?_, ⟨hsp.own, hsp.sp.mono (fun _ h => .inl h), fun b hb => .inl (hsp.at' b hb), hsp.b64⟩, .inr rfl, fun b hb => ?_, ⟨HFI.out.2.1, HFI.out.2.2.1, by have := HFI.out.2.2.2; omega⟩, HCL.out⟩
          · rw [HNL.out, HNM.out]
            exact Blk.new w3 228 _
          · exact RowsV.mono (fun b hb => .inl (Y2.out b hb)) l g off (RowsV.keep hc4 (fun _ _ h => h) l g off (fun h0 => (HLG.out h0).2) (RowsV.keep hc3 (fun _ _ h => h) l g off (fun h0 => (HLG.out h0).2) HRV.out))
          · rw [hsz]
            rcases hb with hb | hb
            · rcases Y3.out b hb with h | h
              · have := h.2; omega
              · omega
            · omega
        · intro b hb
          rcases hb with hb | hb
          · rcases Y3.out b hb with h | h
            · have := h.1; omega
            · omega
          · omega
    · subst hRb
      have HPB : Hid (prs (bts s) = .bad b) := hidden (by rw [HP.out, endF])
      have HBX := hidden (HB2.out.alloc HB2.out.size (.cells #[.int .i64 (b : Int), .int .i64 80] 213))
      have HBN : Hid (Blk (w2.alloc (.cells #[.int .i64 (b : Int), .int .i64 80] 213)) w2.heap.size 213 [.int .i64 (b : Int), .int .i64 80]) := hidden (Blk.new w2 213 _)
      clear hrd hch
      go_wp2_with fail
      go_region
      go_wp2
      go_ret2
      exact ⟨HBX.out.trans (below_drew _ _), Or.inr ⟨b, w2.heap.size, HPB.out, rfl, HBN.out.drew, by omega⟩⟩
  · have h64z : (64 : Int) < (s.size : Int) := by omega
    have HPB : Hid (prs (bts s) = .bad 64) := hidden (by unfold prs; rw [if_pos (by omega)])
    have HBX := hidden ((Below.refl w.heap.size w).alloc (Nat.le_refl _) (.cells #[.int .i64 64, .int .i64 80] 213))
    have HBN : Hid (Blk (w.alloc (.cells #[.int .i64 64, .int .i64 80] 213)) w.heap.size 213 [.int .i64 64, .int .i64 80]) := hidden (Blk.new w 213 _)
    clear hsb
    go_enter Tryz.func100, Tryz.ntmps100
    go_wp2
    go_ret2
    exact ⟨HBX.out, Or.inr ⟨64, w.heap.size, HPB.out, rfl, HBN.out, by omega⟩⟩

end Go.Proofs.YtgmdpbahcbhfjaaGreatDoor
/-
  The machine: step.
-/
namespace Go.Proofs.YtgmdpbahcbhfjaaGreatDoor
open Go.RowKit

/-- One code point taken, spot by spot. -/
def stF (last op x : Nat) : Nat → List Sp → Nat → Bool → Nat × Bool
  | _, [], nx, en => (nx, en)
  | i, s :: t, nx, en => if op.testBit i && inS s.takes x then stF last op x (i + 1) t (nx ||| s.next) (en || last.testBit i) else stF last op x (i + 1) t nx en
theorem stF_1 (last op x : Nat) : ∀ (t : List Sp) (i nx : Nat) (en : Bool) (q : Nat), (stF last op x i t nx en).1.testBit q = true ↔ nx.testBit q = true ∨ ∃ j s, t[j]? = some s ∧ op.testBit (i + j) = true ∧ inS s.takes x = true ∧ s.next.testBit q = true
  | [], i, nx, en, q => by simp [stF]
  | s :: t, i, nx, en, q => by
    rw [stF]
    have ih := stF_1 last op x t (i + 1)
    have key : (∃ j s', (s :: t)[j]? = some s' ∧ op.testBit (i + j) = true ∧ inS s'.takes x = true ∧ s'.next.testBit q = true) ↔ (op.testBit i = true ∧ inS s.takes x = true ∧ s.next.testBit q = true) ∨ ∃ j s', t[j]? = some s' ∧ op.testBit (i + 1 + j) = true ∧ inS s'.takes x = true ∧ s'.next.testBit q = true := by
      constructor
      · rintro ⟨j, s', h1, h2, h3, h4⟩
        cases j with
        | zero => simp at h1; subst h1; exact Or.inl ⟨h2, h3, h4⟩
        | succ j => exact Or.inr ⟨j, s', by simpa using h1, by rw [show i + 1 + j = i + (j + 1) by omega]; exact h2, h3, h4⟩
      · rintro (⟨h2, h3, h4⟩ | ⟨j, s', h1, h2, h3, h4⟩)
        · exact ⟨0, s, by simp, h2, h3, h4⟩
        · exact ⟨j + 1, s', by simpa using h1, by rw [show i + (j + 1) = i + 1 + j by omega]; exact h2, h3, h4⟩
    rw [key]
    split
    · rename_i hc
      simp only [Bool.and_eq_true] at hc
      rw [ih, Nat.testBit_or]
      simp only [Bool.or_eq_true]
      constructor
      · rintro ((h | h) | h)
        · exact Or.inl h
        · exact Or.inr (Or.inl ⟨hc.1, hc.2, h⟩)
        · exact Or.inr (Or.inr h)
      · rintro (h | ⟨_, _, h⟩ | h)
        · exact Or.inl (Or.inl h)
        · exact Or.inl (Or.inr h)
        · exact Or.inr h
    · rename_i hc
      simp only [Bool.and_eq_true] at hc
      rw [ih]
      constructor
      · rintro (h | h)
        · exact Or.inl h
        · exact Or.inr (Or.inr h)
      · rintro (h | ⟨h1, h2, _⟩ | h)
        · exact Or.inl h
        · exact absurd ⟨h1, h2⟩ hc
        · exact Or.inr h
theorem stF_2 (last op x : Nat) : ∀ (t : List Sp) (i nx : Nat) (en : Bool), (stF last op x i t nx en).2 = true ↔ en = true ∨ ∃ j s, t[j]? = some s ∧ op.testBit (i + j) = true ∧ inS s.takes x = true ∧ last.testBit (i + j) = true
  | [], i, nx, en => by simp [stF]
  | s :: t, i, nx, en => by
    rw [stF]
    have ih := stF_2 last op x t (i + 1)
    have key : (∃ j s', (s :: t)[j]? = some s' ∧ op.testBit (i + j) = true ∧ inS s'.takes x = true ∧ last.testBit (i + j) = true) ↔ (op.testBit i = true ∧ inS s.takes x = true ∧ last.testBit i = true) ∨ ∃ j s', t[j]? = some s' ∧ op.testBit (i + 1 + j) = true ∧ inS s'.takes x = true ∧ last.testBit (i + 1 + j) = true := by
      constructor
      · rintro ⟨j, s', h1, h2, h3, h4⟩
        cases j with
        | zero => simp at h1; subst h1; exact Or.inl ⟨h2, h3, h4⟩
        | succ j => exact Or.inr ⟨j, s', by simpa using h1, by rw [show i + 1 + j = i + (j + 1) by omega]; exact h2, h3, by rw [show i + 1 + j = i + (j + 1) by omega]; exact h4⟩
      · rintro (⟨h2, h3, h4⟩ | ⟨j, s', h1, h2, h3, h4⟩)
        · exact ⟨0, s, by simp, h2, h3, h4⟩
        · exact ⟨j + 1, s', by simpa using h1, by rw [show i + (j + 1) = i + 1 + j by omega]; exact h2, h3, by rw [show i + (j + 1) = i + 1 + j by omega]; exact h4⟩
    rw [key]
    split
    · rename_i hc
      simp only [Bool.and_eq_true] at hc
      rw [ih]
      simp only [Bool.or_eq_true]
      constructor
      · rintro ((h | h) | h)
        · exact Or.inl h
        · exact Or.inr (Or.inl ⟨hc.1, hc.2, h⟩)
        · exact Or.inr (Or.inr h)
      · rintro (h | ⟨_, _, h⟩ | h)
        · exact Or.inl (Or.inl h)
        · exact Or.inl (Or.inr h)
        · exact Or.inr h
    · rename_i hc
      simp only [Bool.and_eq_true] at hc
      rw [ih]
      constructor
      · rintro (h | h)
        · exact Or.inl h
        · exact Or.inr (Or.inr h)
      · rintro (h | ⟨h1, h2, _⟩ | h)
        · exact Or.inl h
        · exact absurd ⟨h1, h2⟩ hc
        · exact Or.inr h
theorem stF_b (last op x : Nat) : ∀ (t : List Sp) (i nx : Nat) (en : Bool), nx < 18446744073709551616 → (∀ (i : Nat) (s : Sp), t[i]? = some s → s.next < 18446744073709551616) → (stF last op x i t nx en).1 < 18446744073709551616
  | [], i, nx, en, h, _ => by rw [stF]; exact h
  | s :: t, i, nx, en, h, hb => by
    rw [stF]
    have hb' : ∀ (i : Nat) (s : Sp), t[i]? = some s → s.next < 18446744073709551616 := fun j s' h => hb (j + 1) s' (by simpa using h)
    split
    · exact stF_b last op x t _ _ _ (or_lt h (hb 0 s (by simp))) hb'
    · exact stF_b last op x t _ _ _ h hb'
theorem stF_yes {last op x i nx : Nat} {en : Bool} {M : List Sp} {s : Sp} (hs : M[i]? = some s) (h1 : op.testBit i = true) (h2 : inS s.takes x = true) : stF last op x i (M.drop i) nx en = stF last op x (i + 1) (M.drop (i + 1)) (nx ||| s.next) (en || last.testBit i) := by
  rw [drop_at hs, stF, h1, h2]; rfl
theorem stF_no {last op x i nx : Nat} {en : Bool} {M : List Sp} {s : Sp} (hs : M[i]? = some s) (h1 : (op.testBit i && inS s.takes x) = false) : stF last op x i (M.drop i) nx en = stF last op x (i + 1) (M.drop (i + 1)) nx en := by
  rw [drop_at hs, stF, h1]; rfl

set_option maxRecDepth 100000 in
set_option maxHeartbeats 8000000 in
theorem stepP (F : Nat → Prop) (w : World) (p : Nat) (l : List (List Pt)) (hP : PaR F w p l) (op x : Nat) (hop : op < 18446744073709551616) :
    Calls Tryz.prog 153 #[.pointer (some ⟨p, 1, none⟩), .int .u64 (op : Int), .int .i32 (x : Int)] w fun e w' => e = .returned (.tuple #[.int .u64 ((stF (machL l).1.last op x 0 (machL l).2 0 false).1 : Int), .bool (stF (machL l).1.last op x 0 (machL l).2 0 false).2]) ∧ Below w.heap.size w w' := by
  obtain ⟨ad, c, b, off, sa, sc, vs, h⟩ := hP
  have hB := h.blk
  have hsp := h.sp
  have hb64 := rowsAdd_b64 l ⟨0, 0, false⟩ [] (by simpa using h.cnt) (Es.b64.zero _)
  have hml := rowsAdd_len l ⟨0, 0, false⟩ []
  have hcnt := h.cnt
  clear h
  change (machL l).1.b64 at hb64
  change (machL l).2.length = _ at hml
  obtain ⟨⟨E, M⟩, hR⟩ : ∃ R, machL l = R := ⟨_, rfl⟩
  rw [hR] at hB hsp hb64 hml ⊢
  obtain ⟨fi, la, em⟩ := E
  simp only at hB hsp hb64 hml ⊢
  have hn64 : M.length ≤ 64 := by rw [hml]; simpa using hcnt
  obtain ⟨n, hn⟩ : ∃ n, M.length = n := ⟨_, rfl⟩
  have HN := hidden hn
  have HSP := hidden hsp
  have HBK := hidden hB
  rw [hn] at hn64
  have c1 : w.cell? ⟨p, 1, none⟩ = some (.slice sa n sc) := by have := hB.cell 1; rw [hn] at this; exact this
  have hla := hb64.2
  have HB64 := hidden hsp.b64
  obtain ⟨⟨R1, R2⟩, hR2⟩ : ∃ R, stF la op x 0 M 0 false = R := ⟨_, rfl⟩
  have HR : Hid (stF la op x 0 (M.drop 0) 0 false = (R1, R2)) := hidden (by rw [List.drop_zero]; exact hR2)
  rw [hR2]
  clear hB hsp hb64 hml hcnt hR hn hR2
  simp only at hla
  go_enter Tryz.func153, Tryz.ntmps153
  go_wp2
  clear c1
  go_loopw [8, 9, 17] (fun s8 s9 s17 wx => ∃ (i nx : Nat) (en : Bool), s8 = .int .u64 (nx : Int) ∧ s9 = .bool en ∧ s17 = .int .i64 (i : Int) ∧ i ≤ n ∧ nx < 18446744073709551616 ∧ Hid (stF la op x i (M.drop i) nx en = (R1, R2)) ∧ Hid (Below w.heap.size w wx)) (fun _ _ s17 _ => n - (intOf s17).toNat)
  case atStart => exact ⟨0, 0, false, rfl, rfl, rfl, by omega, by omega, HR, hidden (Below.refl _ _)⟩
  case round =>
    rename World => wr
    obtain ⟨i, nx, en, rfl, rfl, rfl, hi, hnx, hrel, hbel⟩ := hrel
    clear HR
    by_cases hlt : i < n
    · have hltz : (i : Int) < (n : Int) := by omega
      obtain ⟨s, hs⟩ : ∃ s, M[i]? = some s := ⟨M[i]'(by rw [HN.out]; exact hlt), by simp⟩
      have hsp := HSP.out.keep (Chg.of_below (F := fun _ => False) hbel.out) (fun _ _ h => h)
      obtain ⟨v, hv, ta, tc, rfl, hss, hsf, hs20⟩ := hsp.sp.get hs
      have hb := HB64.out i s hs
      rcases hsp.own.2 with ⟨e0, e1⟩ | ⟨g, cap, cur, e0, _⟩
      · rw [HN.out] at e1; omega
      · injection e0 with e0 _ e2
        subst e0 e2
        have hoc := cQ_get vs i _ hv
        obtain ⟨tn, htn⟩ : ∃ tn, s.takes.length = tn := ⟨_, rfl⟩
        rw [htn] at hoc hs20
        have d0 : wr.cell? ⟨g, i * 2, none⟩ = some (.slice ta tn tc) := by
          have := hsp.own.cells (g := g) (by simp [Value.ownBlock]) _ _ hoc.1
          rw [Addr.add_lit, Nat.zero_add] at this
          exact this
        have d1 : wr.cell? ⟨g, i * 2 + 1, none⟩ = some (.int .u64 (s.next : Int)) := by
          have := hsp.own.cells (g := g) (by simp [Value.ownBlock]) _ _ hoc.2
          rw [Addr.add_lit, Nat.zero_add] at this
          exact this
        have HAL : Hid (Below w.heap.size w (wr.alloc (.cells #[.slice ta tn tc, .int .u64 (s.next : Int)] 282))) := hidden (hbel.out.alloc hbel.out.size _)
        have hal1 : Below wr.heap.size wr (wr.alloc (.cells #[.slice ta tn tc, .int .u64 (s.next : Int)] 282)) := (Below.refl _ _).alloc (Nat.le_refl _) _
        have kW := withinP ta tc s.takes x (wr.alloc (.cells #[.slice ta tn tc, .int .u64 (s.next : Int)] 282)) (hss.later hal1) (by omega)
        rw [htn] at kW
        have kH := hasP op i hop (by omega)
        have kL := hasP la i hla (by omega)
        have HBP : Hid (Blk (wr.alloc (.cells #[.slice ta tn tc, .int .u64 (s.next : Int)] 282)) p 228 [.slice ad l.length c, .slice (some ⟨g, 0, none⟩) M.length sc, .int .u64 (fi : Int), .int .u64 (la : Int), .bool em]) := hidden (((Chg.of_below (F := fun _ => False) hbel.out).blk HBK.out (fun h => h)).alloc _)
        have HLB : Hid (Blk (wr.alloc (.cells #[.slice ta tn tc, .int .u64 (s.next : Int)] 282)) wr.heap.size 282 [.slice ta tn tc, .int .u64 (s.next : Int)]) := hidden (Blk.new wr 282 _)
        have o1 := or64 hnx hb
        have hnx2 := or_lt hnx hb
        have HS := hidden hs
        clear hsp hv hss hsf hs20 hoc htn hs
        cases hb1 : op.testBit i with
        | false =>
          rw [hb1] at kH
          have HNX := hidden ((stF_no (last := la) (nx := nx) (en := en) HS.out (show (op.testBit i && inS s.takes x) = false by rw [hb1]; rfl)).symm.trans hrel.out)
          clear hb1 kW kL
          go_wp2_with (go_at_call 171; refine (kH _).mono ?_; rintro e w2 ⟨rfl, rfl⟩; clear kH)
          refine ⟨⟨i + 1, nx, en, by first | rfl | simp, by first | rfl | simp, by first | rfl | simp, by omega, hnx, HNX, HAL⟩, ?_⟩
          simp [intOf]
          omega
        | true =>
          rw [hb1] at kH
          cases hb2 : inS s.takes x with
          | false =>
            rw [hb2] at kW
            have HNX := hidden ((stF_no (last := la) (nx := nx) (en := en) HS.out (show (op.testBit i && inS s.takes x) = false by rw [hb2]; simp)).symm.trans hrel.out)
            clear hb1 hb2 kL
            go_wp2_with (first
              | (go_at_call 171; refine (kH _).mono ?_; rintro e w2 ⟨rfl, rfl⟩; clear kH)
              | (go_at_call 172; refine kW.mono ?_; rintro e w3 ⟨rfl, h3⟩; have H3 := hidden h3; clear kW h3))
            refine ⟨⟨i + 1, nx, en, by first | rfl | simp, by first | rfl | simp, by first | rfl | simp, by omega, hnx, HNX, hidden (HAL.out.trans (H3.out.mono HAL.out.size))⟩, ?_⟩
            simp [intOf]
            omega
          | true =>
            rw [hb2] at kW
            have HNX := hidden ((stF_yes (last := la) (nx := nx) (en := en) HS.out hb1 hb2).symm.trans hrel.out)
            obtain ⟨lb, hlb⟩ : ∃ lb, la.testBit i = lb := ⟨_, rfl⟩
            rw [hlb] at kL HNX
            clear hb1 hb2 hlb
            cases en with
            | true =>
              clear kL
              go_wp2_with (first
                | (go_at_call 171; refine (kH _).mono ?_; rintro e w2 ⟨rfl, rfl⟩; clear kH)
                | (go_at_call 172; refine kW.mono ?_; rintro e w3 ⟨rfl, h3⟩; have H3 := hidden h3; have L3 := HLB.out.later h3; have L1 : w3.cell? ⟨wr.heap.size, 1, none⟩ = some (.int .u64 (s.next : Int)) := L3.cell 1; clear kW h3 L3))
              refine ⟨⟨i + 1, nx ||| s.next, true, by first | rfl | simp, by first | rfl | simp, by first | rfl | simp, by omega, hnx2, HNX, hidden (HAL.out.trans (H3.out.mono HAL.out.size))⟩, ?_⟩
              simp [intOf]
              omega
            | false =>
              go_wp2_with (first
                | (go_at_call 171; refine (kH _).mono ?_; rintro e w2 ⟨rfl, rfl⟩; clear kH)
                | (go_at_call 171; refine (kL _).mono ?_; rintro e w4 ⟨rfl, rfl⟩; clear kL)
                | (go_at_call 172; refine kW.mono ?_; rintro e w3 ⟨rfl, h3⟩; have H3 := hidden h3; have L3 := HLB.out.later h3; have L1 : w3.cell? ⟨wr.heap.size, 1, none⟩ = some (.int .u64 (s.next : Int)) := L3.cell 1; have P3 := HBP.out.later h3; have P1 : w3.cell? ⟨p, 3, none⟩ = some (.int .u64 (la : Int)) := P3.cell 3; clear kW h3 L3 P3))
              refine ⟨⟨i + 1, nx ||| s.next, lb, by first | rfl | simp, by first | rfl | simp, by first | rfl | simp, by omega, hnx2, by simpa using HNX, hidden (HAL.out.trans (H3.out.mono HAL.out.size))⟩, ?_⟩
              simp [intOf]
              omega
    · have hltz : ¬ (i : Int) < (n : Int) := by omega
      have hend : M.drop i = [] := List.drop_of_length_le (by rw [HN.out]; omega)
      have hre := hrel.out
      rw [hend, stF] at hre
      injection hre with e1 e2
      subst e1 e2
      clear hrel hend
      go_wp2
      go_ret2
      exact ⟨rfl, hbel.out⟩

end Go.Proofs.YtgmdpbahcbhfjaaGreatDoor
/-
  The machine: takes; Match.
-/
namespace Go.Proofs.YtgmdpbahcbhfjaaGreatDoor
open Go.RowKit

/-- Bytes that are the UTF-8 of t. -/
def Rs (L : List UInt8) (t : Tx) : Prop := (∀ c ∈ t, Vc c) ∧ L = t.flatMap enc
/-- What a pattern means, of bytes. -/
def Means (l : List (List Pt)) (L : List UInt8) : Prop := ∃ t, Rs L t ∧ rowsHas l t
theorem Rs.nil : Rs [] [] := ⟨by simp, rfl⟩
theorem rs_nil {t : Tx} (h : Rs [] t) : t = [] := by
  cases t with
  | nil => rfl
  | cons c t =>
    have := h.2
    simp only [List.flatMap_cons] at this
    exact absurd this.symm (enc_ne (h.1 c (by simp)) _)
theorem rs_cons {L : List UInt8} {c : Nat} {t : Tx} (h : Rs L (c :: t)) : fp L = some (c, (enc c).length) ∧ Rs (L.drop (enc c).length) t := by
  have h2 := h.2
  simp only [List.flatMap_cons] at h2
  refine ⟨fp_some.2 ⟨h.1 c (by simp), rfl, _, h2⟩, fun x hx => h.1 x (by simp [hx]), ?_⟩
  rw [h2, List.drop_left]
theorem cons_rs {L : List UInt8} {c k : Nat} {t : Tx} (h : fp L = some (c, k)) (ht : Rs (L.drop k) t) : Rs L (c :: t) := by
  obtain ⟨hv, hk, u, hu⟩ := fp_some.1 h
  refine ⟨fun x hx => ?_, ?_⟩
  · rcases List.mem_cons.1 hx with rfl | hx
    · exact hv
    · exact ht.1 x hx
  · simp only [List.flatMap_cons]
    rw [← ht.2, hk, hu, List.drop_left]
theorem rs_step {L : List UInt8} {c k : Nat} (h : fp L = some (c, k)) (P : Tx → Prop) : (∃ t, Rs L t ∧ P t) ↔ ∃ t, Rs (L.drop k) t ∧ P (c :: t) := by
  constructor
  · rintro ⟨t, h1, h2⟩
    cases t with
    | nil =>
      have := h1.2
      simp at this
      rw [this] at h
      have := fp_len h
      simp at this
      omega
    | cons d t =>
      obtain ⟨k1, k2⟩ := rs_cons h1
      obtain ⟨e1, e2⟩ := Prod.mk.inj (Option.some.inj (h.symm.trans k1))
      exact ⟨t, by rw [e2]; exact k2, by rw [e1]; exact h2⟩
  · rintro ⟨t, h1, h2⟩
    exact ⟨c :: t, cons_rs h h1, h2⟩
theorem rs_none {L : List UInt8} (h0 : L ≠ []) (h : fp L = none) (P : Tx → Prop) : ¬ ∃ t, Rs L t ∧ P t := by
  rintro ⟨t, h1, _⟩
  cases t with
  | nil => exact h0 (by simpa using h1.2)
  | cons d t =>
    have := (rs_cons h1).1
    rw [h] at this
    cases this

theorem opens_congr {fol lab : Nat → Nat → Prop} {last : Nat → Prop} {op op' : Nat → Prop} {d d' : Prop} (h1 : ∀ q, op q ↔ op' q) (h2 : d ↔ d') (t : Tx) : opens fol lab last op d t ↔ opens fol lab last op' d' t := by
  have e1 : op = op' := funext fun q => propext (h1 q)
  have e2 : d = d' := propext h2
  rw [e1, e2]
/-- Is what is open here to take the bytes? -/
def OpB (E : Es) (M : List Sp) (op : Nat) (en : Bool) (L : List UInt8) : Prop := ∃ t, Rs L t ∧ opens (folM M) (labM M) E.en.last (fun q => op.testBit q = true) (en = true) t
theorem opb_step {E : Es} {M : List Sp} {op : Nat} {en : Bool} {L : List UInt8} {c k : Nat} (h : fp L = some (c, k)) : OpB E M op en L ↔ OpB E M (stF E.last op c 0 M 0 false).1 (stF E.last op c 0 M 0 false).2 (L.drop k) := by
  unfold OpB
  rw [rs_step h]
  have key : ∀ t, opens (folM M) (labM M) E.en.last (fun q => op.testBit q = true) (en = true) (c :: t) ↔ opens (folM M) (labM M) E.en.last (fun q => (stF E.last op c 0 M 0 false).1.testBit q = true) ((stF E.last op c 0 M 0 false).2 = true) t := fun t => by
    rw [opens]
    refine opens_congr (fun q => ?_) ?_ t
    · rw [stF_1]
      simp only [Nat.zero_testBit, Bool.false_eq_true, false_or, Nat.zero_add]
      unfold stepS folM labM
      constructor
      · rintro ⟨p, h1, ⟨s, h2, h3⟩, s', h4, h5⟩
        rw [h2] at h4
        injection h4 with h4
        subst h4
        exact ⟨p, s, h2, h1, h3, h5⟩
      · rintro ⟨p, s, h2, h1, h3, h5⟩
        exact ⟨p, h1, ⟨s, h2, h3⟩, s, h2, h5⟩
    · rw [stF_2]
      simp only [Bool.false_eq_true, false_or, Nat.zero_add]
      unfold endS labM
      constructor
      · rintro ⟨p, h1, ⟨s, h2, h3⟩, h5⟩
        exact ⟨p, s, h2, h1, h3, h5⟩
      · rintro ⟨p, s, h2, h1, h3, h5⟩
        exact ⟨p, h1, ⟨s, h2, h3⟩, h5⟩
  exact ⟨fun ⟨t, h1, h2⟩ => ⟨t, h1, (key t).1 h2⟩, fun ⟨t, h1, h2⟩ => ⟨t, h1, (key t).2 h2⟩⟩
theorem opb_nil {E : Es} {M : List Sp} {op : Nat} {en : Bool} : OpB E M op en [] ↔ en = true := by
  constructor
  · rintro ⟨t, h1, h2⟩
    rw [rs_nil h1] at h2
    exact h2
  · exact fun h => ⟨[], Rs.nil, h⟩
theorem opb_none {E : Es} {M : List Sp} {op : Nat} {en : Bool} {L : List UInt8} (h0 : L ≠ []) (h : fp L = none) : ¬ OpB E M op en L := rs_none h0 h _
theorem opb_means (l : List (List Pt)) (L : List UInt8) : OpB (machL l).1 (machL l).2 (machL l).1.first (machL l).1.emp L ↔ Means l L := by
  unfold OpB Means
  constructor
  · rintro ⟨t, h1, h2⟩; exact ⟨t, h1, (mach_ok l t).1 h2⟩
  · rintro ⟨t, h1, h2⟩; exact ⟨t, h1, (mach_ok l t).2 h2⟩

def strSz : Value → Nat
  | .string x => x.size
  | _ => 0
theorem bts_nil {x : ByteArray} : bts x = [] ↔ x = ⟨#[]⟩ := by
  constructor
  · intro h; exact bts_inj (by rw [h]; rfl)
  · rintro rfl; rfl

set_option maxRecDepth 100000 in
set_option maxHeartbeats 8000000 in
theorem takesP (F : Nat → Prop) (w : World) (p : Nat) (l : List (List Pt)) (hP : PaR F w p l) (v : ByteArray) (hv : v.size ≤ 140737488355328) (R : Bool) (hR : R = true ↔ Means l (bts v)) :
    Calls Tryz.prog 130 #[.pointer (some ⟨p, 1, none⟩), .string v] w fun e w' => e = .returned (.bool R) ∧ Below w.heap.size w w' := by
  have HP := hidden hP
  have HR : Hid (R = true ↔ OpB (machL l).1 (machL l).2 (machL l).1.first (machL l).1.emp (bts v)) := hidden (hR.trans (opb_means l _).symm)
  obtain ⟨ad, c, b, off, sa, sc, vs, h⟩ := hP
  have hB := h.blk
  have hb64 := rowsAdd_b64 l ⟨0, 0, false⟩ [] (by simpa using h.cnt) (Es.b64.zero _)
  change (machL l).1.b64 at hb64
  have HST := hidden (fun w1 (hb : Below w.heap.size w w1) => stepP F w1 p l (HP.out.later hb))
  have HNB : Hid (∀ op x, (stF (machL l).1.last op x 0 (machL l).2 0 false).1 < 18446744073709551616) := hidden (fun op x => stF_b _ _ _ _ _ _ _ (by omega) h.sp.b64)
  clear h hR HP
  obtain ⟨⟨E, M⟩, hR⟩ : ∃ R, machL l = R := ⟨_, rfl⟩
  rw [hR] at hB hb64 HST HNB HR
  obtain ⟨fi, la, em⟩ := E
  simp only at hB hb64 HST HNB HR
  have c2 : w.cell? ⟨p, 2, none⟩ = some (.int .u64 (fi : Int)) := hB.cell 2
  have c4 : w.cell? ⟨p, 4, none⟩ = some (.bool em) := hB.cell 4
  have hf := hb64.1
  simp only at hf
  clear hB hb64 hR
  go_enter Tryz.func130, Tryz.ntmps130
  go_wp2_with fail
  go_quiet (fail)
  clear c2 c4
  go_wp2_with fail
  go_loopw [1, 5, 6] (fun s1 s5 s6 wx => ∃ (x : ByteArray) (op : Nat) (en : Bool), s1 = .string x ∧ s5 = .int .u64 (op : Int) ∧ s6 = .bool en ∧ x.size ≤ 140737488355328 ∧ op < 18446744073709551616 ∧ Hid (R = true ↔ OpB ⟨fi, la, em⟩ M op en (bts x)) ∧ Hid (Below w.heap.size w wx)) (fun s1 _ _ _ => strSz s1)
  case atStart => exact ⟨v, fi, em, rfl, rfl, rfl, hv, hf, HR, hidden (below_drewN (Below.refl _ _) _)⟩
  case round =>
    rename World => wr
    obtain ⟨x, op, en, rfl, rfl, rfl, hxs, hop, hrel, hbel⟩ := hrel
    clear HR hv hf
    by_cases hx : x = ⟨#[]⟩
    · have hE : Hid (R = en) := hidden (by
        have := hrel.out
        rw [bts_nil.2 hx, opb_nil] at this
        cases R <;> cases en <;> simp_all)
      have hem : x.toList.isEmpty = true := by rw [ByteArray.toList_eq]; show (bts x).isEmpty = true; rw [bts_nil.2 hx]; rfl
      clear hrel
      go_wp2
      go_ret
      exact ⟨by rw [hE.out]; rfl, hbel.out⟩
    · have hx0 : bts x ≠ [] := fun e => hx (bts_nil.1 e)
      have hem : x.toList.isEmpty = false := by rw [ByteArray.toList_eq]; show (bts x).isEmpty = false; cases hb : bts x <;> simp_all
      have kF := firstPointP x wr (by omega)
      have HSZ := hidden (size_bts x)
      cases hfp : fp (bts x) with
      | none =>
        rw [hfp] at kF
        simp only [Option.getD_none] at kF
        have hE : Hid (R = false) := hidden (by
          have := hrel.out
          cases R with
          | false => rfl
          | true => exact absurd (this.1 rfl) (opb_none hx0 hfp))
        clear hrel hfp hx0
        go_wp2_with (go_at_call 152; refine kF.mono ?_; rintro e w2 ⟨rfl, h2⟩; have H2 := hidden h2; clear kF h2)
        go_ret
        exact ⟨by rw [hE.out]; rfl, hbel.out.trans (H2.out.mono hbel.out.size)⟩
      | some ck =>
        obtain ⟨cc, k⟩ := ck
        rw [hfp] at kF
        simp only [Option.getD_some] at kF
        have hkl := fp_len hfp
        have hk1 : k ≤ x.size := by rw [HSZ.out]; exact hkl.2
        have hk0 : 1 ≤ k := hkl.1
        have hkz : (k : Int) ≤ (x.size : Int) := by omega
        have hkz0 : ((k : Int) == 0) = false := by simp; omega
        have hkz1 : ¬ (k : Int) = 0 := by omega
        have HST2 : Hid (∀ w2, Below wr.heap.size wr w2 → Calls Tryz.prog 153 #[.pointer (some ⟨p, 1, none⟩), .int .u64 (op : Int), .int .i32 (cc : Int)] w2 fun e w' => e = .returned (.tuple #[.int .u64 ((stF la op cc 0 M 0 false).1 : Int), .bool (stF la op cc 0 M 0 false).2]) ∧ Below w2.heap.size w2 w') := hidden (fun w2 hb => HST.out w2 (hbel.out.trans (hb.mono hbel.out.size)) op cc hop)
        have hnb := HNB.out op cc
        have HREL : Hid (R = true ↔ OpB ⟨fi, la, em⟩ M (stF la op cc 0 M 0 false).1 (stF la op cc 0 M 0 false).2 (bts (x.extract k x.size))) := hidden (by
          rw [hrel.out, opb_step hfp, bts_extract, List.take_of_length_le (by rw [List.length_drop, HSZ.out]; omega)])
        obtain ⟨⟨o2, e2⟩, ho2⟩ : ∃ r, stF la op cc 0 M 0 false = r := ⟨_, rfl⟩
        rw [ho2] at HST2 hnb HREL
        simp only at HST2 hnb HREL
        have HXS : Hid ((x.extract k x.size).size = x.size - k) := hidden (by rw [size_bts, bts_extract, List.take_of_length_le (by rw [List.length_drop, HSZ.out]; omega), List.length_drop, HSZ.out])
        clear hrel hfp hx0 ho2 hkl
        go_wp2_with (first
          | (go_at_call 152; refine kF.mono ?_; rintro e w2 ⟨rfl, h2⟩; have H2 := hidden h2; have kS := HST2.out w2 h2; clear kF h2)
          | (go_at_call 153; refine kS.mono ?_; rintro e w3 ⟨rfl, h3⟩; have H3 := hidden h3; clear kS h3))
        refine ⟨⟨x.extract k x.size, o2, e2, by first | rfl | simp, by first | rfl | simp, by first | rfl | simp, by rw [HXS.out]; omega, hnb, HREL, hidden ?_⟩, ?_⟩
        · have h4 := hbel.out.trans (H2.out.mono hbel.out.size)
          exact h4.trans (H3.out.mono h4.size)
        · simp only [strSz]
          rw [HXS.out]
          omega

set_option maxRecDepth 100000 in
set_option maxHeartbeats 8000000 in
/-- MATCH TELLS WHAT THE TREE MEANS. -/
theorem matchP (F : Nat → Prop) (w : World) (p : Nat) (l : List (List Pt)) (hP : PaR F w p l) (v : ByteArray) (hv : v.size ≤ 140737488355328) (R : Bool) (hR : R = true ↔ Means l (bts v)) :
    Calls Tryz.prog 101 #[.pointer (some ⟨p, 0, none⟩), .string v] w fun e w' => e = .returned (.bool R) ∧ Below w.heap.size w w' := by
  have k := takesP F w p l hP v hv R hR
  clear hP hR
  go_enter Tryz.func101, Tryz.ntmps101
  go_wp2_with (go_at_call 130; refine k.mono ?_; rintro e w2 ⟨rfl, h2⟩; have H2 := hidden h2; clear k h2)
  go_ret
  exact ⟨rfl, H2.out⟩

end Go.Proofs.YtgmdpbahcbhfjaaGreatDoor
