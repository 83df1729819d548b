/-
  The machine: add, of a group and of a repetition.
-/
import Derived.Test.YtanlgplgplncdaaDoorPuH
import Derived.Deep.RegionWith
namespace Go.Proofs.YtanlgplgplncdaaDoor
open Go.RowKit
set_option linter.unusedVariables false
set_option linter.unusedSimpArgs false

/-- A block of a caller's, that a machine knows nothing of. -/
structure Own (F : Nat → Prop) (w : World) (r : Nat) (o : Option Nat) (g : Nat) : Prop where
  lt : g < w.heap.size
  nr : g ≠ r
  no : o ≠ some g
  nF : ¬ F g
theorem Own.on {F F' : Nat → Prop} {w w' : World} {r : Nat} {o o' : Option Nat} {g : Nat} (h : Own F w r o g) (hv : Mv F F' w w' r o o') : Own F' w' r o' g := by
  have := hv.apart h.lt h.nr h.no h.nF
  exact ⟨Nat.lt_of_lt_of_le h.lt hv.chg.size, h.nr, this.1, this.2⟩
theorem Own.blk {F F' : Nat → Prop} {w w' : World} {r : Nat} {o o' : Option Nat} {g : Nat} {t : TypeId} {l : List Value} (h : Own F w r o g) (hv : Mv F F' w w' r o o') (hB : Blk w g t l) : Blk w' g t l :=
  hv.chg.blk hB (by
    rintro (e | e)
    · exact h.nr e
    · exact h.no e)
theorem Own.later {F : Nat → Prop} {w w' : World} {r : Nat} {o : Option Nat} {g : Nat} (h : Own F w r o g) (hb : w.heap.size ≤ w'.heap.size) : Own F w' r o g := ⟨Nat.lt_of_lt_of_le h.lt hb, h.nr, h.no, h.nF⟩
theorem Mch.flt {F : Nat → Prop} {w : World} {r : Nat} {E : Es} {M : List Sp} {o : Option Nat} (h : Mch F w r E M o) : ∀ b, F b → b < w.heap.size := by
  obtain ⟨_, _, _, h, _⟩ := h
  exact h.lt
theorem Mch.nof {F : Nat → Prop} {w : World} {r : Nat} {E : Es} {M : List Sp} {o : Option Nat} (h : Mch F w r E M o) : ¬ F r ∧ ∀ b, F b → o ≠ some b := by
  obtain ⟨_, _, _, h, e⟩ := h
  exact ⟨h.nr, fun b hb => by rw [← e]; exact h.no b hb⟩
theorem Mch.fresh {F : Nat → Prop} {w w' : World} {r : Nat} {E : Es} {M : List Sp} {o : Option Nat} (h : Mch F w r E M o) {g : Nat} (hg : w.heap.size ≤ g) (hl : g < w'.heap.size) : Own F w' r o g :=
  ⟨hl, by have := h.rlt; omega, fun e => by have := h.olt g e; omega, fun e => by have := h.flt g e; omega⟩
/-- A store into such a block. -/
theorem Mch.store {F : Nat → Prop} {w : World} {r : Nat} {E : Es} {M : List Sp} {o : Option Nat} {g : Nat} (h : Mch F w r E M o) (hg : Own F w r o g) (l : List Value) : Mch F (w.setCells g 0 l) r E M o :=
  h.keep (Chg.sets g l 0 w) (fun e => hg.nr (by have e' : r = g := e; exact e'.symm)) (fun b hb e => hg.no (by have e' : b = g := e; rw [← e']; exact hb)) (fun b hb e => hg.nF (by have e' : b = g := e; rw [← e']; exact hb))
theorem Mv.store {F F' : Nat → Prop} {w w' : World} {r : Nat} {o o' : Option Nat} {g : Nat} (h : Mv F F' w w' r o o') (hg : w.heap.size ≤ g) (l : List Value) : Mv F F' w (w'.setCells g 0 l) r o o' :=
  ⟨h.chg.trans (Chg.sets g l 0 w') (fun i hi e => by have e' : i = g := e; omega), h.mv, h.sub, h.new⟩
theorem Mv.pre {F F' : Nat → Prop} {w W w' : World} {r : Nat} {o o' : Option Nat} (hb : Below w.heap.size w W) (h : Mv F F' W w' r o o') : Mv F F' w w' r o o' := (Mv.below hb).trans h

set_option maxRecDepth 100000 in
set_option maxHeartbeats 8000000 in
theorem add_grp (l : List (List Pt)) (hl : RowsAC l) : AddC (.grp l) := by
  intro F w r E M o v hv hM hlen hfine
  simp only [PtV] at hv
  obtain ⟨ad, c, b, off, rfl, hb, hrv⟩ := hv
  simp only [Pt.cnt] at hlen
  simp only [Pt.fine] at hfine
  simp only [Pt.add]
  obtain ⟨n, hn⟩ : ∃ n, l.length = n := ⟨_, rfl⟩
  obtain ⟨W, hW⟩ : ∃ W, (w.alloc (.cells #[.int .u64 0, .int .u64 0, .bool false] 111)).alloc (.cells #[.slice ad n c] 137) = W := ⟨_, rfl⟩
  have hal : Below w.heap.size w W := by
    have h1 := (Below.refl w.heap.size w).alloc (Nat.le_refl _) (.cells #[.int .u64 0, .int .u64 0, .bool false] 111)
    rw [← hW]; exact h1.alloc h1.size _
  have B1 : Blk W w.heap.size 111 (esC ⟨0, 0, false⟩) := by rw [← hW]; exact (Blk.new w 111 (esC ⟨0, 0, false⟩)).alloc _
  have k19 := hl F W r E M o ad c b off hb (RowsV.keep (Chg.of_below (F := fun _ => False) hal) (fun _ _ h => h) l b off (fun h0 => (hb h0).2) hrv) (hM.later hal) hlen hfine.1 hfine.2
  have hO := hM.fresh (g := w.heap.size) (Nat.le_refl _) B1.lt
  rw [hn] at k19 ⊢
  have k1 := fun w => at74_45 (.agg #[.slice ad n c]) w
  have k2 := fun w => at74_64 (.agg #[.slice ad n c]) w
  have k3 := fun w => at74 (.agg #[.slice ad n c]) w
  have HB1 := hidden B1
  have HO := hidden hO
  have HAL := hidden hal
  rw [← hW] at k19
  have HW := hidden hW
  obtain ⟨R, hR⟩ : ∃ R, rowsAdd l ⟨0, 0, false⟩ M = R := ⟨_, rfl⟩
  rw [hR] at k19 ⊢
  clear hal B1 hM hW hR hb hrv hl hn hO hlen hfine
  unfold AddR
  go_enter Tryd.func55, Tryd.ntmps55
  go_wp2_with (first
    | (go_at_call 55; refine k19.mono ?_; rintro e w2 ⟨rfl, F', o', h1, h2⟩; rw [HW.out] at h2; have H1 := hidden h1; have H2 := hidden h2; have H3 := hidden (HO.out.blk h2 HB1.out); clear k19 h1 h2)
    | (refine wpList_store_blk (l := esC R.1) rfl 111 (.tmp 4) (.tmp 58) rfl rfl w.heap.size H3.out rfl rfl rfl info52 (esC_one _) ?_))
  refine bodyPost_ret (res_add _ _ w.heap.size R.1 rfl (blk_stored H3.out rfl)) rfl ?_
  exact ⟨rfl, F', o', H1.out.store (HO.out.on H2.out) _, (H2.out.pre HAL.out).store (Nat.le_refl _) _⟩

theorem below_drew (w : World) (B : Nat) : Below B w w.drew := ⟨rfl, rfl, rfl, Nat.le_refl _, fun _ _ => rfl⟩

set_option maxRecDepth 100000 in
set_option maxHeartbeats 8000000 in
theorem add_rep (a : Pt) (s : Nat) (ha : AddC a) : AddC (.rep a s) := by
  intro F w r E M o v hv hM hlen hfine
  simp only [PtV] at hv
  obtain ⟨u, rfl, hu⟩ := hv
  simp only [Pt.cnt] at hlen
  simp only [Pt.fine] at hfine
  simp only [Pt.add]
  obtain ⟨t, u', rfl⟩ := hu.form
  obtain ⟨W, hW⟩ : ∃ W, (w.alloc (.cells #[.int .u64 0, .int .u64 0, .bool false] 111)).alloc (.cells #[.iface t u', .int .u8 (s : Int)] 139) = W := ⟨_, rfl⟩
  have hal : Below w.heap.size w W := by
    have h1 := (Below.refl w.heap.size w).alloc (Nat.le_refl _) (.cells #[.int .u64 0, .int .u64 0, .bool false] 111)
    rw [← hW]; exact h1.alloc h1.size _
  have B1 : Blk W w.heap.size 111 (esC ⟨0, 0, false⟩) := by rw [← hW]; exact (Blk.new w 111 (esC ⟨0, 0, false⟩)).alloc _
  have B2 : Blk W (w.heap.size + 1) 139 [.iface t u', .int .u8 (s : Int)] := by
    have := Blk.new (w.alloc (.cells #[.int .u64 0, .int .u64 0, .bool false] 111)) 139 [.iface t u', .int .u8 (s : Int)]
    rw [show (w.alloc (.cells #[.int .u64 0, .int .u64 0, .bool false] 111)).heap.size = w.heap.size + 1 by simp] at this
    rw [← hW]
    exact this
  have hal2 : Below w.heap.size w W.drew := hal.trans (below_drew W _)
  have k19 := ha F W.drew r E M o (.iface t u') (PtV.keep (Chg.of_below (F := fun _ => False) hal2) (fun _ _ h => h) a _ hu) (hM.later hal2) hlen hfine.1
  have hO := hM.fresh (g := w.heap.size) (Nat.le_refl _) B1.lt
  have hO2 := hM.fresh (g := w.heap.size + 1) (by omega) B2.lt
  have k1 := fun w => at76_45 (.agg #[.iface t u', .int .u8 (s : Int)]) w
  have k2 := fun w => at76_64 (.agg #[.iface t u', .int .u8 (s : Int)]) w
  have k3 := fun w => at76_74 (.agg #[.iface t u', .int .u8 (s : Int)]) w
  have k4 := fun w => at76 (.agg #[.iface t u', .int .u8 (s : Int)]) w
  have hb64 := Pt.add_b64 a M hlen
  have hln := Pt.add_len a M
  obtain ⟨⟨E1, M1⟩, hR⟩ : ∃ R, a.add M = R := ⟨_, rfl⟩
  rw [hR] at k19 hb64 hln ⊢
  simp only at hb64 hln
  have HNX : Hid (∀ w2, AddR F W.drew r E o (E1, M1) (.returned (esV E1)) w2 → (w2.cell? ⟨w.heap.size + 1, 1, none⟩ = some (.int .u8 (s : Int))) ∧ Calls Tryd.prog 63 #[.pointer (some ⟨r, 0, none⟩), esV E1, .int .u8 (s : Int)] w2 fun e w3 => e = .returned (esV (repM E1 M1 s).1) ∧ Blk w3 w.heap.size 111 (esC ⟨0, 0, false⟩) ∧ ∃ F' o', Mch F' (w3.setCells w.heap.size 0 (esC (repM E1 M1 s).1)) r E (repM E1 M1 s).2 o' ∧ Mv F F' w (w3.setCells w.heap.size 0 (esC (repM E1 M1 s).1)) r o o') := hidden (by
    rintro w2 ⟨_, F', o', h1, h2⟩
    have hOd : Own F W.drew r o w.heap.size := hO.later (Nat.le_refl _)
    have hO2d : Own F W.drew r o (w.heap.size + 1) := hO2.later (Nat.le_refl _)
    have hx := hO2d.blk h2 B2.drew
    refine ⟨hx.cell 1, ?_⟩
    refine (repeatedP F' w2 r E M1 o' E1 s hb64 h1 (by omega)).mono ?_
    rintro e w3 ⟨rfl, h3, h4⟩
    have hv := h2.trans h4
    exact ⟨rfl, hOd.blk hv B1.drew, F', o', h3.store (hOd.on hv) _, (hv.pre hal2).store (Nat.le_refl _) _⟩)
  rw [← hW] at k19
  have HW := hidden hW
  obtain ⟨⟨E2, M2⟩, hR2⟩ : ∃ R, repM E1 M1 s = R := ⟨_, rfl⟩
  rw [hR2] at HNX ⊢
  obtain ⟨f2, l2, e2⟩ := E2
  have HNX : Hid (∀ w2, AddR F W.drew r E o (E1, M1) (.returned (esV E1)) w2 → (w2.cell? ⟨w.heap.size + 1, 1, none⟩ = some (.int .u8 (s : Int))) ∧ Calls Tryd.prog 63 #[.pointer (some ⟨r, 0, none⟩), esV E1, .int .u8 (s : Int)] w2 fun e w3 => e = .returned (.agg #[.int .u64 (f2 : Int), .int .u64 (l2 : Int), .bool e2]) ∧ Blk w3 w.heap.size 111 (esC ⟨0, 0, false⟩) ∧ ∃ F' o', Mch F' (w3.setCells w.heap.size 0 (esC ⟨f2, l2, e2⟩)) r E M2 o' ∧ Mv F F' w (w3.setCells w.heap.size 0 (esC ⟨f2, l2, e2⟩)) r o o') := HNX
  clear hal hal2 B1 B2 hM hW hR hR2 hu hO hO2 hlen hfine hb64 hln
  unfold AddR
  go_enter Tryd.func55, Tryd.ntmps55
  go_upto_region 25 with fail
  go_region_with (first
    | (go_at_call 55; refine k19.mono ?_; intro e w2 hh; obtain ⟨rfl, F', o', h1, h2⟩ := hh; rw [HW.out] at h2; have HH := hidden (HNX.out w2 ⟨rfl, F', o', h1, h2⟩); have z1 := HH.out.1; clear h1 h2)
    | (go_at_call 63; refine HH.out.2.mono ?_; rintro e w3 ⟨rfl, h3, h4⟩; have H3 := hidden h3; have H4 := hidden h4; have y0 : w3.cell? ⟨w.heap.size, 0, none⟩ = some (.int .u64 0) := h3.cell 0; have y1 : w3.cell? ⟨w.heap.size, 1, none⟩ = some (.int .u64 0) := h3.cell 1; have y2 : w3.cell? ⟨w.heap.size, 2, none⟩ = some (.bool false) := h3.cell 2; have q0 := h3.frozen 0; have q1 := h3.frozen 1; have q2 := h3.frozen 2; clear h3 h4))
  all_goals
    go_wp2
    refine bodyPost_ret (res_add _ _ w.heap.size ⟨f2, l2, e2⟩ rfl (blk_stored (l := esC ⟨f2, l2, e2⟩) H3.out rfl)) rfl ?_
    exact ⟨rfl, H4.out⟩

end Go.Proofs.YtanlgplgplncdaaDoor
