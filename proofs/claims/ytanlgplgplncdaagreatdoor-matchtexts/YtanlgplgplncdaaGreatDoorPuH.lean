import Derived.Test.YtanlgplgplncdaaGreatDoorPuF
import Derived.Deep.RegionWith
/-
  The machine: add, of one spot.
-/
namespace Go.Proofs.YtanlgplgplncdaaGreatDoor
open Go.RowKit
set_option linter.unusedVariables false
set_option linter.unusedSimpArgs false

section
set_option maxRecDepth 100000
theorem at45 (v : Value) (w : World) : (Instr.typeAssert (.iface 156 v) 189 156 true).run Tryz.prog w = .ok (.tuple #[v, .bool true]) w := by rfl
theorem at64_45 (v : Value) (w : World) : (Instr.typeAssert (.iface 175 v) 189 156 true).run Tryz.prog w = .ok (.tuple #[.slice none 0 0, .bool false]) w := by rfl
theorem at64 (v : Value) (w : World) : (Instr.typeAssert (.iface 175 v) 189 175 true).run Tryz.prog w = .ok (.tuple #[v, .bool true]) w := by rfl
theorem at74_45 (v : Value) (w : World) : (Instr.typeAssert (.iface 194 v) 189 156 true).run Tryz.prog w = .ok (.tuple #[.slice none 0 0, .bool false]) w := by rfl
theorem at74_64 (v : Value) (w : World) : (Instr.typeAssert (.iface 194 v) 189 175 true).run Tryz.prog w = .ok (.tuple #[.slice none 0 0, .bool false]) w := by rfl
theorem at74 (v : Value) (w : World) : (Instr.typeAssert (.iface 194 v) 189 194 true).run Tryz.prog w = .ok (.tuple #[v, .bool true]) w := by rfl
theorem at76_45 (v : Value) (w : World) : (Instr.typeAssert (.iface 196 v) 189 156 true).run Tryz.prog w = .ok (.tuple #[.slice none 0 0, .bool false]) w := by rfl
theorem at76_64 (v : Value) (w : World) : (Instr.typeAssert (.iface 196 v) 189 175 true).run Tryz.prog w = .ok (.tuple #[.slice none 0 0, .bool false]) w := by rfl
theorem at76_74 (v : Value) (w : World) : (Instr.typeAssert (.iface 196 v) 189 194 true).run Tryz.prog w = .ok (.tuple #[.agg #[.slice none 0 0], .bool false]) w := by rfl
theorem at76 (v : Value) (w : World) : (Instr.typeAssert (.iface 196 v) 189 196 true).run Tryz.prog w = .ok (.tuple #[v, .bool true]) w := by rfl
def leafT (t : Nat) : Prop := t = 207 ∨ t = 211 ∨ t = 214
theorem atL_45 {t : Nat} (h : leafT t) (v : Value) (w : World) : (Instr.typeAssert (.iface t v) 189 156 true).run Tryz.prog w = .ok (.tuple #[.slice none 0 0, .bool false]) w := by rcases h with rfl | rfl | rfl <;> rfl
theorem atL_64 {t : Nat} (h : leafT t) (v : Value) (w : World) : (Instr.typeAssert (.iface t v) 189 175 true).run Tryz.prog w = .ok (.tuple #[.slice none 0 0, .bool false]) w := by rcases h with rfl | rfl | rfl <;> rfl
theorem atL_74 {t : Nat} (h : leafT t) (v : Value) (w : World) : (Instr.typeAssert (.iface t v) 189 194 true).run Tryz.prog w = .ok (.tuple #[.agg #[.slice none 0 0], .bool false]) w := by rcases h with rfl | rfl | rfl <;> rfl
theorem atL_76 {t : Nat} (h : leafT t) (v : Value) (w : World) : (Instr.typeAssert (.iface t v) 189 196 true).run Tryz.prog w = .ok (.tuple #[.agg #[.nilIface, .int .u8 0], .bool false]) w := by rcases h with rfl | rfl | rfl <;> rfl
end

/-- What add promises. -/
def AddR (F : Nat → Prop) (w : World) (r : Nat) (E : Es) (o : Option Nat) (R : Es × List Sp) (e : Ending) (w' : World) : Prop := e = .returned (esV R.1) ∧ ∃ F' o', Mch F' w' r E R.2 o' ∧ Mv F F' w w' r o o'
def AddC (p : Pt) : Prop := ∀ (F : Nat → Prop) (w : World) (r : Nat) (E : Es) (M : List Sp) (o : Option Nat) (v : Value), PtV F w p v → Mch F w r E M o → M.length + p.cnt ≤ 64 → p.fine → Calls Tryz.prog 98 #[.pointer (some ⟨r, 0, none⟩), v] w (AddR F w r E o (p.add M))
def RowAC (l : List Pt) : Prop := ∀ (F : Nat → Prop) (w : World) (r : Nat) (E : Es) (M : List Sp) (o : Option Nat) (ad : Option Addr) (c b off : Nat), (l ≠ [] → ad = some ⟨b, off, none⟩ ∧ F b) → RowV F w l b off → Mch F w r E M o → M.length + rowCnt l ≤ 64 → rowFine l → l.length ≤ 1000 → Calls Tryz.prog 98 #[.pointer (some ⟨r, 0, none⟩), .iface 175 (.slice ad l.length c)] w (AddR F w r E o (rowAdd l ⟨0, 0, true⟩ M))
def RowsAC (l : List (List Pt)) : Prop := ∀ (F : Nat → Prop) (w : World) (r : Nat) (E : Es) (M : List Sp) (o : Option Nat) (ad : Option Addr) (c b off : Nat), (l ≠ [] → ad = some ⟨b, off, none⟩ ∧ F b) → RowsV F w l b off → Mch F w r E M o → M.length + rowsCnt l ≤ 64 → rowsFine l → l.length ≤ 1000 → Calls Tryz.prog 98 #[.pointer (some ⟨r, 0, none⟩), .iface 156 (.slice ad l.length c)] w (AddR F w r E o (rowsAdd l ⟨0, 0, false⟩ M))

/-- Of a part of one spot: what it takes. -/
theorem othS_len : ∀ (l : Sn) (low : Nat), (othS low l).length ≤ l.length + 1
  | [], low => by rw [othS]; split <;> simp
  | s :: t, low => by
    rw [othS]
    have := othS_len t (s.2 + 1)
    simp only [List.length_append, List.length_cons]
    split
    · simp only [List.length_cons, List.length_nil]; omega
    · simp only [List.length_nil]; omega
theorem tkv_owns {w w' : World} {a' : Option Addr} {c' n : Nat} {l : Sn} {F : Nat → Prop} (hl : l.length = n) (hs : Ss w' a' l) (hlen : n ≤ 2000) (hf : ∀ y, l ≠ [] → a' = some y → F y.block ∨ FW w w' y.block) : TkV (fun b => F b ∨ FW w w' b) w' (.slice a' n c') l :=
  ⟨a', c', by rw [hl], hs, hf, by omega⟩
theorem ss_lt {w : World} {ad : Option Addr} {l : Sn} (h : Ss w ad l) (h0 : l ≠ []) (y : Addr) (e : ad = some y) : y.block < w.heap.size := by
  obtain ⟨b, off, e1, hlt, _⟩ := h.at' h0
  rw [e] at e1
  injection e1 with e1
  subst e1
  exact hlt
theorem spans_of (F : Nat → Prop) (p : Pt) (v : Value) (w : World) (h : PtV F w p v) (hf : p.fine) (hl : ∃ t u, v = .iface t u ∧ leafT t) :
    Calls Tryz.prog 110 #[v] w fun e w' => ∃ tv, e = .returned tv ∧ TkV (fun b => F b ∨ FW w w' b) w' tv p.spans ∧ Below w.heap.size w w' := by
  cases p with
  | chr c =>
    simp only [PtV] at h
    obtain ⟨rfl, hc⟩ := h
    refine (spansChr c hc w).mono ?_
    rintro e w' ⟨rfl, hb, hbl⟩
    refine ⟨_, rfl, ⟨_, 1, rfl, ss_blk hb (fun x hx => by simp [Pt.spans] at hx; subst hx; exact ⟨hc, hc⟩), fun y _ e => Or.inr ?_, by simp [Pt.spans]⟩, hbl⟩
    injection e with e
    subst e
    exact ⟨Nat.le_refl _, hb.lt⟩
  | any =>
    simp only [PtV] at h
    subst h
    refine (spansAny w).mono ?_
    rintro e w' ⟨a', c', rfl, ho, hbd, hbl⟩
    have hs := ss_of_owns ho hbd
    refine ⟨_, rfl, ⟨a', c', rfl, hs, fun y h0 e => Or.inr ⟨?_, ss_lt hs h0 y e⟩, by have := othS_len [] 0; simp at this; simp only [Pt.spans]; omega⟩, hbl⟩
    subst e
    obtain ⟨a2, c2, e2, _, hsp, _⟩ := owns_formS ho
    injection e2 with e3 _ _
    obtain ⟨z0, z1⟩ := hsp y e3.symm
    obtain ⟨b, off, sp⟩ := y
    simp only at z0 z1
    subst z0 z1
    exact (ho.lt b (by simp [Value.ownBlock])).1
  | cls neg l =>
    simp only [PtV] at h
    simp only [Pt.fine] at hf
    refine (spansCls F v neg l w h hf.1).mono ?_
    rintro e w' ⟨a', c', rfl, hs, hbd, hbk, hbl⟩
    refine ⟨_, rfl, ⟨a', c', rfl, hs, fun y h0 e => ?_, ?_⟩, hbl⟩
    · rcases hbk y h0 e with h1 | h1
      · exact Or.inl h1
      · exact Or.inr ⟨h1, ss_lt hs h0 y e⟩
    · have := othS_len l 0
      have := hf.1
      simp only [Pt.spans]
      split <;> omega
  | grp l =>
    simp only [PtV] at h
    obtain ⟨ad, c, b, off, rfl, _⟩ := h
    obtain ⟨t, u, e, ht⟩ := hl
    injection e with e1 e2
    subst e1
    rcases ht with ht | ht | ht <;> exact absurd ht (by decide)
  | rep a s =>
    simp only [PtV] at h
    obtain ⟨u, rfl, _⟩ := h
    obtain ⟨t, u, e, ht⟩ := hl
    injection e with e1 e2
    subst e1
    rcases ht with ht | ht | ht <;> exact absurd ht (by decide)

theorem res_add (tmps : Array Value) (w : World) (g : Nat) (e : Es) (hp : tmps.getD 4 undef = .pointer (some ⟨g, 0, none⟩)) (h : Blk w g 163 (esC e)) :
    (results Tryz.f98 tmps).run Tryz.prog w = .ok (esV e) w := by
  have h0 : w.cell? ⟨g, 0, none⟩ = some (.int .u64 (e.first : Int)) := h.cell 0
  have h1 : w.cell? ⟨g, 1, none⟩ = some (.int .u64 (e.last : Int)) := h.cell 1
  have h2 : w.cell? ⟨g, 2, none⟩ = some (.bool e.emp) := h.cell 2
  have hr : Tryz.f98.results = #[.cell 4 163] := by kernel_rfl
  have hp' : tmps[4]?.getD undef = .pointer (some ⟨g, 0, none⟩) := by simpa using hp
  simp [results, hr, hp', asAddr, loadVar, h0, h1, h2, go_sem, esV]

/-- A machine beside a block of its caller's that lies above all that it knows. -/
theorem Mv.apart {F F' : Nat → Prop} {w w' : World} {r : Nat} {o o' : Option Nat} {g : Nat} (h : Mv F F' w w' r o o') (hg : g < w.heap.size) (hr : g ≠ r) (ho : o ≠ some g) (hF : ¬ F g) : o' ≠ some g ∧ ¬ F' g := by
  refine ⟨fun e => ?_, fun e => ?_⟩
  · rcases h.mv with e1 | ⟨k, e1, hk⟩
    · exact ho (by rw [← e1]; exact e)
    · rw [e1] at e; injection e with e; omega
  · rcases h.new g e with e1 | e1
    · exact hF e1
    · omega

set_option maxRecDepth 100000 in
set_option maxHeartbeats 8000000 in
theorem add_leaf (p : Pt) (hp : ∀ (F : Nat → Prop) (w : World) (v : Value), PtV F w p v → ∃ t u, v = .iface t u ∧ leafT t) (hc : p.cnt = 1) (ha : ∀ M, p.add M = spotM M p.spans) : AddC p := by
  intro F w r E M o v hv hM hlen hfine
  obtain ⟨t, u, rfl, ht⟩ := hp F w v hv
  rw [ha, hc] at *
  obtain ⟨W, hW⟩ : ∃ W, w.alloc (.cells #[.int .u64 0, .int .u64 0, .bool false] 163) = W := ⟨_, rfl⟩
  have hal : Below w.heap.size w W := by rw [← hW]; exact (Below.refl _ w).alloc (Nat.le_refl _) _
  have B1 : Blk W w.heap.size 163 (esC ⟨0, 0, false⟩) := by rw [← hW]; exact Blk.new w 163 (esC ⟨0, 0, false⟩)
  have hM1 := hM.later hal
  have hv1 := PtV.keep (Chg.of_below (F := fun _ => False) hal) (fun _ _ h => h) p _ hv
  have k25 := spans_of F p (.iface t u) W hv1 hfine ⟨t, u, rfl, ht⟩
  have HFL : Hid (∀ b, F b → b < w.heap.size) := hidden (by obtain ⟨_, _, _, h, _⟩ := hM; exact h.lt)
  have hRL := hM.rlt
  have HNF : Hid (¬ F r ∧ ∀ b, F b → o ≠ some b) := hidden (by obtain ⟨_, _, _, h, e⟩ := hM; exact ⟨h.nr, fun b hb => by rw [← e]; exact h.no b hb⟩)
  have hOL := hM.olt
  have k1 := fun w => atL_45 ht u w
  have k2 := fun w => atL_64 ht u w
  have k3 := fun w => atL_74 ht u w
  have k4 := fun w => atL_76 ht u w
  -- behind spansOf, behind addSpot
  have HST : Hid (∀ (w2 : World) (tv : Value), TkV (fun b => F b ∨ FW W w2 b) w2 tv p.spans → Below W.heap.size W w2 → Calls Tryz.prog 109 #[.pointer (some ⟨r, 0, none⟩), tv] w2 fun e w3 => e = .returned (esV (spotM M p.spans).1) ∧ Blk w3 w.heap.size 163 (esC ⟨0, 0, false⟩) ∧ ∃ F' o', Mch F' (w3.setCells w.heap.size 0 (esC (spotM M p.spans).1)) r E (spotM M p.spans).2 o' ∧ Mv F F' w (w3.setCells w.heap.size 0 (esC (spotM M p.spans).1)) r o o') := hidden (fun w2 tv h1 h2 => by
    have hWs := hal.size
    have hWl := B1.lt
    have hm2 : Mch (fun b => F b ∨ FW W w2 b) w2 r E M o := (hM1.later h2).more (fun b hb => .inl hb) (fun e => by
        rcases e with e | e
        · exact HNF.out.1 e
        · have := e.1; omega) (fun b hb e => by
        rcases hb with hb | hb
        · exact HNF.out.2 b hb e
        · have := hOL b e; have := hb.1; omega) (fun b hb => by
        rcases hb with hb | hb
        · have := HFL.out b hb; have := h2.size; omega
        · exact hb.2)
    refine (addSpotP _ w2 r E M o tv p.spans hm2 h1 (by omega)).mono ?_
    rintro e w3 ⟨rfl, o', hm3, hv3⟩
    have hgw : w.heap.size < w2.heap.size := by have := h2.size; omega
    have hgo : o ≠ some w.heap.size := fun e => by have := hOL _ e; omega
    have hgF : ¬ (F w.heap.size ∨ FW W w2 w.heap.size) := by
      rintro (e | e)
      · have := HFL.out _ e; omega
      · have := e.1; omega
    have hap := hv3.apart hgw (by omega) hgo hgF
    have hB3 : Blk w3 w.heap.size 163 (esC ⟨0, 0, false⟩) := hv3.chg.blk (B1.later h2) (by
      rintro (e | e)
      · omega
      · exact hgo e)
    have hcs := Chg.sets w.heap.size (esC (spotM M p.spans).1) 0 w3
    refine ⟨rfl, hB3, _, o', hm3.keep hcs (fun e => by have e' : r = w.heap.size := e; omega) (fun b hb e => hap.1 (by have e' : b = w.heap.size := e; rw [← e']; exact hb)) (fun b hb e => hap.2 (by have e' : b = w.heap.size := e; rw [← e']; exact hb)), ?_⟩
    have c1 : Chg (fun b => b = r ∨ o = some b) w w2 := (Chg.of_below hal).trans (Chg.of_below (F := fun _ => False) h2) (fun _ _ h => h.elim)
    refine ⟨(c1.trans hv3.chg (fun _ _ h => h)).trans hcs (fun i hi e => by have e' : i = w.heap.size := e; omega), ?_, fun b hb => .inl hb, fun b hb => ?_⟩
    · rcases hv3.mv with e1 | ⟨k, e1, hk⟩
      · exact .inl e1
      · exact .inr ⟨k, e1, by omega⟩
    · rcases hb with hb | hb
      · exact .inl hb
      · exact .inr (by have := hb.1; omega))
  have HAL := hidden hal
  rw [← hW] at k25
  have HW := hidden hW
  obtain ⟨R, hR⟩ : ∃ R, spotM M p.spans = R := ⟨_, rfl⟩
  rw [hR] at HST ⊢
  clear hal B1 hM1 hv1 hv hM hRL hOL ht hfine hlen hW hR ha hc hp
  unfold AddR
  go_enter Tryz.func98, Tryz.ntmps98
  go_wp2_with (first
    | (go_at_call 110; refine k25.mono ?_; rintro e w2 ⟨tv, rfl, h1, h2⟩; rw [HW.out] at h1 h2; have kS := HST.out w2 tv h1 h2; clear k25 h1 h2 HST)
    | (go_at_call 109; refine kS.mono ?_; rintro e w3 ⟨rfl, h3, h4⟩; have H3 := hidden h3; have H4 := hidden h4; clear kS h3 h4)
    | (refine wpList_store_blk (l := esC R.1) rfl 163 (.tmp 4) (.tmp 73) rfl rfl w.heap.size H3.out rfl rfl rfl info52 (esC_one _) ?_))
  refine bodyPost_ret (res_add _ _ w.heap.size R.1 rfl (blk_stored H3.out rfl)) rfl ?_
  exact ⟨rfl, H4.out⟩

theorem add_chr (c : Nat) : AddC (.chr c) := add_leaf _ (fun F w v h => by simp only [PtV] at h; exact ⟨207, _, h.1, .inl rfl⟩) rfl (fun M => rfl)
theorem add_any : AddC .any := add_leaf _ (fun F w v h => by simp only [PtV] at h; exact ⟨211, _, h, .inr (.inl rfl)⟩) rfl (fun M => rfl)
theorem add_cls (neg : Bool) (l : Sn) : AddC (.cls neg l) := add_leaf _ (fun F w v h => by simp only [PtV] at h; obtain ⟨ad, c, e, _⟩ := h; exact ⟨214, _, e, .inr (.inr rfl)⟩) rfl (fun M => rfl)

end Go.Proofs.YtanlgplgplncdaaGreatDoor

/-
  The machine: add, of a group and of a repetition.
-/
namespace Go.Proofs.YtanlgplgplncdaaGreatDoor
open Go.RowKit
set_option linter.unusedVariables false
set_option linter.unusedSimpArgs false

/-- A block of a caller's, that a machine knows nothing of. -/
structure Own (F : Nat → Prop) (w : World) (r : Nat) (o : Option Nat) (g : Nat) : Prop where
  lt : g < w.heap.size
  nr : g ≠ r
  no : o ≠ some g
  nF : ¬ F g
theorem Own.on {F F' : Nat → Prop} {w w' : World} {r : Nat} {o o' : Option Nat} {g : Nat} (h : Own F w r o g) (hv : Mv F F' w w' r o o') : Own F' w' r o' g := by
  have := hv.apart h.lt h.nr h.no h.nF
  exact ⟨Nat.lt_of_lt_of_le h.lt hv.chg.size, h.nr, this.1, this.2⟩
theorem Own.blk {F F' : Nat → Prop} {w w' : World} {r : Nat} {o o' : Option Nat} {g : Nat} {t : TypeId} {l : List Value} (h : Own F w r o g) (hv : Mv F F' w w' r o o') (hB : Blk w g t l) : Blk w' g t l :=
  hv.chg.blk hB (by
    rintro (e | e)
    · exact h.nr e
    · exact h.no e)
theorem Own.later {F : Nat → Prop} {w w' : World} {r : Nat} {o : Option Nat} {g : Nat} (h : Own F w r o g) (hb : w.heap.size ≤ w'.heap.size) : Own F w' r o g := ⟨Nat.lt_of_lt_of_le h.lt hb, h.nr, h.no, h.nF⟩
theorem Mch.flt {F : Nat → Prop} {w : World} {r : Nat} {E : Es} {M : List Sp} {o : Option Nat} (h : Mch F w r E M o) : ∀ b, F b → b < w.heap.size := by
  obtain ⟨_, _, _, h, _⟩ := h
  exact h.lt
theorem Mch.nof {F : Nat → Prop} {w : World} {r : Nat} {E : Es} {M : List Sp} {o : Option Nat} (h : Mch F w r E M o) : ¬ F r ∧ ∀ b, F b → o ≠ some b := by
  obtain ⟨_, _, _, h, e⟩ := h
  exact ⟨h.nr, fun b hb => by rw [← e]; exact h.no b hb⟩
theorem Mch.fresh {F : Nat → Prop} {w w' : World} {r : Nat} {E : Es} {M : List Sp} {o : Option Nat} (h : Mch F w r E M o) {g : Nat} (hg : w.heap.size ≤ g) (hl : g < w'.heap.size) : Own F w' r o g :=
  ⟨hl, by have := h.rlt; omega, fun e => by have := h.olt g e; omega, fun e => by have := h.flt g e; omega⟩
/-- A store into such a block. -/
theorem Mch.store {F : Nat → Prop} {w : World} {r : Nat} {E : Es} {M : List Sp} {o : Option Nat} {g : Nat} (h : Mch F w r E M o) (hg : Own F w r o g) (l : List Value) : Mch F (w.setCells g 0 l) r E M o :=
  h.keep (Chg.sets g l 0 w) (fun e => hg.nr (by have e' : r = g := e; exact e'.symm)) (fun b hb e => hg.no (by have e' : b = g := e; rw [← e']; exact hb)) (fun b hb e => hg.nF (by have e' : b = g := e; rw [← e']; exact hb))
theorem Mv.store {F F' : Nat → Prop} {w w' : World} {r : Nat} {o o' : Option Nat} {g : Nat} (h : Mv F F' w w' r o o') (hg : w.heap.size ≤ g) (l : List Value) : Mv F F' w (w'.setCells g 0 l) r o o' :=
  ⟨h.chg.trans (Chg.sets g l 0 w') (fun i hi e => by have e' : i = g := e; omega), h.mv, h.sub, h.new⟩
theorem Mv.pre {F F' : Nat → Prop} {w W w' : World} {r : Nat} {o o' : Option Nat} (hb : Below w.heap.size w W) (h : Mv F F' W w' r o o') : Mv F F' w w' r o o' := (Mv.below hb).trans h

set_option maxRecDepth 100000 in
set_option maxHeartbeats 8000000 in
theorem add_grp (l : List (List Pt)) (hl : RowsAC l) : AddC (.grp l) := by
  intro F w r E M o v hv hM hlen hfine
  simp only [PtV] at hv
  obtain ⟨ad, c, b, off, rfl, hb, hrv⟩ := hv
  simp only [Pt.cnt] at hlen
  simp only [Pt.fine] at hfine
  simp only [Pt.add]
  obtain ⟨n, hn⟩ : ∃ n, l.length = n := ⟨_, rfl⟩
  obtain ⟨W, hW⟩ : ∃ W, (w.alloc (.cells #[.int .u64 0, .int .u64 0, .bool false] 163)).alloc (.cells #[.slice ad n c] 194) = W := ⟨_, rfl⟩
  have hal : Below w.heap.size w W := by
    have h1 := (Below.refl w.heap.size w).alloc (Nat.le_refl _) (.cells #[.int .u64 0, .int .u64 0, .bool false] 163)
    rw [← hW]; exact h1.alloc h1.size _
  have B1 : Blk W w.heap.size 163 (esC ⟨0, 0, false⟩) := by rw [← hW]; exact (Blk.new w 163 (esC ⟨0, 0, false⟩)).alloc _
  have k19 := hl F W r E M o ad c b off hb (RowsV.keep (Chg.of_below (F := fun _ => False) hal) (fun _ _ h => h) l b off (fun h0 => (hb h0).2) hrv) (hM.later hal) hlen hfine.1 hfine.2
  have hO := hM.fresh (g := w.heap.size) (Nat.le_refl _) B1.lt
  rw [hn] at k19 ⊢
  have k1 := fun w => at74_45 (.agg #[.slice ad n c]) w
  have k2 := fun w => at74_64 (.agg #[.slice ad n c]) w
  have k3 := fun w => at74 (.agg #[.slice ad n c]) w
  have HB1 := hidden B1
  have HO := hidden hO
  have HAL := hidden hal
  rw [← hW] at k19
  have HW := hidden hW
  obtain ⟨R, hR⟩ : ∃ R, rowsAdd l ⟨0, 0, false⟩ M = R := ⟨_, rfl⟩
  rw [hR] at k19 ⊢
  clear hal B1 hM hW hR hb hrv hl hn hO hlen hfine
  unfold AddR
  go_enter Tryz.func98, Tryz.ntmps98
  go_wp2_with (first
    | (go_at_call 98; refine k19.mono ?_; rintro e w2 ⟨rfl, F', o', h1, h2⟩; rw [HW.out] at h2; have H1 := hidden h1; have H2 := hidden h2; have H3 := hidden (HO.out.blk h2 HB1.out); clear k19 h1 h2)
    | (refine wpList_store_blk (l := esC R.1) rfl 163 (.tmp 4) (.tmp 58) rfl rfl w.heap.size H3.out rfl rfl rfl info52 (esC_one _) ?_))
  refine bodyPost_ret (res_add _ _ w.heap.size R.1 rfl (blk_stored H3.out rfl)) rfl ?_
  exact ⟨rfl, F', o', H1.out.store (HO.out.on H2.out) _, (H2.out.pre HAL.out).store (Nat.le_refl _) _⟩

theorem below_drew (w : World) (B : Nat) : Below B w w.drew := ⟨rfl, rfl, rfl, Nat.le_refl _, fun _ _ => rfl⟩

set_option maxRecDepth 100000 in
set_option maxHeartbeats 8000000 in
theorem add_rep (a : Pt) (s : Nat) (ha : AddC a) : AddC (.rep a s) := by
  intro F w r E M o v hv hM hlen hfine
  simp only [PtV] at hv
  obtain ⟨u, rfl, hu⟩ := hv
  simp only [Pt.cnt] at hlen
  simp only [Pt.fine] at hfine
  simp only [Pt.add]
  obtain ⟨t, u', rfl⟩ := hu.form
  obtain ⟨W, hW⟩ : ∃ W, (w.alloc (.cells #[.int .u64 0, .int .u64 0, .bool false] 163)).alloc (.cells #[.iface t u', .int .u8 (s : Int)] 196) = W := ⟨_, rfl⟩
  have hal : Below w.heap.size w W := by
    have h1 := (Below.refl w.heap.size w).alloc (Nat.le_refl _) (.cells #[.int .u64 0, .int .u64 0, .bool false] 163)
    rw [← hW]; exact h1.alloc h1.size _
  have B1 : Blk W w.heap.size 163 (esC ⟨0, 0, false⟩) := by rw [← hW]; exact (Blk.new w 163 (esC ⟨0, 0, false⟩)).alloc _
  have B2 : Blk W (w.heap.size + 1) 196 [.iface t u', .int .u8 (s : Int)] := by
    have := Blk.new (w.alloc (.cells #[.int .u64 0, .int .u64 0, .bool false] 163)) 196 [.iface t u', .int .u8 (s : Int)]
    rw [show (w.alloc (.cells #[.int .u64 0, .int .u64 0, .bool false] 163)).heap.size = w.heap.size + 1 by simp] at this
    rw [← hW]
    exact this
  have hal2 : Below w.heap.size w W.drew := hal.trans (below_drew W _)
  have k19 := ha F W.drew r E M o (.iface t u') (PtV.keep (Chg.of_below (F := fun _ => False) hal2) (fun _ _ h => h) a _ hu) (hM.later hal2) hlen hfine.1
  have hO := hM.fresh (g := w.heap.size) (Nat.le_refl _) B1.lt
  have hO2 := hM.fresh (g := w.heap.size + 1) (by omega) B2.lt
  have k1 := fun w => at76_45 (.agg #[.iface t u', .int .u8 (s : Int)]) w
  have k2 := fun w => at76_64 (.agg #[.iface t u', .int .u8 (s : Int)]) w
  have k3 := fun w => at76_74 (.agg #[.iface t u', .int .u8 (s : Int)]) w
  have k4 := fun w => at76 (.agg #[.iface t u', .int .u8 (s : Int)]) w
  have hb64 := Pt.add_b64 a M hlen
  have hln := Pt.add_len a M
  obtain ⟨⟨E1, M1⟩, hR⟩ : ∃ R, a.add M = R := ⟨_, rfl⟩
  rw [hR] at k19 hb64 hln ⊢
  simp only at hb64 hln
  have HNX : Hid (∀ w2, AddR F W.drew r E o (E1, M1) (.returned (esV E1)) w2 → (w2.cell? ⟨w.heap.size + 1, 1, none⟩ = some (.int .u8 (s : Int))) ∧ Calls Tryz.prog 108 #[.pointer (some ⟨r, 0, none⟩), esV E1, .int .u8 (s : Int)] w2 fun e w3 => e = .returned (esV (repM E1 M1 s).1) ∧ Blk w3 w.heap.size 163 (esC ⟨0, 0, false⟩) ∧ ∃ F' o', Mch F' (w3.setCells w.heap.size 0 (esC (repM E1 M1 s).1)) r E (repM E1 M1 s).2 o' ∧ Mv F F' w (w3.setCells w.heap.size 0 (esC (repM E1 M1 s).1)) r o o') := hidden (by
    rintro w2 ⟨_, F', o', h1, h2⟩
    have hOd : Own F W.drew r o w.heap.size := hO.later (Nat.le_refl _)
    have hO2d : Own F W.drew r o (w.heap.size + 1) := hO2.later (Nat.le_refl _)
    have hx := hO2d.blk h2 B2.drew
    refine ⟨hx.cell 1, ?_⟩
    refine (repeatedP F' w2 r E M1 o' E1 s hb64 h1 (by omega)).mono ?_
    rintro e w3 ⟨rfl, h3, h4⟩
    have hv := h2.trans h4
    exact ⟨rfl, hOd.blk hv B1.drew, F', o', h3.store (hOd.on hv) _, (hv.pre hal2).store (Nat.le_refl _) _⟩)
  rw [← hW] at k19
  have HW := hidden hW
  obtain ⟨⟨E2, M2⟩, hR2⟩ : ∃ R, repM E1 M1 s = R := ⟨_, rfl⟩
  rw [hR2] at HNX ⊢
  obtain ⟨f2, l2, e2⟩ := E2
  have HNX : Hid (∀ w2, AddR F W.drew r E o (E1, M1) (.returned (esV E1)) w2 → (w2.cell? ⟨w.heap.size + 1, 1, none⟩ = some (.int .u8 (s : Int))) ∧ Calls Tryz.prog 108 #[.pointer (some ⟨r, 0, none⟩), esV E1, .int .u8 (s : Int)] w2 fun e w3 => e = .returned (.agg #[.int .u64 (f2 : Int), .int .u64 (l2 : Int), .bool e2]) ∧ Blk w3 w.heap.size 163 (esC ⟨0, 0, false⟩) ∧ ∃ F' o', Mch F' (w3.setCells w.heap.size 0 (esC ⟨f2, l2, e2⟩)) r E M2 o' ∧ Mv F F' w (w3.setCells w.heap.size 0 (esC ⟨f2, l2, e2⟩)) r o o') := HNX
  clear hal hal2 B1 B2 hM hW hR hR2 hu hO hO2 hlen hfine hb64 hln
  unfold AddR
  go_enter Tryz.func98, Tryz.ntmps98
  go_upto_region 25 with fail
  go_region_with (first
    | (go_at_call 98; refine k19.mono ?_; intro e w2 hh; obtain ⟨rfl, F', o', h1, h2⟩ := hh; rw [HW.out] at h2; have HH := hidden (HNX.out w2 ⟨rfl, F', o', h1, h2⟩); have z1 := HH.out.1; clear h1 h2)
    | (go_at_call 108; refine HH.out.2.mono ?_; rintro e w3 ⟨rfl, h3, h4⟩; have H3 := hidden h3; have H4 := hidden h4; have y0 : w3.cell? ⟨w.heap.size, 0, none⟩ = some (.int .u64 0) := h3.cell 0; have y1 : w3.cell? ⟨w.heap.size, 1, none⟩ = some (.int .u64 0) := h3.cell 1; have y2 : w3.cell? ⟨w.heap.size, 2, none⟩ = some (.bool false) := h3.cell 2; have q0 := h3.frozen 0; have q1 := h3.frozen 1; have q2 := h3.frozen 2; clear h3 h4))
  all_goals
    go_wp2
    refine bodyPost_ret (res_add _ _ w.heap.size ⟨f2, l2, e2⟩ rfl (blk_stored (l := esC ⟨f2, l2, e2⟩) H3.out rfl)) rfl ?_
    exact ⟨rfl, H4.out⟩

end Go.Proofs.YtanlgplgplncdaaGreatDoor
