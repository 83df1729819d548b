/-
  The machine: add, of one spot.
-/
import Derived.Test.YtanlgplgplncdaaDoorPuG
namespace Go.Proofs.YtanlgplgplncdaaDoor
open Go.RowKit
set_option linter.unusedVariables false
set_option linter.unusedSimpArgs false

section
set_option maxRecDepth 100000
theorem at45 (v : Value) (w : World) : (Instr.typeAssert (.iface 104 v) 132 104 true).run Tryd.prog w = .ok (.tuple #[v, .bool true]) w := by rfl
theorem at64_45 (v : Value) (w : World) : (Instr.typeAssert (.iface 121 v) 132 104 true).run Tryd.prog w = .ok (.tuple #[.slice none 0 0, .bool false]) w := by rfl
theorem at64 (v : Value) (w : World) : (Instr.typeAssert (.iface 121 v) 132 121 true).run Tryd.prog w = .ok (.tuple #[v, .bool true]) w := by rfl
theorem at74_45 (v : Value) (w : World) : (Instr.typeAssert (.iface 137 v) 132 104 true).run Tryd.prog w = .ok (.tuple #[.slice none 0 0, .bool false]) w := by rfl
theorem at74_64 (v : Value) (w : World) : (Instr.typeAssert (.iface 137 v) 132 121 true).run Tryd.prog w = .ok (.tuple #[.slice none 0 0, .bool false]) w := by rfl
theorem at74 (v : Value) (w : World) : (Instr.typeAssert (.iface 137 v) 132 137 true).run Tryd.prog w = .ok (.tuple #[v, .bool true]) w := by rfl
theorem at76_45 (v : Value) (w : World) : (Instr.typeAssert (.iface 139 v) 132 104 true).run Tryd.prog w = .ok (.tuple #[.slice none 0 0, .bool false]) w := by rfl
theorem at76_64 (v : Value) (w : World) : (Instr.typeAssert (.iface 139 v) 132 121 true).run Tryd.prog w = .ok (.tuple #[.slice none 0 0, .bool false]) w := by rfl
theorem at76_74 (v : Value) (w : World) : (Instr.typeAssert (.iface 139 v) 132 137 true).run Tryd.prog w = .ok (.tuple #[.agg #[.slice none 0 0], .bool false]) w := by rfl
theorem at76 (v : Value) (w : World) : (Instr.typeAssert (.iface 139 v) 132 139 true).run Tryd.prog w = .ok (.tuple #[v, .bool true]) w := by rfl
def leafT (t : Nat) : Prop := t = 155 ∨ t = 159 ∨ t = 162
theorem atL_45 {t : Nat} (h : leafT t) (v : Value) (w : World) : (Instr.typeAssert (.iface t v) 132 104 true).run Tryd.prog w = .ok (.tuple #[.slice none 0 0, .bool false]) w := by rcases h with rfl | rfl | rfl <;> rfl
theorem atL_64 {t : Nat} (h : leafT t) (v : Value) (w : World) : (Instr.typeAssert (.iface t v) 132 121 true).run Tryd.prog w = .ok (.tuple #[.slice none 0 0, .bool false]) w := by rcases h with rfl | rfl | rfl <;> rfl
theorem atL_74 {t : Nat} (h : leafT t) (v : Value) (w : World) : (Instr.typeAssert (.iface t v) 132 137 true).run Tryd.prog w = .ok (.tuple #[.agg #[.slice none 0 0], .bool false]) w := by rcases h with rfl | rfl | rfl <;> rfl
theorem atL_76 {t : Nat} (h : leafT t) (v : Value) (w : World) : (Instr.typeAssert (.iface t v) 132 139 true).run Tryd.prog w = .ok (.tuple #[.agg #[.nilIface, .int .u8 0], .bool false]) w := by rcases h with rfl | rfl | rfl <;> rfl
end

/-- What add promises. -/
def AddR (F : Nat → Prop) (w : World) (r : Nat) (E : Es) (o : Option Nat) (R : Es × List Sp) (e : Ending) (w' : World) : Prop := e = .returned (esV R.1) ∧ ∃ F' o', Mch F' w' r E R.2 o' ∧ Mv F F' w w' r o o'
def AddC (p : Pt) : Prop := ∀ (F : Nat → Prop) (w : World) (r : Nat) (E : Es) (M : List Sp) (o : Option Nat) (v : Value), PtV F w p v → Mch F w r E M o → M.length + p.cnt ≤ 64 → p.fine → Calls Tryd.prog 55 #[.pointer (some ⟨r, 0, none⟩), v] w (AddR F w r E o (p.add M))
def RowAC (l : List Pt) : Prop := ∀ (F : Nat → Prop) (w : World) (r : Nat) (E : Es) (M : List Sp) (o : Option Nat) (ad : Option Addr) (c b off : Nat), (l ≠ [] → ad = some ⟨b, off, none⟩ ∧ F b) → RowV F w l b off → Mch F w r E M o → M.length + rowCnt l ≤ 64 → rowFine l → l.length ≤ 1000 → Calls Tryd.prog 55 #[.pointer (some ⟨r, 0, none⟩), .iface 121 (.slice ad l.length c)] w (AddR F w r E o (rowAdd l ⟨0, 0, true⟩ M))
def RowsAC (l : List (List Pt)) : Prop := ∀ (F : Nat → Prop) (w : World) (r : Nat) (E : Es) (M : List Sp) (o : Option Nat) (ad : Option Addr) (c b off : Nat), (l ≠ [] → ad = some ⟨b, off, none⟩ ∧ F b) → RowsV F w l b off → Mch F w r E M o → M.length + rowsCnt l ≤ 64 → rowsFine l → l.length ≤ 1000 → Calls Tryd.prog 55 #[.pointer (some ⟨r, 0, none⟩), .iface 104 (.slice ad l.length c)] w (AddR F w r E o (rowsAdd l ⟨0, 0, false⟩ M))

/-- Of a part of one spot: what it takes. -/
theorem othS_len : ∀ (l : Sn) (low : Nat), (othS low l).length ≤ l.length + 1
  | [], low => by rw [othS]; split <;> simp
  | s :: t, low => by
    rw [othS]
    have := othS_len t (s.2 + 1)
    simp only [List.length_append, List.length_cons]
    split
    · simp only [List.length_cons, List.length_nil]; omega
    · simp only [List.length_nil]; omega
theorem tkv_owns {w w' : World} {a' : Option Addr} {c' n : Nat} {l : Sn} {F : Nat → Prop} (hl : l.length = n) (hs : Ss w' a' l) (hlen : n ≤ 2000) (hf : ∀ y, l ≠ [] → a' = some y → F y.block ∨ FW w w' y.block) : TkV (fun b => F b ∨ FW w w' b) w' (.slice a' n c') l :=
  ⟨a', c', by rw [hl], hs, hf, by omega⟩
theorem ss_lt {w : World} {ad : Option Addr} {l : Sn} (h : Ss w ad l) (h0 : l ≠ []) (y : Addr) (e : ad = some y) : y.block < w.heap.size := by
  obtain ⟨b, off, e1, hlt, _⟩ := h.at' h0
  rw [e] at e1
  injection e1 with e1
  subst e1
  exact hlt
theorem spans_of (F : Nat → Prop) (p : Pt) (v : Value) (w : World) (h : PtV F w p v) (hf : p.fine) (hl : ∃ t u, v = .iface t u ∧ leafT t) :
    Calls Tryd.prog 65 #[v] w fun e w' => ∃ tv, e = .returned tv ∧ TkV (fun b => F b ∨ FW w w' b) w' tv p.spans ∧ Below w.heap.size w w' := by
  cases p with
  | chr c =>
    simp only [PtV] at h
    obtain ⟨rfl, hc⟩ := h
    refine (spansChr c hc w).mono ?_
    rintro e w' ⟨rfl, hb, hbl⟩
    refine ⟨_, rfl, ⟨_, 1, rfl, ss_blk hb (fun x hx => by simp [Pt.spans] at hx; subst hx; exact ⟨hc, hc⟩), fun y _ e => Or.inr ?_, by simp [Pt.spans]⟩, hbl⟩
    injection e with e
    subst e
    exact ⟨Nat.le_refl _, hb.lt⟩
  | any =>
    simp only [PtV] at h
    subst h
    refine (spansAny w).mono ?_
    rintro e w' ⟨a', c', rfl, ho, hbd, hbl⟩
    have hs := ss_of_owns ho hbd
    refine ⟨_, rfl, ⟨a', c', rfl, hs, fun y h0 e => Or.inr ⟨?_, ss_lt hs h0 y e⟩, by have := othS_len [] 0; simp at this; simp only [Pt.spans]; omega⟩, hbl⟩
    subst e
    obtain ⟨a2, c2, e2, _, hsp, _⟩ := owns_formS ho
    injection e2 with e3 _ _
    obtain ⟨z0, z1⟩ := hsp y e3.symm
    obtain ⟨b, off, sp⟩ := y
    simp only at z0 z1
    subst z0 z1
    exact (ho.lt b (by simp [Value.ownBlock])).1
  | cls neg l =>
    simp only [PtV] at h
    simp only [Pt.fine] at hf
    refine (spansCls F v neg l w h hf.1).mono ?_
    rintro e w' ⟨a', c', rfl, hs, hbd, hbk, hbl⟩
    refine ⟨_, rfl, ⟨a', c', rfl, hs, fun y h0 e => ?_, ?_⟩, hbl⟩
    · rcases hbk y h0 e with h1 | h1
      · exact Or.inl h1
      · exact Or.inr ⟨h1, ss_lt hs h0 y e⟩
    · have := othS_len l 0
      have := hf.1
      simp only [Pt.spans]
      split <;> omega
  | grp l =>
    simp only [PtV] at h
    obtain ⟨ad, c, b, off, rfl, _⟩ := h
    obtain ⟨t, u, e, ht⟩ := hl
    injection e with e1 e2
    subst e1
    rcases ht with ht | ht | ht <;> exact absurd ht (by decide)
  | rep a s =>
    simp only [PtV] at h
    obtain ⟨u, rfl, _⟩ := h
    obtain ⟨t, u, e, ht⟩ := hl
    injection e with e1 e2
    subst e1
    rcases ht with ht | ht | ht <;> exact absurd ht (by decide)

theorem res_add (tmps : Array Value) (w : World) (g : Nat) (e : Es) (hp : tmps.getD 4 undef = .pointer (some ⟨g, 0, none⟩)) (h : Blk w g 111 (esC e)) :
    (results Tryd.f55 tmps).run Tryd.prog w = .ok (esV e) w := by
  have h0 : w.cell? ⟨g, 0, none⟩ = some (.int .u64 (e.first : Int)) := h.cell 0
  have h1 : w.cell? ⟨g, 1, none⟩ = some (.int .u64 (e.last : Int)) := h.cell 1
  have h2 : w.cell? ⟨g, 2, none⟩ = some (.bool e.emp) := h.cell 2
  have hr : Tryd.f55.results = #[.cell 4 111] := by kernel_rfl
  have hp' : tmps[4]?.getD undef = .pointer (some ⟨g, 0, none⟩) := by simpa using hp
  simp [results, hr, hp', asAddr, loadVar, h0, h1, h2, go_sem, esV]

/-- A machine beside a block of its caller's that lies above all that it knows. -/
theorem Mv.apart {F F' : Nat → Prop} {w w' : World} {r : Nat} {o o' : Option Nat} {g : Nat} (h : Mv F F' w w' r o o') (hg : g < w.heap.size) (hr : g ≠ r) (ho : o ≠ some g) (hF : ¬ F g) : o' ≠ some g ∧ ¬ F' g := by
  refine ⟨fun e => ?_, fun e => ?_⟩
  · rcases h.mv with e1 | ⟨k, e1, hk⟩
    · exact ho (by rw [← e1]; exact e)
    · rw [e1] at e; injection e with e; omega
  · rcases h.new g e with e1 | e1
    · exact hF e1
    · omega

set_option maxRecDepth 100000 in
set_option maxHeartbeats 8000000 in
theorem add_leaf (p : Pt) (hp : ∀ (F : Nat → Prop) (w : World) (v : Value), PtV F w p v → ∃ t u, v = .iface t u ∧ leafT t) (hc : p.cnt = 1) (ha : ∀ M, p.add M = spotM M p.spans) : AddC p := by
  intro F w r E M o v hv hM hlen hfine
  obtain ⟨t, u, rfl, ht⟩ := hp F w v hv
  rw [ha, hc] at *
  obtain ⟨W, hW⟩ : ∃ W, w.alloc (.cells #[.int .u64 0, .int .u64 0, .bool false] 111) = W := ⟨_, rfl⟩
  have hal : Below w.heap.size w W := by rw [← hW]; exact (Below.refl _ w).alloc (Nat.le_refl _) _
  have B1 : Blk W w.heap.size 111 (esC ⟨0, 0, false⟩) := by rw [← hW]; exact Blk.new w 111 (esC ⟨0, 0, false⟩)
  have hM1 := hM.later hal
  have hv1 := PtV.keep (Chg.of_below (F := fun _ => False) hal) (fun _ _ h => h) p _ hv
  have k25 := spans_of F p (.iface t u) W hv1 hfine ⟨t, u, rfl, ht⟩
  have HFL : Hid (∀ b, F b → b < w.heap.size) := hidden (by obtain ⟨_, _, _, h, _⟩ := hM; exact h.lt)
  have hRL := hM.rlt
  have HNF : Hid (¬ F r ∧ ∀ b, F b → o ≠ some b) := hidden (by obtain ⟨_, _, _, h, e⟩ := hM; exact ⟨h.nr, fun b hb => by rw [← e]; exact h.no b hb⟩)
  have hOL := hM.olt
  have k1 := fun w => atL_45 ht u w
  have k2 := fun w => atL_64 ht u w
  have k3 := fun w => atL_74 ht u w
  have k4 := fun w => atL_76 ht u w
  -- behind spansOf, behind addSpot
  have HST : Hid (∀ (w2 : World) (tv : Value), TkV (fun b => F b ∨ FW W w2 b) w2 tv p.spans → Below W.heap.size W w2 → Calls Tryd.prog 64 #[.pointer (some ⟨r, 0, none⟩), tv] w2 fun e w3 => e = .returned (esV (spotM M p.spans).1) ∧ Blk w3 w.heap.size 111 (esC ⟨0, 0, false⟩) ∧ ∃ F' o', Mch F' (w3.setCells w.heap.size 0 (esC (spotM M p.spans).1)) r E (spotM M p.spans).2 o' ∧ Mv F F' w (w3.setCells w.heap.size 0 (esC (spotM M p.spans).1)) r o o') := hidden (fun w2 tv h1 h2 => by
    have hWs := hal.size
    have hWl := B1.lt
    have hm2 : Mch (fun b => F b ∨ FW W w2 b) w2 r E M o := (hM1.later h2).more (fun b hb => .inl hb) (fun e => by
        rcases e with e | e
        · exact HNF.out.1 e
        · have := e.1; omega) (fun b hb e => by
        rcases hb with hb | hb
        · exact HNF.out.2 b hb e
        · have := hOL b e; have := hb.1; omega) (fun b hb => by
        rcases hb with hb | hb
        · have := HFL.out b hb; have := h2.size; omega
        · exact hb.2)
    refine (addSpotP _ w2 r E M o tv p.spans hm2 h1 (by omega)).mono ?_
    rintro e w3 ⟨rfl, o', hm3, hv3⟩
    have hgw : w.heap.size < w2.heap.size := by have := h2.size; omega
    have hgo : o ≠ some w.heap.size := fun e => by have := hOL _ e; omega
    have hgF : ¬ (F w.heap.size ∨ FW W w2 w.heap.size) := by
      rintro (e | e)
      · have := HFL.out _ e; omega
      · have := e.1; omega
    have hap := hv3.apart hgw (by omega) hgo hgF
    have hB3 : Blk w3 w.heap.size 111 (esC ⟨0, 0, false⟩) := hv3.chg.blk (B1.later h2) (by
      rintro (e | e)
      · omega
      · exact hgo e)
    have hcs := Chg.sets w.heap.size (esC (spotM M p.spans).1) 0 w3
    refine ⟨rfl, hB3, _, o', hm3.keep hcs (fun e => by have e' : r = w.heap.size := e; omega) (fun b hb e => hap.1 (by have e' : b = w.heap.size := e; rw [← e']; exact hb)) (fun b hb e => hap.2 (by have e' : b = w.heap.size := e; rw [← e']; exact hb)), ?_⟩
    have c1 : Chg (fun b => b = r ∨ o = some b) w w2 := (Chg.of_below hal).trans (Chg.of_below (F := fun _ => False) h2) (fun _ _ h => h.elim)
    refine ⟨(c1.trans hv3.chg (fun _ _ h => h)).trans hcs (fun i hi e => by have e' : i = w.heap.size := e; omega), ?_, fun b hb => .inl hb, fun b hb => ?_⟩
    · rcases hv3.mv with e1 | ⟨k, e1, hk⟩
      · exact .inl e1
      · exact .inr ⟨k, e1, by omega⟩
    · rcases hb with hb | hb
      · exact .inl hb
      · exact .inr (by have := hb.1; omega))
  have HAL := hidden hal
  rw [← hW] at k25
  have HW := hidden hW
  obtain ⟨R, hR⟩ : ∃ R, spotM M p.spans = R := ⟨_, rfl⟩
  rw [hR] at HST ⊢
  clear hal B1 hM1 hv1 hv hM hRL hOL ht hfine hlen hW hR ha hc hp
  unfold AddR
  go_enter Tryd.func55, Tryd.ntmps55
  go_wp2_with (first
    | (go_at_call 65; refine k25.mono ?_; rintro e w2 ⟨tv, rfl, h1, h2⟩; rw [HW.out] at h1 h2; have kS := HST.out w2 tv h1 h2; clear k25 h1 h2 HST)
    | (go_at_call 64; refine kS.mono ?_; rintro e w3 ⟨rfl, h3, h4⟩; have H3 := hidden h3; have H4 := hidden h4; clear kS h3 h4)
    | (refine wpList_store_blk (l := esC R.1) rfl 111 (.tmp 4) (.tmp 73) rfl rfl w.heap.size H3.out rfl rfl rfl info52 (esC_one _) ?_))
  refine bodyPost_ret (res_add _ _ w.heap.size R.1 rfl (blk_stored H3.out rfl)) rfl ?_
  exact ⟨rfl, H4.out⟩

theorem add_chr (c : Nat) : AddC (.chr c) := add_leaf _ (fun F w v h => by simp only [PtV] at h; exact ⟨155, _, h.1, .inl rfl⟩) rfl (fun M => rfl)
theorem add_any : AddC .any := add_leaf _ (fun F w v h => by simp only [PtV] at h; exact ⟨159, _, h, .inr (.inl rfl)⟩) rfl (fun M => rfl)
theorem add_cls (neg : Bool) (l : Sn) : AddC (.cls neg l) := add_leaf _ (fun F w v h => by simp only [PtV] at h; obtain ⟨ad, c, e, _⟩ := h; exact ⟨162, _, e, .inr (.inr rfl)⟩) rfl (fun M => rfl)

end Go.Proofs.YtanlgplgplncdaaDoor
