import Derived.Test.YtalmpmhnkilalaaGreatDoorRqF
/-
  Package wire: a response's parts.
-/
namespace Go.Proofs.YtalmpmhnkilalaaGreatDoor
open Go Go.RowKit
set_option linter.unusedVariables false

def pfA : Nat → FuncId
  | 0 => 130 | 1 => 134 | 2 => 138 | _ => 142
def tfA : Nat → FuncId
  | 0 => 132 | 1 => 136 | 2 => 140 | _ => 144
/-- A response's cells. -/
def cA (e k : Int) (fm : Nat → FM) : List Value := .int .i64 e :: .int .i64 k :: (List.range 4).map (fun i => (fm i).val)
theorem cA_at (e k : Int) (fm : Nat → FM) (i : Nat) (h : i < 4) : (cA e k fm)[i + 2]? = some (fm i).val := by
  unfold cA
  simp [h]
theorem beq0 (n : Nat) : ((n : Int) == 0) = decide (n = 0) := by
  rw [Bool.eq_iff_iff]
  simp
theorem beqi (n : Int) : (n == 0) = decide (n = 0) := by
  rw [Bool.eq_iff_iff]
  simp
theorem lat_cell {w w1 : World} (hL : Lat w w1) {a : Addr} {v : Value} (h : w.cell? a = some v) : w1.cell? a = some v := by
  have := Below.cell hL (p := a) (World.block_lt_of_cell? w a h)
  rw [this]
  exact h

set_option maxHeartbeats 2000000 in
set_option maxRecDepth 20000 in
theorem responsePartsP (q : Nat) (e k : Int) (fm : Nat → FM) (w : World) (hq : Blk w q 57 (cA e k fm)) (hk : ∀ i, i < 4 → (fm i).fv.kd = kdA i) :
    Calls Tryz.prog 75 #[.pointer (some ⟨q, 0, none⟩)] w fun e w' => ∃ a, e = .returned (.slice (some ⟨a, 0, none⟩) 4 4) ∧ w.heap.size < a ∧ Below w.heap.size w w' ∧ Blk w' w.heap.size 103 [.pointer (some ⟨q, 0, none⟩)] ∧ PartsM w' a 0 w.heap.size 4 (fun i => (fm i).fv) pfA tfA ∧ Ty w' a 139 := by
  have cc : ∀ i, i < 4 → (w.alloc (.cells #[.pointer (some ⟨q, 0, none⟩)] 103)).cell? ⟨q, i + 2, none⟩ = some (fm i).val := fun i hi => by
    rw [(hq.alloc _).cell, cA_at e k fm i hi]
  obtain ⟨a0, c0, l0, h0⟩ : ∃ a c l, fm 0 = .se a c l := by have := hk 0 (by omega); cases h : fm 0 <;> rw [h] at this <;> first | (cases this; done) | exact ⟨_, _, _, rfl⟩
  obtain ⟨a1, c1, l1, h1⟩ : ∃ a c l, fm 1 = .ro a c l := by have := hk 1 (by omega); cases h : fm 1 <;> rw [h] at this <;> first | (cases this; done) | exact ⟨_, _, _, rfl⟩
  obtain ⟨m2, h2⟩ : ∃ d, fm 2 = .nu d := by have := hk 2 (by omega); cases h : fm 2 <;> rw [h] at this <;> first | (cases this; done) | exact ⟨_, rfl⟩
  obtain ⟨a3, c3, l3, h3⟩ : ∃ a c l, fm 3 = .ts a c l := by have := hk 3 (by omega); cases h : fm 3 <;> rw [h] at this <;> first | (cases this; done) | exact ⟨_, _, _, rfl⟩
  have e0 := cc 0 (by omega)
  have e1 := cc 1 (by omega)
  have e2 := cc 2 (by omega)
  have e3 := cc 3 (by omega)
  rw [h0] at e0
  rw [h1] at e1
  rw [h2] at e2
  rw [h3] at e3
  simp only [FM.val, Nat.reduceAdd] at e0 e1 e2 e3
  have HB : Hid ((w.alloc (.cells #[.pointer (some ⟨q, 0, none⟩)] 103)).cell? ⟨w.heap.size, 0, none⟩ = some (.pointer (some ⟨q, 0, none⟩))) := hidden ((Blk.new w 103 [.pointer (some ⟨q, 0, none⟩)]).cell 0)
  have HBB := hidden (Blk.new w 103 [.pointer (some ⟨q, 0, none⟩)])
  have HE := hidden (And.intro e0 (And.intro e1 (And.intro e2 e3)))
  have HH := hidden (And.intro h0 (And.intro h1 (And.intro h2 h3)))
  clear h0 h1 h2 h3 cc hk hq e0 e1 e2 e3
  go_enter Tryz.func75, Tryz.ntmps75
  go_wp2_with (refine parts75_r1 q w.heap.size a0 l0.length c0 a1 l1.length c1 m2 a3 l3.length c3 _ _ _ rfl rfl (fun w1 hL => lat_cell hL HB.out) (fun w1 hL => lat_cell hL HE.out.1) (fun w1 hL => lat_cell hL HE.out.2.1) (fun w1 hL => lat_cell hL HE.out.2.2.1) (fun w1 hL => lat_cell hL HE.out.2.2.2) ?_; intro a w1 g hsz hde hS hg hB hL)
  refine bodyPost_ret (results_tmp (t := 2) (by kernel_rfl) _ _ _) hde ?_
  rw [hS]
  rw [World.size_alloc] at hg
  have hbl : Below w.heap.size w w1 := ((Below.refl _ _).alloc (Nat.le_refl _) _).trans (Below.mono hL (by simp))
  refine ⟨g, rfl, by omega, hbl, HBB.out.later hL, fun i hi => ?_, ty_blk hB⟩
  obtain ⟨h0, h1, h2, h3⟩ := HH.out
  rw [hB.cell, hB.cell, hB.cell]
  rcases (show i = 0 ∨ i = 1 ∨ i = 2 ∨ i = 3 by omega) with rfl | rfl | rfl | rfl
  · refine ⟨?_, rfl, rfl⟩
    show some (Value.bool _) = some (.bool (isZ (fm 0).fv))
    rw [h0]
    show some (Value.bool _) = some (.bool (decide ((l0.map prS).length = 0)))
    rw [List.length_map, beq0]
  · refine ⟨?_, rfl, rfl⟩
    show some (Value.bool _) = some (.bool (isZ (fm 1).fv))
    rw [h1]
    show some (Value.bool _) = some (.bool (decide ((l1.map prR).length = 0)))
    rw [List.length_map, beq0]
  · refine ⟨?_, rfl, rfl⟩
    show some (Value.bool _) = some (.bool (isZ (fm 2).fv))
    rw [h2]
    show some (Value.bool _) = some (.bool (decide (m2 = 0)))
    rw [beqi]
  · refine ⟨?_, rfl, rfl⟩
    show some (Value.bool _) = some (.bool (isZ (fm 3).fv))
    rw [h3]
    show some (Value.bool _) = some (.bool (decide (l3.length = 0)))
    rw [beq0]

end Go.Proofs.YtalmpmhnkilalaaGreatDoor

/-
  Package wire: a response written.
-/
namespace Go.Proofs.YtalmpmhnkilalaaGreatDoor
open Go Go.RowKit
set_option linter.unusedVariables false

theorem Wt.keepTy {w : World} {p : Nat} {rb : Option Nat} {s : Ws} (h : Wt w p rb s) {g : Nat} {t : TypeId} (hT : Ty w g t) (h1 : t ≠ 72) (h2 : t ≠ 5) : ¬ fpt p rb g := by
  obtain ⟨v, h⟩ := h
  rintro (rfl | e)
  · exact h1 (hT.ne (ty_blk h.blk))
  · exact h2 (hT.ne (ty_owns h.row (by rw [h.own]; exact e)))
theorem PartsM.keep {w wx : World} {F : Nat → Prop} {a off bx n : Nat} {f : Nat → FV} {pf tf : Nat → FuncId} (h : PartsM w a off bx n f pf tf) (hc : Chg F w wx) (ha : ¬ F a) : PartsM wx a off bx n f pf tf := by
  intro i hi
  obtain ⟨k0, k1, k2⟩ := h i hi
  have hab : wx.heap[a]? = w.heap[a]? := hc.block a (World.block_lt_of_cell? w _ k0) ha
  exact ⟨(World.cell?_of_block hab).trans k0, (World.cell?_of_block hab).trans k1, (World.cell?_of_block hab).trans k2⟩
theorem putsA (p q bx : Nat) (e k : Int) (fm : Nat → FM) (hk : ∀ i, i < 4 → (fm i).fv.kd = kdA i) : ∀ i, i < 4 → ∀ s1 rb1 wx, Wt wx p rb1 s1 → Blk wx q 57 (cA e k fm) → Blk wx bx 103 [.pointer (some ⟨q, 0, none⟩)] → (∀ wy, Chg (fpt p rb1) wx wy → (fm i).mem wy ∧ Gv wy) →
    Calls Tryz.prog (pfA i) #[.pointer (some ⟨p, 0, none⟩), .pointer (some ⟨bx, 0, none⟩)] wx (WQ wx p rb1 (putV (fm i).fv s1)) := by
  intro i hi s1 rb1 wx hW hq hb hm
  have hkk := hk i hi
  have hv := cA_at e k fm i hi
  rcases (show i = 0 ∨ i = 1 ∨ i = 2 ∨ i = 3 by omega) with rfl | rfl | rfl | rfl
  · exact put130 p rb1 s1 q bx _ _ wx hW hq hb hv hkk hm
  · exact put134 p rb1 s1 q bx _ _ wx hW hq hb hv hkk hm
  · exact put138 p rb1 s1 q bx _ _ wx hW hq hb hv hkk hm
  · exact put142 p rb1 s1 q bx _ _ wx hW hq hb hv hkk hm
theorem cfA (i : Nat) (hi : i < 4) (a : Array Value) (w : World) : (callFunc (pfA i) a).run Tryz.prog w = .ok (.enter (pfA i) a) w := by
  rcases (show i = 0 ∨ i = 1 ∨ i = 2 ∨ i = 3 by omega) with rfl | rfl | rfl | rfl <;> kernel_rfl
theorem cfAt (i : Nat) (hi : i < 4) (a : Array Value) (w : World) : (callFunc (tfA i) a).run Tryz.prog w = .ok (.enter (tfA i) a) w := by
  rcases (show i = 0 ∨ i = 1 ∨ i = 2 ∨ i = 3 by omega) with rfl | rfl | rfl | rfl <;> kernel_rfl

/-- Which fields a kind uses. -/
def FldQ (w : World) (used : List Nat) (known : Bool) (e : Ending) (w' : World) : Prop :=
  Below w.heap.size w w' ∧ ∃ uad uc, (∀ y, uad = some y → w.heap.size ≤ y.block ∧ Ty w' y.block 3) ∧ In w' uad used ∧ e = .returned (.tuple #[.slice uad used.length uc, .bool known])
theorem in_nil (w : World) (ad : Option Addr) : In w ad [] := fun h => absurd rfl h
theorem fldQ_nil (w : World) (used : List Nat) (known : Bool) (hu : used = []) : FldQ w used known (.returned (.tuple #[.slice none 0 0, .bool known])) w := by
  subst hu
  exact ⟨Below.refl _ _, none, 0, fun y h => (by cases h), in_nil _ _, rfl⟩
theorem fldQ_lit (w : World) (used l : List Nat) (known : Bool) (hu : used = l) (n : Nat) (hn : l.length = n) (C : Array Value) (hC : C = (l.map (fun (n : Nat) => Value.int .i64 (n : Int))).toArray) : FldQ w used known (.returned (.tuple #[.slice (some ⟨w.heap.size, 0, none⟩) n n, .bool known])) (w.alloc (.cells C 3)) := by
  subst hu hn hC
  exact ⟨(Below.refl _ _).alloc (Nat.le_refl _) _, some ⟨w.heap.size, 0, none⟩, _, fun y h => (by cases h; exact ⟨Nat.le_refl _, ty_blk (Blk.new w 3 _)⟩), in_lit w _ _ rfl _, rfl⟩
theorem fieldsOfAnswerP (k : Int) (w : World) (h0 : -9223372036854775808 ≤ k) (h1 : k ≤ 9223372036854775807) : Calls Tryz.prog 76 #[.int .i64 k] w (FldQ w (usedA k) (fieldsA k).isSome) := by
  by_cases k0 : k = 0
  · subst k0
    go_enter Tryz.func76, Tryz.ntmps76
    go_wp2_with fail
    go_ret2
    exact fldQ_nil w _ _ rfl
  by_cases k1 : k = 1
  · subst k1
    go_enter Tryz.func76, Tryz.ntmps76
    go_wp2_with fail
    go_ret2
    exact fldQ_lit w _ [0] _ rfl 1 rfl _ rfl
  by_cases k2 : k = 2
  · subst k2
    go_enter Tryz.func76, Tryz.ntmps76
    go_wp2_with fail
    go_ret2
    exact fldQ_lit w _ [1] _ rfl 1 rfl _ rfl
  by_cases k3 : k = 3
  · subst k3
    go_enter Tryz.func76, Tryz.ntmps76
    go_wp2_with fail
    go_ret2
    exact fldQ_lit w _ [2] _ rfl 1 rfl _ rfl
  by_cases k4 : k = 4
  · subst k4
    go_enter Tryz.func76, Tryz.ntmps76
    go_wp2_with fail
    go_ret2
    exact fldQ_lit w _ [3] _ rfl 1 rfl _ rfl
  have hk : fieldsA k = none := by
    unfold fieldsA
    rw [if_neg k0, if_neg k1, if_neg k2, if_neg k3, if_neg k4]
  have hu : usedA k = [] := by unfold usedA; rw [hk]; rfl
  rw [hk]
  go_enter Tryz.func76, Tryz.ntmps76
  go_wp2_with fail
  go_ret2
  exact fldQ_nil w _ _ hu
theorem fieldsOfR (k : Int) (w : World) (h0 : -9223372036854775808 ≤ k) (h1 : k ≤ 9223372036854775807) : Calls Tryz.prog 55 #[.int .i64 k] w (FldQ w (usedQ k) (fieldsK k).isSome) := by
  by_cases k1 : k = 1
  · subst k1
    go_enter Tryz.func55, Tryz.ntmps55
    go_wp2_with fail
    go_ret2
    exact fldQ_lit w _ [0, 1, 2] _ rfl 3 rfl _ rfl
  by_cases k2 : k = 2
  · subst k2
    go_enter Tryz.func55, Tryz.ntmps55
    go_wp2_with fail
    go_ret2
    exact fldQ_lit w _ [0, 1, 3, 4, 5] _ rfl 5 rfl _ rfl
  by_cases k3 : k = 3
  · subst k3
    go_enter Tryz.func55, Tryz.ntmps55
    go_wp2_with fail
    go_ret2
    exact fldQ_lit w _ [0, 1, 6] _ rfl 3 rfl _ rfl
  by_cases k4 : k = 4
  · subst k4
    go_enter Tryz.func55, Tryz.ntmps55
    go_wp2_with fail
    go_ret2
    exact fldQ_lit w _ [0, 1, 3] _ rfl 3 rfl _ rfl
  by_cases k5 : k = 5
  · subst k5
    go_enter Tryz.func55, Tryz.ntmps55
    go_wp2_with fail
    go_ret2
    exact fldQ_lit w _ [0, 1, 3] _ rfl 3 rfl _ rfl
  by_cases k6 : k = 6
  · subst k6
    go_enter Tryz.func55, Tryz.ntmps55
    go_wp2_with fail
    go_ret2
    exact fldQ_lit w _ [0, 1, 3, 7] _ rfl 4 rfl _ rfl
  by_cases k7 : k = 7
  · subst k7
    go_enter Tryz.func55, Tryz.ntmps55
    go_wp2_with fail
    go_ret2
    exact fldQ_lit w _ [0, 1] _ rfl 2 rfl _ rfl
  by_cases k17 : k = 17
  · subst k17
    go_enter Tryz.func55, Tryz.ntmps55
    go_wp2_with fail
    go_ret2
    exact fldQ_lit w _ [0, 1] _ rfl 2 rfl _ rfl
  by_cases k16 : k = 16
  · subst k16
    go_enter Tryz.func55, Tryz.ntmps55
    go_wp2_with fail
    go_ret2
    exact fldQ_lit w _ [0, 1, 8, 9] _ rfl 4 rfl _ rfl
  by_cases k18 : k = 18
  · subst k18
    go_enter Tryz.func55, Tryz.ntmps55
    go_wp2_with fail
    go_ret2
    exact fldQ_lit w _ [0, 1, 11, 10, 3] _ rfl 5 rfl _ rfl
  by_cases k19 : k = 19
  · subst k19
    go_enter Tryz.func55, Tryz.ntmps55
    go_wp2_with fail
    go_ret2
    exact fldQ_lit w _ [0, 1, 11] _ rfl 3 rfl _ rfl
  have hk : fieldsK k = none := by
    unfold fieldsK
    rw [if_neg k1, if_neg k2, if_neg k3, if_neg (by omega), if_neg k6, if_neg (by omega), if_neg k16, if_neg k18, if_neg k19]
  have hu : usedQ k = [] := by unfold usedQ; rw [hk]; rfl
  rw [hk]
  go_enter Tryz.func55, Tryz.ntmps55
  go_wp2_with fail
  go_ret2
  exact fldQ_nil w _ _ hu

/-! ### a writer, from a world on -/
structure WX (w0 w : World) (p : Nat) (rb0 rb : Option Nat) (s : Ws) : Prop where
  wt : Wt w p rb s
  chg : Chg (fpt p rb0) w0 w
  mv : Moved w0 rb0 rb
theorem WX.start {w : World} {p : Nat} {rb : Option Nat} {s : Ws} (h : Wt w p rb s) : WX w w p rb rb s := ⟨h, Chg.refl _ _, .inl rfl⟩
theorem WX.later {w0 w w1 : World} {p : Nat} {rb0 rb : Option Nat} {s : Ws} (h : WX w0 w p rb0 rb s) (hb : Below w.heap.size w w1) : WX w0 w1 p rb0 rb s :=
  ⟨h.wt.later hb, h.chg.trans (Chg.of_below (F := fpt p rb) hb) (fun i hi hf => fpt_moved h.mv i hi hf), h.mv⟩
/-- What every call of the writer lets be. -/
structure Kpt (w w' : World) : Prop where
  blk : ∀ g ty l, Blk w g ty l → ty ≠ 72 → ty ≠ 5 → Blk w' g ty l
  ty : ∀ g t, Ty w g t → t ≠ 72 → t ≠ 5 → Ty w' g t ∧ w'.heap[g]? = w.heap[g]?
theorem WX.step {w0 w w' : World} {p : Nat} {rb0 rb : Option Nat} {s s' : Ws} {e : Ending} (h : WX w0 w p rb0 rb s) (hQ : WQ w p rb s' e w') : e = .returned (.tuple #[]) ∧ (∃ rb', WX w0 w' p rb0 rb' s') ∧ Kpt w w' := by
  obtain ⟨rfl, rb', hW, hC, hM⟩ := hQ
  refine ⟨rfl, ⟨rb', hW, h.chg.trans hC (fun i hi hf => fpt_moved h.mv i hi hf), h.mv.trans hM h.chg.size⟩, fun g ty l hB h1 h2 => h.wt.keepBlk hC hB h1 h2, fun g t hT h1 h2 => ?_⟩
  obtain ⟨C, fz, hg⟩ := hT
  have : w'.heap[g]? = w.heap[g]? := hC.block g (Array.getElem?_eq_some_iff.1 hg).1 (h.wt.keepTy ⟨C, fz, hg⟩ h1 h2)
  exact ⟨⟨C, fz, by rw [this]; exact hg⟩, this⟩
theorem WX.done {w0 w : World} {p : Nat} {rb0 rb : Option Nat} {s : Ws} (h : WX w0 w p rb0 rb s) : WQ w0 p rb0 s (.returned (.tuple #[])) w := ⟨rfl, rb, h.wt, h.chg, h.mv⟩
theorem Kpt.in' {w w' : World} (h : Kpt w w') {uad : Option Addr} {l : List Nat} (hI : In w uad l) (hT : ∀ y, uad = some y → Ty w y.block 3) : In w' uad l ∧ ∀ y, uad = some y → Ty w' y.block 3 := by
  refine ⟨fun h0 => ?_, fun y hy => (h.ty _ _ (hT y hy) (by decide) (by decide)).1⟩
  obtain ⟨b, off, e, hlt, hc⟩ := hI h0
  have hb := (h.ty b 3 (hT _ e) (by decide) (by decide)).2
  refine ⟨b, off, e, ?_, fun i x hx j v hv => (World.cell?_of_block hb).trans (hc i x hx j v hv)⟩
  obtain ⟨C, fz, hg⟩ := (h.ty b 3 (hT _ e) (by decide) (by decide)).1
  exact (Array.getElem?_eq_some_iff.1 hg).1
theorem Kpt.parts {w w' : World} (h : Kpt w w') {a off bx n : Nat} {f : Nat → FV} {pf tf : Nat → FuncId} (hP : PartsM w a off bx n f pf tf) (hT : Ty w a 139) : PartsM w' a off bx n f pf tf := by
  intro i hi
  obtain ⟨k0, k1, k2⟩ := hP i hi
  have hab := (h.ty a 139 hT (by decide) (by decide)).2
  exact ⟨(World.cell?_of_block hab).trans k0, (World.cell?_of_block hab).trans k1, (World.cell?_of_block hab).trans k2⟩
theorem kpt_chg {w wx : World} {p : Nat} {rb : Option Nat} {s : Ws} (h : Wt w p rb s) (hC : Chg (fpt p rb) w wx) : Kpt w wx := by
  refine ⟨fun g ty l hB h1 h2 => h.keepBlk hC hB h1 h2, fun g t hT h1 h2 => ?_⟩
  obtain ⟨C, fz, hg⟩ := hT
  have : wx.heap[g]? = w.heap[g]? := hC.block g (Array.getElem?_eq_some_iff.1 hg).1 (h.keepTy ⟨C, fz, hg⟩ h1 h2)
  exact ⟨⟨C, fz, by rw [this]; exact hg⟩, this⟩
theorem kpt_below {w wx : World} (hb : Below w.heap.size w wx) : Kpt w wx := by
  refine ⟨fun g ty l hB h1 h2 => hB.later hb, fun g t hT h1 h2 => ?_⟩
  obtain ⟨C, fz, hg⟩ := hT
  have : wx.heap[g]? = w.heap[g]? := hb.block g (Array.getElem?_eq_some_iff.1 hg).1
  exact ⟨⟨C, fz, by rw [this]; exact hg⟩, this⟩

end Go.Proofs.YtalmpmhnkilalaaGreatDoor
