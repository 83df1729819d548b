import Derived.Test.YtanlgplgplncdaaGreatDoorPuJ
/-
  The machine of a pattern: machineOf.
-/
namespace Go.Proofs.YtanlgplgplncdaaGreatDoor
open Go.RowKit
set_option linter.unusedVariables false
set_option linter.unusedSimpArgs false

mutual
/-- ADD LAYS A PART'S MACHINE. -/
theorem addP : ∀ p : Pt, AddC p
  | .chr c => add_chr c
  | .any => add_any
  | .cls neg l => add_cls neg l
  | .grp l => add_grp l (add_rows l (fun r hr => add_row r (addRows l r hr)))
  | .rep a s => add_rep a s (addP a)
theorem addRow : ∀ (r : List Pt) (p : Pt), p ∈ r → AddC p
  | [], p, h => by cases h
  | q :: t, p, h => by
    rcases List.mem_cons.1 h with e | h
    · rw [e]; exact addP q
    · exact addRow t p h
theorem addRows : ∀ (l : List (List Pt)) (r : List Pt), r ∈ l → ∀ p ∈ r, AddC p
  | [], r, h => by cases h
  | q :: t, r, h => by
    rcases List.mem_cons.1 h with e | h
    · rw [e]; exact addRow q
    · exact addRows t r h
end

def Z54 (a : Value) (e : Es) : List Value := [a, .int .u64 (e.first : Int), .int .u64 (e.last : Int), .bool e.emp]
theorem res_mach (tmps : Array Value) (w : World) (g : Nat) (sa : Option Addr) (n c : Nat) (e : Es) (hp : tmps.getD 2 undef = .pointer (some ⟨g, 0, none⟩)) (h : Blk w g 165 (Z54 (.slice sa n c) e)) :
    (results Tryz.f90 tmps).run Tryz.prog w = .ok (.agg (Z54 (.slice sa n c) e).toArray) w := by
  have h0 : w.cell? ⟨g, 0, none⟩ = some (.slice sa n c) := h.cell 0
  have h1 : w.cell? ⟨g, 1, none⟩ = some (.int .u64 (e.first : Int)) := h.cell 1
  have h2 : w.cell? ⟨g, 2, none⟩ = some (.int .u64 (e.last : Int)) := h.cell 2
  have h3 : w.cell? ⟨g, 3, none⟩ = some (.bool e.emp) := h.cell 3
  have hr : Tryz.f90.results = #[.cell 2 165] := by kernel_rfl
  have hp' : tmps[2]?.getD undef = .pointer (some ⟨g, 0, none⟩) := by simpa using hp
  simp [results, hr, hp', asAddr, loadVar, h0, h1, h2, h3, go_sem, Z54]
theorem info54 : (Tryz.prog.info? 165).map (·.size) = some 4 := by kernel_rfl
theorem Z54_one (sa : Option Addr) (n c : Nat) (e : Es) : ∀ v ∈ Z54 (.slice sa n c) e, v.oneCell' = true := by
  intro v hv; simp [Z54] at hv; rcases hv with rfl | rfl | rfl | rfl <;> rfl

/-- The spots of a machine, to be read. -/
structure SpM (F : Nat → Prop) (w : World) (sa : Option Addr) (c : Nat) (M : List Sp) (vs : List (Value × Nat)) : Prop where
  own : w.ownsRow 0 202 2 (.slice sa M.length c) M.length (cQ vs)
  sp : SpL F w vs M
  at' : ∀ b, (Value.slice sa M.length c).ownBlock = some b → F b
  b64 : ∀ (i : Nat) (s : Sp), M[i]? = some s → s.next < 18446744073709551616

set_option maxRecDepth 100000 in
set_option maxHeartbeats 8000000 in
theorem machineOfP (l : List (List Pt)) (F : Nat → Prop) (w : World) (ad : Option Addr) (c b off : Nat) (hb : l ≠ [] → ad = some ⟨b, off, none⟩ ∧ F b) (hrv : RowsV F w l b off) (hF : ∀ b, F b → b < w.heap.size) (hcnt : rowsCnt l ≤ 64) (hfine : rowsFine l) (hln : l.length ≤ 1000) :
    Calls Tryz.prog 90 #[.slice ad l.length c] w fun e w' => ∃ sa sc vs F', e = .returned (.agg (Z54 (.slice sa (machL l).2.length sc) (machL l).1).toArray) ∧ SpM F' w' sa sc (machL l).2 vs ∧ (∀ b, F b → F' b) ∧ (∀ b, F' b → F b ∨ (w.heap.size ≤ b ∧ b < w'.heap.size)) ∧ Below w.heap.size w w' := by
  obtain ⟨n, hn⟩ : ∃ n, l.length = n := ⟨_, rfl⟩
  obtain ⟨W, hW⟩ : ∃ W, (w.alloc (.cells #[.slice none 0 0, .int .u64 0, .int .u64 0, .bool false] 165)).alloc (.cells #[.slice none 0 0, .int .u64 0, .int .u64 0, .bool false] 165) = W := ⟨_, rfl⟩
  have hal : Below w.heap.size w W := by
    have h1 := (Below.refl w.heap.size w).alloc (Nat.le_refl _) (.cells #[.slice none 0 0, .int .u64 0, .int .u64 0, .bool false] 165)
    rw [← hW]; exact h1.alloc h1.size _
  have B0 : Blk W w.heap.size 165 (Z54 (.slice none 0 0) ⟨0, 0, false⟩) := by rw [← hW]; exact (Blk.new w 165 (Z54 (.slice none 0 0) ⟨0, 0, false⟩)).alloc _
  have B1 : Blk W (w.heap.size + 1) 165 (Z54 (.slice none 0 0) ⟨0, 0, false⟩) := by
    have := Blk.new (w.alloc (.cells #[.slice none 0 0, .int .u64 0, .int .u64 0, .bool false] 165)) 165 (Z54 (.slice none 0 0) ⟨0, 0, false⟩)
    rw [show (w.alloc (.cells #[.slice none 0 0, .int .u64 0, .int .u64 0, .bool false] 165)).heap.size = w.heap.size + 1 by simp] at this
    rw [← hW]
    exact this
  have hM : Mch F W (w.heap.size + 1) ⟨0, 0, false⟩ [] none := by
    refine ⟨none, 0, [], ⟨B1, World.ownsRow_nil _ _ _ _, ⟨rfl, fun i x s h => by simp at h⟩, fun h => by have := hF _ h; omega, fun b hb e => by simp [Value.ownBlock] at e, by simp [Value.ownBlock], fun b hb => by have := hF b hb; have := hal.size; omega, fun i s h => by simp at h⟩, by simp [Value.ownBlock]⟩
  have k19 := add_rows l (fun r hr => add_row r (addRows l r hr)) F W (w.heap.size + 1) ⟨0, 0, false⟩ [] none ad c b off hb (RowsV.keep (Chg.of_below (F := fun _ => False) hal) (fun _ _ h => h) l b off (fun h0 => (hb h0).2) hrv) hM (by simpa using hcnt) hfine hln
  have e1 : rowsAdd l ⟨0, 0, false⟩ [] = machL l := rfl
  rw [e1, hn] at k19
  rw [hn]
  obtain ⟨⟨E, M⟩, hR⟩ : ∃ R, machL l = R := ⟨_, rfl⟩
  rw [hR] at k19 ⊢
  have HO : Hid (Own F W (w.heap.size + 1) none w.heap.size) := hidden ⟨B0.lt, by omega, by simp, fun h => by have := hF _ h; omega⟩
  have HX : Hid (∀ w3 F' o', Mch F' w3 (w.heap.size + 1) ⟨0, 0, false⟩ M o' → Mv F F' W w3 (w.heap.size + 1) none o' → ∃ sa sc vs, Blk w3 (w.heap.size + 1) 165 (Z54 (.slice sa M.length sc) ⟨0, 0, false⟩) ∧ Blk (w3.setCells (w.heap.size + 1) 1 (esC E)) (w.heap.size + 1) 165 (Z54 (.slice sa M.length sc) E) ∧ Blk (w3.setCells (w.heap.size + 1) 1 (esC E)) w.heap.size 165 (Z54 (.slice none 0 0) ⟨0, 0, false⟩) ∧ Blk ((w3.setCells (w.heap.size + 1) 1 (esC E)).setCells w.heap.size 0 (Z54 (.slice sa M.length sc) E)) w.heap.size 165 (Z54 (.slice sa M.length sc) E) ∧
      ∃ F2, SpM F2 ((w3.setCells (w.heap.size + 1) 1 (esC E)).setCells w.heap.size 0 (Z54 (.slice sa M.length sc) E)) sa sc M vs ∧ (∀ b, F b → F2 b) ∧ (∀ b, F2 b → F b ∨ (w.heap.size ≤ b ∧ b < ((w3.setCells (w.heap.size + 1) 1 (esC E)).setCells w.heap.size 0 (Z54 (.slice sa M.length sc) E)).heap.size)) ∧ Below w.heap.size w ((w3.setCells (w.heap.size + 1) 1 (esC E)).setCells w.heap.size 0 (Z54 (.slice sa M.length sc) E))) := hidden (by
    rintro w3 F' o' h1 h2
    have hB0 := HO.out.blk h2 B0
    have ho3 := HO.out.on h2
    have hr3 := h1.rlt
    obtain ⟨sa, sc, vs, hm, ho⟩ := h1
    have c1 := Chg.sets (w.heap.size + 1) (esC E) 1 w3
    have c2 := Chg.sets w.heap.size (Z54 (.slice sa M.length sc) E) 0 (w3.setCells (w.heap.size + 1) 1 (esC E))
    have c12 : Chg (fun b => b = w.heap.size ∨ b = w.heap.size + 1) w3 ((w3.setCells (w.heap.size + 1) 1 (esC E)).setCells w.heap.size 0 (Z54 (.slice sa M.length sc) E)) := (c1.mono (G := fun b => b = w.heap.size ∨ b = w.heap.size + 1) (fun i _ h => .inr h)).trans c2 (fun i _ h => .inl h)
    have b4 : Blk (w3.setCells (w.heap.size + 1) 1 (esC E)) (w.heap.size + 1) 165 (Z54 (.slice sa M.length sc) E) := by
      have := Blk.sets (esC E) 1 w3 _ hm.blk (by simp [esC])
      simpa [esC, Z54] using this
    have b5 := c1.blk hB0 (fun e => by have e' : w.heap.size = w.heap.size + 1 := e; omega)
    refine ⟨sa, sc, vs, hm.blk, b4, b5, blk_stored b5 rfl, fun b => F' b ∨ o' = some b, ⟨c12.owns hm.own ?_, (hm.sp.keep c12 ?_).mono (fun b hb => .inl hb), fun b hb => .inr (by rw [← ho]; exact hb), hm.b64⟩, fun b hb => .inl (h2.sub b hb), fun b hb => ?_, ?_⟩
    · rintro g hg (e | e)
      · exact ho3.no (by rw [← ho, hg, e])
      · exact hm.ne (by rw [hg, e])
    · rintro g hg (e | e)
      · exact ho3.nF (by rw [← e]; exact hg)
      · exact hm.nr (by rw [← e]; exact hg)
    · rcases hb with hb | hb
      · rcases h2.new b hb with h | h
        · exact .inl h
        · exact .inr ⟨by have := hal.size; omega, by have := hm.lt b hb; have := c12.size; omega⟩
      · have h3 : b < w3.heap.size := owns_lt hm.own b (by rw [ho]; exact hb)
        rcases h2.mv with e | ⟨g, e, hg⟩
        · rw [e] at hb; cases hb
        · rw [e] at hb
          injection hb with hb
          exact .inr ⟨by have := hal.size; omega, by have := c12.size; omega⟩
    · have d1 : Chg (fun b => b = w.heap.size + 1 ∨ (none : Option Nat) = some b) w W := Chg.of_below hal
      have d2 := d1.trans h2.chg (fun i _ h => h)
      have d3 := (d2.mono (G := fun b => b = w.heap.size ∨ b = w.heap.size + 1) (fun i _ h => by
        rcases h with h | h
        · exact .inr h
        · cases h)).trans c12 (fun i _ h => h)
      exact d3.below (Nat.le_refl _) (fun i h => by rcases h with h | h <;> omega))
  rw [← hW] at k19
  have HW := hidden hW
  clear hal B0 B1 hM hW hR e1 hb hrv hF hcnt hfine hln hn
  unfold AddR at k19
  go_enter Tryz.func90, Tryz.ntmps90
  go_wp2_with (first
    | (go_at_call 98; refine k19.mono ?_; rintro e w3 ⟨rfl, F', o', h1, h2⟩; rw [HW.out] at h2; obtain ⟨sa, sc, vs, x1, x2, x3, x4, x5⟩ := HX.out w3 F' o' h1 h2; have X1 := hidden x1; have X2 := hidden x2; have X3 := hidden x3; have X4 := hidden x4; have X5 := hidden x5; clear k19 h1 h2 x1 x2 x3 x4 x5)
    | (refine wpList_store_mid rfl 163 (.tmp 7) (.tmp 6) rfl (w.heap.size + 1) 1 (esC E).toArray rfl rfl (X1.out.there 1 3 (by simp [Z54])) info52 (all_oneCell_toArray (esC_one E)) ?_)
    | (refine wpList_load_blk rfl 165 (.tmp 3) rfl (w.heap.size + 1) X2.out rfl Tryz.underlying165 rfl info54 ?_)
    | (refine wpList_store_blk (l := Z54 (.slice sa M.length sc) E) rfl 165 (.tmp 2) (.tmp 8) rfl rfl w.heap.size X3.out rfl rfl rfl info54 (Z54_one _ _ _ _) ?_))
  refine bodyPost_ret (res_mach _ _ w.heap.size sa M.length sc E rfl X4.out) rfl ?_
  obtain ⟨F2, y1, y2, y3, y4⟩ := X5.out
  exact ⟨sa, sc, vs, F2, rfl, y1, y2, y3, y4⟩

end Go.Proofs.YtanlgplgplncdaaGreatDoor

/-
  A pattern in memory; Parse.
-/
namespace Go.Proofs.YtanlgplgplncdaaGreatDoor
open Go.RowKit
set_option linter.unusedVariables false
set_option linter.unusedSimpArgs false

theorem SpM.keep {F G : Nat → Prop} {w w' : World} {sa : Option Addr} {c : Nat} {M : List Sp} {vs : List (Value × Nat)} (h : SpM F w sa c M vs) (hc : Chg G w w') (hd : ∀ b, F b → ¬ G b) : SpM F w' sa c M vs :=
  ⟨hc.owns h.own (fun g hg => hd g (h.at' g hg)), h.sp.keep hc hd, h.at', h.b64⟩

/-- A pattern: the tree l, and its machine; all of it lies in F. -/
structure PaC (F : Nat → Prop) (w : World) (p : Nat) (l : List (List Pt)) (ad : Option Addr) (c b off : Nat) (sa : Option Addr) (sc : Nat) (vs : List (Value × Nat)) : Prop where
  blk : Blk w p 168 [.slice ad l.length c, .slice sa (machL l).2.length sc, .int .u64 ((machL l).1.first : Int), .int .u64 ((machL l).1.last : Int), .bool (machL l).1.emp]
  at' : l ≠ [] → ad = some ⟨b, off, none⟩ ∧ F b
  rows : RowsV F w l b off
  sp : SpM F w sa sc (machL l).2 vs
  fp : F p
  lt : ∀ b, F b → b < w.heap.size
  fine : rowsFine l ∧ l ≠ [] ∧ l.length ≤ 1000
  cnt : rowsCnt l ≤ 64
def PaR (F : Nat → Prop) (w : World) (p : Nat) (l : List (List Pt)) : Prop := ∃ ad c b off sa sc vs, PaC F w p l ad c b off sa sc vs
theorem PaR.keep {F G : Nat → Prop} {w w' : World} {p : Nat} {l : List (List Pt)} (h : PaR F w p l) (hc : Chg G w w') (hd : ∀ b, F b → ¬ G b) : PaR F w' p l := by
  obtain ⟨ad, c, b, off, sa, sc, vs, h⟩ := h
  exact ⟨ad, c, b, off, sa, sc, vs, hc.blk h.blk (hd p h.fp), h.at', RowsV.keep hc hd l b off (fun h0 => (h.at' h0).2) h.rows, h.sp.keep hc hd, h.fp, fun b hb => Nat.lt_of_lt_of_le (h.lt b hb) hc.size, h.fine, h.cnt⟩
theorem PaR.later {F : Nat → Prop} {w w' : World} {p : Nat} {l : List (List Pt)} (h : PaR F w p l) (hb : Below w.heap.size w w') : PaR F w' p l :=
  h.keep (Chg.of_below (F := fun _ => False) hb) (fun _ _ h => h)

/-- Parse, as a function. -/
def endF (S : List UInt8) : Pr (List (List Pt)) → Pr (List (List Pt))
  | .ok l b => if b < S.length then .bad b else .ok l b
  | .bad k => .bad k
  | .out => .out
def prs (S : List UInt8) : Pr (List (List Pt)) := if 64 < S.length then .bad 64 else endF S (rowsF S (4 * S.length + 4) 0 0)
/-- What Parse answers. -/
def ParseR (s : ByteArray) (w : World) (e : Ending) (w' : World) : Prop :=
  Below w.heap.size w w' ∧ ((∃ p F l, (∃ b, prs (bts s) = .ok l b) ∧ e = .returned (.tuple #[.pointer (some ⟨p, 0, none⟩), .nilIface]) ∧ PaR F w' p l ∧ ∀ b, F b → w.heap.size ≤ b) ∨
    (∃ k g, prs (bts s) = .bad k ∧ e = .returned (.tuple #[.pointer none, .iface 50 (.pointer (some ⟨g, 0, none⟩))]) ∧ Blk w' g 53 [.int .i64 (k : Int), .int .i64 80] ∧ k ≤ s.size))

set_option maxRecDepth 100000 in
set_option maxHeartbeats 8000000 in
theorem parseP (s : ByteArray) (w : World) : Calls Tryz.prog 74 #[.string s] w (ParseR s w) := by
  have hsb := size_bts s
  unfold ParseR
  by_cases h64 : s.size ≤ 64
  · have h64z : ¬ (64 : Int) < (s.size : Int) := by omega
    obtain ⟨W, hW⟩ : ∃ W, w.alloc (.cells #[.string s, .int .i64 0, .int .i64 0] 154) = W := ⟨_, rfl⟩
    have hal : Below w.heap.size w W := by rw [← hW]; exact (Below.refl _ w).alloc (Nat.le_refl _) _
    have hrd : Rd W w.heap.size s 0 0 := by rw [← hW]; exact Blk.new w 154 [.string s, .int .i64 0, .int .i64 0]
    have hbd := (read_bd (bts s) (4 * (bts s).length + 4) 0 0 (by omega)).1
    have hno : rowsF (bts s) (4 * (bts s).length + 4) 0 0 ≠ .out := hbd.2 (by omega)
    have hcn := (read_cnt (bts s) (by omega) (4 * (bts s).length + 4) 0 0 (by omega)).1
    have k12 := (reads (4 * (bts s).length + 4)).1 w.heap.size s 0 0 W hrd (by omega) h64 (by omega) hno
    obtain ⟨R, hR⟩ : ∃ R, rowsF (bts s) (4 * (bts s).length + 4) 0 0 = R := ⟨_, rfl⟩
    have hps : prs (bts s) = endF (bts s) R := by unfold prs; rw [if_neg (by omega), hR]
    rw [hR] at k12 hbd hcn
    have HP := hidden hps
    have HBD := hidden hbd.1
    have HCN := hidden hcn
    have HAL := hidden hal
    have HSB := hidden hsb
    have HWL : Hid (w.heap.size < W.heap.size) := hidden hrd.lt
    rw [← hW] at k12
    have HW := hidden hW
    clear hal hrd hbd hno hcn hR hps hW hsb
    unfold RowsR at k12
    go_enter Tryz.func74, Tryz.ntmps74
    go_upto_region 5 with (go_at_call 89; refine k12.mono ?_; rintro e w2 ⟨ad, n, c, b, ok, rfl, hrd, hch, hbl, hres⟩; rw [HW.out] at hch hres; clear k12)
    have a1 : w2.cell? ⟨w.heap.size, 1, none⟩ = some (.int .i64 (b : Int)) := Blk.cell hrd 1
    have HB2 : Hid (Below w.heap.size w w2) := hidden (HAL.out.trans (hch.below HAL.out.size (fun i e => by have e' : i = w.heap.size := e; omega)))
    have hbz : b ≤ s.size := by rw [HSB.out]; exact hbl
    rcases hres with ⟨rfl, l, g, off, rfl, hRl, hlg, hrv⟩ | ⟨rfl, hRb⟩
    · subst hRl
      have hfi := HCN.out l b rfl
      by_cases hlt : b < s.size
      · have hltz : (b : Int) < (s.size : Int) := by omega
        have HPB : Hid (prs (bts s) = .bad b) := hidden (by rw [HP.out, endF, if_pos (by have := HSB.out; omega)])
        have HBX := hidden (HB2.out.alloc HB2.out.size (.cells #[.int .i64 (b : Int), .int .i64 80] 53))
        have HBN : Hid (Blk (w2.alloc (.cells #[.int .i64 (b : Int), .int .i64 80] 53)) w2.heap.size 53 [.int .i64 (b : Int), .int .i64 80]) := hidden (Blk.new w2 53 _)
        clear hrd hch hlg hrv hfi
        go_wp2_with fail
        go_region
        go_wp2
        go_ret2
        exact ⟨HBX.out.trans (below_drew _ _), Or.inr ⟨b, w2.heap.size, HPB.out, rfl, HBN.out.drew, by omega⟩⟩
      · have hltz : ¬ (b : Int) < (s.size : Int) := by omega
        have HPB : Hid (prs (bts s) = .ok l b) := hidden (by rw [HP.out, endF, if_neg (by have := HSB.out; omega)])
        have k13 := machineOfP l (FW W w2) w2 ad c g off hlg hrv (fun b hb => hb.2) (by omega) hfi.2.1 (by omega)
        have HFI := hidden hfi
        have HLG := hidden hlg
        have HRV := hidden hrv
        obtain ⟨nl, hnl⟩ : ∃ nl, l.length = nl := ⟨_, rfl⟩
        have HNL := hidden hnl
        obtain ⟨nm, hnm⟩ : ∃ nm, (machL l).2.length = nm := ⟨_, rfl⟩
        have HNM := hidden hnm
        have hcl : rowsCnt l ≤ 64 := by omega
        have HCL := hidden hcl
        rw [hnl, hnm] at k13
        rw [hnl]
        clear hrd hch hlg hrv hfi hnl hnm hcl
        go_wp2_with (go_at_call 90; refine k13.mono ?_; rintro e w3 ⟨sa, sc, vs, F', rfl, y1, y2, y3, y4⟩; have Y1 := hidden y1; have Y2 := hidden y2; have Y3 := hidden y3; have Y4 := hidden y4; clear k13 y1 y2 y3 y4; simp only [Z54])
        go_ret2
        have hbel := HB2.out.trans (Y4.out.mono HB2.out.size)
        have hl3 := hbel.alloc hbel.size (.cells #[.slice ad nl c, .slice sa nm sc, .int .u64 ((machL l).1.first : Int), .int .u64 ((machL l).1.last : Int), .bool (machL l).1.emp] 168)
        have hwl := HWL.out
        have hs2 := HB2.out.size
        have hs3 := Y4.out.size
        refine ⟨hl3, Or.inl ⟨w3.heap.size, fun b => F' b ∨ b = w3.heap.size, l, ⟨b, HPB.out⟩, rfl, ?_, ?_⟩⟩
        · have hc3 : Chg (fun _ => False) w2 w3 := Chg.of_below Y4.out
          have hc4 : Chg (fun _ => False) w3 (w3.alloc (.cells #[.slice ad nl c, .slice sa nm sc, .int .u64 ((machL l).1.first : Int), .int .u64 ((machL l).1.last : Int), .bool (machL l).1.emp] 168)) := Chg.alloc _ _ _
          have hsz : (w3.alloc (.cells #[.slice ad nl c, .slice sa nm sc, .int .u64 ((machL l).1.first : Int), .int .u64 ((machL l).1.last : Int), .bool (machL l).1.emp] 168)).heap.size = w3.heap.size + 1 := by simp
          have hsp := Y1.out.keep hc4 (fun _ _ h => h)
          refine ⟨ad, c, g, off, sa, sc, vs, ?_, fun h0 => ⟨(HLG.out h0).1, .inl (Y2.out _ (HLG.out h0).2)⟩, ?_, ⟨hsp.own, hsp.sp.mono (fun _ h => .inl h), fun b hb => .inl (hsp.at' b hb), hsp.b64⟩, .inr rfl, fun b hb => ?_, ⟨HFI.out.2.1, HFI.out.2.2.1, by have := HFI.out.2.2.2; omega⟩, HCL.out⟩
          · rw [HNL.out, HNM.out]
            exact Blk.new w3 168 _
          · exact RowsV.mono (fun b hb => .inl (Y2.out b hb)) l g off (RowsV.keep hc4 (fun _ _ h => h) l g off (fun h0 => (HLG.out h0).2) (RowsV.keep hc3 (fun _ _ h => h) l g off (fun h0 => (HLG.out h0).2) HRV.out))
          · rw [hsz]
            rcases hb with hb | hb
            · rcases Y3.out b hb with h | h
              · have := h.2; omega
              · omega
            · omega
        · intro b hb
          rcases hb with hb | hb
          · rcases Y3.out b hb with h | h
            · have := h.1; omega
            · omega
          · omega
    · subst hRb
      have HPB : Hid (prs (bts s) = .bad b) := hidden (by rw [HP.out, endF])
      have HBX := hidden (HB2.out.alloc HB2.out.size (.cells #[.int .i64 (b : Int), .int .i64 80] 53))
      have HBN : Hid (Blk (w2.alloc (.cells #[.int .i64 (b : Int), .int .i64 80] 53)) w2.heap.size 53 [.int .i64 (b : Int), .int .i64 80]) := hidden (Blk.new w2 53 _)
      clear hrd hch
      go_wp2_with fail
      go_region
      go_wp2
      go_ret2
      exact ⟨HBX.out.trans (below_drew _ _), Or.inr ⟨b, w2.heap.size, HPB.out, rfl, HBN.out.drew, by omega⟩⟩
  · have h64z : (64 : Int) < (s.size : Int) := by omega
    have HPB : Hid (prs (bts s) = .bad 64) := hidden (by unfold prs; rw [if_pos (by omega)])
    have HBX := hidden ((Below.refl w.heap.size w).alloc (Nat.le_refl _) (.cells #[.int .i64 64, .int .i64 80] 53))
    have HBN : Hid (Blk (w.alloc (.cells #[.int .i64 64, .int .i64 80] 53)) w.heap.size 53 [.int .i64 64, .int .i64 80]) := hidden (Blk.new w 53 _)
    clear hsb
    go_enter Tryz.func74, Tryz.ntmps74
    go_wp2
    go_ret2
    exact ⟨HBX.out, Or.inr ⟨64, w.heap.size, HPB.out, rfl, HBN.out, by omega⟩⟩

end Go.Proofs.YtanlgplgplncdaaGreatDoor

/-
  The machine: step.
-/
namespace Go.Proofs.YtanlgplgplncdaaGreatDoor
open Go.RowKit
set_option linter.unusedVariables false
set_option linter.unusedSimpArgs false

/-- One code point taken, spot by spot. -/
def stF (last op x : Nat) : Nat → List Sp → Nat → Bool → Nat × Bool
  | _, [], nx, en => (nx, en)
  | i, s :: t, nx, en => if op.testBit i && inS s.takes x then stF last op x (i + 1) t (nx ||| s.next) (en || last.testBit i) else stF last op x (i + 1) t nx en
theorem stF_1 (last op x : Nat) : ∀ (t : List Sp) (i nx : Nat) (en : Bool) (q : Nat), (stF last op x i t nx en).1.testBit q = true ↔ nx.testBit q = true ∨ ∃ j s, t[j]? = some s ∧ op.testBit (i + j) = true ∧ inS s.takes x = true ∧ s.next.testBit q = true
  | [], i, nx, en, q => by simp [stF]
  | s :: t, i, nx, en, q => by
    rw [stF]
    have ih := stF_1 last op x t (i + 1)
    have key : (∃ j s', (s :: t)[j]? = some s' ∧ op.testBit (i + j) = true ∧ inS s'.takes x = true ∧ s'.next.testBit q = true) ↔ (op.testBit i = true ∧ inS s.takes x = true ∧ s.next.testBit q = true) ∨ ∃ j s', t[j]? = some s' ∧ op.testBit (i + 1 + j) = true ∧ inS s'.takes x = true ∧ s'.next.testBit q = true := by
      constructor
      · rintro ⟨j, s', h1, h2, h3, h4⟩
        cases j with
        | zero => simp at h1; subst h1; exact Or.inl ⟨h2, h3, h4⟩
        | succ j => exact Or.inr ⟨j, s', by simpa using h1, by rw [show i + 1 + j = i + (j + 1) by omega]; exact h2, h3, h4⟩
      · rintro (⟨h2, h3, h4⟩ | ⟨j, s', h1, h2, h3, h4⟩)
        · exact ⟨0, s, by simp, h2, h3, h4⟩
        · exact ⟨j + 1, s', by simpa using h1, by rw [show i + (j + 1) = i + 1 + j by omega]; exact h2, h3, h4⟩
    rw [key]
    split
    · rename_i hc
      simp only [Bool.and_eq_true] at hc
      rw [ih, Nat.testBit_or]
      simp only [Bool.or_eq_true]
      constructor
      · rintro ((h | h) | h)
        · exact Or.inl h
        · exact Or.inr (Or.inl ⟨hc.1, hc.2, h⟩)
        · exact Or.inr (Or.inr h)
      · rintro (h | ⟨_, _, h⟩ | h)
        · exact Or.inl (Or.inl h)
        · exact Or.inl (Or.inr h)
        · exact Or.inr h
    · rename_i hc
      simp only [Bool.and_eq_true] at hc
      rw [ih]
      constructor
      · rintro (h | h)
        · exact Or.inl h
        · exact Or.inr (Or.inr h)
      · rintro (h | ⟨h1, h2, _⟩ | h)
        · exact Or.inl h
        · exact absurd ⟨h1, h2⟩ hc
        · exact Or.inr h
theorem stF_2 (last op x : Nat) : ∀ (t : List Sp) (i nx : Nat) (en : Bool), (stF last op x i t nx en).2 = true ↔ en = true ∨ ∃ j s, t[j]? = some s ∧ op.testBit (i + j) = true ∧ inS s.takes x = true ∧ last.testBit (i + j) = true
  | [], i, nx, en => by simp [stF]
  | s :: t, i, nx, en => by
    rw [stF]
    have ih := stF_2 last op x t (i + 1)
    have key : (∃ j s', (s :: t)[j]? = some s' ∧ op.testBit (i + j) = true ∧ inS s'.takes x = true ∧ last.testBit (i + j) = true) ↔ (op.testBit i = true ∧ inS s.takes x = true ∧ last.testBit i = true) ∨ ∃ j s', t[j]? = some s' ∧ op.testBit (i + 1 + j) = true ∧ inS s'.takes x = true ∧ last.testBit (i + 1 + j) = true := by
      constructor
      · rintro ⟨j, s', h1, h2, h3, h4⟩
        cases j with
        | zero => simp at h1; subst h1; exact Or.inl ⟨h2, h3, h4⟩
        | succ j => exact Or.inr ⟨j, s', by simpa using h1, by rw [show i + 1 + j = i + (j + 1) by omega]; exact h2, h3, by rw [show i + 1 + j = i + (j + 1) by omega]; exact h4⟩
      · rintro (⟨h2, h3, h4⟩ | ⟨j, s', h1, h2, h3, h4⟩)
        · exact ⟨0, s, by simp, h2, h3, h4⟩
        · exact ⟨j + 1, s', by simpa using h1, by rw [show i + (j + 1) = i + 1 + j by omega]; exact h2, h3, by rw [show i + (j + 1) = i + 1 + j by omega]; exact h4⟩
    rw [key]
    split
    · rename_i hc
      simp only [Bool.and_eq_true] at hc
      rw [ih]
      simp only [Bool.or_eq_true]
      constructor
      · rintro ((h | h) | h)
        · exact Or.inl h
        · exact Or.inr (Or.inl ⟨hc.1, hc.2, h⟩)
        · exact Or.inr (Or.inr h)
      · rintro (h | ⟨_, _, h⟩ | h)
        · exact Or.inl (Or.inl h)
        · exact Or.inl (Or.inr h)
        · exact Or.inr h
    · rename_i hc
      simp only [Bool.and_eq_true] at hc
      rw [ih]
      constructor
      · rintro (h | h)
        · exact Or.inl h
        · exact Or.inr (Or.inr h)
      · rintro (h | ⟨h1, h2, _⟩ | h)
        · exact Or.inl h
        · exact absurd ⟨h1, h2⟩ hc
        · exact Or.inr h
theorem stF_b (last op x : Nat) : ∀ (t : List Sp) (i nx : Nat) (en : Bool), nx < 18446744073709551616 → (∀ (i : Nat) (s : Sp), t[i]? = some s → s.next < 18446744073709551616) → (stF last op x i t nx en).1 < 18446744073709551616
  | [], i, nx, en, h, _ => by rw [stF]; exact h
  | s :: t, i, nx, en, h, hb => by
    rw [stF]
    have hb' : ∀ (i : Nat) (s : Sp), t[i]? = some s → s.next < 18446744073709551616 := fun j s' h => hb (j + 1) s' (by simpa using h)
    split
    · exact stF_b last op x t _ _ _ (or_lt h (hb 0 s (by simp))) hb'
    · exact stF_b last op x t _ _ _ h hb'
theorem stF_yes {last op x i nx : Nat} {en : Bool} {M : List Sp} {s : Sp} (hs : M[i]? = some s) (h1 : op.testBit i = true) (h2 : inS s.takes x = true) : stF last op x i (M.drop i) nx en = stF last op x (i + 1) (M.drop (i + 1)) (nx ||| s.next) (en || last.testBit i) := by
  rw [drop_at hs, stF, h1, h2]; rfl
theorem stF_no {last op x i nx : Nat} {en : Bool} {M : List Sp} {s : Sp} (hs : M[i]? = some s) (h1 : (op.testBit i && inS s.takes x) = false) : stF last op x i (M.drop i) nx en = stF last op x (i + 1) (M.drop (i + 1)) nx en := by
  rw [drop_at hs, stF, h1]; rfl

set_option maxRecDepth 100000 in
set_option maxHeartbeats 8000000 in
theorem stepP (F : Nat → Prop) (w : World) (p : Nat) (l : List (List Pt)) (hP : PaR F w p l) (op x : Nat) (hop : op < 18446744073709551616) :
    Calls Tryz.prog 100 #[.pointer (some ⟨p, 1, none⟩), .int .u64 (op : Int), .int .i32 (x : Int)] w fun e w' => e = .returned (.tuple #[.int .u64 ((stF (machL l).1.last op x 0 (machL l).2 0 false).1 : Int), .bool (stF (machL l).1.last op x 0 (machL l).2 0 false).2]) ∧ Below w.heap.size w w' := by
  obtain ⟨ad, c, b, off, sa, sc, vs, h⟩ := hP
  have hB := h.blk
  have hsp := h.sp
  have hb64 := rowsAdd_b64 l ⟨0, 0, false⟩ [] (by simpa using h.cnt) (Es.b64.zero _)
  have hml := rowsAdd_len l ⟨0, 0, false⟩ []
  have hcnt := h.cnt
  clear h
  change (machL l).1.b64 at hb64
  change (machL l).2.length = _ at hml
  obtain ⟨⟨E, M⟩, hR⟩ : ∃ R, machL l = R := ⟨_, rfl⟩
  rw [hR] at hB hsp hb64 hml ⊢
  obtain ⟨fi, la, em⟩ := E
  simp only at hB hsp hb64 hml ⊢
  have hn64 : M.length ≤ 64 := by rw [hml]; simpa using hcnt
  obtain ⟨n, hn⟩ : ∃ n, M.length = n := ⟨_, rfl⟩
  have HN := hidden hn
  have HSP := hidden hsp
  have HBK := hidden hB
  rw [hn] at hn64
  have c1 : w.cell? ⟨p, 1, none⟩ = some (.slice sa n sc) := by have := hB.cell 1; rw [hn] at this; exact this
  have hla := hb64.2
  have HB64 := hidden hsp.b64
  obtain ⟨⟨R1, R2⟩, hR2⟩ : ∃ R, stF la op x 0 M 0 false = R := ⟨_, rfl⟩
  have HR : Hid (stF la op x 0 (M.drop 0) 0 false = (R1, R2)) := hidden (by rw [List.drop_zero]; exact hR2)
  rw [hR2]
  clear hB hsp hb64 hml hcnt hR hn hR2
  simp only at hla
  go_enter Tryz.func100, Tryz.ntmps100
  go_wp2
  clear c1
  go_loopw [8, 9, 17] (fun s8 s9 s17 wx => ∃ (i nx : Nat) (en : Bool), s8 = .int .u64 (nx : Int) ∧ s9 = .bool en ∧ s17 = .int .i64 (i : Int) ∧ i ≤ n ∧ nx < 18446744073709551616 ∧ Hid (stF la op x i (M.drop i) nx en = (R1, R2)) ∧ Hid (Below w.heap.size w wx)) (fun _ _ s17 _ => n - (intOf s17).toNat)
  case atStart => exact ⟨0, 0, false, rfl, rfl, rfl, by omega, by omega, HR, hidden (Below.refl _ _)⟩
  case round =>
    rename World => wr
    obtain ⟨i, nx, en, rfl, rfl, rfl, hi, hnx, hrel, hbel⟩ := hrel
    clear HR
    by_cases hlt : i < n
    · have hltz : (i : Int) < (n : Int) := by omega
      obtain ⟨s, hs⟩ : ∃ s, M[i]? = some s := ⟨M[i]'(by rw [HN.out]; exact hlt), by simp⟩
      have hsp := HSP.out.keep (Chg.of_below (F := fun _ => False) hbel.out) (fun _ _ h => h)
      obtain ⟨v, hv, ta, tc, rfl, hss, hsf, hs20⟩ := hsp.sp.get hs
      have hb := HB64.out i s hs
      rcases hsp.own.2 with ⟨e0, e1⟩ | ⟨g, cap, cur, e0, _⟩
      · rw [HN.out] at e1; omega
      · injection e0 with e0 _ e2
        subst e0 e2
        have hoc := cQ_get vs i _ hv
        obtain ⟨tn, htn⟩ : ∃ tn, s.takes.length = tn := ⟨_, rfl⟩
        rw [htn] at hoc hs20
        have d0 : wr.cell? ⟨g, i * 2, none⟩ = some (.slice ta tn tc) := by
          have := hsp.own.cells (g := g) (by simp [Value.ownBlock]) _ _ hoc.1
          rw [Addr.add_lit, Nat.zero_add] at this
          exact this
        have d1 : wr.cell? ⟨g, i * 2 + 1, none⟩ = some (.int .u64 (s.next : Int)) := by
          have := hsp.own.cells (g := g) (by simp [Value.ownBlock]) _ _ hoc.2
          rw [Addr.add_lit, Nat.zero_add] at this
          exact this
        have HAL : Hid (Below w.heap.size w (wr.alloc (.cells #[.slice ta tn tc, .int .u64 (s.next : Int)] 202))) := hidden (hbel.out.alloc hbel.out.size _)
        have hal1 : Below wr.heap.size wr (wr.alloc (.cells #[.slice ta tn tc, .int .u64 (s.next : Int)] 202)) := (Below.refl _ _).alloc (Nat.le_refl _) _
        have kW := withinP ta tc s.takes x (wr.alloc (.cells #[.slice ta tn tc, .int .u64 (s.next : Int)] 202)) (hss.later hal1) (by omega)
        rw [htn] at kW
        have kH := hasP op i hop (by omega)
        have kL := hasP la i hla (by omega)
        have HBP : Hid (Blk (wr.alloc (.cells #[.slice ta tn tc, .int .u64 (s.next : Int)] 202)) p 168 [.slice ad l.length c, .slice (some ⟨g, 0, none⟩) M.length sc, .int .u64 (fi : Int), .int .u64 (la : Int), .bool em]) := hidden (((Chg.of_below (F := fun _ => False) hbel.out).blk HBK.out (fun h => h)).alloc _)
        have HLB : Hid (Blk (wr.alloc (.cells #[.slice ta tn tc, .int .u64 (s.next : Int)] 202)) wr.heap.size 202 [.slice ta tn tc, .int .u64 (s.next : Int)]) := hidden (Blk.new wr 202 _)
        have o1 := or64 hnx hb
        have hnx2 := or_lt hnx hb
        have HS := hidden hs
        clear hsp hv hss hsf hs20 hoc htn hs
        cases hb1 : op.testBit i with
        | false =>
          rw [hb1] at kH
          have HNX := hidden ((stF_no (last := la) (nx := nx) (en := en) HS.out (show (op.testBit i && inS s.takes x) = false by rw [hb1]; rfl)).symm.trans hrel.out)
          clear hb1 kW kL
          go_wp2_with (go_at_call 111; refine (kH _).mono ?_; rintro e w2 ⟨rfl, rfl⟩; clear kH)
          refine ⟨⟨i + 1, nx, en, by first | rfl | simp, by first | rfl | simp, by first | rfl | simp, by omega, hnx, HNX, HAL⟩, ?_⟩
          simp [intOf]
          omega
        | true =>
          rw [hb1] at kH
          cases hb2 : inS s.takes x with
          | false =>
            rw [hb2] at kW
            have HNX := hidden ((stF_no (last := la) (nx := nx) (en := en) HS.out (show (op.testBit i && inS s.takes x) = false by rw [hb2]; simp)).symm.trans hrel.out)
            clear hb1 hb2 kL
            go_wp2_with (first
              | (go_at_call 111; refine (kH _).mono ?_; rintro e w2 ⟨rfl, rfl⟩; clear kH)
              | (go_at_call 112; refine kW.mono ?_; rintro e w3 ⟨rfl, h3⟩; have H3 := hidden h3; clear kW h3))
            refine ⟨⟨i + 1, nx, en, by first | rfl | simp, by first | rfl | simp, by first | rfl | simp, by omega, hnx, HNX, hidden (HAL.out.trans (H3.out.mono HAL.out.size))⟩, ?_⟩
            simp [intOf]
            omega
          | true =>
            rw [hb2] at kW
            have HNX := hidden ((stF_yes (last := la) (nx := nx) (en := en) HS.out hb1 hb2).symm.trans hrel.out)
            obtain ⟨lb, hlb⟩ : ∃ lb, la.testBit i = lb := ⟨_, rfl⟩
            rw [hlb] at kL HNX
            clear hb1 hb2 hlb
            cases en with
            | true =>
              clear kL
              go_wp2_with (first
                | (go_at_call 111; refine (kH _).mono ?_; rintro e w2 ⟨rfl, rfl⟩; clear kH)
                | (go_at_call 112; refine kW.mono ?_; rintro e w3 ⟨rfl, h3⟩; have H3 := hidden h3; have L3 := HLB.out.later h3; have L1 : w3.cell? ⟨wr.heap.size, 1, none⟩ = some (.int .u64 (s.next : Int)) := L3.cell 1; clear kW h3 L3))
              refine ⟨⟨i + 1, nx ||| s.next, true, by first | rfl | simp, by first | rfl | simp, by first | rfl | simp, by omega, hnx2, HNX, hidden (HAL.out.trans (H3.out.mono HAL.out.size))⟩, ?_⟩
              simp [intOf]
              omega
            | false =>
              go_wp2_with (first
                | (go_at_call 111; refine (kH _).mono ?_; rintro e w2 ⟨rfl, rfl⟩; clear kH)
                | (go_at_call 111; refine (kL _).mono ?_; rintro e w4 ⟨rfl, rfl⟩; clear kL)
                | (go_at_call 112; refine kW.mono ?_; rintro e w3 ⟨rfl, h3⟩; have H3 := hidden h3; have L3 := HLB.out.later h3; have L1 : w3.cell? ⟨wr.heap.size, 1, none⟩ = some (.int .u64 (s.next : Int)) := L3.cell 1; have P3 := HBP.out.later h3; have P1 : w3.cell? ⟨p, 3, none⟩ = some (.int .u64 (la : Int)) := P3.cell 3; clear kW h3 L3 P3))
              refine ⟨⟨i + 1, nx ||| s.next, lb, by first | rfl | simp, by first | rfl | simp, by first | rfl | simp, by omega, hnx2, by simpa using HNX, hidden (HAL.out.trans (H3.out.mono HAL.out.size))⟩, ?_⟩
              simp [intOf]
              omega
    · have hltz : ¬ (i : Int) < (n : Int) := by omega
      have hend : M.drop i = [] := List.drop_of_length_le (by rw [HN.out]; omega)
      have hre := hrel.out
      rw [hend, stF] at hre
      injection hre with e1 e2
      subst e1 e2
      clear hrel hend
      go_wp2
      go_ret2
      exact ⟨rfl, hbel.out⟩

end Go.Proofs.YtanlgplgplncdaaGreatDoor
