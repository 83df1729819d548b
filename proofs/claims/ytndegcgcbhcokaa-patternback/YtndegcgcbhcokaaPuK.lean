/-
  The machine of a pattern: machineOf.
-/
import Derived.Test.YtndegcgcbhcokaaPuJ
namespace Go.Proofs.Ytndegcgcbhcokaa
open Go.RowKit
set_option linter.unusedVariables false
set_option linter.unusedSimpArgs false

mutual
/-- ADD LAYS A PART'S MACHINE. -/
theorem addP : ∀ p : Pt, AddC p
  | .chr c => add_chr c
  | .any => add_any
  | .cls neg l => add_cls neg l
  | .grp l => add_grp l (add_rows l (fun r hr => add_row r (addRows l r hr)))
  | .rep a s => add_rep a s (addP a)
theorem addRow : ∀ (r : List Pt) (p : Pt), p ∈ r → AddC p
  | [], p, h => by cases h
  | q :: t, p, h => by
    rcases List.mem_cons.1 h with e | h
    · rw [e]; exact addP q
    · exact addRow t p h
theorem addRows : ∀ (l : List (List Pt)) (r : List Pt), r ∈ l → ∀ p ∈ r, AddC p
  | [], r, h => by cases h
  | q :: t, r, h => by
    rcases List.mem_cons.1 h with e | h
    · rw [e]; exact addRow q
    · exact addRows t r h
end

def Z54 (a : Value) (e : Es) : List Value := [a, .int .u64 (e.first : Int), .int .u64 (e.last : Int), .bool e.emp]
theorem res_mach (tmps : Array Value) (w : World) (g : Nat) (sa : Option Addr) (n c : Nat) (e : Es) (hp : tmps.getD 2 undef = .pointer (some ⟨g, 0, none⟩)) (h : Blk w g 54 (Z54 (.slice sa n c) e)) :
    (results Try.f13 tmps).run Try.prog w = .ok (.agg (Z54 (.slice sa n c) e).toArray) w := by
  have h0 : w.cell? ⟨g, 0, none⟩ = some (.slice sa n c) := h.cell 0
  have h1 : w.cell? ⟨g, 1, none⟩ = some (.int .u64 (e.first : Int)) := h.cell 1
  have h2 : w.cell? ⟨g, 2, none⟩ = some (.int .u64 (e.last : Int)) := h.cell 2
  have h3 : w.cell? ⟨g, 3, none⟩ = some (.bool e.emp) := h.cell 3
  have hr : Try.f13.results = #[.cell 2 54] := by kernel_rfl
  have hp' : tmps[2]?.getD undef = .pointer (some ⟨g, 0, none⟩) := by simpa using hp
  simp [results, hr, hp', asAddr, loadVar, h0, h1, h2, h3, go_sem, Z54]
theorem info54 : (Try.prog.info? 54).map (·.size) = some 4 := by kernel_rfl
theorem Z54_one (sa : Option Addr) (n c : Nat) (e : Es) : ∀ v ∈ Z54 (.slice sa n c) e, v.oneCell' = true := by
  intro v hv; simp [Z54] at hv; rcases hv with rfl | rfl | rfl | rfl <;> rfl

/-- The spots of a machine, to be read. -/
structure SpM (F : Nat → Prop) (w : World) (sa : Option Addr) (c : Nat) (M : List Sp) (vs : List (Value × Nat)) : Prop where
  own : w.ownsRow 0 102 2 (.slice sa M.length c) M.length (cQ vs)
  sp : SpL F w vs M
  at' : ∀ b, (Value.slice sa M.length c).ownBlock = some b → F b
  b64 : ∀ (i : Nat) (s : Sp), M[i]? = some s → s.next < 18446744073709551616

set_option maxRecDepth 100000 in
set_option maxHeartbeats 8000000 in
theorem machineOfP (l : List (List Pt)) (F : Nat → Prop) (w : World) (ad : Option Addr) (c b off : Nat) (hb : l ≠ [] → ad = some ⟨b, off, none⟩ ∧ F b) (hrv : RowsV F w l b off) (hF : ∀ b, F b → b < w.heap.size) (hcnt : rowsCnt l ≤ 64) (hfine : rowsFine l) (hln : l.length ≤ 1000) :
    Calls Try.prog 13 #[.slice ad l.length c] w fun e w' => ∃ sa sc vs F', e = .returned (.agg (Z54 (.slice sa (machL l).2.length sc) (machL l).1).toArray) ∧ SpM F' w' sa sc (machL l).2 vs ∧ (∀ b, F b → F' b) ∧ (∀ b, F' b → F b ∨ (w.heap.size ≤ b ∧ b < w'.heap.size)) ∧ Below w.heap.size w w' := by
  obtain ⟨n, hn⟩ : ∃ n, l.length = n := ⟨_, rfl⟩
  obtain ⟨W, hW⟩ : ∃ W, (w.alloc (.cells #[.slice none 0 0, .int .u64 0, .int .u64 0, .bool false] 54)).alloc (.cells #[.slice none 0 0, .int .u64 0, .int .u64 0, .bool false] 54) = W := ⟨_, rfl⟩
  have hal : Below w.heap.size w W := by
    have h1 := (Below.refl w.heap.size w).alloc (Nat.le_refl _) (.cells #[.slice none 0 0, .int .u64 0, .int .u64 0, .bool false] 54)
    rw [← hW]; exact h1.alloc h1.size _
  have B0 : Blk W w.heap.size 54 (Z54 (.slice none 0 0) ⟨0, 0, false⟩) := by rw [← hW]; exact (Blk.new w 54 (Z54 (.slice none 0 0) ⟨0, 0, false⟩)).alloc _
  have B1 : Blk W (w.heap.size + 1) 54 (Z54 (.slice none 0 0) ⟨0, 0, false⟩) := by
    have := Blk.new (w.alloc (.cells #[.slice none 0 0, .int .u64 0, .int .u64 0, .bool false] 54)) 54 (Z54 (.slice none 0 0) ⟨0, 0, false⟩)
    rw [show (w.alloc (.cells #[.slice none 0 0, .int .u64 0, .int .u64 0, .bool false] 54)).heap.size = w.heap.size + 1 by simp] at this
    rw [← hW]
    exact this
  have hM : Mch F W (w.heap.size + 1) ⟨0, 0, false⟩ [] none := by
    refine ⟨none, 0, [], ⟨B1, World.ownsRow_nil _ _ _ _, ⟨rfl, fun i x s h => by simp at h⟩, fun h => by have := hF _ h; omega, fun b hb e => by simp [Value.ownBlock] at e, by simp [Value.ownBlock], fun b hb => by have := hF b hb; have := hal.size; omega, fun i s h => by simp at h⟩, by simp [Value.ownBlock]⟩
  have k19 := add_rows l (fun r hr => add_row r (addRows l r hr)) F W (w.heap.size + 1) ⟨0, 0, false⟩ [] none ad c b off hb (RowsV.keep (Chg.of_below (F := fun _ => False) hal) (fun _ _ h => h) l b off (fun h0 => (hb h0).2) hrv) hM (by simpa using hcnt) hfine hln
  have e1 : rowsAdd l ⟨0, 0, false⟩ [] = machL l := rfl
  rw [e1, hn] at k19
  rw [hn]
  obtain ⟨⟨E, M⟩, hR⟩ : ∃ R, machL l = R := ⟨_, rfl⟩
  rw [hR] at k19 ⊢
  have HO : Hid (Own F W (w.heap.size + 1) none w.heap.size) := hidden ⟨B0.lt, by omega, by simp, fun h => by have := hF _ h; omega⟩
  have HX : Hid (∀ w3 F' o', Mch F' w3 (w.heap.size + 1) ⟨0, 0, false⟩ M o' → Mv F F' W w3 (w.heap.size + 1) none o' → ∃ sa sc vs, Blk w3 (w.heap.size + 1) 54 (Z54 (.slice sa M.length sc) ⟨0, 0, false⟩) ∧ Blk (w3.setCells (w.heap.size + 1) 1 (esC E)) (w.heap.size + 1) 54 (Z54 (.slice sa M.length sc) E) ∧ Blk (w3.setCells (w.heap.size + 1) 1 (esC E)) w.heap.size 54 (Z54 (.slice none 0 0) ⟨0, 0, false⟩) ∧ Blk ((w3.setCells (w.heap.size + 1) 1 (esC E)).setCells w.heap.size 0 (Z54 (.slice sa M.length sc) E)) w.heap.size 54 (Z54 (.slice sa M.length sc) E) ∧
      ∃ F2, SpM F2 ((w3.setCells (w.heap.size + 1) 1 (esC E)).setCells w.heap.size 0 (Z54 (.slice sa M.length sc) E)) sa sc M vs ∧ (∀ b, F b → F2 b) ∧ (∀ b, F2 b → F b ∨ (w.heap.size ≤ b ∧ b < ((w3.setCells (w.heap.size + 1) 1 (esC E)).setCells w.heap.size 0 (Z54 (.slice sa M.length sc) E)).heap.size)) ∧ Below w.heap.size w ((w3.setCells (w.heap.size + 1) 1 (esC E)).setCells w.heap.size 0 (Z54 (.slice sa M.length sc) E))) := hidden (by
    rintro w3 F' o' h1 h2
    have hB0 := HO.out.blk h2 B0
    have ho3 := HO.out.on h2
    have hr3 := h1.rlt
    obtain ⟨sa, sc, vs, hm, ho⟩ := h1
    have c1 := Chg.sets (w.heap.size + 1) (esC E) 1 w3
    have c2 := Chg.sets w.heap.size (Z54 (.slice sa M.length sc) E) 0 (w3.setCells (w.heap.size + 1) 1 (esC E))
    have c12 : Chg (fun b => b = w.heap.size ∨ b = w.heap.size + 1) w3 ((w3.setCells (w.heap.size + 1) 1 (esC E)).setCells w.heap.size 0 (Z54 (.slice sa M.length sc) E)) := (c1.mono (G := fun b => b = w.heap.size ∨ b = w.heap.size + 1) (fun i _ h => .inr h)).trans c2 (fun i _ h => .inl h)
    have b4 : Blk (w3.setCells (w.heap.size + 1) 1 (esC E)) (w.heap.size + 1) 54 (Z54 (.slice sa M.length sc) E) := by
      have := Blk.sets (esC E) 1 w3 _ hm.blk (by simp [esC])
      simpa [esC, Z54] using this
    have b5 := c1.blk hB0 (fun e => by have e' : w.heap.size = w.heap.size + 1 := e; omega)
    refine ⟨sa, sc, vs, hm.blk, b4, b5, blk_stored b5 rfl, fun b => F' b ∨ o' = some b, ⟨c12.owns hm.own ?_, (hm.sp.keep c12 ?_).mono (fun b hb => .inl hb), fun b hb => .inr (by rw [← ho]; exact hb), hm.b64⟩, fun b hb => .inl (h2.sub b hb), fun b hb => ?_, ?_⟩
    · rintro g hg (e | e)
      · exact ho3.no (by rw [← ho, hg, e])
      · exact hm.ne (by rw [hg, e])
    · rintro g hg (e | e)
      · exact ho3.nF (by rw [← e]; exact hg)
      · exact hm.nr (by rw [← e]; exact hg)
    · rcases hb with hb | hb
      · rcases h2.new b hb with h | h
        · exact .inl h
        · exact .inr ⟨by have := hal.size; omega, by have := hm.lt b hb; have := c12.size; omega⟩
      · have h3 : b < w3.heap.size := owns_lt hm.own b (by rw [ho]; exact hb)
        rcases h2.mv with e | ⟨g, e, hg⟩
        · rw [e] at hb; cases hb
        · rw [e] at hb
          injection hb with hb
          exact .inr ⟨by have := hal.size; omega, by have := c12.size; omega⟩
    · have d1 : Chg (fun b => b = w.heap.size + 1 ∨ (none : Option Nat) = some b) w W := Chg.of_below hal
      have d2 := d1.trans h2.chg (fun i _ h => h)
      have d3 := (d2.mono (G := fun b => b = w.heap.size ∨ b = w.heap.size + 1) (fun i _ h => by
        rcases h with h | h
        · exact .inr h
        · cases h)).trans c12 (fun i _ h => h)
      exact d3.below (Nat.le_refl _) (fun i h => by rcases h with h | h <;> omega))
  rw [← hW] at k19
  have HW := hidden hW
  clear hal B0 B1 hM hW hR e1 hb hrv hF hcnt hfine hln hn
  unfold AddR at k19
  go_enter Try.func13, Try.ntmps13
  go_wp2_with (first
    | (go_at_call 19; refine k19.mono ?_; rintro e w3 ⟨rfl, F', o', h1, h2⟩; rw [HW.out] at h2; obtain ⟨sa, sc, vs, x1, x2, x3, x4, x5⟩ := HX.out w3 F' o' h1 h2; have X1 := hidden x1; have X2 := hidden x2; have X3 := hidden x3; have X4 := hidden x4; have X5 := hidden x5; clear k19 h1 h2 x1 x2 x3 x4 x5)
    | (refine wpList_store_mid rfl 52 (.tmp 7) (.tmp 6) rfl (w.heap.size + 1) 1 (esC E).toArray rfl rfl (X1.out.there 1 3 (by simp [Z54])) info52 (all_oneCell_toArray (esC_one E)) ?_)
    | (refine wpList_load_blk rfl 54 (.tmp 3) rfl (w.heap.size + 1) X2.out rfl Try.underlying54 rfl info54 ?_)
    | (refine wpList_store_blk (l := Z54 (.slice sa M.length sc) E) rfl 54 (.tmp 2) (.tmp 8) rfl rfl w.heap.size X3.out rfl rfl rfl info54 (Z54_one _ _ _ _) ?_))
  refine bodyPost_ret (res_mach _ _ w.heap.size sa M.length sc E rfl X4.out) rfl ?_
  obtain ⟨F2, y1, y2, y3, y4⟩ := X5.out
  exact ⟨sa, sc, vs, F2, rfl, y1, y2, y3, y4⟩

end Go.Proofs.Ytndegcgcbhcokaa
