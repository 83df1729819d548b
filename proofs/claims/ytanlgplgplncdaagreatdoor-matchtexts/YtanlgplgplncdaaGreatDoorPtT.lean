import Derived.Test.YtanlgplgplncdaaGreatDoorPtM
/-
  The reader: what its functions that call one another promise, with so many steps; item.
-/
namespace Go.Proofs.YtanlgplgplncdaaGreatDoor
open Go.RowKit
set_option linter.unusedVariables false
set_option linter.unusedSimpArgs false

/-- Blocks made between two worlds. -/
def FW (w w' : World) (b : Nat) : Prop := w.heap.size ≤ b ∧ b < w'.heap.size
/-- What a reader's call answers of a part. -/
def PartR (r : Nat) (s : ByteArray) (d : Nat) (w : World) (R : Pr Pt) (e : Ending) (w' : World) : Prop :=
  ∃ v b ok, e = .returned (.tuple #[v, .bool ok]) ∧ Rd w' r s b d ∧ Chg (fun i => i = r) w w' ∧ b ≤ (bts s).length ∧ ((ok = true ∧ ∃ p, R = .ok p b ∧ PtV (FW w w') w' p v) ∨ (ok = false ∧ R = .bad b))
def AtomC (f : Nat) : Prop := ∀ (r : Nat) (s : ByteArray) (a d : Nat) (w : World), Rd w r s a d → a ≤ s.size → s.size ≤ 64 → d ≤ 16 → atomF (bts s) f d a ≠ .out → Calls Tryz.prog 117 #[.pointer (some ⟨r, 0, none⟩)] w (PartR r s d w (atomF (bts s) f d a))
def ItemC (f : Nat) : Prop := ∀ (r : Nat) (s : ByteArray) (a d : Nat) (w : World), Rd w r s a d → a ≤ s.size → s.size ≤ 64 → d ≤ 16 → itemF (bts s) f d a ≠ .out → Calls Tryz.prog 105 #[.pointer (some ⟨r, 0, none⟩)] w (PartR r s d w (itemF (bts s) f d a))

theorem PtV.on {w w1 w2 : World} {r : Nat} {p : Pt} {v : Value} (h : PtV (FW w w1) w1 p v) (hr : r < w.heap.size) (hc : Chg (fun i => i = r) w1 w2) : PtV (FW w w2) w2 p v :=
  PtV.mono (fun b hb => ⟨hb.1, Nat.lt_of_lt_of_le hb.2 hc.size⟩) p v (PtV.keep hc (fun b hb e => by have := hb.1; have e' : b = r := e; omega) p v h)

theorem PtV.form {F : Nat → Prop} {w : World} {p : Pt} {v : Value} (h : PtV F w p v) : ∃ t u, v = .iface t u := by
  cases p with
  | chr c => simp only [PtV] at h; exact ⟨_, _, h.1⟩
  | any => simp only [PtV] at h; exact ⟨_, _, h⟩
  | cls neg l => simp only [PtV] at h; obtain ⟨ad, c, e, _⟩ := h; exact ⟨_, _, e⟩
  | grp l => simp only [PtV] at h; obtain ⟨ad, c, b, off, e, _⟩ := h; exact ⟨_, _, e⟩
  | rep a s => simp only [PtV] at h; obtain ⟨u, e, _⟩ := h; exact ⟨_, _, e⟩
def sgs : List UInt8 := [42, 43, 63]
theorem item_yes {S : List UInt8} {f d a b k : Nat} {p : Pt} {x : UInt8} (hat : atomF S f d a = .ok p b) (hk : sgs[k]? = some x) (hno : ∀ j, j < k → S[b]? ≠ sgs[j]?) (hx : S[b]? = some x) : itemF S (f + 1) d a = .ok (.rep p x.toNat) (b + 1) := by
  rw [itemF, hat]
  simp only
  have h3 : k < 3 := (List.getElem?_eq_some_iff.1 hk).1
  rcases (show k = 0 ∨ k = 1 ∨ k = 2 by omega) with rfl | rfl | rfl
  · obtain rfl : x = 42 := by simpa [sgs] using hk.symm
    rw [if_pos hx]; rfl
  · obtain rfl : x = 43 := by simpa [sgs] using hk.symm
    rw [if_neg (by rw [hx]; decide), if_pos hx]; rfl
  · obtain rfl : x = 63 := by simpa [sgs] using hk.symm
    rw [if_neg (by rw [hx]; decide), if_neg (by rw [hx]; decide), if_pos hx]; rfl
theorem item_no {S : List UInt8} {f d a b : Nat} {p : Pt} (hat : atomF S f d a = .ok p b) (hno : ∀ j, j < 3 → S[b]? ≠ sgs[j]?) : itemF S (f + 1) d a = .ok p b := by
  rw [itemF, hat]
  simp only
  have h0 : ¬ S[b]? = some 42 := hno 0 (by omega)
  have h1 : ¬ S[b]? = some 43 := hno 1 (by omega)
  have h2 : ¬ S[b]? = some 63 := hno 2 (by omega)
  rw [if_neg h0, if_neg h1, if_neg h2]

set_option maxRecDepth 100000 in
set_option maxHeartbeats 8000000 in
theorem item_of_atom (f : Nat) (hA : AtomC f) : ItemC (f + 1) := by
  intro r s a d w h ha hs hd hno
  have hs2 : s.size ≤ 140737488355328 := by omega
  have hrw : r < w.heap.size := Blk.lt h
  have k1 := hA r s a d w h ha hs hd (fun e => hno (by rw [itemF, e]))
  obtain ⟨R, hR⟩ : ∃ R, itemF (bts s) (f + 1) d a = R := ⟨_, rfl⟩
  have HR := hidden hR
  rw [hR]
  clear hno h hA hR
  go_enter Tryz.func105, Tryz.ntmps105
  go_upto_region 2 with (go_at_call 117; refine k1.mono ?_; rintro e w1 ⟨v, b, ok, rfl, hrd, hch, hbl, hres⟩; clear k1)
  have HRD := hidden hrd
  have HCH := hidden hch
  have hbs : b ≤ s.size := by rw [size_bts]; exact hbl
  rcases hres with ⟨rfl, p, hat, hpv⟩ | ⟨rfl, hat⟩
  · obtain ⟨tv, uv, rfl⟩ := hpv.form
    have HAT := hidden hat
    have HPV := hidden hpv
    have hal : Below w1.heap.size w1 (w1.alloc (.cells #[.int .u8 42, .int .u8 43, .int .u8 63] 5)) := (Below.refl _ _).alloc (Nat.le_refl _) _
    have HA1 : Hid (Rd (w1.alloc (.cells #[.int .u8 42, .int .u8 43, .int .u8 63] 5)) r s b d) := hidden (hrd.later hal)
    have HA2 : Hid (Blk (w1.alloc (.cells #[.int .u8 42, .int .u8 43, .int .u8 63] 5)) w1.heap.size 5 [.int .u8 42, .int .u8 43, .int .u8 63]) := hidden (Blk.new w1 5 _)
    have HA3 : Hid (Chg (fun i => i = r) w1 (w1.alloc (.cells #[.int .u8 42, .int .u8 43, .int .u8 63] 5))) := hidden (Chg.of_below hal)
    have HGN : Hid (w1.heap.size ≠ r) := hidden (by have := hch.size; omega)
    clear hrd hch hat hpv hal
    go_wp2
    go_loopw [17] (fun s17 wx => ∃ k : Nat, s17 = .int .i64 (k : Int) ∧ k ≤ 3 ∧ Hid (∀ j, j < k → (bts s)[b]? ≠ sgs[j]?) ∧ Hid (Rd wx r s b d) ∧ Hid (Blk wx w1.heap.size 5 [.int .u8 42, .int .u8 43, .int .u8 63]) ∧ Hid (Chg (fun i => i = r) w1 wx)) (fun s17 _ => 3 - (intOf s17).toNat)
    case atStart => exact ⟨0, rfl, by omega, hidden (fun j hj => absurd hj (by omega)), HA1, HA2, HA3⟩
    case round =>
      rename World => wr
      obtain ⟨k, rfl, hk3, hsg, hrd, hblk, hch⟩ := hrel
      clear HA1 HA2 HA3
      by_cases hlt : k < 3
      · have hltz : (k : Int) < 3 := by omega
        obtain ⟨x, hx, hcell⟩ : ∃ x : UInt8, sgs[k]? = some x ∧ wr.cell? ⟨w1.heap.size, k, none⟩ = some (.int .u8 (x.toNat : Int)) := by
          rcases (show k = 0 ∨ k = 1 ∨ k = 2 by omega) with rfl | rfl | rfl
          · exact ⟨42, rfl, hblk.out.cell 0⟩
          · exact ⟨43, rfl, hblk.out.cell 1⟩
          · exact ⟨63, rfl, hblk.out.cell 2⟩
        have HX := hidden hx
        have kT := takeP r s b d x wr hrd.out hbs hs2
        clear hx
        by_cases hbx : (bts s)[b]? = some x
        · rw [decide_eq_true hbx, tkN, if_pos hbx] at kT
          have HE := hidden (item_yes HAT.out HX.out hsg.out hbx)
          have HB1 : Hid (b + 1 ≤ (bts s).length) := hidden (List.getElem?_eq_some_iff.1 hbx).1
          clear hbx
          go_wp2_with (go_at_call 97; refine kT.mono ?_; rintro e w3 ⟨rfl, h3, hc3⟩; clear kT)
          go_ret2
          have hcc := hch.out.trans hc3 (fun _ _ e => e)
          have hV : PtV (FW w w3) w3 (.rep p x.toNat) (.iface 196 (.agg #[.iface tv uv, .int .u8 (x.toNat : Int)])) := by
            simp only [PtV]
            exact ⟨.iface tv uv, rfl, PtV.on HPV.out hrw hcc⟩
          exact ⟨_, b + 1, true, rfl, h3, HCH.out.trans hcc (fun _ _ e => e), HB1.out, Or.inl ⟨rfl, _, by rw [← HR.out, HE.out], hV⟩⟩
        · rw [decide_eq_false hbx, tkN, if_neg hbx] at kT
          have HS : Hid (∀ j, j < k + 1 → (bts s)[b]? ≠ sgs[j]?) := hidden (fun j hj => by
            rcases (show j < k ∨ j = k by omega) with h | rfl
            · exact hsg.out j h
            · rw [HX.out]; exact hbx)
          clear hbx
          go_wp2_with (go_at_call 97; refine kT.mono ?_; rintro e w3 ⟨rfl, h3, hc3⟩; clear kT)
          refine ⟨⟨k + 1, by first | rfl | simp, by omega, HS, hidden h3, hidden (hc3.blk hblk.out HGN.out), hidden (hch.out.trans hc3 (fun _ _ e => e))⟩, ?_⟩
          simp [intOf]
          omega
      · have hltz : ¬ (k : Int) < 3 := by omega
        have HE := hidden (item_no HAT.out (fun j hj => hsg.out j (by omega)))
        go_wp2
        go_ret2
        exact ⟨_, b, true, rfl, hrd.out, HCH.out.trans hch.out (fun _ _ e => e), hbl, Or.inl ⟨rfl, p, by rw [← HR.out, HE.out], PtV.on HPV.out hrw hch.out⟩⟩
  · have HE : Hid (itemF (bts s) (f + 1) d a = .bad b) := hidden (by rw [itemF, hat])
    clear hrd hch hat
    go_wp2
    go_ret2
    exact ⟨_, b, false, rfl, HRD.out, HCH.out, hbl, Or.inr ⟨rfl, by rw [← HR.out, HE.out]⟩⟩

end Go.Proofs.YtanlgplgplncdaaGreatDoor

/-
  The reader: group.
-/
namespace Go.Proofs.YtanlgplgplncdaaGreatDoor
open Go.RowKit
set_option linter.unusedVariables false
set_option linter.unusedSimpArgs false

/-- What rows answers. -/
def RowsR (r : Nat) (s : ByteArray) (d : Nat) (w : World) (R : Pr (List (List Pt))) (e : Ending) (w' : World) : Prop :=
  ∃ ad n c b ok, e = .returned (.tuple #[.slice ad n c, .bool ok]) ∧ Rd w' r s b d ∧ Chg (fun i => i = r) w w' ∧ b ≤ (bts s).length ∧ ((ok = true ∧ ∃ l g off, l.length = n ∧ R = .ok l b ∧ (l ≠ [] → ad = some ⟨g, off, none⟩ ∧ FW w w' g) ∧ RowsV (FW w w') w' l g off) ∨ (ok = false ∧ R = .bad b))
def RowsC (f : Nat) : Prop := ∀ (r : Nat) (s : ByteArray) (a d : Nat) (w : World), Rd w r s a d → a ≤ s.size → s.size ≤ 64 → d ≤ 16 → rowsF (bts s) f d a ≠ .out → Calls Tryz.prog 89 #[.pointer (some ⟨r, 0, none⟩)] w (RowsR r s d w (rowsF (bts s) f d a))
def grpF (S : List UInt8) (f d a : Nat) : Pr Pt :=
  match rowsF S f (d + 1) a with
  | .ok l b => if S[b]? = some 41 then .ok (.grp l) (b + 1) else .bad b
  | .bad k => .bad k
  | .out => .out
theorem Rd.deep {w : World} {r : Nat} {s : ByteArray} {a d : Nat} (h : Rd w r s a d) (x : Nat) (y : Int) (hy : y = (x : Int)) : Rd (w.setCell ⟨r, 2, none⟩ (.int .i64 y)) r s a x := by
  subst hy
  exact Blk.set h 2 _

set_option maxRecDepth 100000 in
set_option maxHeartbeats 8000000 in
theorem group_of_rows (f : Nat) (hR : RowsC f) (r : Nat) (s : ByteArray) (a d : Nat) (w : World) (h : Rd w r s a d) (ha : a ≤ s.size) (hs : s.size ≤ 64) (hd : d < 16) (hno : grpF (bts s) f d a ≠ .out) :
    Calls Tryz.prog 121 #[.pointer (some ⟨r, 0, none⟩)] w (PartR r s d w (grpF (bts s) f d a)) := by
  have hs2 : s.size ≤ 140737488355328 := by omega
  have hrw : r < w.heap.size := Blk.lt h
  have c2 : w.cell? ⟨r, 2, none⟩ = some (.int .i64 (d : Int)) := h.cell 2
  have f2 := h.frozen 2
  have h1 := h.deep (d + 1) ((d : Int) + 1) (by omega)
  have HC1 : Hid (Chg (fun i => i = r) w (w.setCell ⟨r, 2, none⟩ (.int .i64 ((d : Int) + 1)))) := hidden (Chg.set ⟨r, 2, none⟩ _ _)
  have k1 := hR r s a (d + 1) _ h1 ha hs (by omega) (fun e => hno (by rw [grpF, e]))
  have hsz : (w.setCell ⟨r, 2, none⟩ (.int .i64 ((d : Int) + 1))).heap.size = w.heap.size := by simp
  obtain ⟨G, hG⟩ : ∃ G, grpF (bts s) f d a = G := ⟨_, rfl⟩
  have HG := hidden hG
  rw [hG]
  have HSZ := hidden hsz
  clear hno h h1 hR hG hsz
  go_enter Tryz.func121, Tryz.ntmps121
  go_upto_region 3 with (go_at_call 89; refine k1.mono ?_; rintro e w1 ⟨ad, n, c, b, ok, rfl, hrd, hch, hbl, hres⟩; clear k1)
  have hbs : b ≤ s.size := by rw [size_bts]; exact hbl
  have e2 : w1.cell? ⟨r, 2, none⟩ = some (.int .i64 ((d : Int) + 1)) := by have := hrd.cell 2; simpa using this
  have g2 := hrd.frozen 2
  have H3 : Hid (∀ y : Int, y = (d : Int) → Rd (w1.setCell ⟨r, 2, none⟩ (.int .i64 y)) r s b d) := hidden (fun y hy => hrd.deep d y hy)
  have HC3 : Hid (∀ y : Int, Chg (fun i => i = r) w1 (w1.setCell ⟨r, 2, none⟩ (.int .i64 y))) := hidden (fun y => Chg.set ⟨r, 2, none⟩ _ _)
  have HCH := hidden (HC1.out.trans hch (fun _ _ e => e))
  have hdz : (d : Int) + 1 - 1 = (d : Int) := by omega
  rcases hres with ⟨rfl, l, g, off, hln, hro, hlg, hrv⟩ | ⟨rfl, hro⟩
  · have HRO := hidden hro
    have HLN := hidden hln
    have HLG := hidden hlg
    have HRV := hidden hrv
    have kT := takeP r s b d 41 (w1.setCell ⟨r, 2, none⟩ (.int .i64 (d : Int))) (H3.out _ rfl) hbs hs2
    clear hrd hch hro hln hlg hrv
    by_cases h41 : (bts s)[b]? = some 41
    · rw [decide_eq_true h41, tkN, if_pos h41] at kT
      have kT' : Calls Tryz.prog 97 #[.pointer (some ⟨r, 0, none⟩), .int .u8 41] (w1.setCell ⟨r, 2, none⟩ (.int .i64 (d : Int))) fun e w' => e = .returned (.bool true) ∧ Rd w' r s (b + 1) d ∧ Chg (fun i => i = r) (w1.setCell ⟨r, 2, none⟩ (.int .i64 (d : Int))) w' := kT
      have HE : Hid (G = .ok (.grp l) (b + 1)) := hidden (by rw [← HG.out, grpF, HRO.out]; simp only; rw [if_pos h41])
      have HB1 : Hid (b + 1 ≤ (bts s).length) := hidden (List.getElem?_eq_some_iff.1 h41).1
      clear h41 kT
      go_wp2_with (go_at_call 97; refine kT'.mono ?_; rintro e w3 ⟨rfl, h3, hc3⟩; clear kT')
      go_ret2
      have hcc := (HC3.out (d : Int)).trans hc3 (fun _ _ e => e)
      have hV : PtV (FW w w3) w3 (.grp l) (.iface 194 (.agg #[.slice ad n c])) := by
        have hF : ∀ b', FW (w.setCell ⟨r, 2, none⟩ (.int .i64 ((d : Int) + 1))) w1 b' → FW w w3 b' := fun b' hb' => ⟨by have := hb'.1; rw [HSZ.out] at this; exact this, Nat.lt_of_lt_of_le hb'.2 hcc.size⟩
        simp only [PtV]
        refine ⟨ad, c, g, off, by rw [HLN.out], fun h0 => ⟨(HLG.out h0).1, hF _ (HLG.out h0).2⟩, RowsV.mono hF l g off (RowsV.keep hcc (fun b' hb' e => ?_) l g off (fun h0 => (HLG.out h0).2) HRV.out)⟩
        have := hb'.1
        rw [HSZ.out] at this
        have e' : b' = r := e
        omega
      exact ⟨_, b + 1, true, rfl, h3, HCH.out.trans hcc (fun _ _ e => e), HB1.out, Or.inl ⟨rfl, _, HE.out, hV⟩⟩
    · rw [decide_eq_false h41, tkN, if_neg h41] at kT
      have kT' : Calls Tryz.prog 97 #[.pointer (some ⟨r, 0, none⟩), .int .u8 41] (w1.setCell ⟨r, 2, none⟩ (.int .i64 (d : Int))) fun e w' => e = .returned (.bool false) ∧ Rd w' r s b d ∧ Chg (fun i => i = r) (w1.setCell ⟨r, 2, none⟩ (.int .i64 (d : Int))) w' := kT
      have HE : Hid (G = .bad b) := hidden (by rw [← HG.out, grpF, HRO.out]; simp only; rw [if_neg h41])
      clear h41 kT
      go_wp2_with (go_at_call 97; refine kT'.mono ?_; rintro e w3 ⟨rfl, h3, hc3⟩; clear kT')
      go_ret2
      exact ⟨_, b, false, rfl, h3, HCH.out.trans ((HC3.out (d : Int)).trans hc3 (fun _ _ e => e)) (fun _ _ e => e), hbl, Or.inr ⟨rfl, HE.out⟩⟩
  · have HE : Hid (G = .bad b) := hidden (by rw [← HG.out, grpF, hro])
    clear hrd hch hro
    go_wp2
    go_ret2
    exact ⟨_, b, false, rfl, H3.out _ (by omega), HCH.out.trans (HC3.out _) (fun _ _ e => e), hbl, Or.inr ⟨rfl, HE.out⟩⟩

end Go.Proofs.YtanlgplgplncdaaGreatDoor

/-
  The reader: atom.
-/
namespace Go.Proofs.YtanlgplgplncdaaGreatDoor
open Go.RowKit
set_option linter.unusedVariables false
set_option linter.unusedSimpArgs false

theorem ClV.up {B : Nat} {w : World} {v : Value} {neg : Bool} {l : Sn} (h : ClV (fun b => B ≤ b) w v neg l) : ClV (fun b => B ≤ b ∧ b < w.heap.size) w v neg l := by
  obtain ⟨ad, c, e, hs, hb, hf⟩ := h
  refine ⟨ad, c, e, hs, hb, fun y h0 e => ⟨hf y h0 e, ?_⟩⟩
  obtain ⟨b, off, e1, hlt, _⟩ := hs.at' h0
  rw [e1] at e
  injection e with e
  subst e
  exact hlt
theorem ClV.form {F : Nat → Prop} {w : World} {v : Value} {neg : Bool} {l : Sn} (h : ClV F w v neg l) : ∃ u, v = .iface 214 u := by
  obtain ⟨ad, c, e, _⟩ := h
  exact ⟨_, e⟩

set_option maxRecDepth 100000 in
set_option maxHeartbeats 8000000 in
theorem atom_of_rows (f : Nat) (hR : RowsC f) : AtomC (f + 1) := by
  intro r s a d w h ha hs hd hno
  have hs2 : s.size ≤ 140737488355328 := by omega
  have hrw : r < w.heap.size := Blk.lt h
  have hla : a ≤ (bts s).length := by rw [← size_bts]; exact ha
  have kT : ∀ (c : UInt8) (wx : World), Rd wx r s a d → Calls Tryz.prog 97 #[.pointer (some ⟨r, 0, none⟩), .int .u8 (c.toNat : Int)] wx fun e w' => e = .returned (.bool (decide ((bts s)[a]? = some c))) ∧ Rd w' r s (tkN (bts s) a c) d ∧ Chg (fun i => i = r) wx w' := fun c wx hx => takeP r s a d c wx hx ha hs2
  obtain ⟨R, hRR⟩ : ∃ R, atomF (bts s) (f + 1) d a = R := ⟨_, rfl⟩
  have HR := hidden hRR
  rw [hRR] at hno ⊢
  have HNO := hidden hno
  have HH := hidden h
  have HROW := hidden hR
  clear hRR hno h hR
  by_cases h46 : (bts s)[a]? = some 46
  · have k1 := kT 46 w HH.out
    rw [decide_eq_true h46, tkN, if_pos h46] at k1
    have k1' : Calls Tryz.prog 97 #[.pointer (some ⟨r, 0, none⟩), .int .u8 46] w fun e w' => e = .returned (.bool true) ∧ Rd w' r s (a + 1) d ∧ Chg (fun i => i = r) w w' := k1
    have HE : Hid (R = .ok .any (a + 1)) := hidden (by rw [← HR.out, atomF, if_pos h46])
    have HB : Hid (a + 1 ≤ (bts s).length) := hidden (List.getElem?_eq_some_iff.1 h46).1
    clear k1 kT h46
    go_enter Tryz.func117, Tryz.ntmps117
    go_wp2_with (go_at_call 97; refine k1'.mono ?_; rintro e w1 ⟨rfl, h1, hc1⟩; clear k1')
    go_ret2
    exact ⟨_, a + 1, true, rfl, h1, hc1, HB.out, Or.inl ⟨rfl, .any, HE.out, by simp only [PtV]; rfl⟩⟩
  · have k1 := kT 46 w HH.out
    rw [decide_eq_false h46, tkN, if_neg h46] at k1
    have k1' : Calls Tryz.prog 97 #[.pointer (some ⟨r, 0, none⟩), .int .u8 46] w fun e w' => e = .returned (.bool false) ∧ Rd w' r s a d ∧ Chg (fun i => i = r) w w' := k1
    clear k1
    by_cases h91 : (bts s)[a]? = some 91
    · have k2 : Hid (∀ wx, Rd wx r s a d → Calls Tryz.prog 97 #[.pointer (some ⟨r, 0, none⟩), .int .u8 91] wx fun e w' => e = .returned (.bool true) ∧ Rd w' r s (a + 1) d ∧ Chg (fun i => i = r) wx w') := hidden (fun wx hx => by
        have := kT 91 wx hx
        rw [decide_eq_true h91, tkN, if_pos h91] at this
        exact this)
      have ha1 : a + 1 ≤ (bts s).length := (List.getElem?_eq_some_iff.1 h91).1
      have k3 : Hid (∀ wx, Rd wx r s (a + 1) d → Calls Tryz.prog 120 #[.pointer (some ⟨r, 0, none⟩)] wx fun e w' => ∃ v neg l b ok, e = .returned (.tuple #[v, .bool ok]) ∧ ClR (bts s) (a + 1) neg l b ok ∧ Rd w' r s b d ∧ Chg (fun i => i = r) wx w' ∧ (ok = true → ClV (fun b => wx.heap.size ≤ b) w' v neg l) ∧ (ok = false → v = .nilIface)) := hidden (fun wx hx => classP r s (a + 1) d wx hx (by rw [size_bts]; exact ha1) hs)
      have HAT : Hid (R = match clsF (bts s) ((bts s).length + 2) (tkN (bts s) (a + 1) 94) [] with
        | .ok l b => .ok (.cls (decide ((bts s)[a + 1]? = some 94)) l) b
        | .bad k => .bad k
        | .out => .out) := hidden (by
        rw [← HR.out, atomF, if_neg h46, if_pos h91]
        have e : (if (bts s)[a + 1]? = some 94 then a + 2 else a + 1) = tkN (bts s) (a + 1) 94 := by unfold tkN; rfl
        rw [e]
        cases clsF (bts s) ((bts s).length + 2) (tkN (bts s) (a + 1) 94) [] <;> rfl)
      clear kT h46 h91
      go_enter Tryz.func117, Tryz.ntmps117
      go_upto_region 4 with (first
        | (go_at_call 97; refine k1'.mono ?_; rintro e w1 ⟨rfl, h1, hc1⟩; have k2' := k2.out _ h1; clear k1' k2)
        | (go_at_call 97; refine k2'.mono ?_; rintro e w2 ⟨rfl, h2, hc2⟩; have k3' := k3.out _ h2; clear k2' k3))
      have HC2 := hidden (hc1.trans hc2 (fun _ _ e => e))
      clear h1 h2 hc1 hc2
      go_wp2_with (go_at_call 120; refine k3'.mono ?_; rintro e w3 ⟨v, neg, l, b, ok, rfl, hcl, h3, hc3, hyes, hbad⟩; clear k3')
      go_ret2
      have hcc := HC2.out.trans hc3 (fun _ _ e => e)
      refine ⟨v, b, ok, rfl, h3, hcc, hcl.2.1, ?_⟩
      cases ok with
      | true =>
        refine Or.inl ⟨rfl, .cls neg l, by rw [HAT.out, hcl.2.2.2.1 rfl]; simp only; rw [← hcl.2.2.1], ?_⟩
        simp only [PtV]
        exact (hyes rfl).up.mono (fun b' hb' => ⟨Nat.le_trans HC2.out.size hb'.1, hb'.2⟩)
      | false => exact Or.inr ⟨rfl, by rw [HAT.out, hcl.2.2.2.2 rfl]⟩
    · have k2 : Hid (∀ wx, Rd wx r s a d → Calls Tryz.prog 97 #[.pointer (some ⟨r, 0, none⟩), .int .u8 91] wx fun e w' => e = .returned (.bool false) ∧ Rd w' r s a d ∧ Chg (fun i => i = r) wx w') := hidden (fun wx hx => by
        have := kT 91 wx hx
        rw [decide_eq_false h91, tkN, if_neg h91] at this
        exact this)
      have k4 : Hid (∀ wx, Rd wx r s a d → Calls Tryz.prog 122 #[.pointer (some ⟨r, 0, none⟩)] wx fun e w' => ∃ c b ok, e = .returned (.tuple #[.int .i32 ((c : Nat) : Int), .bool ok]) ∧ ChR (bts s) a c b ok ∧ Rd w' r s b d ∧ Chg (fun i => i = r) wx w') := hidden (fun wx hx => characterP r s a d wx hx ha hs2)
      have HCA : Hid (¬ (d < 16 ∧ (bts s)[a]? = some 40) → R = match charF (bts s) a with
        | .ok c b => .ok (.chr c) b
        | .bad k => .bad k
        | .out => .out) := hidden (fun hn => by
        rw [← HR.out, atomF, if_neg h46, if_neg h91, if_neg hn]
        cases charF (bts s) a <;> rfl)
      by_cases hdz : d < 16
      · have hdzz : (d : Int) < 16 := by omega
        by_cases h40 : (bts s)[a]? = some 40
        · have k3 : Hid (∀ wx, Rd wx r s a d → Calls Tryz.prog 97 #[.pointer (some ⟨r, 0, none⟩), .int .u8 40] wx fun e w' => e = .returned (.bool true) ∧ Rd w' r s (a + 1) d ∧ Chg (fun i => i = r) wx w') := hidden (fun wx hx => by
            have := kT 40 wx hx
            rw [decide_eq_true h40, tkN, if_pos h40] at this
            exact this)
          have ha1 : a + 1 ≤ (bts s).length := (List.getElem?_eq_some_iff.1 h40).1
          have HAT : Hid (R = grpF (bts s) f d (a + 1)) := hidden (by
            rw [← HR.out, atomF, if_neg h46, if_neg h91, if_pos ⟨hdz, h40⟩, grpF]
            cases rowsF (bts s) f (d + 1) (a + 1) <;> rfl)
          have k5 : Hid (∀ wx, Rd wx r s (a + 1) d → Calls Tryz.prog 121 #[.pointer (some ⟨r, 0, none⟩)] wx (PartR r s d wx R)) := hidden (fun wx hx => by
            rw [HAT.out]
            exact group_of_rows f HROW.out r s (a + 1) d wx hx (by rw [size_bts]; exact ha1) hs hdz (by rw [← HAT.out]; exact HNO.out))
          clear kT h46 h91 h40 k4 HCA HAT
          go_enter Tryz.func117, Tryz.ntmps117
          go_wp2_with (first
            | (go_at_call 97; refine k1'.mono ?_; rintro e w1 ⟨rfl, h1, hc1⟩; have k2' := k2.out _ h1; clear k1' k2)
            | (go_at_call 97; refine k2'.mono ?_; rintro e w2 ⟨rfl, h2, hc2⟩; have k3' := k3.out _ h2; have d2 : w2.cell? ⟨r, 2, none⟩ = some (.int .i64 (d : Int)) := h2.cell 2; clear k2' k3)
            | (go_at_call 97; refine k3'.mono ?_; rintro e w3 ⟨rfl, h3, hc3⟩; have k5' := k5.out _ h3; clear k3' k5)
            | (go_at_call 121; refine k5'.mono ?_; rintro e w4 ⟨v, b, ok, rfl, h4, hc4, hb4, hres⟩; clear k5'))
          go_ret2
          have hc123 := (hc1.trans hc2 (fun _ _ e => e)).trans hc3 (fun _ _ e => e)
          refine ⟨v, b, ok, rfl, h4, hc123.trans hc4 (fun _ _ e => e), hb4, ?_⟩
          rcases hres with ⟨e1, p, e2, e3⟩ | hres
          · exact Or.inl ⟨e1, p, e2, PtV.mono (fun b' hb' => ⟨Nat.le_trans hc123.size hb'.1, hb'.2⟩) p v e3⟩
          · exact Or.inr hres
        · have k3 : Hid (∀ wx, Rd wx r s a d → Calls Tryz.prog 97 #[.pointer (some ⟨r, 0, none⟩), .int .u8 40] wx fun e w' => e = .returned (.bool false) ∧ Rd w' r s a d ∧ Chg (fun i => i = r) wx w') := hidden (fun wx hx => by
            have := kT 40 wx hx
            rw [decide_eq_false h40, tkN, if_neg h40] at this
            exact this)
          have HAT := hidden (HCA.out (fun x => h40 x.2))
          clear kT h46 h91 h40 HCA
          go_enter Tryz.func117, Tryz.ntmps117
          go_upto_region 8 with (first
            | (go_at_call 97; refine k1'.mono ?_; rintro e w1 ⟨rfl, h1, hc1⟩; have k2' := k2.out _ h1; clear k1' k2)
            | (go_at_call 97; refine k2'.mono ?_; rintro e w2 ⟨rfl, h2, hc2⟩; have k3' := k3.out _ h2; have d2 : w2.cell? ⟨r, 2, none⟩ = some (.int .i64 (d : Int)) := h2.cell 2; clear k2' k3)
            | (go_at_call 97; refine k3'.mono ?_; rintro e w3 ⟨rfl, h3, hc3⟩; have k4' := k4.out _ h3; have HCC := hidden ((hc1.trans hc2 (fun _ _ e => e)).trans hc3 (fun _ _ e => e)); clear k3' k4)
            | (go_at_call 122; refine k4'.mono ?_; rintro e w4 ⟨cc, b, ok, rfl, hcr, h4, hc4⟩; clear k4'))
          have hcc := HCC.out.trans hc4 (fun _ _ e => e)
          have HF : Hid (PartR r s d w R (.returned (.tuple #[.iface 207 (.int .i32 ((cc : Nat) : Int)), .bool ok])) w4) := hidden ⟨_, b, ok, rfl, h4, hcc, hcr.2.1, by
            cases ok with
            | true =>
              refine Or.inl ⟨rfl, .chr cc, by rw [HAT.out, (hcr.2.2.1 rfl).1], ?_⟩
              simp only [PtV]
              exact ⟨by first | trivial | rfl, vc_le (hcr.2.2.1 rfl).2⟩
            | false => exact Or.inr ⟨rfl, by rw [HAT.out, (hcr.2.2.2 rfl).1]⟩⟩
          clear hcr h4 hc4 hcc
          go_wp2
          go_ret2
          exact HF.out
      · have hdzz : ¬ (d : Int) < 16 := by omega
        have hdzz' : decide ((d : Int) < 16) = false := decide_eq_false hdzz
        have HAT := hidden (HCA.out (fun x => hdz x.1))
        clear kT h46 h91 HCA
        go_enter Tryz.func117, Tryz.ntmps117
        go_upto_region 8 with (first
          | (go_at_call 97; refine k1'.mono ?_; rintro e w1 ⟨rfl, h1, hc1⟩; have k2' := k2.out _ h1; clear k1' k2)
          | (go_at_call 97; refine k2'.mono ?_; rintro e w2 ⟨rfl, h2, hc2⟩; have k4' := k4.out _ h2; have d2 : w2.cell? ⟨r, 2, none⟩ = some (.int .i64 (d : Int)) := h2.cell 2; have HCC := hidden (hc1.trans hc2 (fun _ _ e => e)); clear k2' k4)
          | (go_at_call 122; refine k4'.mono ?_; rintro e w4 ⟨cc, b, ok, rfl, hcr, h4, hc4⟩; clear k4'))
        have hcc := HCC.out.trans hc4 (fun _ _ e => e)
        have HF : Hid (PartR r s d w R (.returned (.tuple #[.iface 207 (.int .i32 ((cc : Nat) : Int)), .bool ok])) w4) := hidden ⟨_, b, ok, rfl, h4, hcc, hcr.2.1, by
          cases ok with
          | true =>
            refine Or.inl ⟨rfl, .chr cc, by rw [HAT.out, (hcr.2.2.1 rfl).1], ?_⟩
            simp only [PtV]
            exact ⟨by first | trivial | rfl, vc_le (hcr.2.2.1 rfl).2⟩
          | false => exact Or.inr ⟨rfl, by rw [HAT.out, (hcr.2.2.2 rfl).1]⟩⟩
        clear hcr h4 hc4 hcc
        go_wp2
        go_ret2
        exact HF.out

end Go.Proofs.YtanlgplgplncdaaGreatDoor
