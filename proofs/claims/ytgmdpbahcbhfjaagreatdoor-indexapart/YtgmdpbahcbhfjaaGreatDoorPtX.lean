import Derived.Test.YtgmdpbahcbhfjaaGreatDoorPtJ
set_option linter.unusedSimpArgs false
set_option linter.unusedVariables false
set_option maxHeartbeats 40000000
set_option maxRecDepth 100000
/-
  The reader: row.
-/
namespace Go.Proofs.YtgmdpbahcbhfjaaGreatDoor
open Go.RowKit

/-- What row answers. -/
def RowR (r : Nat) (s : ByteArray) (d : Nat) (w : World) (R : Pr (List Pt)) (e : Ending) (w' : World) : Prop :=
  ∃ ad n c b ok, e = .returned (.tuple #[.slice ad n c, .bool ok]) ∧ Rd w' r s b d ∧ Chg (fun i => i = r) w w' ∧ b ≤ (bts s).length ∧ ((ok = true ∧ ∃ l g off, l.length = n ∧ R = .ok l b ∧ (l ≠ [] → ad = some ⟨g, off, none⟩ ∧ FW w w' g) ∧ RowV (FW w w') w' l g off) ∨ (ok = false ∧ R = .bad b))
def RowC (f : Nat) : Prop := ∀ (r : Nat) (s : ByteArray) (a d : Nat) (w : World), Rd w r s a d → a ≤ s.size → s.size ≤ 64 → d ≤ 16 → rowF (bts s) f d a ≠ .out → Calls Tryz.prog 149 #[.pointer (some ⟨r, 0, none⟩)] w (RowR r s d w (rowF (bts s) f d a))
def appP {α : Type} (acc : List α) : Pr (List α) → Pr (List α)
  | .ok t c => .ok (acc ++ t) c
  | .bad k => .bad k
  | .out => .out

theorem info70 : (Tryz.prog.info? 269).map (fun i => (i.zero, i.size, i.bytes)) = some (some .nilIface, 1, 16) := by kernel_rfl

/-- Items and their values. -/
def RwL (F : Nat → Prop) (w : World) (l : List Pt) (vs : List Value) : Prop := l.length = vs.length ∧ ∀ (i : Nat) (p : Pt) (v : Value), l[i]? = some p → vs[i]? = some v → PtV F w p v
theorem RwL.nil (F : Nat → Prop) (w : World) : RwL F w [] [] := ⟨rfl, fun i p v h => by simp at h⟩
theorem RwL.snoc {F G H : Nat → Prop} {w : World} {l : List Pt} {vs : List Value} {p : Pt} {v : Value} (h : RwL F w l vs) (hp : PtV G w p v) (hF : ∀ b, F b → H b) (hG : ∀ b, G b → H b) : RwL H w (l ++ [p]) (vs ++ [v]) := by
  refine ⟨by simp [h.1], fun i q u h1 h2 => ?_⟩
  rcases Nat.lt_or_ge i l.length with hl | hl
  · rw [List.getElem?_append_left hl] at h1
    rw [List.getElem?_append_left (by rw [← h.1]; exact hl)] at h2
    exact PtV.mono hF q u (h.2 i q u h1 h2)
  · rw [List.getElem?_append_right hl] at h1
    rw [List.getElem?_append_right (by rw [← h.1]; exact hl), ← h.1] at h2
    have hi : i - l.length = 0 := by
      have := (List.getElem?_eq_some_iff.1 h1).1
      simp at this
      omega
    rw [hi] at h1 h2
    simp at h1 h2
    subst h1 h2
    exact PtV.mono hG p v hp
theorem RwL.keep {F G : Nat → Prop} {w w' : World} {l : List Pt} {vs : List Value} (h : RwL F w l vs) (hc : Chg G w w') (hd : ∀ b, F b → ¬ G b) : RwL F w' l vs :=
  ⟨h.1, fun i p v h1 h2 => PtV.keep hc hd p v (h.2 i p v h1 h2)⟩
theorem RwL.mono {F G : Nat → Prop} {w : World} {l : List Pt} {vs : List Value} (h : RwL F w l vs) (hF : ∀ b, F b → G b) : RwL G w l vs :=
  ⟨h.1, fun i p v h1 h2 => PtV.mono hF p v (h.2 i p v h1 h2)⟩
/-- From a row of values to the row in memory. -/
theorem rowV_of {F : Nat → Prop} {w : World} {g : Nat} : ∀ (l : List Pt) (vs : List Value) (off : Nat), RwL F w l vs → (∀ (i : Nat) (v : Value), vs[i]? = some v → w.cell? ⟨g, off + i, none⟩ = some v) → RowV F w l g off
  | [], vs, off, _, _ => by simp only [RowV]
  | p :: t, [], off, h, _ => by have := h.1; simp at this
  | p :: t, v :: vs, off, h, hc => by
    simp only [RowV]
    refine ⟨⟨v, by have := hc 0 v (by simp); simpa using this, h.2 0 p v (by simp) (by simp)⟩, rowV_of t vs (off + 1) ⟨by have := h.1; simp at this; exact this, fun i q u h1 h2 => h.2 (i + 1) q u (by simpa using h1) (by simpa using h2)⟩ (fun i u hu => ?_)⟩
    have := hc (i + 1) u (by simpa using hu)
    rw [show off + 1 + i = off + (i + 1) by omega]
    exact this

end Go.Proofs.YtgmdpbahcbhfjaaGreatDoor
/-
  The reader: row (the walk).
-/
namespace Go.Proofs.YtgmdpbahcbhfjaaGreatDoor
open Go.RowKit

/-- What is held in a round of row. -/
structure RI (w wx : World) (r : Nat) (s : ByteArray) (d i : Nat) (ad : Option Addr) (m c : Nat) (acc : List Pt) (vs : List Value) (F : Nat → Prop) : Prop where
  rd : Rd wx r s i d
  own : wx.ownsRow w.heap.size 269 1 (.slice ad m c) m vs
  len : acc.length = m
  rw' : RwL F wx acc vs
  sub : ∀ b, F b → FW w wx b
  avo : ∀ b, F b → (Value.slice ad m c).ownBlock ≠ some b
  ch : Chg (fun k => k = r) w wx
  le : i ≤ (bts s).length
  mi : m ≤ i
theorem RI.next {w wx w2 w3 : World} {r : Nat} {s : ByteArray} {d i j : Nat} {ad : Option Addr} {m c g c' : Nat} {acc : List Pt} {vs : List Value} {F : Nat → Prop} {p : Pt} {v : Value} {ob : Obj} (h : RI w wx r s d i ad m c acc vs F) (hr : r < w.heap.size) (hrd : Rd w2 r s j d) (hc : Chg (fun k => k = r) wx w2) (hj : j ≤ (bts s).length) (hij : i < j) (hp : PtV (FW wx w2) w2 p v)
    (ho : w3.ownsRow w.heap.size 269 1 (.slice (some ⟨g, 0, none⟩) (m + 1) c') (m + 1) (vs ++ [v])) (hpu : Pushed (w2.alloc ob) w3 (.slice ad m c) g) :
    RI w w3 r s d j (some ⟨g, 0, none⟩) (m + 1) c' (acc ++ [p]) (vs ++ [v]) (fun b => F b ∨ FW wx w2 b) := by
  have hch := hpu.chg
  have hob : ∀ b, (Value.slice ad m c).ownBlock = some b → w.heap.size ≤ b ∧ b < wx.heap.size := fun b hb => ⟨(h.own.lt b hb).1, owns_lt h.own b hb⟩
  have hav : ∀ b, (F b ∨ FW wx w2 b) → ¬ (Value.slice ad m c).ownBlock = some b := fun b hb e => by
    rcases hb with hb | hb
    · exact h.avo b hb e
    · have := (hob b e).2; have := hb.1; omega
  have hs2 := hc.size
  have hwx := h.ch.size
  have hlt : ∀ b, (F b ∨ FW wx w2 b) → w.heap.size ≤ b ∧ b < w2.heap.size := fun b hb => by
    rcases hb with hb | hb
    · have := h.sub b hb; exact ⟨this.1, by have := this.2; omega⟩
    · exact ⟨by have := hb.1; omega, hb.2⟩
  have hr2 : RwL F w2 acc vs := h.rw'.keep hc (fun b hb e => by have := (h.sub b hb).1; have e' : b = r := e; omega)
  refine ⟨hch.1.blk hrd (fun e => by have := (hob _ e).1; omega), ho, by simp [h.len], (hr2.snoc hp (fun b hb => Or.inl hb) (fun b hb => Or.inr hb)).keep hch.1 hav, fun b hb => ⟨(hlt b hb).1, by have := (hlt b hb).2; have := hch.1.size; omega⟩, fun b hb e => ?_, (h.ch.trans hc (fun _ _ e => e)).trans hch.1 (fun k hk e => by have := (hob k e).1; omega), hj, by have := h.mi; omega⟩
  have e' : g = b := by simpa [Value.ownBlock] using e
  subst e'
  rcases hch.2 with e2 | ⟨g', e2, hg⟩
  · exact hav g hb e2.symm
  · injection e2 with e2
    subst e2
    have := (hlt g hb).2
    omega
theorem RI.fin {w wx : World} {r : Nat} {s : ByteArray} {d i : Nat} {ad : Option Addr} {m c : Nat} {acc : List Pt} {vs : List Value} {F : Nat → Prop} (h : RI w wx r s d i ad m c acc vs F) : ∃ g off, (acc ≠ [] → ad = some ⟨g, off, none⟩ ∧ FW w wx g) ∧ RowV (FW w wx) wx acc g off := by
  rcases h.own.2 with ⟨e, e0⟩ | ⟨g, cap, cur, e, hb, hh, _⟩
  · have : acc = [] := List.eq_nil_of_length_eq_zero (by rw [h.len]; exact e0)
    subst this
    exact ⟨0, 0, fun h0 => absurd rfl h0, by simp only [RowV]⟩
  · injection e with e1 e2 e3
    subst e1
    refine ⟨g, 0, fun _ => ⟨rfl, hb, owns_lt h.own g (by simp [Value.ownBlock])⟩, rowV_of acc vs 0 (h.rw'.mono h.sub) (fun j v hv => ?_)⟩
    have := h.own.cells (g := g) (by simp [Value.ownBlock]) j v hv
    rwa [Addr.add_lit] at this

end Go.Proofs.YtgmdpbahcbhfjaaGreatDoor
/-
  The reader: row's walk.
-/
namespace Go.Proofs.YtgmdpbahcbhfjaaGreatDoor
open Go.RowKit

theorem beq8 (x : UInt8) (k : Nat) (hk : k < 256) : (((x.toNat : Nat) : Int) == (k : Int)) = decide (x = UInt8.ofNat k) := by
  rw [Bool.eq_iff_iff]
  simp only [beq_iff_eq, decide_eq_true_eq]
  constructor
  · intro h
    have : x.toNat = k := by omega
    rw [← this]; simp
  · intro h
    rw [h]; simp; omega
set_option maxRecDepth 100000 in
set_option maxHeartbeats 8000000 in
theorem row_of_item (N : Nat) (hI : ∀ f, f < N → ItemC f) : RowC N := by
  intro r s a d w h ha hs hd hno
  have hs2 : s.size ≤ 140737488355328 := by omega
  have hrw : r < w.heap.size := Blk.lt h
  obtain ⟨i0, hi0, hz0, hz1, hz2⟩ := info_parts info70
  have HI := hidden hi0
  have HIT := hidden hI
  have HSB := hidden (size_bts s)
  obtain ⟨R, hR⟩ : ∃ R, rowF (bts s) N d a = R := ⟨_, rfl⟩
  rw [hR] at hno ⊢
  have HNO := hidden hno
  have HR : Hid (appP [] (rowF (bts s) N d a) = R) := hidden (by rw [hR]; cases R <;> rfl)
  have R0 : Hid (RI w w r s d a none 0 0 [] [] (fun _ => False)) := hidden ⟨h, World.ownsRow_nil _ _ _ _, rfl, RwL.nil _ _, (fun b hb => hb.elim), (fun b hb => hb.elim), Chg.refl _ _, by rw [← size_bts]; exact ha, Nat.zero_le _⟩
  have hsl : (bts s).length ≤ 64 := by rw [← size_bts]; exact hs
  clear hi0 hI h hR hno
  go_enter Tryz.func149, Tryz.ntmps149
  go_wp2
  go_loopw [4] (fun s4 wx => ∃ (f' i m c : Nat) (ad : Option Addr), s4 = .slice ad m c ∧ f' ≤ N ∧ i ≤ s.size ∧ m ≤ i ∧ Hid (∃ acc vs F, appP acc (rowF (bts s) f' d i) = R ∧ RI w wx r s d i ad m c acc vs F)) (fun _ wx => s.size - rdAt r wx)
  case atStart => exact ⟨N, a, 0, 0, none, rfl, Nat.le_refl _, ha, Nat.zero_le _, hidden ⟨[], [], _, HR.out, R0.out⟩⟩
  case round =>
    rename World => wr
    obtain ⟨f', i, m, c, ad, rfl, hfN, his, hmi, hex⟩ := hrel
    obtain ⟨acc, vs, F, hrel, hRI⟩ := hex.out
    have HRI := hidden hRI
    clear R0 HR hex
    cases f' with
    | zero => exact absurd (by rw [← hrel, rowF]; rfl) HNO.out
    | succ f =>
      have HST : Hid (appP acc (if (bts s)[i]? = none ∨ (bts s)[i]? = some 124 ∨ (bts s)[i]? = some 41 then .ok [] i else
        match itemF (bts s) f d i with
        | .ok p b => (match rowF (bts s) f d b with
          | .ok t c => .ok (p :: t) c
          | .bad k => .bad k
          | .out => .out)
        | .bad k => .bad k
        | .out => .out) = R) := hidden (by
        rw [← hrel, rowF]
        congr 1)
      have c0 : wr.cell? ⟨r, 0, none⟩ = some (.string s) := hRI.rd.cell 0
      have c1 : wr.cell? ⟨r, 1, none⟩ = some (.int .i64 (i : Int)) := hRI.rd.cell 1
      have HEX : Hid (((bts s)[i]? = none ∨ (bts s)[i]? = some 124 ∨ (bts s)[i]? = some 41) → ∀ q, RowR r s d w R (.returned (.tuple #[.slice ad m c, .bool true])) (wr.drewN q)) := hidden (fun hst q => by
        have hh := HST.out
        rw [if_pos hst] at hh
        have hdr : Chg (fun _ => False) wr (wr.drewN q) := Chg.drewN _ _ _
        have hRq : RI w (wr.drewN q) r s d i ad m c acc vs F := ⟨HRI.out.rd.drewN q, hdr.owns HRI.out.own (fun _ _ h => h), HRI.out.len, HRI.out.rw'.keep hdr (fun _ _ h => h), fun b hb => ⟨(HRI.out.sub b hb).1, by have := (HRI.out.sub b hb).2; have := hdr.size; omega⟩, HRI.out.avo, HRI.out.ch.trans hdr (fun _ _ h => h.elim), HRI.out.le, HRI.out.mi⟩
        obtain ⟨g, off, k1, k2⟩ := hRq.fin
        exact ⟨ad, m, c, i, true, rfl, hRq.rd, hRq.ch, hRq.le, Or.inl ⟨rfl, acc, g, off, hRq.len, by rw [← hh]; simp [appP], k1, k2⟩⟩)
      clear hRI hrel
      by_cases hlt : i < s.size
      · have hltz : (i : Int) < (s.size : Int) := by omega
        obtain ⟨x, hx, hx2⟩ := byte_at s hlt
        have b124 : (((x.toNat : Nat) : Int) != 124) = !decide (x = 124) := by rw [bne]; exact congrArg _ (beq8 x 124 (by omega))
        have b41 : (((x.toNat : Nat) : Int) != 41) = !decide (x = 41) := by rw [bne]; exact congrArg _ (beq8 x 41 (by omega))
        by_cases h1 : x = 124
        · rw [decide_eq_true h1] at b124
          simp only [Bool.not_true] at b124
          have HE := hidden (HEX.out (Or.inr (Or.inl (by rw [hx2, h1]))))
          clear b41 h1 hx2 HEX HST
          go_wp2
          go_quiet (fail)
          go_wp2
          go_ret2
          exact HE.out _
        · rw [decide_eq_false h1] at b124
          simp only [Bool.not_false] at b124
          by_cases h2 : x = 41
          · rw [decide_eq_true h2] at b41
            simp only [Bool.not_true] at b41
            have HE := hidden (HEX.out (Or.inr (Or.inr (by rw [hx2, h2]))))
            clear h1 h2 hx2 HEX HST
            go_wp2
            go_quiet (fail)
            go_wp2
            go_ret2
            exact HE.out _
          · rw [decide_eq_false h2] at b41
            simp only [Bool.not_false] at b41
            have hst : ¬ ((bts s)[i]? = none ∨ (bts s)[i]? = some 124 ∨ (bts s)[i]? = some 41) := by
              rw [hx2]
              simp [h1, h2]
            have hh := HST.out
            rw [if_neg hst] at hh
            have HH := hidden hh
            have kI : ∀ q, Calls Tryz.prog 165 #[.pointer (some ⟨r, 0, none⟩)] (wr.drewN q) (PartR r s d (wr.drewN q) (itemF (bts s) f d i)) := fun q => HIT.out f (by omega) r s i d _ (HRI.out.rd.drewN q) his hs hd (fun e => by rw [e] at hh; exact HNO.out (by rw [← hh]; rfl))
            clear h1 h2 hx2 HEX HST hst hh
            go_wp2
            go_quiet (fail)
            have kJ := kI nq
            have HRQ := hidden (HRI.out.rd.drewN nq)
            have hdr : Chg (fun _ => False) wr (wr.drewN nq) := Chg.drewN _ _ _
            have HRJ : Hid (RI w (wr.drewN nq) r s d i ad m c acc vs F) := hidden ⟨HRI.out.rd.drewN nq, hdr.owns HRI.out.own (fun _ _ h => h), HRI.out.len, HRI.out.rw'.keep hdr (fun _ _ h => h), fun b hb => ⟨(HRI.out.sub b hb).1, by have := (HRI.out.sub b hb).2; have := hdr.size; omega⟩, HRI.out.avo, HRI.out.ch.trans hdr (fun _ _ h => h.elim), HRI.out.le, HRI.out.mi⟩
            clear kI c0 c1 hdr
            go_upto_region 4 with (go_at_call 165; refine kJ.mono ?_; rintro e w2 ⟨v, b, ok, rfl, hrd2, hch2, hbl2, hres⟩; clear kJ)
            rcases hres with ⟨rfl, p, hit, hpv⟩ | ⟨rfl, hit⟩
            · obtain ⟨tv, uv, rfl⟩ := hpv.form
              have hbd := ((read_bd (bts s) f d i (by rw [← HSB.out]; exact his)).2.2.1.1 p b hit).1
              have HNX : Hid (appP (acc ++ [p]) (rowF (bts s) f d b) = R) := hidden (by
                have := HH.out
                rw [hit] at this
                rw [← this]
                simp only
                generalize rowF (bts s) f d b = q
                cases q <;> simp [appP])
              have hPU : Hid (∀ w3 g c' ob, w3.ownsRow w.heap.size 269 1 (.slice (some ⟨g, 0, none⟩) (m + 1) c') (m + 1) (vs ++ [.iface tv uv]) → Pushed (w2.alloc ob) w3 (.slice ad m c) g → RI w w3 r s d b (some ⟨g, 0, none⟩) (m + 1) c' (acc ++ [p]) (vs ++ [.iface tv uv]) (fun b => F b ∨ FW (wr.drewN nq) w2 b)) := hidden (fun w3 g c' ob h1 h2 => HRJ.out.next hrw hrd2 hch2 hbl2 hbd hpv h1 h2)
              have OW : Hid (w2.ownsRow w.heap.size 269 1 (.slice ad m c) m vs) := hidden (hch2.owns HRJ.out.own (fun g hg e => by have := (HRJ.out.own.lt g hg).1; have e' : g = r := e; omega))
              have cellL : Hid ((w2.alloc (.cells #[.iface tv uv] 269)).cell? ⟨w2.heap.size, 0, none⟩ = some (.iface tv uv)) := hidden ((Blk.new w2 269 [.iface tv uv]).cell 0)
              have HSX : Hid (w.heap.size ≤ w2.heap.size) := hidden (Nat.le_trans HRJ.out.ch.size hch2.size)
              have hble : b ≤ s.size := by rw [HSB.out]; exact hbl2
              clear hit hpv hrd2 hch2
              go_wp2_with (refine wpList_push _ rfl (.tmp 48) (.tmp 50) 250 rfl 269 i0 .nilIface 16 Tryz.underlying250 HI.out hz0 hz1 hz2 rfl w.heap.size (.slice ad m c) m vs rfl (OW.out.alloc _) ⟨w2.heap.size, 0, none⟩ (.iface tv uv) rfl cellL.out rfl (by unfold maxLen; omega) (by omega) (by have := HSX.out; simp; omega) ?_; intro g9 c9 w9 ho9 hp9)
              have H9 := hPU.out _ _ _ _ ho9 hp9
              refine ⟨⟨f, b, m + 1, c9, some ⟨g9, 0, none⟩, by first | rfl | simp, by omega, hble, by omega, hidden ⟨_, _, _, HNX.out, H9⟩⟩, ?_⟩
              rw [Rd.at' H9.rd, HRI.out.rd.at']
              omega
            · have HB : Hid (R = .bad b) := hidden (by
                have := HH.out
                rw [hit] at this
                rw [← this]
                rfl)
              have HC2 := hidden (HRJ.out.ch.trans hch2 (fun _ _ e => e))
              have H2 := hidden hrd2
              clear hit hrd2 hch2
              go_wp2
              go_ret2
              exact ⟨none, 0, 0, b, false, rfl, H2.out, HC2.out, hbl2, Or.inr ⟨rfl, HB.out⟩⟩
      · have hltz : ¬ (i : Int) < (s.size : Int) := by omega
        have hltz' : decide ((i : Int) < (s.size : Int)) = false := decide_eq_false hltz
        have HE := hidden (HEX.out (Or.inl (List.getElem?_eq_none (by rw [← HSB.out]; omega))))
        clear HEX HST
        go_wp2
        go_quiet (fail)
        go_wp2
        go_ret2
        exact HE.out _

end Go.Proofs.YtgmdpbahcbhfjaaGreatDoor
/-
  The reader: rows, what is held.
-/
namespace Go.Proofs.YtgmdpbahcbhfjaaGreatDoor
open Go.RowKit

theorem info64 : (Tryz.prog.info? 250).map (fun i => (i.zero, i.size, i.bytes)) = some (some (.slice none 0 0), 1, 24) := by kernel_rfl
/-- A row, as a value. -/
def RowU (F : Nat → Prop) (w : World) (r : List Pt) (v : Value) : Prop := ∃ ad c g off, v = .slice ad r.length c ∧ (r ≠ [] → ad = some ⟨g, off, none⟩ ∧ F g) ∧ RowV F w r g off
theorem RowU.keep {F G : Nat → Prop} {w w' : World} (hc : Chg G w w') (hd : ∀ b, F b → ¬ G b) {r : List Pt} {v : Value} (h : RowU F w r v) : RowU F w' r v := by
  obtain ⟨ad, c, g, off, e, h1, h2⟩ := h
  exact ⟨ad, c, g, off, e, h1, RowV.keep hc hd r g off (fun h0 => (h1 h0).2) h2⟩
theorem RowU.mono {F G : Nat → Prop} {w : World} (hFG : ∀ b, F b → G b) {r : List Pt} {v : Value} (h : RowU F w r v) : RowU G w r v := by
  obtain ⟨ad, c, g, off, e, h1, h2⟩ := h
  exact ⟨ad, c, g, off, e, fun h0 => ⟨(h1 h0).1, hFG _ (h1 h0).2⟩, RowV.mono hFG r g off h2⟩
def RsL (F : Nat → Prop) (w : World) (l : List (List Pt)) (vs : List Value) : Prop := l.length = vs.length ∧ ∀ (i : Nat) (p : List Pt) (v : Value), l[i]? = some p → vs[i]? = some v → RowU F w p v
theorem RsL.nil (F : Nat → Prop) (w : World) : RsL F w [] [] := ⟨rfl, fun i p v h => by simp at h⟩
theorem RsL.snoc {F G H : Nat → Prop} {w : World} {l : List (List Pt)} {vs : List Value} {p : List Pt} {v : Value} (h : RsL F w l vs) (hp : RowU G w p v) (hF : ∀ b, F b → H b) (hG : ∀ b, G b → H b) : RsL H w (l ++ [p]) (vs ++ [v]) := by
  refine ⟨by simp [h.1], fun i q u h1 h2 => ?_⟩
  rcases Nat.lt_or_ge i l.length with hl | hl
  · rw [List.getElem?_append_left hl] at h1
    rw [List.getElem?_append_left (by rw [← h.1]; exact hl)] at h2
    exact (h.2 i q u h1 h2).mono hF
  · rw [List.getElem?_append_right hl] at h1
    rw [List.getElem?_append_right (by rw [← h.1]; exact hl), ← h.1] at h2
    have hi : i - l.length = 0 := by
      have := (List.getElem?_eq_some_iff.1 h1).1
      simp at this
      omega
    rw [hi] at h1 h2
    simp at h1 h2
    subst h1 h2
    exact hp.mono hG
theorem RsL.keep {F G : Nat → Prop} {w w' : World} {l : List (List Pt)} {vs : List Value} (h : RsL F w l vs) (hc : Chg G w w') (hd : ∀ b, F b → ¬ G b) : RsL F w' l vs :=
  ⟨h.1, fun i p v h1 h2 => (h.2 i p v h1 h2).keep hc hd⟩
theorem RsL.mono {F G : Nat → Prop} {w : World} {l : List (List Pt)} {vs : List Value} (h : RsL F w l vs) (hF : ∀ b, F b → G b) : RsL G w l vs :=
  ⟨h.1, fun i p v h1 h2 => (h.2 i p v h1 h2).mono hF⟩
theorem rowsV_of {F : Nat → Prop} {w : World} {g : Nat} : ∀ (l : List (List Pt)) (vs : List Value) (off : Nat), RsL F w l vs → (∀ (i : Nat) (v : Value), vs[i]? = some v → w.cell? ⟨g, off + i, none⟩ = some v) → RowsV F w l g off
  | [], vs, off, _, _ => by simp only [RowsV]
  | p :: t, [], off, h, _ => by have := h.1; simp at this
  | p :: t, v :: vs, off, h, hc => by
    simp only [RowsV]
    obtain ⟨ad, c, g', off', e, h1, h2⟩ := h.2 0 p v (by simp) (by simp)
    refine ⟨⟨ad, c, g', off', by have := hc 0 v (by simp); rw [← e]; simpa using this, h1, h2⟩, rowsV_of t vs (off + 1) ⟨by have := h.1; simp at this; exact this, fun i q u k1 k2 => h.2 (i + 1) q u (by simpa using k1) (by simpa using k2)⟩ (fun i u hu => ?_)⟩
    have := hc (i + 1) u (by simpa using hu)
    rw [show off + 1 + i = off + (i + 1) by omega]
    exact this

/-- What is held in a round of rows. -/
structure QI (w wx : World) (r : Nat) (s : ByteArray) (d i : Nat) (ad : Option Addr) (m c : Nat) (acc : List (List Pt)) (vs : List Value) (F : Nat → Prop) : Prop where
  rd : Rd wx r s i d
  own : wx.ownsRow w.heap.size 250 1 (.slice ad m c) m vs
  len : acc.length = m
  rw' : RsL F wx acc vs
  sub : ∀ b, F b → FW w wx b
  avo : ∀ b, F b → (Value.slice ad m c).ownBlock ≠ some b
  ch : Chg (fun k => k = r) w wx
  le : i ≤ (bts s).length
theorem QI.moved {w wx w2 : World} {r : Nat} {s : ByteArray} {d i j : Nat} {ad : Option Addr} {m c : Nat} {acc : List (List Pt)} {vs : List Value} {F : Nat → Prop} (h : QI w wx r s d i ad m c acc vs F) (hr : r < w.heap.size) (hrd : Rd w2 r s j d) (hc : Chg (fun k => k = r) wx w2) (hj : j ≤ (bts s).length) : QI w w2 r s d j ad m c acc vs F :=
  ⟨hrd, hc.owns h.own (fun g hg e => by have := (h.own.lt g hg).1; have e' : g = r := e; omega), h.len, h.rw'.keep hc (fun b hb e => by have := (h.sub b hb).1; have e' : b = r := e; omega), fun b hb => ⟨(h.sub b hb).1, by have := (h.sub b hb).2; have := hc.size; omega⟩, h.avo, h.ch.trans hc (fun _ _ e => e), hj⟩
theorem QI.next {w wx w2 w3 : World} {r : Nat} {s : ByteArray} {d i j : Nat} {ad : Option Addr} {m c g c' : Nat} {acc : List (List Pt)} {vs : List Value} {F : Nat → Prop} {p : List Pt} {v : Value} {ob : Obj} (h : QI w wx r s d i ad m c acc vs F) (hr : r < w.heap.size) (hrd : Rd w2 r s j d) (hc : Chg (fun k => k = r) wx w2) (hj : j ≤ (bts s).length) (hp : RowU (FW wx w2) w2 p v)
    (ho : w3.ownsRow w.heap.size 250 1 (.slice (some ⟨g, 0, none⟩) (m + 1) c') (m + 1) (vs ++ [v])) (hpu : Pushed (w2.alloc ob) w3 (.slice ad m c) g) :
    QI w w3 r s d j (some ⟨g, 0, none⟩) (m + 1) c' (acc ++ [p]) (vs ++ [v]) (fun b => F b ∨ FW wx w2 b) := by
  have hch := hpu.chg
  have hob : ∀ b, (Value.slice ad m c).ownBlock = some b → w.heap.size ≤ b ∧ b < wx.heap.size := fun b hb => ⟨(h.own.lt b hb).1, owns_lt h.own b hb⟩
  have hav : ∀ b, (F b ∨ FW wx w2 b) → ¬ (Value.slice ad m c).ownBlock = some b := fun b hb e => by
    rcases hb with hb | hb
    · exact h.avo b hb e
    · have := (hob b e).2; have := hb.1; omega
  have hs2 := hc.size
  have hwx := h.ch.size
  have hlt : ∀ b, (F b ∨ FW wx w2 b) → w.heap.size ≤ b ∧ b < w2.heap.size := fun b hb => by
    rcases hb with hb | hb
    · have := h.sub b hb; exact ⟨this.1, by have := this.2; omega⟩
    · exact ⟨by have := hb.1; omega, hb.2⟩
  have hr2 : RsL F w2 acc vs := h.rw'.keep hc (fun b hb e => by have := (h.sub b hb).1; have e' : b = r := e; omega)
  refine ⟨hch.1.blk hrd (fun e => by have := (hob _ e).1; omega), ho, by simp [h.len], (hr2.snoc hp (fun b hb => Or.inl hb) (fun b hb => Or.inr hb)).keep hch.1 hav, fun b hb => ⟨(hlt b hb).1, by have := (hlt b hb).2; have := hch.1.size; omega⟩, fun b hb e => ?_, (h.ch.trans hc (fun _ _ e => e)).trans hch.1 (fun k hk e => by have := (hob k e).1; omega), hj⟩
  have e' : g = b := by simpa [Value.ownBlock] using e
  subst e'
  rcases hch.2 with e2 | ⟨g', e2, hg⟩
  · exact hav g hb e2.symm
  · injection e2 with e2
    subst e2
    have := (hlt g hb).2
    omega
theorem QI.fin {w wx : World} {r : Nat} {s : ByteArray} {d i : Nat} {ad : Option Addr} {m c : Nat} {acc : List (List Pt)} {vs : List Value} {F : Nat → Prop} (h : QI w wx r s d i ad m c acc vs F) : ∃ g off, (acc ≠ [] → ad = some ⟨g, off, none⟩ ∧ FW w wx g) ∧ RowsV (FW w wx) wx acc g off := by
  rcases h.own.2 with ⟨e, e0⟩ | ⟨g, cap, cur, e, hb, hh, _⟩
  · have : acc = [] := List.eq_nil_of_length_eq_zero (by rw [h.len]; exact e0)
    subst this
    exact ⟨0, 0, fun h0 => absurd rfl h0, by simp only [RowsV]⟩
  · injection e with e1 e2 e3
    subst e1
    refine ⟨g, 0, fun _ => ⟨rfl, hb, owns_lt h.own g (by simp [Value.ownBlock])⟩, rowsV_of acc vs 0 (h.rw'.mono h.sub) (fun j v hv => ?_)⟩
    have := h.own.cells (g := g) (by simp [Value.ownBlock]) j v hv
    rwa [Addr.add_lit] at this

end Go.Proofs.YtgmdpbahcbhfjaaGreatDoor
/-
  The reader: rows.
-/
namespace Go.Proofs.YtgmdpbahcbhfjaaGreatDoor
open Go.RowKit

theorem rows_yes {S : List UInt8} {f d i b : Nat} {l : List Pt} {acc : List (List Pt)} {R : Pr (List (List Pt))} (h : appP acc (rowsF S (f + 1) d i) = R) (hr : rowF S f d i = .ok l b) (h124 : S[b]? = some 124) : appP (acc ++ [l]) (rowsF S f d (b + 1)) = R := by
  rw [rowsF, hr] at h
  simp only at h
  rw [if_pos h124] at h
  rw [← h]
  generalize rowsF S f d (b + 1) = q
  cases q <;> simp [appP]
theorem rows_no {S : List UInt8} {f d i b : Nat} {l : List Pt} {acc : List (List Pt)} {R : Pr (List (List Pt))} (h : appP acc (rowsF S (f + 1) d i) = R) (hr : rowF S f d i = .ok l b) (h124 : ¬ S[b]? = some 124) : R = .ok (acc ++ [l]) b := by
  rw [rowsF, hr] at h
  simp only at h
  rw [if_neg h124] at h
  rw [← h]
  rfl
theorem rows_bad {S : List UInt8} {f d i b : Nat} {acc : List (List Pt)} {R : Pr (List (List Pt))} (h : appP acc (rowsF S (f + 1) d i) = R) (hr : rowF S f d i = .bad b) : R = .bad b := by
  rw [rowsF, hr] at h
  rw [← h]
  rfl
theorem rows_out {S : List UInt8} {f d i : Nat} {acc : List (List Pt)} {R : Pr (List (List Pt))} (h : appP acc (rowsF S (f + 1) d i) = R) (hr : rowF S f d i = .out) : R = .out := by
  rw [rowsF, hr] at h
  rw [← h]
  rfl

set_option maxRecDepth 100000 in
set_option maxHeartbeats 8000000 in
theorem rows_of_row (N : Nat) (hI : ∀ f, f < N → RowC f) : RowsC N := by
  intro r s a d w h ha hs hd hno
  have hs2 : s.size ≤ 140737488355328 := by omega
  have hrw : r < w.heap.size := Blk.lt h
  obtain ⟨i0, hi0, hz0, hz1, hz2⟩ := info_parts info64
  have HI := hidden hi0
  have HIT := hidden hI
  have HSB := hidden (size_bts s)
  obtain ⟨R, hR⟩ : ∃ R, rowsF (bts s) N d a = R := ⟨_, rfl⟩
  rw [hR] at hno ⊢
  have HNO := hidden hno
  have HR : Hid (appP [] (rowsF (bts s) N d a) = R) := hidden (by rw [hR]; cases R <;> rfl)
  have R0 : Hid (QI w w r s d a none 0 0 [] [] (fun _ => False)) := hidden ⟨h, World.ownsRow_nil _ _ _ _, rfl, RsL.nil _ _, (fun b hb => hb.elim), (fun b hb => hb.elim), Chg.refl _ _, by rw [← size_bts]; exact ha⟩
  clear hi0 hI h hR hno
  go_enter Tryz.func128, Tryz.ntmps128
  go_wp2
  go_loopw [4] (fun s4 wx => ∃ (f' i m c : Nat) (ad : Option Addr), s4 = .slice ad m c ∧ f' ≤ N ∧ i ≤ s.size ∧ m ≤ i ∧ Hid (∃ acc vs F, appP acc (rowsF (bts s) f' d i) = R ∧ QI w wx r s d i ad m c acc vs F)) (fun _ wx => s.size - rdAt r wx)
  case atStart => exact ⟨N, a, 0, 0, none, rfl, Nat.le_refl _, ha, Nat.zero_le _, hidden ⟨[], [], _, HR.out, R0.out⟩⟩
  case round =>
    rename World => wr
    obtain ⟨f', i, m, c, ad, rfl, hfN, his, hmi, hex⟩ := hrel
    obtain ⟨acc, vs, F, hrel, hQI⟩ := hex.out
    have HQI := hidden hQI
    clear R0 HR hex
    cases f' with
    | zero => exact absurd (by rw [← hrel, rowsF]; rfl) HNO.out
    | succ f =>
      have HREL := hidden hrel
      have kR := HIT.out f (by omega) r s i d wr hQI.rd his hs hd (fun e => HNO.out (rows_out hrel e))
      clear hQI hrel
      go_upto_region 3 with (go_at_call 149; refine kR.mono ?_; rintro e w2 ⟨ad2, n2, c2, b, ok, rfl, hrd2, hch2, hbl2, hres⟩; clear kR)
      rcases hres with ⟨rfl, l, g, off, hln, hro, hlg, hrv⟩ | ⟨rfl, hro⟩
      · have hib := ((read_bd (bts s) f d i (by rw [← HSB.out]; exact his)).2.1.1 l b hro).1
        have hU : RowU (FW wr w2) w2 l (.slice ad2 n2 c2) := ⟨ad2, c2, g, off, by rw [hln], hlg, hrv⟩
        have hPU : Hid (∀ w3 g c' ob, w3.ownsRow w.heap.size 250 1 (.slice (some ⟨g, 0, none⟩) (m + 1) c') (m + 1) (vs ++ [.slice ad2 n2 c2]) → Pushed (w2.alloc ob) w3 (.slice ad m c) g → QI w w3 r s d b (some ⟨g, 0, none⟩) (m + 1) c' (acc ++ [l]) (vs ++ [.slice ad2 n2 c2]) (fun b => F b ∨ FW wr w2 b)) := hidden (fun w3 g c' ob h1 h2 => HQI.out.next hrw hrd2 hch2 hbl2 hU h1 h2)
        have OW : Hid (w2.ownsRow w.heap.size 250 1 (.slice ad m c) m vs) := hidden (hch2.owns HQI.out.own (fun g hg e => by have := (HQI.out.own.lt g hg).1; have e' : g = r := e; omega))
        have cellL : Hid ((w2.alloc (.cells #[.slice ad2 n2 c2] 250)).cell? ⟨w2.heap.size, 0, none⟩ = some (.slice ad2 n2 c2)) := hidden ((Blk.new w2 250 [.slice ad2 n2 c2]).cell 0)
        have HSX : Hid (w.heap.size ≤ w2.heap.size) := hidden (Nat.le_trans HQI.out.ch.size hch2.size)
        have hbs : b ≤ s.size := by rw [HSB.out]; exact hbl2
        have kT : Hid (∀ wx, Rd wx r s b d → Calls Tryz.prog 150 #[.pointer (some ⟨r, 0, none⟩), .int .u8 124] wx fun e w' => e = .returned (.bool (decide ((bts s)[b]? = some 124))) ∧ Rd w' r s (tkN (bts s) b 124) d ∧ Chg (fun i => i = r) wx w') := hidden (fun wx hx => takeP r s b d 124 wx hx hbs hs2)
        have HRO := hidden hro
        clear hro hlg hrv hU hrd2 hch2 hln
        by_cases h124 : (bts s)[b]? = some 124
        · have HNX := hidden (rows_yes HREL.out HRO.out h124)
          have hb1 : b + 1 ≤ (bts s).length := (List.getElem?_eq_some_iff.1 h124).1
          rw [decide_eq_true h124, tkN, if_pos h124] at kT
          clear h124
          go_wp2_with (first
            | (refine wpList_push _ rfl (.tmp 14) (.tmp 16) 217 rfl 250 i0 (.slice none 0 0) 24 Tryz.underlying217 HI.out hz0 hz1 hz2 rfl w.heap.size (.slice ad m c) m vs rfl (OW.out.alloc _) ⟨w2.heap.size, 0, none⟩ (.slice ad2 n2 c2) rfl cellL.out rfl (by unfold maxLen; omega) (by omega) (by have := HSX.out; simp; omega) ?_; intro g9 c9 w9 ho9 hp9; have H9 := hidden (hPU.out _ _ _ _ ho9 hp9); have kT' := kT.out _ H9.out.rd; clear hPU ho9 hp9 kT)
            | (go_at_call 150; refine kT'.mono ?_; rintro e w10 ⟨rfl, h10, hc10⟩; clear kT'))
          have H10 := H9.out.moved hrw h10 hc10 hb1
          refine ⟨⟨f, b + 1, m + 1, c9, some ⟨g9, 0, none⟩, by first | rfl | simp, by omega, by rw [HSB.out]; exact hb1, by omega, hidden ⟨_, _, _, HNX.out, H10⟩⟩, ?_⟩
          rw [Rd.at' H10.rd, HQI.out.rd.at', HSB.out]
          omega
        · have HNX := hidden (rows_no HREL.out HRO.out h124)
          rw [decide_eq_false h124, tkN, if_neg h124] at kT
          clear h124
          go_wp2_with (first
            | (refine wpList_push _ rfl (.tmp 14) (.tmp 16) 217 rfl 250 i0 (.slice none 0 0) 24 Tryz.underlying217 HI.out hz0 hz1 hz2 rfl w.heap.size (.slice ad m c) m vs rfl (OW.out.alloc _) ⟨w2.heap.size, 0, none⟩ (.slice ad2 n2 c2) rfl cellL.out rfl (by unfold maxLen; omega) (by omega) (by have := HSX.out; simp; omega) ?_; intro g9 c9 w9 ho9 hp9; have H9 := hidden (hPU.out _ _ _ _ ho9 hp9); have kT' := kT.out _ H9.out.rd; clear hPU ho9 hp9 kT)
            | (go_at_call 150; refine kT'.mono ?_; rintro e w10 ⟨rfl, h10, hc10⟩; clear kT'))
          go_ret2
          have H10 := H9.out.moved hrw h10 hc10 hbl2
          obtain ⟨g', off', k1, k2⟩ := H10.fin
          exact ⟨_, _, _, b, true, rfl, H10.rd, H10.ch, H10.le, Or.inl ⟨rfl, acc ++ [l], g', off', H10.len, HNX.out, k1, k2⟩⟩
      · have HB := hidden (rows_bad HREL.out hro)
        have HC2 := hidden (HQI.out.ch.trans hch2 (fun _ _ e => e))
        have H2 := hidden hrd2
        clear hro hrd2 hch2
        go_wp2
        go_ret2
        exact ⟨none, 0, 0, b, false, rfl, H2.out, HC2.out, hbl2, Or.inr ⟨rfl, HB.out⟩⟩

/-- THE READER READS AS THE FUNCTIONS SAY. -/
theorem reads : ∀ N, RowsC N ∧ RowC N ∧ ItemC N ∧ AtomC N := by
  intro N
  induction N using Nat.strongRecOn with
  | ind N ih =>
    refine ⟨rows_of_row N (fun f hf => (ih f hf).2.1), row_of_item N (fun f hf => (ih f hf).2.2.1), ?_, ?_⟩
    · cases N with
      | zero => intro r s a d w _ _ _ _ hno; exact absurd (by rw [itemF]) hno
      | succ f => exact item_of_atom f (ih f (Nat.lt_succ_self f)).2.2.2
    · cases N with
      | zero => intro r s a d w _ _ _ _ hno; exact absurd (by rw [atomF]) hno
      | succ f => exact atom_of_rows f (ih f (Nat.lt_succ_self f)).1

end Go.Proofs.YtgmdpbahcbhfjaaGreatDoor
/-
  One element of so many cells behind a row that is owned. Nothing of the program.
-/
namespace Go.Proofs.YtgmdpbahcbhfjaaGreatDoor
open Go.RowKit

theorem run_pushN {P : Program} (w : World) (t ty e : TypeId) (i : TypeInfo) (z : Value) (sz bytes : Nat) (ht : P.underlying t = some (.slice e)) (hi : P.info? e = some i) (hz : i.zero = some z)
    (hsize : i.size = sz) (hby : i.bytes = bytes) (hzs : z.cells.size = sz) (hp : 0 < sz) (base : Nat) (v : Value) (n : Nat) (xs : List Value) (hown : w.ownsRow base e sz v n xs)
    (ad : Addr) (news : List Value) (hl : news.length = sz) (hnews : ∀ j u, news[j]? = some u → w.cell? (ad.add j) = some u) (hone : ∀ x ∈ news, x.oneCell' = true) (h63 : n + 1 ≤ maxLen) (hbytes : (n + 1) * bytes ≤ 140737488355328) (hbase : base ≤ w.heap.size) :
    ∃ g' c' w', (Builtin.append_ #[t, t] ty #[v, .slice (some ad) 1 1]).run P w = .ok (.slice (some ⟨g', 0, none⟩) (n + 1) c') w' ∧
      w'.ownsRow base e sz (.slice (some ⟨g', 0, none⟩) (n + 1) c') (n + 1) (xs ++ news) ∧ Pushed w w' v g' := by
  have hl1 : news.length = 1 * sz := by omega
  rcases hown.2 with ⟨rfl, rfl⟩ | ⟨g, cap, cur, rfl, hbg, hg, hnc, hcm, hcs, htake⟩
  · have hxs : xs = [] := List.eq_nil_of_length_eq_zero (by simpa using hown.1)
    subst hxs
    obtain ⟨v', w', hr, ho, hgr, hiff⟩ := run_append_own (P := P) w w.heap.size t ty e i z sz bytes ht hi hz hsize hby hzs hp (.slice none 0 0) 0 [] (World.ownsRow_nil _ _ _ _) ad 1 1 news hl1 hnews hone h63 hbytes (Nat.le_refl _)
    rcases ho.2 with ⟨_, h0⟩ | ⟨g', c', cur', rfl, hb', hh, hrest⟩
    · omega
    · exact ⟨g', c', w', by simpa using hr, ⟨by simp [hl], .inr ⟨g', c', cur', rfl, by omega, hh, by simpa using hrest⟩⟩, .inr ⟨hb', by simpa [Value.ownBlock] using hgr⟩⟩
  · by_cases hroom : n + 1 ≤ cap
    · obtain ⟨w', hr, ho, hgr⟩ := run_append_fits (P := P) w base t ty e i sz ht hi hsize g n cap xs hown ad 1 1 news hl1 hnews hone hroom
      exact ⟨g, cap, w', hr, ho, .inl ⟨rfl, hgr⟩⟩
    · obtain ⟨v', w', hr, ho, hgr⟩ := run_append_arg_grows (P := P) w t ty e i z sz bytes ht hi hz hsize hby hzs hp ⟨g, 0, none⟩ n cap xs hown.1 (hown.cells rfl) ad 1 1 news hl1 hnews (by omega) h63 hbytes
      rcases ho.2 with ⟨_, h0⟩ | ⟨g', c', cur', rfl, hb', hh, hrest⟩
      · omega
      · exact ⟨g', c', w', hr, ⟨by rw [List.length_append, hown.1, hl, Nat.add_mul, Nat.one_mul], .inr ⟨g', c', cur', rfl, by omega, hh, hrest⟩⟩, .inr ⟨hb', hgr⟩⟩
theorem wp_pushN {P : Program} (w : World) {o : Oper} {a : Act} {K : Act → World → Prop} {Q : Exit → Act → World → Prop} (s x : Operand) (t : TypeId)
    (ho : o.op = .call { callee := .builtin .append, args := #[s, x], argTypes := #[t, t] }) (e : TypeId) (i : TypeInfo) (z : Value) (sz bytes : Nat) (ht : P.underlying t = some (.slice e)) (hi : P.info? e = some i) (hz : i.zero = some z)
    (hsize : i.size = sz) (hby : i.bytes = bytes) (hzs : z.cells.size = sz) (hp : 0 < sz) (base : Nat) (v : Value) (n : Nat) (xs : List Value) (hs : a.eval s = v) (hown : w.ownsRow base e sz v n xs)
    (ad : Addr) (news : List Value) (hx : a.eval x = .slice (some ad) 1 1) (hl : news.length = sz) (hnews : ∀ j u, news[j]? = some u → w.cell? (ad.add j) = some u) (hone : ∀ x ∈ news, x.oneCell' = true) (h63 : n + 1 ≤ maxLen) (hbytes : (n + 1) * bytes ≤ 140737488355328) (hbase : base ≤ w.heap.size)
    (h : ∀ g' c' w', w'.ownsRow base e sz (.slice (some ⟨g', 0, none⟩) (n + 1) c') (n + 1) (xs ++ news) → Pushed w w' v g' → K (a.put o.dst (.slice (some ⟨g', 0, none⟩) (n + 1) c')) w') : o.wp P a w K Q := by
  obtain ⟨g', c', w', hr, h2, h3⟩ := run_pushN (P := P) w t o.type e i z sz bytes ht hi hz hsize hby hzs hp base v n xs hown ad news hl hnews hone h63 hbytes hbase
  unfold Oper.wp
  simp [execOp, ho, resolve, invoke, builtin, hs, hx, hr, Result.andThen]
  exact h g' c' w' h2 h3
theorem step_pushN {P : Program} (w : World) {ops : Array Oper} {o : Oper} {a : Act} {K : Act → World → Prop} {Q : Exit → Act → World → Prop} {E : Prop} (hgd : o.guard = none) (s x : Operand) (t : TypeId)
    (ho : o.op = .call { callee := .builtin .append, args := #[s, x], argTypes := #[t, t] }) (e : TypeId) (i : TypeInfo) (z : Value) (sz bytes : Nat) (ht : P.underlying t = some (.slice e)) (hi : P.info? e = some i) (hz : i.zero = some z)
    (hsize : i.size = sz) (hby : i.bytes = bytes) (hzs : z.cells.size = sz) (hp : 0 < sz) (base : Nat) (v : Value) (n : Nat) (xs : List Value) (hs : a.eval s = v) (hown : w.ownsRow base e sz v n xs)
    (ad : Addr) (news : List Value) (hx : a.eval x = .slice (some ad) 1 1) (hl : news.length = sz) (hnews : ∀ j u, news[j]? = some u → w.cell? (ad.add j) = some u) (hone : ∀ x ∈ news, x.oneCell' = true) (h63 : n + 1 ≤ maxLen) (hbytes : (n + 1) * bytes ≤ 140737488355328) (hbase : base ≤ w.heap.size)
    (h : ∀ g' c' w', w'.ownsRow base e sz (.slice (some ⟨g', 0, none⟩) (n + 1) c') (n + 1) (xs ++ news) → Pushed w w' v g' → K (a.put o.dst (.slice (some ⟨g', 0, none⟩) (n + 1) c')) w') :
    if Region.wanted o (yielded ops a.tmps) = true then Oper.wp P o a w K Q else E := by
  have hw : Region.wanted o (yielded ops a.tmps) = true := by simp [Region.wanted, hgd]
  rw [if_pos hw]
  exact wp_pushN w s x t ho e i z sz bytes ht hi hz hsize hby hzs hp base v n xs hs hown ad news hx hl hnews hone h63 hbytes hbase h

end Go.Proofs.YtgmdpbahcbhfjaaGreatDoor
