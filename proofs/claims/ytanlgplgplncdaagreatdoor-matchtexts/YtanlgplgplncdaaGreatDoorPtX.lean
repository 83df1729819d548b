import Derived.Test.YtanlgplgplncdaaGreatDoorPtT
/-
  The reader: row.
-/
namespace Go.Proofs.YtanlgplgplncdaaGreatDoor
open Go.RowKit
set_option linter.unusedVariables false
set_option linter.unusedSimpArgs false

/-- What row answers. -/
def RowR (r : Nat) (s : ByteArray) (d : Nat) (w : World) (R : Pr (List Pt)) (e : Ending) (w' : World) : Prop :=
  ∃ ad n c b ok, e = .returned (.tuple #[.slice ad n c, .bool ok]) ∧ Rd w' r s b d ∧ Chg (fun i => i = r) w w' ∧ b ≤ (bts s).length ∧ ((ok = true ∧ ∃ l g off, l.length = n ∧ R = .ok l b ∧ (l ≠ [] → ad = some ⟨g, off, none⟩ ∧ FW w w' g) ∧ RowV (FW w w') w' l g off) ∨ (ok = false ∧ R = .bad b))
def RowC (f : Nat) : Prop := ∀ (r : Nat) (s : ByteArray) (a d : Nat) (w : World), Rd w r s a d → a ≤ s.size → s.size ≤ 64 → d ≤ 16 → rowF (bts s) f d a ≠ .out → Calls Tryz.prog 96 #[.pointer (some ⟨r, 0, none⟩)] w (RowR r s d w (rowF (bts s) f d a))
def appP {α : Type} (acc : List α) : Pr (List α) → Pr (List α)
  | .ok t c => .ok (acc ++ t) c
  | .bad k => .bad k
  | .out => .out

theorem info70 : (Tryz.prog.info? 189).map (fun i => (i.zero, i.size, i.bytes)) = some (some .nilIface, 1, 16) := by kernel_rfl

/-- Items and their values. -/
def RwL (F : Nat → Prop) (w : World) (l : List Pt) (vs : List Value) : Prop := l.length = vs.length ∧ ∀ (i : Nat) (p : Pt) (v : Value), l[i]? = some p → vs[i]? = some v → PtV F w p v
theorem RwL.nil (F : Nat → Prop) (w : World) : RwL F w [] [] := ⟨rfl, fun i p v h => by simp at h⟩
theorem RwL.snoc {F G H : Nat → Prop} {w : World} {l : List Pt} {vs : List Value} {p : Pt} {v : Value} (h : RwL F w l vs) (hp : PtV G w p v) (hF : ∀ b, F b → H b) (hG : ∀ b, G b → H b) : RwL H w (l ++ [p]) (vs ++ [v]) := by
  refine ⟨by simp [h.1], fun i q u h1 h2 => ?_⟩
  rcases Nat.lt_or_ge i l.length with hl | hl
  · rw [List.getElem?_append_left hl] at h1
    rw [List.getElem?_append_left (by rw [← h.1]; exact hl)] at h2
    exact PtV.mono hF q u (h.2 i q u h1 h2)
  · rw [List.getElem?_append_right hl] at h1
    rw [List.getElem?_append_right (by rw [← h.1]; exact hl), ← h.1] at h2
    have hi : i - l.length = 0 := by
      have := (List.getElem?_eq_some_iff.1 h1).1
      simp at this
      omega
    rw [hi] at h1 h2
    simp at h1 h2
    subst h1 h2
    exact PtV.mono hG p v hp
theorem RwL.keep {F G : Nat → Prop} {w w' : World} {l : List Pt} {vs : List Value} (h : RwL F w l vs) (hc : Chg G w w') (hd : ∀ b, F b → ¬ G b) : RwL F w' l vs :=
  ⟨h.1, fun i p v h1 h2 => PtV.keep hc hd p v (h.2 i p v h1 h2)⟩
theorem RwL.mono {F G : Nat → Prop} {w : World} {l : List Pt} {vs : List Value} (h : RwL F w l vs) (hF : ∀ b, F b → G b) : RwL G w l vs :=
  ⟨h.1, fun i p v h1 h2 => PtV.mono hF p v (h.2 i p v h1 h2)⟩
/-- From a row of values to the row in memory. -/
theorem rowV_of {F : Nat → Prop} {w : World} {g : Nat} : ∀ (l : List Pt) (vs : List Value) (off : Nat), RwL F w l vs → (∀ (i : Nat) (v : Value), vs[i]? = some v → w.cell? ⟨g, off + i, none⟩ = some v) → RowV F w l g off
  | [], vs, off, _, _ => by simp only [RowV]
  | p :: t, [], off, h, _ => by have := h.1; simp at this
  | p :: t, v :: vs, off, h, hc => by
    simp only [RowV]
    refine ⟨⟨v, by have := hc 0 v (by simp); simpa using this, h.2 0 p v (by simp) (by simp)⟩, rowV_of t vs (off + 1) ⟨by have := h.1; simp at this; exact this, fun i q u h1 h2 => h.2 (i + 1) q u (by simpa using h1) (by simpa using h2)⟩ (fun i u hu => ?_)⟩
    have := hc (i + 1) u (by simpa using hu)
    rw [show off + 1 + i = off + (i + 1) by omega]
    exact this

end Go.Proofs.YtanlgplgplncdaaGreatDoor

/-
  The reader: row (the walk).
-/
namespace Go.Proofs.YtanlgplgplncdaaGreatDoor
open Go.RowKit
set_option linter.unusedVariables false
set_option linter.unusedSimpArgs false

/-- What is held in a round of row. -/
structure RI (w wx : World) (r : Nat) (s : ByteArray) (d i : Nat) (ad : Option Addr) (m c : Nat) (acc : List Pt) (vs : List Value) (F : Nat → Prop) : Prop where
  rd : Rd wx r s i d
  own : wx.ownsRow w.heap.size 189 1 (.slice ad m c) m vs
  len : acc.length = m
  rw' : RwL F wx acc vs
  sub : ∀ b, F b → FW w wx b
  avo : ∀ b, F b → (Value.slice ad m c).ownBlock ≠ some b
  ch : Chg (fun k => k = r) w wx
  le : i ≤ (bts s).length
  mi : m ≤ i
theorem RI.next {w wx w2 w3 : World} {r : Nat} {s : ByteArray} {d i j : Nat} {ad : Option Addr} {m c g c' : Nat} {acc : List Pt} {vs : List Value} {F : Nat → Prop} {p : Pt} {v : Value} {ob : Obj} (h : RI w wx r s d i ad m c acc vs F) (hr : r < w.heap.size) (hrd : Rd w2 r s j d) (hc : Chg (fun k => k = r) wx w2) (hj : j ≤ (bts s).length) (hij : i < j) (hp : PtV (FW wx w2) w2 p v)
    (ho : w3.ownsRow w.heap.size 189 1 (.slice (some ⟨g, 0, none⟩) (m + 1) c') (m + 1) (vs ++ [v])) (hpu : Pushed (w2.alloc ob) w3 (.slice ad m c) g) :
    RI w w3 r s d j (some ⟨g, 0, none⟩) (m + 1) c' (acc ++ [p]) (vs ++ [v]) (fun b => F b ∨ FW wx w2 b) := by
  have hch := hpu.chg
  have hob : ∀ b, (Value.slice ad m c).ownBlock = some b → w.heap.size ≤ b ∧ b < wx.heap.size := fun b hb => ⟨(h.own.lt b hb).1, owns_lt h.own b hb⟩
  have hav : ∀ b, (F b ∨ FW wx w2 b) → ¬ (Value.slice ad m c).ownBlock = some b := fun b hb e => by
    rcases hb with hb | hb
    · exact h.avo b hb e
    · have := (hob b e).2; have := hb.1; omega
  have hs2 := hc.size
  have hwx := h.ch.size
  have hlt : ∀ b, (F b ∨ FW wx w2 b) → w.heap.size ≤ b ∧ b < w2.heap.size := fun b hb => by
    rcases hb with hb | hb
    · have := h.sub b hb; exact ⟨this.1, by have := this.2; omega⟩
    · exact ⟨by have := hb.1; omega, hb.2⟩
  have hr2 : RwL F w2 acc vs := h.rw'.keep hc (fun b hb e => by have := (h.sub b hb).1; have e' : b = r := e; omega)
  refine ⟨hch.1.blk hrd (fun e => by have := (hob _ e).1; omega), ho, by simp [h.len], (hr2.snoc hp (fun b hb => Or.inl hb) (fun b hb => Or.inr hb)).keep hch.1 hav, fun b hb => ⟨(hlt b hb).1, by have := (hlt b hb).2; have := hch.1.size; omega⟩, fun b hb e => ?_, (h.ch.trans hc (fun _ _ e => e)).trans hch.1 (fun k hk e => by have := (hob k e).1; omega), hj, by have := h.mi; omega⟩
  have e' : g = b := by simpa [Value.ownBlock] using e
  subst e'
  rcases hch.2 with e2 | ⟨g', e2, hg⟩
  · exact hav g hb e2.symm
  · injection e2 with e2
    subst e2
    have := (hlt g hb).2
    omega
theorem RI.fin {w wx : World} {r : Nat} {s : ByteArray} {d i : Nat} {ad : Option Addr} {m c : Nat} {acc : List Pt} {vs : List Value} {F : Nat → Prop} (h : RI w wx r s d i ad m c acc vs F) : ∃ g off, (acc ≠ [] → ad = some ⟨g, off, none⟩ ∧ FW w wx g) ∧ RowV (FW w wx) wx acc g off := by
  rcases h.own.2 with ⟨e, e0⟩ | ⟨g, cap, cur, e, hb, hh, _⟩
  · have : acc = [] := List.eq_nil_of_length_eq_zero (by rw [h.len]; exact e0)
    subst this
    exact ⟨0, 0, fun h0 => absurd rfl h0, by simp only [RowV]⟩
  · injection e with e1 e2 e3
    subst e1
    refine ⟨g, 0, fun _ => ⟨rfl, hb, owns_lt h.own g (by simp [Value.ownBlock])⟩, rowV_of acc vs 0 (h.rw'.mono h.sub) (fun j v hv => ?_)⟩
    have := h.own.cells (g := g) (by simp [Value.ownBlock]) j v hv
    rwa [Addr.add_lit] at this

end Go.Proofs.YtanlgplgplncdaaGreatDoor

/-
  The reader: row's walk.
-/
namespace Go.Proofs.YtanlgplgplncdaaGreatDoor
open Go.RowKit
set_option linter.unusedVariables false
set_option linter.unusedSimpArgs false

theorem beq8 (x : UInt8) (k : Nat) (hk : k < 256) : (((x.toNat : Nat) : Int) == (k : Int)) = decide (x = UInt8.ofNat k) := by
  rw [Bool.eq_iff_iff]
  simp only [beq_iff_eq, decide_eq_true_eq]
  constructor
  · intro h
    have : x.toNat = k := by omega
    rw [← this]; simp
  · intro h
    rw [h]; simp; omega
set_option maxRecDepth 100000 in
set_option maxHeartbeats 8000000 in
theorem row_of_item (N : Nat) (hI : ∀ f, f < N → ItemC f) : RowC N := by
  intro r s a d w h ha hs hd hno
  have hs2 : s.size ≤ 140737488355328 := by omega
  have hrw : r < w.heap.size := Blk.lt h
  obtain ⟨i0, hi0, hz0, hz1, hz2⟩ := info_parts info70
  have HI := hidden hi0
  have HIT := hidden hI
  have HSB := hidden (size_bts s)
  obtain ⟨R, hR⟩ : ∃ R, rowF (bts s) N d a = R := ⟨_, rfl⟩
  rw [hR] at hno ⊢
  have HNO := hidden hno
  have HR : Hid (appP [] (rowF (bts s) N d a) = R) := hidden (by rw [hR]; cases R <;> rfl)
  have R0 : Hid (RI w w r s d a none 0 0 [] [] (fun _ => False)) := hidden ⟨h, World.ownsRow_nil _ _ _ _, rfl, RwL.nil _ _, (fun b hb => hb.elim), (fun b hb => hb.elim), Chg.refl _ _, by rw [← size_bts]; exact ha, Nat.zero_le _⟩
  have hsl : (bts s).length ≤ 64 := by rw [← size_bts]; exact hs
  clear hi0 hI h hR hno
  go_enter Tryz.func96, Tryz.ntmps96
  go_wp2
  go_loopw [4] (fun s4 wx => ∃ (f' i m c : Nat) (ad : Option Addr), s4 = .slice ad m c ∧ f' ≤ N ∧ i ≤ s.size ∧ m ≤ i ∧ Hid (∃ acc vs F, appP acc (rowF (bts s) f' d i) = R ∧ RI w wx r s d i ad m c acc vs F)) (fun _ wx => s.size - rdAt r wx)
  case atStart => exact ⟨N, a, 0, 0, none, rfl, Nat.le_refl _, ha, Nat.zero_le _, hidden ⟨[], [], _, HR.out, R0.out⟩⟩
  case round =>
    rename World => wr
    obtain ⟨f', i, m, c, ad, rfl, hfN, his, hmi, hex⟩ := hrel
    obtain ⟨acc, vs, F, hrel, hRI⟩ := hex.out
    have HRI := hidden hRI
    clear R0 HR hex
    cases f' with
    | zero => exact absurd (by rw [← hrel, rowF]; rfl) HNO.out
    | succ f =>
      have HST : Hid (appP acc (if (bts s)[i]? = none ∨ (bts s)[i]? = some 124 ∨ (bts s)[i]? = some 41 then .ok [] i else
        match itemF (bts s) f d i with
        | .ok p b => (match rowF (bts s) f d b with
          | .ok t c => .ok (p :: t) c
          | .bad k => .bad k
          | .out => .out)
        | .bad k => .bad k
        | .out => .out) = R) := hidden (by
        rw [← hrel, rowF]
        congr 1)
      have c0 : wr.cell? ⟨r, 0, none⟩ = some (.string s) := hRI.rd.cell 0
      have c1 : wr.cell? ⟨r, 1, none⟩ = some (.int .i64 (i : Int)) := hRI.rd.cell 1
      have HEX : Hid (((bts s)[i]? = none ∨ (bts s)[i]? = some 124 ∨ (bts s)[i]? = some 41) → ∀ q, RowR r s d w R (.returned (.tuple #[.slice ad m c, .bool true])) (wr.drewN q)) := hidden (fun hst q => by
        have hh := HST.out
        rw [if_pos hst] at hh
        have hdr : Chg (fun _ => False) wr (wr.drewN q) := Chg.drewN _ _ _
        have hRq : RI w (wr.drewN q) r s d i ad m c acc vs F := ⟨HRI.out.rd.drewN q, hdr.owns HRI.out.own (fun _ _ h => h), HRI.out.len, HRI.out.rw'.keep hdr (fun _ _ h => h), fun b hb => ⟨(HRI.out.sub b hb).1, by have := (HRI.out.sub b hb).2; have := hdr.size; omega⟩, HRI.out.avo, HRI.out.ch.trans hdr (fun _ _ h => h.elim), HRI.out.le, HRI.out.mi⟩
        obtain ⟨g, off, k1, k2⟩ := hRq.fin
        exact ⟨ad, m, c, i, true, rfl, hRq.rd, hRq.ch, hRq.le, Or.inl ⟨rfl, acc, g, off, hRq.len, by rw [← hh]; simp [appP], k1, k2⟩⟩)
      clear hRI hrel
      by_cases hlt : i < s.size
      · have hltz : (i : Int) < (s.size : Int) := by omega
        obtain ⟨x, hx, hx2⟩ := byte_at s hlt
        have b124 : (((x.toNat : Nat) : Int) != 124) = !decide (x = 124) := by rw [bne]; exact congrArg _ (beq8 x 124 (by omega))
        have b41 : (((x.toNat : Nat) : Int) != 41) = !decide (x = 41) := by rw [bne]; exact congrArg _ (beq8 x 41 (by omega))
        by_cases h1 : x = 124
        · rw [decide_eq_true h1] at b124
          simp only [Bool.not_true] at b124
          have HE := hidden (HEX.out (Or.inr (Or.inl (by rw [hx2, h1]))))
          clear b41 h1 hx2 HEX HST
          go_wp2
          go_quiet (fail)
          go_wp2
          go_ret2
          exact HE.out _
        · rw [decide_eq_false h1] at b124
          simp only [Bool.not_false] at b124
          by_cases h2 : x = 41
          · rw [decide_eq_true h2] at b41
            simp only [Bool.not_true] at b41
            have HE := hidden (HEX.out (Or.inr (Or.inr (by rw [hx2, h2]))))
            clear h1 h2 hx2 HEX HST
            go_wp2
            go_quiet (fail)
            go_wp2
            go_ret2
            exact HE.out _
          · rw [decide_eq_false h2] at b41
            simp only [Bool.not_false] at b41
            have hst : ¬ ((bts s)[i]? = none ∨ (bts s)[i]? = some 124 ∨ (bts s)[i]? = some 41) := by
              rw [hx2]
              simp [h1, h2]
            have hh := HST.out
            rw [if_neg hst] at hh
            have HH := hidden hh
            have kI : ∀ q, Calls Tryz.prog 105 #[.pointer (some ⟨r, 0, none⟩)] (wr.drewN q) (PartR r s d (wr.drewN q) (itemF (bts s) f d i)) := fun q => HIT.out f (by omega) r s i d _ (HRI.out.rd.drewN q) his hs hd (fun e => by rw [e] at hh; exact HNO.out (by rw [← hh]; rfl))
            clear h1 h2 hx2 HEX HST hst hh
            go_wp2
            go_quiet (fail)
            have kJ := kI nq
            have HRQ := hidden (HRI.out.rd.drewN nq)
            have hdr : Chg (fun _ => False) wr (wr.drewN nq) := Chg.drewN _ _ _
            have HRJ : Hid (RI w (wr.drewN nq) r s d i ad m c acc vs F) := hidden ⟨HRI.out.rd.drewN nq, hdr.owns HRI.out.own (fun _ _ h => h), HRI.out.len, HRI.out.rw'.keep hdr (fun _ _ h => h), fun b hb => ⟨(HRI.out.sub b hb).1, by have := (HRI.out.sub b hb).2; have := hdr.size; omega⟩, HRI.out.avo, HRI.out.ch.trans hdr (fun _ _ h => h.elim), HRI.out.le, HRI.out.mi⟩
            clear kI c0 c1 hdr
            go_upto_region 4 with (go_at_call 105; refine kJ.mono ?_; rintro e w2 ⟨v, b, ok, rfl, hrd2, hch2, hbl2, hres⟩; clear kJ)
            rcases hres with ⟨rfl, p, hit, hpv⟩ | ⟨rfl, hit⟩
            · obtain ⟨tv, uv, rfl⟩ := hpv.form
              have hbd := ((read_bd (bts s) f d i (by rw [← HSB.out]; exact his)).2.2.1.1 p b hit).1
              have HNX : Hid (appP (acc ++ [p]) (rowF (bts s) f d b) = R) := hidden (by
                have := HH.out
                rw [hit] at this
                rw [← this]
                simp only
                generalize rowF (bts s) f d b = q
                cases q <;> simp [appP])
              have hPU : Hid (∀ w3 g c' ob, w3.ownsRow w.heap.size 189 1 (.slice (some ⟨g, 0, none⟩) (m + 1) c') (m + 1) (vs ++ [.iface tv uv]) → Pushed (w2.alloc ob) w3 (.slice ad m c) g → RI w w3 r s d b (some ⟨g, 0, none⟩) (m + 1) c' (acc ++ [p]) (vs ++ [.iface tv uv]) (fun b => F b ∨ FW (wr.drewN nq) w2 b)) := hidden (fun w3 g c' ob h1 h2 => HRJ.out.next hrw hrd2 hch2 hbl2 hbd hpv h1 h2)
              have OW : Hid (w2.ownsRow w.heap.size 189 1 (.slice ad m c) m vs) := hidden (hch2.owns HRJ.out.own (fun g hg e => by have := (HRJ.out.own.lt g hg).1; have e' : g = r := e; omega))
              have cellL : Hid ((w2.alloc (.cells #[.iface tv uv] 189)).cell? ⟨w2.heap.size, 0, none⟩ = some (.iface tv uv)) := hidden ((Blk.new w2 189 [.iface tv uv]).cell 0)
              have HSX : Hid (w.heap.size ≤ w2.heap.size) := hidden (Nat.le_trans HRJ.out.ch.size hch2.size)
              have hble : b ≤ s.size := by rw [HSB.out]; exact hbl2
              clear hit hpv hrd2 hch2
              go_wp2_with (refine wpList_push _ rfl (.tmp 48) (.tmp 50) 175 rfl 189 i0 .nilIface 16 Tryz.underlying175 HI.out hz0 hz1 hz2 rfl w.heap.size (.slice ad m c) m vs rfl (OW.out.alloc _) ⟨w2.heap.size, 0, none⟩ (.iface tv uv) rfl cellL.out rfl (by unfold maxLen; omega) (by omega) (by have := HSX.out; simp; omega) ?_; intro g9 c9 w9 ho9 hp9)
              have H9 := hPU.out _ _ _ _ ho9 hp9
              refine ⟨⟨f, b, m + 1, c9, some ⟨g9, 0, none⟩, by first | rfl | simp, by omega, hble, by omega, hidden ⟨_, _, _, HNX.out, H9⟩⟩, ?_⟩
              rw [Rd.at' H9.rd, HRI.out.rd.at']
              omega
            · have HB : Hid (R = .bad b) := hidden (by
                have := HH.out
                rw [hit] at this
                rw [← this]
                rfl)
              have HC2 := hidden (HRJ.out.ch.trans hch2 (fun _ _ e => e))
              have H2 := hidden hrd2
              clear hit hrd2 hch2
              go_wp2
              go_ret2
              exact ⟨none, 0, 0, b, false, rfl, H2.out, HC2.out, hbl2, Or.inr ⟨rfl, HB.out⟩⟩
      · have hltz : ¬ (i : Int) < (s.size : Int) := by omega
        have hltz' : decide ((i : Int) < (s.size : Int)) = false := decide_eq_false hltz
        have HE := hidden (HEX.out (Or.inl (List.getElem?_eq_none (by rw [← HSB.out]; omega))))
        clear HEX HST
        go_wp2
        go_quiet (fail)
        go_wp2
        go_ret2
        exact HE.out _

end Go.Proofs.YtanlgplgplncdaaGreatDoor
