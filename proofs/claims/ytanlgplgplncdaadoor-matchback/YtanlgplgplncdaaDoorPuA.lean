import Derived.Test.YtanlgplgplncdaaDoorPtX
/-
  The reader: rows, what is held.
-/
namespace Go.Proofs.YtanlgplgplncdaaDoor
open Go.RowKit
set_option linter.unusedVariables false
set_option linter.unusedSimpArgs false

theorem info64 : (Tryd.prog.info? 121).map (fun i => (i.zero, i.size, i.bytes)) = some (some (.slice none 0 0), 1, 24) := by kernel_rfl
/-- A row, as a value. -/
def RowU (F : Nat → Prop) (w : World) (r : List Pt) (v : Value) : Prop := ∃ ad c g off, v = .slice ad r.length c ∧ (r ≠ [] → ad = some ⟨g, off, none⟩ ∧ F g) ∧ RowV F w r g off
theorem RowU.keep {F G : Nat → Prop} {w w' : World} (hc : Chg G w w') (hd : ∀ b, F b → ¬ G b) {r : List Pt} {v : Value} (h : RowU F w r v) : RowU F w' r v := by
  obtain ⟨ad, c, g, off, e, h1, h2⟩ := h
  exact ⟨ad, c, g, off, e, h1, RowV.keep hc hd r g off (fun h0 => (h1 h0).2) h2⟩
theorem RowU.mono {F G : Nat → Prop} {w : World} (hFG : ∀ b, F b → G b) {r : List Pt} {v : Value} (h : RowU F w r v) : RowU G w r v := by
  obtain ⟨ad, c, g, off, e, h1, h2⟩ := h
  exact ⟨ad, c, g, off, e, fun h0 => ⟨(h1 h0).1, hFG _ (h1 h0).2⟩, RowV.mono hFG r g off h2⟩
def RsL (F : Nat → Prop) (w : World) (l : List (List Pt)) (vs : List Value) : Prop := l.length = vs.length ∧ ∀ (i : Nat) (p : List Pt) (v : Value), l[i]? = some p → vs[i]? = some v → RowU F w p v
theorem RsL.nil (F : Nat → Prop) (w : World) : RsL F w [] [] := ⟨rfl, fun i p v h => by simp at h⟩
theorem RsL.snoc {F G H : Nat → Prop} {w : World} {l : List (List Pt)} {vs : List Value} {p : List Pt} {v : Value} (h : RsL F w l vs) (hp : RowU G w p v) (hF : ∀ b, F b → H b) (hG : ∀ b, G b → H b) : RsL H w (l ++ [p]) (vs ++ [v]) := by
  refine ⟨by simp [h.1], fun i q u h1 h2 => ?_⟩
  rcases Nat.lt_or_ge i l.length with hl | hl
  · rw [List.getElem?_append_left hl] at h1
    rw [List.getElem?_append_left (by rw [← h.1]; exact hl)] at h2
    exact (h.2 i q u h1 h2).mono hF
  · rw [List.getElem?_append_right hl] at h1
    rw [List.getElem?_append_right (by rw [← h.1]; exact hl), ← h.1] at h2
    have hi : i - l.length = 0 := by
      have := (List.getElem?_eq_some_iff.1 h1).1
      simp at this
      omega
    rw [hi] at h1 h2
    simp at h1 h2
    subst h1 h2
    exact hp.mono hG
theorem RsL.keep {F G : Nat → Prop} {w w' : World} {l : List (List Pt)} {vs : List Value} (h : RsL F w l vs) (hc : Chg G w w') (hd : ∀ b, F b → ¬ G b) : RsL F w' l vs :=
  ⟨h.1, fun i p v h1 h2 => (h.2 i p v h1 h2).keep hc hd⟩
theorem RsL.mono {F G : Nat → Prop} {w : World} {l : List (List Pt)} {vs : List Value} (h : RsL F w l vs) (hF : ∀ b, F b → G b) : RsL G w l vs :=
  ⟨h.1, fun i p v h1 h2 => (h.2 i p v h1 h2).mono hF⟩
theorem rowsV_of {F : Nat → Prop} {w : World} {g : Nat} : ∀ (l : List (List Pt)) (vs : List Value) (off : Nat), RsL F w l vs → (∀ (i : Nat) (v : Value), vs[i]? = some v → w.cell? ⟨g, off + i, none⟩ = some v) → RowsV F w l g off
  | [], vs, off, _, _ => by simp only [RowsV]
  | p :: t, [], off, h, _ => by have := h.1; simp at this
  | p :: t, v :: vs, off, h, hc => by
    simp only [RowsV]
    obtain ⟨ad, c, g', off', e, h1, h2⟩ := h.2 0 p v (by simp) (by simp)
    refine ⟨⟨ad, c, g', off', by have := hc 0 v (by simp); rw [← e]; simpa using this, h1, h2⟩, rowsV_of t vs (off + 1) ⟨by have := h.1; simp at this; exact this, fun i q u k1 k2 => h.2 (i + 1) q u (by simpa using k1) (by simpa using k2)⟩ (fun i u hu => ?_)⟩
    have := hc (i + 1) u (by simpa using hu)
    rw [show off + 1 + i = off + (i + 1) by omega]
    exact this

/-- What is held in a round of rows. -/
structure QI (w wx : World) (r : Nat) (s : ByteArray) (d i : Nat) (ad : Option Addr) (m c : Nat) (acc : List (List Pt)) (vs : List Value) (F : Nat → Prop) : Prop where
  rd : Rd wx r s i d
  own : wx.ownsRow w.heap.size 121 1 (.slice ad m c) m vs
  len : acc.length = m
  rw' : RsL F wx acc vs
  sub : ∀ b, F b → FW w wx b
  avo : ∀ b, F b → (Value.slice ad m c).ownBlock ≠ some b
  ch : Chg (fun k => k = r) w wx
  le : i ≤ (bts s).length
theorem QI.moved {w wx w2 : World} {r : Nat} {s : ByteArray} {d i j : Nat} {ad : Option Addr} {m c : Nat} {acc : List (List Pt)} {vs : List Value} {F : Nat → Prop} (h : QI w wx r s d i ad m c acc vs F) (hr : r < w.heap.size) (hrd : Rd w2 r s j d) (hc : Chg (fun k => k = r) wx w2) (hj : j ≤ (bts s).length) : QI w w2 r s d j ad m c acc vs F :=
  ⟨hrd, hc.owns h.own (fun g hg e => by have := (h.own.lt g hg).1; have e' : g = r := e; omega), h.len, h.rw'.keep hc (fun b hb e => by have := (h.sub b hb).1; have e' : b = r := e; omega), fun b hb => ⟨(h.sub b hb).1, by have := (h.sub b hb).2; have := hc.size; omega⟩, h.avo, h.ch.trans hc (fun _ _ e => e), hj⟩
theorem QI.next {w wx w2 w3 : World} {r : Nat} {s : ByteArray} {d i j : Nat} {ad : Option Addr} {m c g c' : Nat} {acc : List (List Pt)} {vs : List Value} {F : Nat → Prop} {p : List Pt} {v : Value} {ob : Obj} (h : QI w wx r s d i ad m c acc vs F) (hr : r < w.heap.size) (hrd : Rd w2 r s j d) (hc : Chg (fun k => k = r) wx w2) (hj : j ≤ (bts s).length) (hp : RowU (FW wx w2) w2 p v)
    (ho : w3.ownsRow w.heap.size 121 1 (.slice (some ⟨g, 0, none⟩) (m + 1) c') (m + 1) (vs ++ [v])) (hpu : Pushed (w2.alloc ob) w3 (.slice ad m c) g) :
    QI w w3 r s d j (some ⟨g, 0, none⟩) (m + 1) c' (acc ++ [p]) (vs ++ [v]) (fun b => F b ∨ FW wx w2 b) := by
  have hch := hpu.chg
  have hob : ∀ b, (Value.slice ad m c).ownBlock = some b → w.heap.size ≤ b ∧ b < wx.heap.size := fun b hb => ⟨(h.own.lt b hb).1, owns_lt h.own b hb⟩
  have hav : ∀ b, (F b ∨ FW wx w2 b) → ¬ (Value.slice ad m c).ownBlock = some b := fun b hb e => by
    rcases hb with hb | hb
    · exact h.avo b hb e
    · have := (hob b e).2; have := hb.1; omega
  have hs2 := hc.size
  have hwx := h.ch.size
  have hlt : ∀ b, (F b ∨ FW wx w2 b) → w.heap.size ≤ b ∧ b < w2.heap.size := fun b hb => by
    rcases hb with hb | hb
    · have := h.sub b hb; exact ⟨this.1, by have := this.2; omega⟩
    · exact ⟨by have := hb.1; omega, hb.2⟩
  have hr2 : RsL F w2 acc vs := h.rw'.keep hc (fun b hb e => by have := (h.sub b hb).1; have e' : b = r := e; omega)
  refine ⟨hch.1.blk hrd (fun e => by have := (hob _ e).1; omega), ho, by simp [h.len], (hr2.snoc hp (fun b hb => Or.inl hb) (fun b hb => Or.inr hb)).keep hch.1 hav, fun b hb => ⟨(hlt b hb).1, by have := (hlt b hb).2; have := hch.1.size; omega⟩, fun b hb e => ?_, (h.ch.trans hc (fun _ _ e => e)).trans hch.1 (fun k hk e => by have := (hob k e).1; omega), hj⟩
  have e' : g = b := by simpa [Value.ownBlock] using e
  subst e'
  rcases hch.2 with e2 | ⟨g', e2, hg⟩
  · exact hav g hb e2.symm
  · injection e2 with e2
    subst e2
    have := (hlt g hb).2
    omega
theorem QI.fin {w wx : World} {r : Nat} {s : ByteArray} {d i : Nat} {ad : Option Addr} {m c : Nat} {acc : List (List Pt)} {vs : List Value} {F : Nat → Prop} (h : QI w wx r s d i ad m c acc vs F) : ∃ g off, (acc ≠ [] → ad = some ⟨g, off, none⟩ ∧ FW w wx g) ∧ RowsV (FW w wx) wx acc g off := by
  rcases h.own.2 with ⟨e, e0⟩ | ⟨g, cap, cur, e, hb, hh, _⟩
  · have : acc = [] := List.eq_nil_of_length_eq_zero (by rw [h.len]; exact e0)
    subst this
    exact ⟨0, 0, fun h0 => absurd rfl h0, by simp only [RowsV]⟩
  · injection e with e1 e2 e3
    subst e1
    refine ⟨g, 0, fun _ => ⟨rfl, hb, owns_lt h.own g (by simp [Value.ownBlock])⟩, rowsV_of acc vs 0 (h.rw'.mono h.sub) (fun j v hv => ?_)⟩
    have := h.own.cells (g := g) (by simp [Value.ownBlock]) j v hv
    rwa [Addr.add_lit] at this

end Go.Proofs.YtanlgplgplncdaaDoor

/-
  The reader: rows.
-/
namespace Go.Proofs.YtanlgplgplncdaaDoor
open Go.RowKit
set_option linter.unusedVariables false
set_option linter.unusedSimpArgs false

theorem rows_yes {S : List UInt8} {f d i b : Nat} {l : List Pt} {acc : List (List Pt)} {R : Pr (List (List Pt))} (h : appP acc (rowsF S (f + 1) d i) = R) (hr : rowF S f d i = .ok l b) (h124 : S[b]? = some 124) : appP (acc ++ [l]) (rowsF S f d (b + 1)) = R := by
  rw [rowsF, hr] at h
  simp only at h
  rw [if_pos h124] at h
  rw [← h]
  generalize rowsF S f d (b + 1) = q
  cases q <;> simp [appP]
theorem rows_no {S : List UInt8} {f d i b : Nat} {l : List Pt} {acc : List (List Pt)} {R : Pr (List (List Pt))} (h : appP acc (rowsF S (f + 1) d i) = R) (hr : rowF S f d i = .ok l b) (h124 : ¬ S[b]? = some 124) : R = .ok (acc ++ [l]) b := by
  rw [rowsF, hr] at h
  simp only at h
  rw [if_neg h124] at h
  rw [← h]
  rfl
theorem rows_bad {S : List UInt8} {f d i b : Nat} {acc : List (List Pt)} {R : Pr (List (List Pt))} (h : appP acc (rowsF S (f + 1) d i) = R) (hr : rowF S f d i = .bad b) : R = .bad b := by
  rw [rowsF, hr] at h
  rw [← h]
  rfl
theorem rows_out {S : List UInt8} {f d i : Nat} {acc : List (List Pt)} {R : Pr (List (List Pt))} (h : appP acc (rowsF S (f + 1) d i) = R) (hr : rowF S f d i = .out) : R = .out := by
  rw [rowsF, hr] at h
  rw [← h]
  rfl

set_option maxRecDepth 100000 in
set_option maxHeartbeats 8000000 in
theorem rows_of_row (N : Nat) (hI : ∀ f, f < N → RowC f) : RowsC N := by
  intro r s a d w h ha hs hd hno
  have hs2 : s.size ≤ 140737488355328 := by omega
  have hrw : r < w.heap.size := Blk.lt h
  obtain ⟨i0, hi0, hz0, hz1, hz2⟩ := info_parts info64
  have HI := hidden hi0
  have HIT := hidden hI
  have HSB := hidden (size_bts s)
  obtain ⟨R, hR⟩ : ∃ R, rowsF (bts s) N d a = R := ⟨_, rfl⟩
  rw [hR] at hno ⊢
  have HNO := hidden hno
  have HR : Hid (appP [] (rowsF (bts s) N d a) = R) := hidden (by rw [hR]; cases R <;> rfl)
  have R0 : Hid (QI w w r s d a none 0 0 [] [] (fun _ => False)) := hidden ⟨h, World.ownsRow_nil _ _ _ _, rfl, RsL.nil _ _, (fun b hb => hb.elim), (fun b hb => hb.elim), Chg.refl _ _, by rw [← size_bts]; exact ha⟩
  clear hi0 hI h hR hno
  go_enter Tryd.func45, Tryd.ntmps45
  go_wp2
  go_loopw [4] (fun s4 wx => ∃ (f' i m c : Nat) (ad : Option Addr), s4 = .slice ad m c ∧ f' ≤ N ∧ i ≤ s.size ∧ m ≤ i ∧ Hid (∃ acc vs F, appP acc (rowsF (bts s) f' d i) = R ∧ QI w wx r s d i ad m c acc vs F)) (fun _ wx => s.size - rdAt r wx)
  case atStart => exact ⟨N, a, 0, 0, none, rfl, Nat.le_refl _, ha, Nat.zero_le _, hidden ⟨[], [], _, HR.out, R0.out⟩⟩
  case round =>
    rename World => wr
    obtain ⟨f', i, m, c, ad, rfl, hfN, his, hmi, hex⟩ := hrel
    obtain ⟨acc, vs, F, hrel, hQI⟩ := hex.out
    have HQI := hidden hQI
    clear R0 HR hex
    cases f' with
    | zero => exact absurd (by rw [← hrel, rowsF]; rfl) HNO.out
    | succ f =>
      have HREL := hidden hrel
      have kR := HIT.out f (by omega) r s i d wr hQI.rd his hs hd (fun e => HNO.out (rows_out hrel e))
      clear hQI hrel
      go_upto_region 3 with (go_at_call 53; refine kR.mono ?_; rintro e w2 ⟨ad2, n2, c2, b, ok, rfl, hrd2, hch2, hbl2, hres⟩; clear kR)
      rcases hres with ⟨rfl, l, g, off, hln, hro, hlg, hrv⟩ | ⟨rfl, hro⟩
      · have hib := ((read_bd (bts s) f d i (by rw [← HSB.out]; exact his)).2.1.1 l b hro).1
        have hU : RowU (FW wr w2) w2 l (.slice ad2 n2 c2) := ⟨ad2, c2, g, off, by rw [hln], hlg, hrv⟩
        have hPU : Hid (∀ w3 g c' ob, w3.ownsRow w.heap.size 121 1 (.slice (some ⟨g, 0, none⟩) (m + 1) c') (m + 1) (vs ++ [.slice ad2 n2 c2]) → Pushed (w2.alloc ob) w3 (.slice ad m c) g → QI w w3 r s d b (some ⟨g, 0, none⟩) (m + 1) c' (acc ++ [l]) (vs ++ [.slice ad2 n2 c2]) (fun b => F b ∨ FW wr w2 b)) := hidden (fun w3 g c' ob h1 h2 => HQI.out.next hrw hrd2 hch2 hbl2 hU h1 h2)
        have OW : Hid (w2.ownsRow w.heap.size 121 1 (.slice ad m c) m vs) := hidden (hch2.owns HQI.out.own (fun g hg e => by have := (HQI.out.own.lt g hg).1; have e' : g = r := e; omega))
        have cellL : Hid ((w2.alloc (.cells #[.slice ad2 n2 c2] 121)).cell? ⟨w2.heap.size, 0, none⟩ = some (.slice ad2 n2 c2)) := hidden ((Blk.new w2 121 [.slice ad2 n2 c2]).cell 0)
        have HSX : Hid (w.heap.size ≤ w2.heap.size) := hidden (Nat.le_trans HQI.out.ch.size hch2.size)
        have hbs : b ≤ s.size := by rw [HSB.out]; exact hbl2
        have kT : Hid (∀ wx, Rd wx r s b d → Calls Tryd.prog 54 #[.pointer (some ⟨r, 0, none⟩), .int .u8 124] wx fun e w' => e = .returned (.bool (decide ((bts s)[b]? = some 124))) ∧ Rd w' r s (tkN (bts s) b 124) d ∧ Chg (fun i => i = r) wx w') := hidden (fun wx hx => takeP r s b d 124 wx hx hbs hs2)
        have HRO := hidden hro
        clear hro hlg hrv hU hrd2 hch2 hln
        by_cases h124 : (bts s)[b]? = some 124
        · have HNX := hidden (rows_yes HREL.out HRO.out h124)
          have hb1 : b + 1 ≤ (bts s).length := (List.getElem?_eq_some_iff.1 h124).1
          rw [decide_eq_true h124, tkN, if_pos h124] at kT
          clear h124
          go_wp2_with (first
            | (refine wpList_push _ rfl (.tmp 14) (.tmp 16) 104 rfl 121 i0 (.slice none 0 0) 24 Tryd.underlying104 HI.out hz0 hz1 hz2 rfl w.heap.size (.slice ad m c) m vs rfl (OW.out.alloc _) ⟨w2.heap.size, 0, none⟩ (.slice ad2 n2 c2) rfl cellL.out rfl (by unfold maxLen; omega) (by omega) (by have := HSX.out; simp; omega) ?_; intro g9 c9 w9 ho9 hp9; have H9 := hidden (hPU.out _ _ _ _ ho9 hp9); have kT' := kT.out _ H9.out.rd; clear hPU ho9 hp9 kT)
            | (go_at_call 54; refine kT'.mono ?_; rintro e w10 ⟨rfl, h10, hc10⟩; clear kT'))
          have H10 := H9.out.moved hrw h10 hc10 hb1
          refine ⟨⟨f, b + 1, m + 1, c9, some ⟨g9, 0, none⟩, by first | rfl | simp, by omega, by rw [HSB.out]; exact hb1, by omega, hidden ⟨_, _, _, HNX.out, H10⟩⟩, ?_⟩
          rw [Rd.at' H10.rd, HQI.out.rd.at', HSB.out]
          omega
        · have HNX := hidden (rows_no HREL.out HRO.out h124)
          rw [decide_eq_false h124, tkN, if_neg h124] at kT
          clear h124
          go_wp2_with (first
            | (refine wpList_push _ rfl (.tmp 14) (.tmp 16) 104 rfl 121 i0 (.slice none 0 0) 24 Tryd.underlying104 HI.out hz0 hz1 hz2 rfl w.heap.size (.slice ad m c) m vs rfl (OW.out.alloc _) ⟨w2.heap.size, 0, none⟩ (.slice ad2 n2 c2) rfl cellL.out rfl (by unfold maxLen; omega) (by omega) (by have := HSX.out; simp; omega) ?_; intro g9 c9 w9 ho9 hp9; have H9 := hidden (hPU.out _ _ _ _ ho9 hp9); have kT' := kT.out _ H9.out.rd; clear hPU ho9 hp9 kT)
            | (go_at_call 54; refine kT'.mono ?_; rintro e w10 ⟨rfl, h10, hc10⟩; clear kT'))
          go_ret2
          have H10 := H9.out.moved hrw h10 hc10 hbl2
          obtain ⟨g', off', k1, k2⟩ := H10.fin
          exact ⟨_, _, _, b, true, rfl, H10.rd, H10.ch, H10.le, Or.inl ⟨rfl, acc ++ [l], g', off', H10.len, HNX.out, k1, k2⟩⟩
      · have HB := hidden (rows_bad HREL.out hro)
        have HC2 := hidden (HQI.out.ch.trans hch2 (fun _ _ e => e))
        have H2 := hidden hrd2
        clear hro hrd2 hch2
        go_wp2
        go_ret2
        exact ⟨none, 0, 0, b, false, rfl, H2.out, HC2.out, hbl2, Or.inr ⟨rfl, HB.out⟩⟩

/-- THE READER READS AS THE FUNCTIONS SAY. -/
theorem reads : ∀ N, RowsC N ∧ RowC N ∧ ItemC N ∧ AtomC N := by
  intro N
  induction N using Nat.strongRecOn with
  | ind N ih =>
    refine ⟨rows_of_row N (fun f hf => (ih f hf).2.1), row_of_item N (fun f hf => (ih f hf).2.2.1), ?_, ?_⟩
    · cases N with
      | zero => intro r s a d w _ _ _ _ hno; exact absurd (by rw [itemF]) hno
      | succ f => exact item_of_atom f (ih f (Nat.lt_succ_self f)).2.2.2
    · cases N with
      | zero => intro r s a d w _ _ _ _ hno; exact absurd (by rw [atomF]) hno
      | succ f => exact atom_of_rows f (ih f (Nat.lt_succ_self f)).1

end Go.Proofs.YtanlgplgplncdaaDoor
