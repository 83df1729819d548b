import Derived.Test.YtanlgplgplncdaaGreatDoorPtX
import Derived.Laws.OwnMore
/-
  The reader: rows, what is held.
-/
namespace Go.Proofs.YtanlgplgplncdaaGreatDoor
open Go.RowKit
set_option linter.unusedVariables false
set_option linter.unusedSimpArgs false

theorem info64 : (Tryz.prog.info? 175).map (fun i => (i.zero, i.size, i.bytes)) = some (some (.slice none 0 0), 1, 24) := by kernel_rfl
/-- A row, as a value. -/
def RowU (F : Nat → Prop) (w : World) (r : List Pt) (v : Value) : Prop := ∃ ad c g off, v = .slice ad r.length c ∧ (r ≠ [] → ad = some ⟨g, off, none⟩ ∧ F g) ∧ RowV F w r g off
theorem RowU.keep {F G : Nat → Prop} {w w' : World} (hc : Chg G w w') (hd : ∀ b, F b → ¬ G b) {r : List Pt} {v : Value} (h : RowU F w r v) : RowU F w' r v := by
  obtain ⟨ad, c, g, off, e, h1, h2⟩ := h
  exact ⟨ad, c, g, off, e, h1, RowV.keep hc hd r g off (fun h0 => (h1 h0).2) h2⟩
theorem RowU.mono {F G : Nat → Prop} {w : World} (hFG : ∀ b, F b → G b) {r : List Pt} {v : Value} (h : RowU F w r v) : RowU G w r v := by
  obtain ⟨ad, c, g, off, e, h1, h2⟩ := h
  exact ⟨ad, c, g, off, e, fun h0 => ⟨(h1 h0).1, hFG _ (h1 h0).2⟩, RowV.mono hFG r g off h2⟩
def RsL (F : Nat → Prop) (w : World) (l : List (List Pt)) (vs : List Value) : Prop := l.length = vs.length ∧ ∀ (i : Nat) (p : List Pt) (v : Value), l[i]? = some p → vs[i]? = some v → RowU F w p v
theorem RsL.nil (F : Nat → Prop) (w : World) : RsL F w [] [] := ⟨rfl, fun i p v h => by simp at h⟩
theorem RsL.snoc {F G H : Nat → Prop} {w : World} {l : List (List Pt)} {vs : List Value} {p : List Pt} {v : Value} (h : RsL F w l vs) (hp : RowU G w p v) (hF : ∀ b, F b → H b) (hG : ∀ b, G b → H b) : RsL H w (l ++ [p]) (vs ++ [v]) := by
  refine ⟨by simp [h.1], fun i q u h1 h2 => ?_⟩
  rcases Nat.lt_or_ge i l.length with hl | hl
  · rw [List.getElem?_append_left hl] at h1
    rw [List.getElem?_append_left (by rw [← h.1]; exact hl)] at h2
    exact (h.2 i q u h1 h2).mono hF
  · rw [List.getElem?_append_right hl] at h1
    rw [List.getElem?_append_right (by rw [← h.1]; exact hl), ← h.1] at h2
    have hi : i - l.length = 0 := by
      have := (List.getElem?_eq_some_iff.1 h1).1
      simp at this
      omega
    rw [hi] at h1 h2
    simp at h1 h2
    subst h1 h2
    exact hp.mono hG
theorem RsL.keep {F G : Nat → Prop} {w w' : World} {l : List (List Pt)} {vs : List Value} (h : RsL F w l vs) (hc : Chg G w w') (hd : ∀ b, F b → ¬ G b) : RsL F w' l vs :=
  ⟨h.1, fun i p v h1 h2 => (h.2 i p v h1 h2).keep hc hd⟩
theorem RsL.mono {F G : Nat → Prop} {w : World} {l : List (List Pt)} {vs : List Value} (h : RsL F w l vs) (hF : ∀ b, F b → G b) : RsL G w l vs :=
  ⟨h.1, fun i p v h1 h2 => (h.2 i p v h1 h2).mono hF⟩
theorem rowsV_of {F : Nat → Prop} {w : World} {g : Nat} : ∀ (l : List (List Pt)) (vs : List Value) (off : Nat), RsL F w l vs → (∀ (i : Nat) (v : Value), vs[i]? = some v → w.cell? ⟨g, off + i, none⟩ = some v) → RowsV F w l g off
  | [], vs, off, _, _ => by simp only [RowsV]
  | p :: t, [], off, h, _ => by have := h.1; simp at this
  | p :: t, v :: vs, off, h, hc => by
    simp only [RowsV]
    obtain ⟨ad, c, g', off', e, h1, h2⟩ := h.2 0 p v (by simp) (by simp)
    refine ⟨⟨ad, c, g', off', by have := hc 0 v (by simp); rw [← e]; simpa using this, h1, h2⟩, rowsV_of t vs (off + 1) ⟨by have := h.1; simp at this; exact this, fun i q u k1 k2 => h.2 (i + 1) q u (by simpa using k1) (by simpa using k2)⟩ (fun i u hu => ?_)⟩
    have := hc (i + 1) u (by simpa using hu)
    rw [show off + 1 + i = off + (i + 1) by omega]
    exact this

/-- What is held in a round of rows. -/
structure QI (w wx : World) (r : Nat) (s : ByteArray) (d i : Nat) (ad : Option Addr) (m c : Nat) (acc : List (List Pt)) (vs : List Value) (F : Nat → Prop) : Prop where
  rd : Rd wx r s i d
  own : wx.ownsRow w.heap.size 175 1 (.slice ad m c) m vs
  len : acc.length = m
  rw' : RsL F wx acc vs
  sub : ∀ b, F b → FW w wx b
  avo : ∀ b, F b → (Value.slice ad m c).ownBlock ≠ some b
  ch : Chg (fun k => k = r) w wx
  le : i ≤ (bts s).length
theorem QI.moved {w wx w2 : World} {r : Nat} {s : ByteArray} {d i j : Nat} {ad : Option Addr} {m c : Nat} {acc : List (List Pt)} {vs : List Value} {F : Nat → Prop} (h : QI w wx r s d i ad m c acc vs F) (hr : r < w.heap.size) (hrd : Rd w2 r s j d) (hc : Chg (fun k => k = r) wx w2) (hj : j ≤ (bts s).length) : QI w w2 r s d j ad m c acc vs F :=
  ⟨hrd, hc.owns h.own (fun g hg e => by have := (h.own.lt g hg).1; have e' : g = r := e; omega), h.len, h.rw'.keep hc (fun b hb e => by have := (h.sub b hb).1; have e' : b = r := e; omega), fun b hb => ⟨(h.sub b hb).1, by have := (h.sub b hb).2; have := hc.size; omega⟩, h.avo, h.ch.trans hc (fun _ _ e => e), hj⟩
theorem QI.next {w wx w2 w3 : World} {r : Nat} {s : ByteArray} {d i j : Nat} {ad : Option Addr} {m c g c' : Nat} {acc : List (List Pt)} {vs : List Value} {F : Nat → Prop} {p : List Pt} {v : Value} {ob : Obj} (h : QI w wx r s d i ad m c acc vs F) (hr : r < w.heap.size) (hrd : Rd w2 r s j d) (hc : Chg (fun k => k = r) wx w2) (hj : j ≤ (bts s).length) (hp : RowU (FW wx w2) w2 p v)
    (ho : w3.ownsRow w.heap.size 175 1 (.slice (some ⟨g, 0, none⟩) (m + 1) c') (m + 1) (vs ++ [v])) (hpu : Pushed (w2.alloc ob) w3 (.slice ad m c) g) :
    QI w w3 r s d j (some ⟨g, 0, none⟩) (m + 1) c' (acc ++ [p]) (vs ++ [v]) (fun b => F b ∨ FW wx w2 b) := by
  have hch := hpu.chg
  have hob : ∀ b, (Value.slice ad m c).ownBlock = some b → w.heap.size ≤ b ∧ b < wx.heap.size := fun b hb => ⟨(h.own.lt b hb).1, owns_lt h.own b hb⟩
  have hav : ∀ b, (F b ∨ FW wx w2 b) → ¬ (Value.slice ad m c).ownBlock = some b := fun b hb e => by
    rcases hb with hb | hb
    · exact h.avo b hb e
    · have := (hob b e).2; have := hb.1; omega
  have hs2 := hc.size
  have hwx := h.ch.size
  have hlt : ∀ b, (F b ∨ FW wx w2 b) → w.heap.size ≤ b ∧ b < w2.heap.size := fun b hb => by
    rcases hb with hb | hb
    · have := h.sub b hb; exact ⟨this.1, by have := this.2; omega⟩
    · exact ⟨by have := hb.1; omega, hb.2⟩
  have hr2 : RsL F w2 acc vs := h.rw'.keep hc (fun b hb e => by have := (h.sub b hb).1; have e' : b = r := e; omega)
  refine ⟨hch.1.blk hrd (fun e => by have := (hob _ e).1; omega), ho, by simp [h.len], (hr2.snoc hp (fun b hb => Or.inl hb) (fun b hb => Or.inr hb)).keep hch.1 hav, fun b hb => ⟨(hlt b hb).1, by have := (hlt b hb).2; have := hch.1.size; omega⟩, fun b hb e => ?_, (h.ch.trans hc (fun _ _ e => e)).trans hch.1 (fun k hk e => by have := (hob k e).1; omega), hj⟩
  have e' : g = b := by simpa [Value.ownBlock] using e
  subst e'
  rcases hch.2 with e2 | ⟨g', e2, hg⟩
  · exact hav g hb e2.symm
  · injection e2 with e2
    subst e2
    have := (hlt g hb).2
    omega
theorem QI.fin {w wx : World} {r : Nat} {s : ByteArray} {d i : Nat} {ad : Option Addr} {m c : Nat} {acc : List (List Pt)} {vs : List Value} {F : Nat → Prop} (h : QI w wx r s d i ad m c acc vs F) : ∃ g off, (acc ≠ [] → ad = some ⟨g, off, none⟩ ∧ FW w wx g) ∧ RowsV (FW w wx) wx acc g off := by
  rcases h.own.2 with ⟨e, e0⟩ | ⟨g, cap, cur, e, hb, hh, _⟩
  · have : acc = [] := List.eq_nil_of_length_eq_zero (by rw [h.len]; exact e0)
    subst this
    exact ⟨0, 0, fun h0 => absurd rfl h0, by simp only [RowsV]⟩
  · injection e with e1 e2 e3
    subst e1
    refine ⟨g, 0, fun _ => ⟨rfl, hb, owns_lt h.own g (by simp [Value.ownBlock])⟩, rowsV_of acc vs 0 (h.rw'.mono h.sub) (fun j v hv => ?_)⟩
    have := h.own.cells (g := g) (by simp [Value.ownBlock]) j v hv
    rwa [Addr.add_lit] at this

end Go.Proofs.YtanlgplgplncdaaGreatDoor

/-
  The reader: rows.
-/
namespace Go.Proofs.YtanlgplgplncdaaGreatDoor
open Go.RowKit
set_option linter.unusedVariables false
set_option linter.unusedSimpArgs false

theorem rows_yes {S : List UInt8} {f d i b : Nat} {l : List Pt} {acc : List (List Pt)} {R : Pr (List (List Pt))} (h : appP acc (rowsF S (f + 1) d i) = R) (hr : rowF S f d i = .ok l b) (h124 : S[b]? = some 124) : appP (acc ++ [l]) (rowsF S f d (b + 1)) = R := by
  rw [rowsF, hr] at h
  simp only at h
  rw [if_pos h124] at h
  rw [← h]
  generalize rowsF S f d (b + 1) = q
  cases q <;> simp [appP]
theorem rows_no {S : List UInt8} {f d i b : Nat} {l : List Pt} {acc : List (List Pt)} {R : Pr (List (List Pt))} (h : appP acc (rowsF S (f + 1) d i) = R) (hr : rowF S f d i = .ok l b) (h124 : ¬ S[b]? = some 124) : R = .ok (acc ++ [l]) b := by
  rw [rowsF, hr] at h
  simp only at h
  rw [if_neg h124] at h
  rw [← h]
  rfl
theorem rows_bad {S : List UInt8} {f d i b : Nat} {acc : List (List Pt)} {R : Pr (List (List Pt))} (h : appP acc (rowsF S (f + 1) d i) = R) (hr : rowF S f d i = .bad b) : R = .bad b := by
  rw [rowsF, hr] at h
  rw [← h]
  rfl
theorem rows_out {S : List UInt8} {f d i : Nat} {acc : List (List Pt)} {R : Pr (List (List Pt))} (h : appP acc (rowsF S (f + 1) d i) = R) (hr : rowF S f d i = .out) : R = .out := by
  rw [rowsF, hr] at h
  rw [← h]
  rfl

set_option maxRecDepth 100000 in
set_option maxHeartbeats 8000000 in
theorem rows_of_row (N : Nat) (hI : ∀ f, f < N → RowC f) : RowsC N := by
  intro r s a d w h ha hs hd hno
  have hs2 : s.size ≤ 140737488355328 := by omega
  have hrw : r < w.heap.size := Blk.lt h
  obtain ⟨i0, hi0, hz0, hz1, hz2⟩ := info_parts info64
  have HI := hidden hi0
  have HIT := hidden hI
  have HSB := hidden (size_bts s)
  obtain ⟨R, hR⟩ : ∃ R, rowsF (bts s) N d a = R := ⟨_, rfl⟩
  rw [hR] at hno ⊢
  have HNO := hidden hno
  have HR : Hid (appP [] (rowsF (bts s) N d a) = R) := hidden (by rw [hR]; cases R <;> rfl)
  have R0 : Hid (QI w w r s d a none 0 0 [] [] (fun _ => False)) := hidden ⟨h, World.ownsRow_nil _ _ _ _, rfl, RsL.nil _ _, (fun b hb => hb.elim), (fun b hb => hb.elim), Chg.refl _ _, by rw [← size_bts]; exact ha⟩
  clear hi0 hI h hR hno
  go_enter Tryz.func89, Tryz.ntmps89
  go_wp2
  go_loopw [4] (fun s4 wx => ∃ (f' i m c : Nat) (ad : Option Addr), s4 = .slice ad m c ∧ f' ≤ N ∧ i ≤ s.size ∧ m ≤ i ∧ Hid (∃ acc vs F, appP acc (rowsF (bts s) f' d i) = R ∧ QI w wx r s d i ad m c acc vs F)) (fun _ wx => s.size - rdAt r wx)
  case atStart => exact ⟨N, a, 0, 0, none, rfl, Nat.le_refl _, ha, Nat.zero_le _, hidden ⟨[], [], _, HR.out, R0.out⟩⟩
  case round =>
    rename World => wr
    obtain ⟨f', i, m, c, ad, rfl, hfN, his, hmi, hex⟩ := hrel
    obtain ⟨acc, vs, F, hrel, hQI⟩ := hex.out
    have HQI := hidden hQI
    clear R0 HR hex
    cases f' with
    | zero => exact absurd (by rw [← hrel, rowsF]; rfl) HNO.out
    | succ f =>
      have HREL := hidden hrel
      have kR := HIT.out f (by omega) r s i d wr hQI.rd his hs hd (fun e => HNO.out (rows_out hrel e))
      clear hQI hrel
      go_upto_region 3 with (go_at_call 96; refine kR.mono ?_; rintro e w2 ⟨ad2, n2, c2, b, ok, rfl, hrd2, hch2, hbl2, hres⟩; clear kR)
      rcases hres with ⟨rfl, l, g, off, hln, hro, hlg, hrv⟩ | ⟨rfl, hro⟩
      · have hib := ((read_bd (bts s) f d i (by rw [← HSB.out]; exact his)).2.1.1 l b hro).1
        have hU : RowU (FW wr w2) w2 l (.slice ad2 n2 c2) := ⟨ad2, c2, g, off, by rw [hln], hlg, hrv⟩
        have hPU : Hid (∀ w3 g c' ob, w3.ownsRow w.heap.size 175 1 (.slice (some ⟨g, 0, none⟩) (m + 1) c') (m + 1) (vs ++ [.slice ad2 n2 c2]) → Pushed (w2.alloc ob) w3 (.slice ad m c) g → QI w w3 r s d b (some ⟨g, 0, none⟩) (m + 1) c' (acc ++ [l]) (vs ++ [.slice ad2 n2 c2]) (fun b => F b ∨ FW wr w2 b)) := hidden (fun w3 g c' ob h1 h2 => HQI.out.next hrw hrd2 hch2 hbl2 hU h1 h2)
        have OW : Hid (w2.ownsRow w.heap.size 175 1 (.slice ad m c) m vs) := hidden (hch2.owns HQI.out.own (fun g hg e => by have := (HQI.out.own.lt g hg).1; have e' : g = r := e; omega))
        have cellL : Hid ((w2.alloc (.cells #[.slice ad2 n2 c2] 175)).cell? ⟨w2.heap.size, 0, none⟩ = some (.slice ad2 n2 c2)) := hidden ((Blk.new w2 175 [.slice ad2 n2 c2]).cell 0)
        have HSX : Hid (w.heap.size ≤ w2.heap.size) := hidden (Nat.le_trans HQI.out.ch.size hch2.size)
        have hbs : b ≤ s.size := by rw [HSB.out]; exact hbl2
        have kT : Hid (∀ wx, Rd wx r s b d → Calls Tryz.prog 97 #[.pointer (some ⟨r, 0, none⟩), .int .u8 124] wx fun e w' => e = .returned (.bool (decide ((bts s)[b]? = some 124))) ∧ Rd w' r s (tkN (bts s) b 124) d ∧ Chg (fun i => i = r) wx w') := hidden (fun wx hx => takeP r s b d 124 wx hx hbs hs2)
        have HRO := hidden hro
        clear hro hlg hrv hU hrd2 hch2 hln
        by_cases h124 : (bts s)[b]? = some 124
        · have HNX := hidden (rows_yes HREL.out HRO.out h124)
          have hb1 : b + 1 ≤ (bts s).length := (List.getElem?_eq_some_iff.1 h124).1
          rw [decide_eq_true h124, tkN, if_pos h124] at kT
          clear h124
          go_wp2_with (first
            | (refine wpList_push _ rfl (.tmp 14) (.tmp 16) 156 rfl 175 i0 (.slice none 0 0) 24 Tryz.underlying156 HI.out hz0 hz1 hz2 rfl w.heap.size (.slice ad m c) m vs rfl (OW.out.alloc _) ⟨w2.heap.size, 0, none⟩ (.slice ad2 n2 c2) rfl cellL.out rfl (by unfold maxLen; omega) (by omega) (by have := HSX.out; simp; omega) ?_; intro g9 c9 w9 ho9 hp9; have H9 := hidden (hPU.out _ _ _ _ ho9 hp9); have kT' := kT.out _ H9.out.rd; clear hPU ho9 hp9 kT)
            | (go_at_call 97; refine kT'.mono ?_; rintro e w10 ⟨rfl, h10, hc10⟩; clear kT'))
          have H10 := H9.out.moved hrw h10 hc10 hb1
          refine ⟨⟨f, b + 1, m + 1, c9, some ⟨g9, 0, none⟩, by first | rfl | simp, by omega, by rw [HSB.out]; exact hb1, by omega, hidden ⟨_, _, _, HNX.out, H10⟩⟩, ?_⟩
          rw [Rd.at' H10.rd, HQI.out.rd.at', HSB.out]
          omega
        · have HNX := hidden (rows_no HREL.out HRO.out h124)
          rw [decide_eq_false h124, tkN, if_neg h124] at kT
          clear h124
          go_wp2_with (first
            | (refine wpList_push _ rfl (.tmp 14) (.tmp 16) 156 rfl 175 i0 (.slice none 0 0) 24 Tryz.underlying156 HI.out hz0 hz1 hz2 rfl w.heap.size (.slice ad m c) m vs rfl (OW.out.alloc _) ⟨w2.heap.size, 0, none⟩ (.slice ad2 n2 c2) rfl cellL.out rfl (by unfold maxLen; omega) (by omega) (by have := HSX.out; simp; omega) ?_; intro g9 c9 w9 ho9 hp9; have H9 := hidden (hPU.out _ _ _ _ ho9 hp9); have kT' := kT.out _ H9.out.rd; clear hPU ho9 hp9 kT)
            | (go_at_call 97; refine kT'.mono ?_; rintro e w10 ⟨rfl, h10, hc10⟩; clear kT'))
          go_ret2
          have H10 := H9.out.moved hrw h10 hc10 hbl2
          obtain ⟨g', off', k1, k2⟩ := H10.fin
          exact ⟨_, _, _, b, true, rfl, H10.rd, H10.ch, H10.le, Or.inl ⟨rfl, acc ++ [l], g', off', H10.len, HNX.out, k1, k2⟩⟩
      · have HB := hidden (rows_bad HREL.out hro)
        have HC2 := hidden (HQI.out.ch.trans hch2 (fun _ _ e => e))
        have H2 := hidden hrd2
        clear hro hrd2 hch2
        go_wp2
        go_ret2
        exact ⟨none, 0, 0, b, false, rfl, H2.out, HC2.out, hbl2, Or.inr ⟨rfl, HB.out⟩⟩

/-- THE READER READS AS THE FUNCTIONS SAY. -/
theorem reads : ∀ N, RowsC N ∧ RowC N ∧ ItemC N ∧ AtomC N := by
  intro N
  induction N using Nat.strongRecOn with
  | ind N ih =>
    refine ⟨rows_of_row N (fun f hf => (ih f hf).2.1), row_of_item N (fun f hf => (ih f hf).2.2.1), ?_, ?_⟩
    · cases N with
      | zero => intro r s a d w _ _ _ _ hno; exact absurd (by rw [itemF]) hno
      | succ f => exact item_of_atom f (ih f (Nat.lt_succ_self f)).2.2.2
    · cases N with
      | zero => intro r s a d w _ _ _ _ hno; exact absurd (by rw [atomF]) hno
      | succ f => exact atom_of_rows f (ih f (Nat.lt_succ_self f)).1

end Go.Proofs.YtanlgplgplncdaaGreatDoor

/-
  The machine in memory.
-/
namespace Go.Proofs.YtanlgplgplncdaaGreatDoor
open Go.RowKit
set_option linter.unusedVariables false
set_option linter.unusedSimpArgs false

theorem info102 : (Tryz.prog.info? 202).map (fun i => (i.zero, i.size, i.bytes)) = some (some (.agg #[.slice none 0 0, .int .u64 0]), 2, 32) := by kernel_rfl

/-- What a spot takes, as a value. -/
def TkV (F : Nat → Prop) (w : World) (v : Value) (l : Sn) : Prop := ∃ ad c, v = .slice ad l.length c ∧ Ss w ad l ∧ (∀ y, l ≠ [] → ad = some y → F y.block) ∧ l.length ≤ 2000
theorem TkV.mono {F G : Nat → Prop} {w : World} {v : Value} {l : Sn} (h : TkV F w v l) (hFG : ∀ b, F b → G b) : TkV G w v l := by
  obtain ⟨ad, c, e, h1, h2, h3⟩ := h
  exact ⟨ad, c, e, h1, fun y h0 e => hFG _ (h2 y h0 e), h3⟩
theorem TkV.keep {F G : Nat → Prop} {w w' : World} {v : Value} {l : Sn} (h : TkV F w v l) (hc : Chg G w w') (hd : ∀ b, F b → ¬ G b) : TkV F w' v l := by
  obtain ⟨ad, c, e, hs, hf, h3⟩ := h
  refine ⟨ad, c, e, ⟨hs.sz, fun h0 => ?_⟩, hf, h3⟩
  obtain ⟨b, off, e1, hlt, hcell⟩ := hs.at' h0
  have hbk := hc.block b hlt (hd b (hf _ h0 e1))
  refine ⟨b, off, e1, Nat.lt_of_lt_of_le hlt hc.size, fun k x hx => ?_⟩
  rw [show w'.cell? ⟨b, off + k * 2, none⟩ = w.cell? ⟨b, off + k * 2, none⟩ from World.cell?_of_block hbk, show w'.cell? ⟨b, off + k * 2 + 1, none⟩ = w.cell? ⟨b, off + k * 2 + 1, none⟩ from World.cell?_of_block hbk]
  exact hcell k x hx

def cQ (l : List (Value × Nat)) : List Value := l.flatMap (fun x => [x.1, .int .u64 (x.2 : Int)])
theorem cQ_cons (x : Value × Nat) (l : List (Value × Nat)) : cQ (x :: l) = x.1 :: .int .u64 (x.2 : Int) :: cQ l := by simp [cQ]
theorem cQ_length : ∀ l : List (Value × Nat), (cQ l).length = l.length * 2
  | [] => rfl
  | x :: t => by rw [cQ_cons]; simp only [List.length_cons]; rw [cQ_length t]; omega
theorem cQ_append (l m : List (Value × Nat)) : cQ (l ++ m) = cQ l ++ cQ m := by simp [cQ]
theorem cQ_get : ∀ (l : List (Value × Nat)) (i : Nat) (x : Value × Nat), l[i]? = some x → (cQ l)[i * 2]? = some x.1 ∧ (cQ l)[i * 2 + 1]? = some (.int .u64 (x.2 : Int))
  | [], i, x, h => by simp at h
  | y :: t, 0, x, h => by simp at h; subst h; rw [cQ_cons]; exact ⟨rfl, rfl⟩
  | y :: t, i + 1, x, h => by
    rw [cQ_cons, show (i + 1) * 2 = i * 2 + 1 + 1 by omega, show i * 2 + 1 + 1 + 1 = (i * 2 + 1) + 1 + 1 by omega]
    simp only [List.getElem?_cons_succ] at h ⊢
    exact cQ_get t i x h
theorem cQ_set : ∀ (l : List (Value × Nat)) (i : Nat) (x : Value × Nat) (n : Nat), l[i]? = some x → (cQ l).set (i * 2 + 1) (.int .u64 (n : Int)) = cQ (l.set i (x.1, n))
  | [], i, x, n, h => by simp at h
  | y :: t, 0, x, n, h => by simp at h; subst h; simp [cQ_cons]
  | y :: t, i + 1, x, n, h => by
    rw [cQ_cons, show (i + 1) * 2 + 1 = (i * 2 + 1) + 1 + 1 by omega]
    simp only [List.getElem?_cons_succ] at h
    simp only [List.set_cons_succ, cQ_cons]
    rw [cQ_set t i x n h]

/-- Spots and their values. -/
structure SpL (F : Nat → Prop) (w : World) (vs : List (Value × Nat)) (M : List Sp) : Prop where
  len : vs.length = M.length
  tk : ∀ (i : Nat) (x : Value × Nat) (s : Sp), vs[i]? = some x → M[i]? = some s → x.2 = s.next ∧ TkV F w x.1 s.takes
theorem SpL.mono {F G : Nat → Prop} {w : World} {vs : List (Value × Nat)} {M : List Sp} (h : SpL F w vs M) (hFG : ∀ b, F b → G b) : SpL G w vs M :=
  ⟨h.len, fun i x s h1 h2 => ⟨(h.tk i x s h1 h2).1, (h.tk i x s h1 h2).2.mono hFG⟩⟩
theorem SpL.keep {F G : Nat → Prop} {w w' : World} {vs : List (Value × Nat)} {M : List Sp} (h : SpL F w vs M) (hc : Chg G w w') (hd : ∀ b, F b → ¬ G b) : SpL F w' vs M :=
  ⟨h.len, fun i x s h1 h2 => ⟨(h.tk i x s h1 h2).1, (h.tk i x s h1 h2).2.keep hc hd⟩⟩
theorem SpL.get {F : Nat → Prop} {w : World} {vs : List (Value × Nat)} {M : List Sp} (h : SpL F w vs M) {i : Nat} {s : Sp} (hs : M[i]? = some s) : ∃ v, vs[i]? = some (v, s.next) ∧ TkV F w v s.takes := by
  have hl : i < vs.length := by rw [h.len]; exact (List.getElem?_eq_some_iff.1 hs).1
  have := h.tk i vs[i] s (by simp) hs
  exact ⟨vs[i].1, by rw [List.getElem?_eq_getElem hl, ← this.1], this.2⟩
theorem SpL.snoc {F : Nat → Prop} {w : World} {vs : List (Value × Nat)} {M : List Sp} (h : SpL F w vs M) {v : Value} {l : Sn} (hv : TkV F w v l) : SpL F w (vs ++ [(v, 0)]) (M ++ [⟨l, 0⟩]) := by
  refine ⟨by simp [h.len], fun i x s h1 h2 => ?_⟩
  rcases Nat.lt_or_ge i M.length with hl | hl
  · rw [List.getElem?_append_left hl] at h2
    rw [List.getElem?_append_left (by rw [h.len]; exact hl)] at h1
    exact h.tk i x s h1 h2
  · rw [List.getElem?_append_right hl] at h2
    rw [List.getElem?_append_right (by rw [h.len]; exact hl), h.len] at h1
    have hi : i - M.length = 0 := by
      have := (List.getElem?_eq_some_iff.1 h2).1
      simp at this
      omega
    rw [hi] at h1 h2
    simp at h1 h2
    subst h1 h2
    exact ⟨rfl, hv⟩
theorem SpL.set {F : Nat → Prop} {w : World} {vs : List (Value × Nat)} {M : List Sp} (h : SpL F w vs M) {i n : Nat} {v : Value} {s : Sp} (hv : vs[i]? = some (v, s.next)) (hs : M[i]? = some s) : SpL F w (vs.set i (v, n)) (M.set i ⟨s.takes, n⟩) := by
  refine ⟨by simp [h.len], fun j x t h1 h2 => ?_⟩
  by_cases hij : i = j
  · subst hij
    rw [List.getElem?_set_self (List.getElem?_eq_some_iff.1 hv).1] at h1
    rw [List.getElem?_set_self (List.getElem?_eq_some_iff.1 hs).1] at h2
    injection h1 with h1
    injection h2 with h2
    subst h1 h2
    exact ⟨rfl, (h.tk i _ s hv hs).2⟩
  · rw [List.getElem?_set_ne hij] at h1 h2
    exact h.tk j x t h1 h2

/-- A store in a row that is owned. -/
theorem owns_setV {w : World} {base : Nat} {e : TypeId} {size g n cap : Nat} {xs : List Value} (hO : w.ownsRow base e size (.slice (some ⟨g, 0, none⟩) n cap) n xs) (q : Nat) (u : Value) :
    (w.setCell ⟨g, q, none⟩ u).ownsRow base e size (.slice (some ⟨g, 0, none⟩) n cap) n (xs.set q u) := by
  have hl := hO.1
  rcases hO.2 with ⟨h0, _⟩ | ⟨g', cap', cur, hv, hb, hh, hn, hc, hs, ht⟩
  · cases h0
  · simp only [Value.slice.injEq, Option.some.injEq, Addr.mk.injEq] at hv
    obtain ⟨⟨rfl, _⟩, _, rfl⟩ := hv
    refine ⟨by rw [List.length_set]; exact hl, .inr ⟨g, cap, cur.setIfInBounds q u, rfl, hb, ?_, hn, hc, by simpa using hs, ?_⟩⟩
    · simp [World.setCell, Array.getElem?_modify, hh]
    · rw [Array.toList_setIfInBounds, List.take_set, ht]

structure Mc (F : Nat → Prop) (w : World) (r : Nat) (E : Es) (M : List Sp) (ad : Option Addr) (c : Nat) (vs : List (Value × Nat)) : Prop where
  blk : Blk w r 165 [.slice ad M.length c, .int .u64 (E.first : Int), .int .u64 (E.last : Int), .bool E.emp]
  own : w.ownsRow 0 202 2 (.slice ad M.length c) M.length (cQ vs)
  sp : SpL F w vs M
  nr : ¬ F r
  no : ∀ b, F b → (Value.slice ad M.length c).ownBlock ≠ some b
  ne : (Value.slice ad M.length c).ownBlock ≠ some r
  lt : ∀ b, F b → b < w.heap.size
  b64 : ∀ (i : Nat) (s : Sp), M[i]? = some s → s.next < 18446744073709551616
/-- A machine: its row of spots lies in o. -/
def Mch (F : Nat → Prop) (w : World) (r : Nat) (E : Es) (M : List Sp) (o : Option Nat) : Prop := ∃ ad c vs, Mc F w r E M ad c vs ∧ (Value.slice ad M.length c).ownBlock = o
theorem Mc.keep {F G : Nat → Prop} {w w' : World} {r : Nat} {E : Es} {M : List Sp} {ad : Option Addr} {c : Nat} {vs : List (Value × Nat)} (h : Mc F w r E M ad c vs) (hc : Chg G w w') (hr : ¬ G r) (ho : ∀ b, (Value.slice ad M.length c).ownBlock = some b → ¬ G b) (hF : ∀ b, F b → ¬ G b) : Mc F w' r E M ad c vs :=
  ⟨hc.blk h.blk hr, hc.owns h.own ho, h.sp.keep hc hF, h.nr, h.no, h.ne, fun b hb => Nat.lt_of_lt_of_le (h.lt b hb) hc.size, h.b64⟩
theorem Mch.keep {F G : Nat → Prop} {w w' : World} {r : Nat} {E : Es} {M : List Sp} {o : Option Nat} (h : Mch F w r E M o) (hc : Chg G w w') (hr : ¬ G r) (ho : ∀ b, o = some b → ¬ G b) (hF : ∀ b, F b → ¬ G b) : Mch F w' r E M o := by
  obtain ⟨ad, c, vs, h1, h2⟩ := h
  exact ⟨ad, c, vs, h1.keep hc hr (fun b hb => ho b (by rw [← h2]; exact hb)) hF, h2⟩
theorem Mch.later {F : Nat → Prop} {w w' : World} {r : Nat} {E : Es} {M : List Sp} {o : Option Nat} (h : Mch F w r E M o) (hb : Below w.heap.size w w') : Mch F w' r E M o :=
  h.keep (Chg.of_below (F := fun _ => False) hb) (fun h => h) (fun _ _ h => h) (fun _ _ h => h)
/-- More blocks that are not the machine's. -/
theorem Mch.more {F G : Nat → Prop} {w : World} {r : Nat} {E : Es} {M : List Sp} {o : Option Nat} (h : Mch F w r E M o) (hFG : ∀ b, F b → G b) (hr : ¬ G r) (ho : ∀ b, G b → o ≠ some b) (hl : ∀ b, G b → b < w.heap.size) : Mch G w r E M o := by
  obtain ⟨ad, c, vs, h1, h2⟩ := h
  exact ⟨ad, c, vs, ⟨h1.blk, h1.own, h1.sp.mono hFG, hr, fun b hb => by rw [h2]; exact ho b hb, h1.ne, hl, h1.b64⟩, h2⟩
theorem Mch.rlt {F : Nat → Prop} {w : World} {r : Nat} {E : Es} {M : List Sp} {o : Option Nat} (h : Mch F w r E M o) : r < w.heap.size := by
  obtain ⟨ad, c, vs, h1, h2⟩ := h
  exact h1.blk.lt
theorem Mch.olt {F : Nat → Prop} {w : World} {r : Nat} {E : Es} {M : List Sp} {o : Option Nat} (h : Mch F w r E M o) : ∀ b, o = some b → b < w.heap.size := by
  obtain ⟨ad, c, vs, h1, rfl⟩ := h
  exact owns_lt h1.own
/-- What a call does to a machine: its own blocks alone change; blocks that are not its own, of which it tells, are those or new. -/
structure Mv (F F' : Nat → Prop) (w w' : World) (r : Nat) (o o' : Option Nat) : Prop where
  chg : Chg (fun b => b = r ∨ o = some b) w w'
  mv : Moved w o o'
  sub : ∀ b, F b → F' b
  new : ∀ b, F' b → F b ∨ w.heap.size ≤ b
theorem Mv.refl (F : Nat → Prop) (w : World) (r : Nat) (o : Option Nat) : Mv F F w w r o o := ⟨Chg.refl _ _, .inl rfl, fun _ h => h, fun _ h => .inl h⟩
theorem Mv.below {F : Nat → Prop} {w w' : World} {r : Nat} {o : Option Nat} (h : Below w.heap.size w w') : Mv F F w w' r o o := ⟨Chg.of_below h, .inl rfl, fun _ h => h, fun _ h => .inl h⟩
theorem Mv.trans {F F1 F2 : Nat → Prop} {w w1 w2 : World} {r : Nat} {o o1 o2 : Option Nat} (h : Mv F F1 w w1 r o o1) (k : Mv F1 F2 w1 w2 r o1 o2) : Mv F F2 w w2 r o o2 := by
  refine ⟨h.chg.trans k.chg (fun i hi hg => ?_), h.mv.trans k.mv h.chg.size, fun b hb => k.sub b (h.sub b hb), fun b hb => ?_⟩
  · rcases hg with hg | hg
    · exact .inl hg
    · rcases h.mv with e | ⟨g, e, hlt⟩
      · rw [e] at hg; exact .inr hg
      · rw [e] at hg; injection hg with hg; omega
  · rcases k.new b hb with h1 | h1
    · exact h.new b h1
    · exact .inr (Nat.le_trans h.chg.size h1)
/-- Parts stay. -/
theorem Mv.part {F F' : Nat → Prop} {w w' : World} {r : Nat} {o o' : Option Nat} (h : Mv F F' w w' r o o') (hr : ¬ F r) (ho : ∀ b, F b → o ≠ some b) : ∀ b, F b → ¬ (b = r ∨ o = some b) := by
  rintro b hb (rfl | e)
  · exact hr hb
  · exact ho b hb e

end Go.Proofs.YtanlgplgplncdaaGreatDoor
