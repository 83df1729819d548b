/-
  The reader: rows.
-/
import Derived.Test.YtndegcgcbhcokaaPuA
namespace Go.Proofs.Ytndegcgcbhcokaa
open Go.RowKit
set_option linter.unusedVariables false
set_option linter.unusedSimpArgs false

theorem rows_yes {S : List UInt8} {f d i b : Nat} {l : List Pt} {acc : List (List Pt)} {R : Pr (List (List Pt))} (h : appP acc (rowsF S (f + 1) d i) = R) (hr : rowF S f d i = .ok l b) (h124 : S[b]? = some 124) : appP (acc ++ [l]) (rowsF S f d (b + 1)) = R := by
  rw [rowsF, hr] at h
  simp only at h
  rw [if_pos h124] at h
  rw [← h]
  generalize rowsF S f d (b + 1) = q
  cases q <;> simp [appP]
theorem rows_no {S : List UInt8} {f d i b : Nat} {l : List Pt} {acc : List (List Pt)} {R : Pr (List (List Pt))} (h : appP acc (rowsF S (f + 1) d i) = R) (hr : rowF S f d i = .ok l b) (h124 : ¬ S[b]? = some 124) : R = .ok (acc ++ [l]) b := by
  rw [rowsF, hr] at h
  simp only at h
  rw [if_neg h124] at h
  rw [← h]
  rfl
theorem rows_bad {S : List UInt8} {f d i b : Nat} {acc : List (List Pt)} {R : Pr (List (List Pt))} (h : appP acc (rowsF S (f + 1) d i) = R) (hr : rowF S f d i = .bad b) : R = .bad b := by
  rw [rowsF, hr] at h
  rw [← h]
  rfl
theorem rows_out {S : List UInt8} {f d i : Nat} {acc : List (List Pt)} {R : Pr (List (List Pt))} (h : appP acc (rowsF S (f + 1) d i) = R) (hr : rowF S f d i = .out) : R = .out := by
  rw [rowsF, hr] at h
  rw [← h]
  rfl

set_option maxRecDepth 100000 in
set_option maxHeartbeats 8000000 in
theorem rows_of_row (N : Nat) (hI : ∀ f, f < N → RowC f) : RowsC N := by
  intro r s a d w h ha hs hd hno
  have hs2 : s.size ≤ 140737488355328 := by omega
  have hrw : r < w.heap.size := Blk.lt h
  obtain ⟨i0, hi0, hz0, hz1, hz2⟩ := info_parts info64
  have HI := hidden hi0
  have HIT := hidden hI
  have HSB := hidden (size_bts s)
  obtain ⟨R, hR⟩ : ∃ R, rowsF (bts s) N d a = R := ⟨_, rfl⟩
  rw [hR] at hno ⊢
  have HNO := hidden hno
  have HR : Hid (appP [] (rowsF (bts s) N d a) = R) := hidden (by rw [hR]; cases R <;> rfl)
  have R0 : Hid (QI w w r s d a none 0 0 [] [] (fun _ => False)) := hidden ⟨h, World.ownsRow_nil _ _ _ _, rfl, RsL.nil _ _, (fun b hb => hb.elim), (fun b hb => hb.elim), Chg.refl _ _, by rw [← size_bts]; exact ha⟩
  clear hi0 hI h hR hno
  go_enter Try.func12, Try.ntmps12
  go_wp2
  go_loopw [4] (fun s4 wx => ∃ (f' i m c : Nat) (ad : Option Addr), s4 = .slice ad m c ∧ f' ≤ N ∧ i ≤ s.size ∧ m ≤ i ∧ Hid (∃ acc vs F, appP acc (rowsF (bts s) f' d i) = R ∧ QI w wx r s d i ad m c acc vs F)) (fun _ wx => s.size - rdAt r wx)
  case atStart => exact ⟨N, a, 0, 0, none, rfl, Nat.le_refl _, ha, Nat.zero_le _, hidden ⟨[], [], _, HR.out, R0.out⟩⟩
  case round =>
    rename World => wr
    obtain ⟨f', i, m, c, ad, rfl, hfN, his, hmi, hex⟩ := hrel
    obtain ⟨acc, vs, F, hrel, hQI⟩ := hex.out
    have HQI := hidden hQI
    clear R0 HR hex
    cases f' with
    | zero => exact absurd (by rw [← hrel, rowsF]; rfl) HNO.out
    | succ f =>
      have HREL := hidden hrel
      have kR := HIT.out f (by omega) r s i d wr hQI.rd his hs hd (fun e => HNO.out (rows_out hrel e))
      clear hQI hrel
      go_upto_region 3 with (go_at_call 17; refine kR.mono ?_; rintro e w2 ⟨ad2, n2, c2, b, ok, rfl, hrd2, hch2, hbl2, hres⟩; clear kR)
      rcases hres with ⟨rfl, l, g, off, hln, hro, hlg, hrv⟩ | ⟨rfl, hro⟩
      · have hib := ((read_bd (bts s) f d i (by rw [← HSB.out]; exact his)).2.1.1 l b hro).1
        have hU : RowU (FW wr w2) w2 l (.slice ad2 n2 c2) := ⟨ad2, c2, g, off, by rw [hln], hlg, hrv⟩
        have hPU : Hid (∀ w3 g c' ob, w3.ownsRow w.heap.size 64 1 (.slice (some ⟨g, 0, none⟩) (m + 1) c') (m + 1) (vs ++ [.slice ad2 n2 c2]) → Pushed (w2.alloc ob) w3 (.slice ad m c) g → QI w w3 r s d b (some ⟨g, 0, none⟩) (m + 1) c' (acc ++ [l]) (vs ++ [.slice ad2 n2 c2]) (fun b => F b ∨ FW wr w2 b)) := hidden (fun w3 g c' ob h1 h2 => HQI.out.next hrw hrd2 hch2 hbl2 hU h1 h2)
        have OW : Hid (w2.ownsRow w.heap.size 64 1 (.slice ad m c) m vs) := hidden (hch2.owns HQI.out.own (fun g hg e => by have := (HQI.out.own.lt g hg).1; have e' : g = r := e; omega))
        have cellL : Hid ((w2.alloc (.cells #[.slice ad2 n2 c2] 64)).cell? ⟨w2.heap.size, 0, none⟩ = some (.slice ad2 n2 c2)) := hidden ((Blk.new w2 64 [.slice ad2 n2 c2]).cell 0)
        have HSX : Hid (w.heap.size ≤ w2.heap.size) := hidden (Nat.le_trans HQI.out.ch.size hch2.size)
        have hbs : b ≤ s.size := by rw [HSB.out]; exact hbl2
        have kT : Hid (∀ wx, Rd wx r s b d → Calls Try.prog 18 #[.pointer (some ⟨r, 0, none⟩), .int .u8 124] wx fun e w' => e = .returned (.bool (decide ((bts s)[b]? = some 124))) ∧ Rd w' r s (tkN (bts s) b 124) d ∧ Chg (fun i => i = r) wx w') := hidden (fun wx hx => takeP r s b d 124 wx hx hbs hs2)
        have HRO := hidden hro
        clear hro hlg hrv hU hrd2 hch2 hln
        by_cases h124 : (bts s)[b]? = some 124
        · have HNX := hidden (rows_yes HREL.out HRO.out h124)
          have hb1 : b + 1 ≤ (bts s).length := (List.getElem?_eq_some_iff.1 h124).1
          rw [decide_eq_true h124, tkN, if_pos h124] at kT
          clear h124
          go_wp2_with (first
            | (refine wpList_push _ rfl (.tmp 14) (.tmp 16) 45 rfl 64 i0 (.slice none 0 0) 24 Try.underlying45 HI.out hz0 hz1 hz2 rfl w.heap.size (.slice ad m c) m vs rfl (OW.out.alloc _) ⟨w2.heap.size, 0, none⟩ (.slice ad2 n2 c2) rfl cellL.out rfl (by unfold maxLen; omega) (by omega) (by have := HSX.out; simp; omega) ?_; intro g9 c9 w9 ho9 hp9; have H9 := hidden (hPU.out _ _ _ _ ho9 hp9); have kT' := kT.out _ H9.out.rd; clear hPU ho9 hp9 kT)
            | (go_at_call 18; refine kT'.mono ?_; rintro e w10 ⟨rfl, h10, hc10⟩; clear kT'))
          have H10 := H9.out.moved hrw h10 hc10 hb1
          refine ⟨⟨f, b + 1, m + 1, c9, some ⟨g9, 0, none⟩, by first | rfl | simp, by omega, by rw [HSB.out]; exact hb1, by omega, hidden ⟨_, _, _, HNX.out, H10⟩⟩, ?_⟩
          rw [Rd.at' H10.rd, HQI.out.rd.at', HSB.out]
          omega
        · have HNX := hidden (rows_no HREL.out HRO.out h124)
          rw [decide_eq_false h124, tkN, if_neg h124] at kT
          clear h124
          go_wp2_with (first
            | (refine wpList_push _ rfl (.tmp 14) (.tmp 16) 45 rfl 64 i0 (.slice none 0 0) 24 Try.underlying45 HI.out hz0 hz1 hz2 rfl w.heap.size (.slice ad m c) m vs rfl (OW.out.alloc _) ⟨w2.heap.size, 0, none⟩ (.slice ad2 n2 c2) rfl cellL.out rfl (by unfold maxLen; omega) (by omega) (by have := HSX.out; simp; omega) ?_; intro g9 c9 w9 ho9 hp9; have H9 := hidden (hPU.out _ _ _ _ ho9 hp9); have kT' := kT.out _ H9.out.rd; clear hPU ho9 hp9 kT)
            | (go_at_call 18; refine kT'.mono ?_; rintro e w10 ⟨rfl, h10, hc10⟩; clear kT'))
          go_ret2
          have H10 := H9.out.moved hrw h10 hc10 hbl2
          obtain ⟨g', off', k1, k2⟩ := H10.fin
          exact ⟨_, _, _, b, true, rfl, H10.rd, H10.ch, H10.le, Or.inl ⟨rfl, acc ++ [l], g', off', H10.len, HNX.out, k1, k2⟩⟩
      · have HB := hidden (rows_bad HREL.out hro)
        have HC2 := hidden (HQI.out.ch.trans hch2 (fun _ _ e => e))
        have H2 := hidden hrd2
        clear hro hrd2 hch2
        go_wp2
        go_ret2
        exact ⟨none, 0, 0, b, false, rfl, H2.out, HC2.out, hbl2, Or.inr ⟨rfl, HB.out⟩⟩

/-- THE READER READS AS THE FUNCTIONS SAY. -/
theorem reads : ∀ N, RowsC N ∧ RowC N ∧ ItemC N ∧ AtomC N := by
  intro N
  induction N using Nat.strongRecOn with
  | ind N ih =>
    refine ⟨rows_of_row N (fun f hf => (ih f hf).2.1), row_of_item N (fun f hf => (ih f hf).2.2.1), ?_, ?_⟩
    · cases N with
      | zero => intro r s a d w _ _ _ _ hno; exact absurd (by rw [itemF]) hno
      | succ f => exact item_of_atom f (ih f (Nat.lt_succ_self f)).2.2.2
    · cases N with
      | zero => intro r s a d w _ _ _ _ hno; exact absurd (by rw [atomF]) hno
      | succ f => exact atom_of_rows f (ih f (Nat.lt_succ_self f)).1

end Go.Proofs.Ytndegcgcbhcokaa
