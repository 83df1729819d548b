import Derived.Test.YtgmdpbahcbhfjaaGreatDoorPtB
set_option linter.unusedSimpArgs false
set_option linter.unusedVariables false
set_option maxHeartbeats 40000000
set_option maxRecDepth 100000
/-
  The reader: class (the walk).
-/
namespace Go.Proofs.YtgmdpbahcbhfjaaGreatDoor
open Go.RowKit

set_option maxRecDepth 100000 in
set_option maxHeartbeats 8000000 in
theorem classP (r : Nat) (s : ByteArray) (a d : Nat) (w : World) (h : Rd w r s a d) (ha : a ≤ s.size) (hs : s.size ≤ 64) :
    Calls Tryz.prog 183 #[.pointer (some ⟨r, 0, none⟩)] w fun e w' => ∃ v neg l b ok, e = .returned (.tuple #[v, .bool ok]) ∧ ClR (bts s) a neg l b ok ∧ Rd w' r s b d ∧ Chg (fun i => i = r) w w' ∧ (ok = true → ClV (fun b => w.heap.size ≤ b) w' v neg l) ∧ (ok = false → v = .nilIface) := by
  have hs2 : s.size ≤ 140737488355328 := by omega
  have hrw : r < w.heap.size := Blk.lt h
  have kT := takeP r s a d 94 w h ha hs2
  obtain ⟨neg, hneg⟩ : ∃ neg, decide ((bts s)[a]? = some 94) = neg := ⟨_, rfl⟩
  obtain ⟨a1, ha1⟩ : ∃ a1, tkN (bts s) a 94 = a1 := ⟨_, rfl⟩
  have hl1 : a ≤ a1 ∧ a1 ≤ (bts s).length := by
    rw [← ha1]
    unfold tkN
    split
    · rename_i h94; exact ⟨by omega, (List.getElem?_eq_some_iff.1 h94).1⟩
    · exact ⟨Nat.le_refl _, by rw [← size_bts]; exact ha⟩
  rw [hneg, ha1] at kT
  have kT' : Calls Tryz.prog 150 #[.pointer (some ⟨r, 0, none⟩), .int .u8 94] w fun e w' => e = .returned (.bool neg) ∧ Rd w' r s a1 d ∧ Chg (fun i => i = r) w w' := kT
  obtain ⟨RES, hRES⟩ : ∃ RES, clsF (bts s) ((bts s).length + 2) a1 [] = RES := ⟨_, rfl⟩
  have HOK : Hid (∀ l b, b ≤ (bts s).length → a ≤ b → RES = .ok l b → ClR (bts s) a neg l b true) := hidden (fun l b h1 h2 h3 => ⟨h2, h1, hneg.symm, (fun _ => by rw [ha1, hRES, h3]), fun h => by cases h⟩)
  have HBAD : Hid (∀ l b, b ≤ (bts s).length → a ≤ b → RES = .bad b → ClR (bts s) a neg l b false) := hidden (fun l b h1 h2 h3 => ⟨h2, h1, hneg.symm, (fun h => by cases h), fun _ => by rw [ha1, hRES, h3]⟩)
  have HRES := hidden hRES
  have hsl : (bts s).length ≤ 64 := by rw [← size_bts]; exact hs
  have HSB := hidden (size_bts s)
  clear kT hneg ha1 h hRES
  go_enter Tryz.func183, Tryz.ntmps183
  go_wp2_with (go_at_call 150; refine kT'.mono ?_; rintro e w1 ⟨rfl, h1, hc1⟩; clear kT')
  have hal : Below w1.heap.size w1 (w1.alloc (.cells #[.bool neg, .slice none 0 0] 293)) := (Below.refl _ _).alloc (Nat.le_refl _) _
  have C0 : Hid (CI w (w1.alloc (.cells #[.bool neg, .slice none 0 0] 293)) r w1.heap.size s d a1 neg none 0 0 []) := hidden ⟨h1.later hal, Blk.new w1 293 _, rfl, Ss.nil _ _, (fun y hy => by cases hy), hl1.2, Nat.zero_le _, hc1.trans (Chg.of_below (F := fun _ => False) hal) (fun _ _ e => e.elim), fun y h0 => absurd rfl h0⟩
  have HG : Hid (w.heap.size ≤ w1.heap.size) := hidden hc1.size
  clear h1 hc1 hal
  go_loopw [] (fun wx => ∃ (i n c f : Nat) (ad : Option Addr) (acc : Sn), a1 ≤ i ∧ i ≤ 64 ∧ (bts s).length + 2 ≤ f + i ∧ Hid (clsF (bts s) f i acc = RES) ∧ Hid (CI w wx r w1.heap.size s d i neg ad c n acc)) (fun wx => s.size - rdAt r wx)
  case atStart => exact ⟨a1, 0, 0, (bts s).length + 2, none, [], by omega, by have := hl1.2; omega, by omega, HRES, C0⟩
  case round =>
    rename World => wr
    obtain ⟨i, n, c, f, ad, acc, hi1, hi64, hf, hrel, hC⟩ := hrel
    clear C0 HRES
    have hile := hC.out.le
    obtain ⟨f', rfl⟩ : ∃ f', f = f' + 1 := ⟨f - 1, by omega⟩
    have HST : Hid (clsF (bts s) (f' + 1) i acc = if acc ≠ [] ∧ (bts s)[i]? = some 93 then .ok acc (i + 1) else
      match spanF (bts s) i with
      | .ok x b => clsF (bts s) f' b (withS acc x)
      | .bad k => .bad k
      | .out => .out) := hidden (by
      rw [clsF]
      split
      · rfl
      · cases spanF (bts s) i <;> rfl)
    have g1 : wr.cell? ⟨w1.heap.size, 1, none⟩ = some (.slice ad n c) := hC.out.blk.cell 1
    have hn0 : Hid (n = 0 ↔ acc = []) := hidden (by rw [← hC.out.len]; exact List.length_eq_zero_iff)
    have his : i ≤ s.size := by rw [HSB.out]; exact hile
    -- what follows where a span is read
    have go1 : Hid (∀ wx, CI w wx r w1.heap.size s d i neg ad c n acc → ¬ (acc ≠ [] ∧ (bts s)[i]? = some 93) → Calls Tryz.prog 186 #[.pointer (some ⟨r, 0, none⟩)] wx fun e w' => ∃ (lo hi b : Nat) (ok : Bool), e = .returned (.tuple #[.agg #[.int .i32 ((lo : Nat) : Int), .int .i32 ((hi : Nat) : Int)], .bool ok]) ∧ CI w w' r w1.heap.size s d b neg ad c n acc ∧ i ≤ b ∧ b ≤ (bts s).length ∧ (ok = true → i < b ∧ lo ≤ 1114111 ∧ hi ≤ 1114111 ∧ clsF (bts s) f' b (withS acc (lo, hi)) = RES) ∧ (ok = false → RES = .bad b)) := hidden (fun wx hCx hno => by
      refine (spanP r s i d wx hCx.rd his hs2).mono ?_
      rintro e w' ⟨lo, hi, b, ok, rfl, hsp, hrd, hch⟩
      refine ⟨lo, hi, b, ok, rfl, hCx.moved hrw HG.out hrd hch hsp.2.1 hsp.1, hsp.1, hsp.2.1, fun hok => ?_, fun hok => ?_⟩
      · obtain ⟨k1, k2, k3⟩ := hsp.2.2.1 hok
        refine ⟨span_pos k1, by omega, k3, ?_⟩
        rw [← hrel.out, HST.out, if_neg hno, k1]
      · rw [← hrel.out, HST.out, if_neg hno, hsp.2.2.2 hok])
    have hext : Hid (acc ≠ [] ∧ (bts s)[i]? = some 93 → RES = .ok acc (i + 1) ∧ i + 1 ≤ (bts s).length) := hidden (fun hy => ⟨by rw [← hrel.out, HST.out, if_pos hy], (List.getElem?_eq_some_iff.1 hy.2).1⟩)
    clear hrel HST
    by_cases h0 : n = 0
    · have h0z : ((n : Int) == 0) = true := by simp [h0]
      have hno : ¬ (acc ≠ [] ∧ (bts s)[i]? = some 93) := fun hy => hy.1 (hn0.out.1 h0)
      have CX := hC
      have H0 := hidden h0
      clear h0
      have k5 := go1.out _ CX.out hno
      clear go1 hext
      go_upto_region 4 with (go_at_call 186; refine k5.mono ?_; rintro e w5 ⟨lo, hi, b, ok, rfl, hC5, hib, hbl, hyes, hbad⟩; clear k5)
      have C5 := hidden hC5
      have hal5 : Below w5.heap.size w5 (w5.alloc (.cells #[.int .i32 (lo : Int), .int .i32 (hi : Int)] 289)) := (Below.refl _ _).alloc (Nat.le_refl _) _
      cases ok with
      | false =>
        have HB := hidden (HBAD.out [] b hbl (by omega) (hbad rfl))
        have HRD := hidden (show Rd (w5.alloc (.cells #[.int .i32 (lo : Int), .int .i32 (hi : Int)] 289)) r s b d from hC5.rd.later hal5)
        have HCH := hidden (hC5.ch.trans (Chg.of_below (F := fun _ => False) hal5) (fun _ _ e => e.elim))
        clear hC5 hyes hbad hal5
        go_wp2
        go_ret2
        first
          | exact ⟨_, neg, [], b, false, rfl, HB.out, HRD.out, HCH.out, (fun h => by cases h), fun _ => rfl⟩
          | exact ⟨_, neg, [], b, Or.inl ⟨rfl, HB.out, HRD.out, HCH.out, (fun h => by cases h), fun _ => rfl⟩⟩
      | true =>
        obtain ⟨hlt, hlo, hhi, hcl⟩ := hyes rfl
        have HCL := hidden hcl
        have B5 := hC5.blk.later hal5
        have p1 : (w5.alloc (.cells #[.int .i32 (lo : Int), .int .i32 (hi : Int)] 289)).cell? ⟨w1.heap.size, 1, none⟩ = some (.slice ad n c) := B5.cell 1
        have N5 := Blk.new w5 289 [.int .i32 (lo : Int), .int .i32 (hi : Int)]
        have e0 : (w5.alloc (.cells #[.int .i32 (lo : Int), .int .i32 (hi : Int)] 289)).cell? ⟨w5.heap.size, 0, none⟩ = some (.int .i32 (lo : Int)) := N5.cell 0
        have e1 : (w5.alloc (.cells #[.int .i32 (lo : Int), .int .i32 (hi : Int)] 289)).cell? ⟨w5.heap.size, 1, none⟩ = some (.int .i32 (hi : Int)) := N5.cell 1
        have kW := withP ad c acc (lo, hi) (w5.alloc (.cells #[.int .i32 (lo : Int), .int .i32 (hi : Int)] 289)) (hC5.ss.later hal5) (by rw [hC5.len]; have := hC5.ni; omega) ⟨hlo, hhi⟩
        rw [hC5.len] at kW
        obtain ⟨n', hn'⟩ : ∃ n', (withS acc (lo, hi)).length = n' := ⟨_, rfl⟩
        have hwl := withS_len acc (lo, hi)
        rw [hn', hC5.len] at hwl
        rw [hn'] at kW
        have hni := hC5.ni
        have hni2 : n ≤ i := CX.out.ni
        have HN' := hidden hn'
        have BL5 := hidden B5
        clear hC5 hyes hbad hcl hn' B5 N5 hni
        go_wp2_with (go_at_call 187; refine kW.mono ?_; rintro e w6 ⟨a6, c6, rfl, ho6, hbd6, hb6⟩; have q1 : w6.cell? ⟨w1.heap.size, 1, none⟩ = some (.slice ad n c) := (BL5.out.later hb6).cell 1; have qf := (BL5.out.later hb6).frozen 1; clear kW)
        have C7 := hidden (C5.out.next hrw HG.out hb6 ho6 hbd6 HN'.out (by omega))
        refine ⟨⟨b, n', c6, f', a6, withS acc (lo, hi), by omega, by omega, by omega, HCL, C7⟩, ?_⟩
        rw [C7.out.rd.at', hC.out.rd.at', HSB.out]
        omega
    · have h0z : ((n : Int) == 0) = false := by simp [h0]
      have kC := takeP r s i d 93 wr hC.out.rd his hs2
      by_cases h93 : (bts s)[i]? = some 93
      · rw [decide_eq_true h93, tkN, if_pos h93] at kC
        have kC' : Calls Tryz.prog 150 #[.pointer (some ⟨r, 0, none⟩), .int .u8 93] wr fun e w' => e = .returned (.bool true) ∧ Rd w' r s (i + 1) d ∧ Chg (fun i => i = r) wr w' := kC
        obtain ⟨x1, x2⟩ := hext.out ⟨fun e => h0 (hn0.out.2 e), h93⟩
        have HB := hidden (HOK.out acc (i + 1) x2 (by omega) x1)
        have HX2 := hidden x2
        clear kC h93 x1 x2 hext go1 hn0
        go_wp2_with (go_at_call 150; refine kC'.mono ?_; rintro e w3 ⟨rfl, h3, hc3⟩; have C3 := hidden (hC.out.moved hrw HG.out h3 hc3 HX2.out (Nat.le_succ i)); have q0 : w3.cell? ⟨w1.heap.size, 0, none⟩ = some (.bool neg) := C3.out.blk.cell 0; have q1 : w3.cell? ⟨w1.heap.size, 1, none⟩ = some (.slice ad n c) := C3.out.blk.cell 1; clear kC' h3 hc3)
        go_ret2
        have HV : ClV (fun b => w.heap.size ≤ b) w3 (.iface 293 (.agg #[.bool neg, .slice ad n c])) neg acc := ⟨ad, c, by rw [C3.out.len], C3.out.ss, C3.out.bd, fun y h0 e => (C3.out.own y h0 e).1⟩
        first
          | exact ⟨_, neg, acc, i + 1, true, rfl, HB.out, C3.out.rd, C3.out.ch, fun _ => HV, fun h => by cases h⟩
          | exact ⟨_, neg, acc, i + 1, Or.inr ⟨rfl, HB.out, C3.out.rd, C3.out.ch, fun _ => HV, fun h => by cases h⟩⟩
      · rw [decide_eq_false h93, tkN, if_neg h93] at kC
        have kC' : Calls Tryz.prog 150 #[.pointer (some ⟨r, 0, none⟩), .int .u8 93] wr fun e w' => e = .returned (.bool false) ∧ Rd w' r s i d ∧ Chg (fun i => i = r) wr w' := kC
        have hno : ¬ (acc ≠ [] ∧ (bts s)[i]? = some 93) := fun hy => h93 hy.2
        clear kC h93
        go_wp2_with (go_at_call 150; refine kC'.mono ?_; rintro e w3 ⟨rfl, h3, hc3⟩; clear kC')
        have CX := hidden (hC.out.moved hrw HG.out h3 hc3 hile (Nat.le_refl i))
        clear h3 hc3
        have k5 := go1.out _ CX.out hno
        clear go1 hext
        go_upto_region 4 with (go_at_call 186; refine k5.mono ?_; rintro e w5 ⟨lo, hi, b, ok, rfl, hC5, hib, hbl, hyes, hbad⟩; clear k5)
        have C5 := hidden hC5
        have hal5 : Below w5.heap.size w5 (w5.alloc (.cells #[.int .i32 (lo : Int), .int .i32 (hi : Int)] 289)) := (Below.refl _ _).alloc (Nat.le_refl _) _
        cases ok with
        | false =>
          have HB := hidden (HBAD.out [] b hbl (by omega) (hbad rfl))
          have HRD := hidden (show Rd (w5.alloc (.cells #[.int .i32 (lo : Int), .int .i32 (hi : Int)] 289)) r s b d from hC5.rd.later hal5)
          have HCH := hidden (hC5.ch.trans (Chg.of_below (F := fun _ => False) hal5) (fun _ _ e => e.elim))
          clear hC5 hyes hbad hal5
          go_wp2
          go_ret2
          first
            | exact ⟨_, neg, [], b, false, rfl, HB.out, HRD.out, HCH.out, (fun h => by cases h), fun _ => rfl⟩
            | exact ⟨_, neg, [], b, Or.inl ⟨rfl, HB.out, HRD.out, HCH.out, (fun h => by cases h), fun _ => rfl⟩⟩
        | true =>
          obtain ⟨hlt, hlo, hhi, hcl⟩ := hyes rfl
          have HCL := hidden hcl
          have B5 := hC5.blk.later hal5
          have p1 : (w5.alloc (.cells #[.int .i32 (lo : Int), .int .i32 (hi : Int)] 289)).cell? ⟨w1.heap.size, 1, none⟩ = some (.slice ad n c) := B5.cell 1
          have N5 := Blk.new w5 289 [.int .i32 (lo : Int), .int .i32 (hi : Int)]
          have e0 : (w5.alloc (.cells #[.int .i32 (lo : Int), .int .i32 (hi : Int)] 289)).cell? ⟨w5.heap.size, 0, none⟩ = some (.int .i32 (lo : Int)) := N5.cell 0
          have e1 : (w5.alloc (.cells #[.int .i32 (lo : Int), .int .i32 (hi : Int)] 289)).cell? ⟨w5.heap.size, 1, none⟩ = some (.int .i32 (hi : Int)) := N5.cell 1
          have kW := withP ad c acc (lo, hi) (w5.alloc (.cells #[.int .i32 (lo : Int), .int .i32 (hi : Int)] 289)) (hC5.ss.later hal5) (by rw [hC5.len]; have := hC5.ni; omega) ⟨hlo, hhi⟩
          rw [hC5.len] at kW
          obtain ⟨n', hn'⟩ : ∃ n', (withS acc (lo, hi)).length = n' := ⟨_, rfl⟩
          have hwl := withS_len acc (lo, hi)
          rw [hn', hC5.len] at hwl
          rw [hn'] at kW
          have hni := hC5.ni
          have hni2 : n ≤ i := CX.out.ni
          have HN' := hidden hn'
          have BL5 := hidden B5
          clear hC5 hyes hbad hcl hn' B5 N5 hni
          go_wp2_with (go_at_call 187; refine kW.mono ?_; rintro e w6 ⟨a6, c6, rfl, ho6, hbd6, hb6⟩; have q1 : w6.cell? ⟨w1.heap.size, 1, none⟩ = some (.slice ad n c) := (BL5.out.later hb6).cell 1; have qf := (BL5.out.later hb6).frozen 1; clear kW)
          have C7 := hidden (C5.out.next hrw HG.out hb6 ho6 hbd6 HN'.out (by omega))
          refine ⟨⟨b, n', c6, f', a6, withS acc (lo, hi), by omega, by omega, by omega, HCL, C7⟩, ?_⟩
          rw [C7.out.rd.at', hC.out.rd.at', HSB.out]
          omega

end Go.Proofs.YtgmdpbahcbhfjaaGreatDoor
/-
  Parts of a pattern in memory: their blocks lie in F.
-/
namespace Go.Proofs.YtgmdpbahcbhfjaaGreatDoor
open Go.RowKit

mutual
/-- A part, as a value. -/
def PtV (F : Nat → Prop) (w : World) : Pt → Value → Prop
  | .chr c, v => v = .iface 287 (.int .i32 (c : Int)) ∧ c ≤ 1114111
  | .any, v => v = .iface 290 (.agg #[])
  | .cls neg l, v => ClV F w v neg l
  | .grp l, v => ∃ ad c b off, v = .iface 274 (.agg #[.slice ad l.length c]) ∧ (l ≠ [] → ad = some ⟨b, off, none⟩ ∧ F b) ∧ RowsV F w l b off
  | .rep a s, v => ∃ u, v = .iface 276 (.agg #[u, .int .u8 (s : Int)]) ∧ PtV F w a u
/-- Items from a place on. -/
def RowV (F : Nat → Prop) (w : World) : List Pt → Nat → Nat → Prop
  | [], _, _ => True
  | p :: t, b, off => (∃ v, w.cell? ⟨b, off, none⟩ = some v ∧ PtV F w p v) ∧ RowV F w t b (off + 1)
/-- Rows from a place on. -/
def RowsV (F : Nat → Prop) (w : World) : List (List Pt) → Nat → Nat → Prop
  | [], _, _ => True
  | r :: t, b, off => (∃ ad c b' off', w.cell? ⟨b, off, none⟩ = some (.slice ad r.length c) ∧ (r ≠ [] → ad = some ⟨b', off', none⟩ ∧ F b') ∧ RowV F w r b' off') ∧ RowsV F w t b (off + 1)
end

theorem ClV.keep {F G : Nat → Prop} {w w' : World} {v : Value} {neg : Bool} {l : Sn} (h : ClV F w v neg l) (hc : Chg G w w') (hd : ∀ b, F b → ¬ G b) : ClV F w' v neg l := by
  obtain ⟨ad, c, e, hs, hb, hf⟩ := h
  refine ⟨ad, c, e, ⟨hs.sz, fun h0 => ?_⟩, hb, hf⟩
  obtain ⟨b, off, e1, hlt, hcell⟩ := hs.at' h0
  have hbk := hc.block b hlt (hd b (hf _ h0 e1))
  refine ⟨b, off, e1, Nat.lt_of_lt_of_le hlt hc.size, fun k x hx => ?_⟩
  rw [show w'.cell? ⟨b, off + k * 2, none⟩ = w.cell? ⟨b, off + k * 2, none⟩ from World.cell?_of_block hbk, show w'.cell? ⟨b, off + k * 2 + 1, none⟩ = w.cell? ⟨b, off + k * 2 + 1, none⟩ from World.cell?_of_block hbk]
  exact hcell k x hx
theorem ClV.mono {F G : Nat → Prop} {w : World} {v : Value} {neg : Bool} {l : Sn} (h : ClV F w v neg l) (hFG : ∀ b, F b → G b) : ClV G w v neg l := by
  obtain ⟨ad, c, e, hs, hb, hf⟩ := h
  exact ⟨ad, c, e, hs, hb, fun y h0 e => hFG _ (hf y h0 e)⟩
theorem cell_lt {w : World} {b off : Nat} {v : Value} (h : w.cell? ⟨b, off, none⟩ = some v) : b < w.heap.size := by
  rcases Nat.lt_or_ge b w.heap.size with h' | h'
  · exact h'
  · simp [World.cell?, Array.getElem?_eq_none h'] at h

mutual
/-- Parts stay while other blocks change. -/
theorem PtV.keep {F G : Nat → Prop} {w w' : World} (hc : Chg G w w') (hd : ∀ b, F b → ¬ G b) : ∀ (p : Pt) (v : Value), PtV F w p v → PtV F w' p v
  | .chr c, v, h => by simp only [PtV] at h ⊢; exact h
  | .any, v, h => by simp only [PtV] at h ⊢; exact h
  | .cls neg l, v, h => by simp only [PtV] at h ⊢; exact h.keep hc hd
  | .grp l, v, h => by
    simp only [PtV] at h ⊢
    obtain ⟨ad, c, b, off, e, h1, h2⟩ := h
    refine ⟨ad, c, b, off, e, h1, RowsV.keep hc hd l b off (fun h0 => (h1 h0).2) h2⟩
  | .rep a s, v, h => by
    simp only [PtV] at h ⊢
    obtain ⟨u, e, h1⟩ := h
    exact ⟨u, e, PtV.keep hc hd a u h1⟩
theorem RowV.keep {F G : Nat → Prop} {w w' : World} (hc : Chg G w w') (hd : ∀ b, F b → ¬ G b) : ∀ (l : List Pt) (b off : Nat), (l ≠ [] → F b) → RowV F w l b off → RowV F w' l b off
  | [], b, off, _, h => by simp only [RowV]
  | p :: t, b, off, hF, h => by
    simp only [RowV] at h ⊢
    obtain ⟨⟨v, h1, h2⟩, h3⟩ := h
    have hFb := hF (by simp)
    refine ⟨⟨v, ?_, PtV.keep hc hd p v h2⟩, RowV.keep hc hd t b (off + 1) (fun _ => hFb) h3⟩
    rw [show w'.cell? ⟨b, off, none⟩ = w.cell? ⟨b, off, none⟩ from World.cell?_of_block (hc.block b (cell_lt h1) (hd b hFb))]
    exact h1
theorem RowsV.keep {F G : Nat → Prop} {w w' : World} (hc : Chg G w w') (hd : ∀ b, F b → ¬ G b) : ∀ (l : List (List Pt)) (b off : Nat), (l ≠ [] → F b) → RowsV F w l b off → RowsV F w' l b off
  | [], b, off, _, h => by simp only [RowsV]
  | r :: t, b, off, hF, h => by
    simp only [RowsV] at h ⊢
    obtain ⟨⟨ad, c, b', off', h1, h2, h3⟩, h4⟩ := h
    have hFb := hF (by simp)
    refine ⟨⟨ad, c, b', off', ?_, h2, RowV.keep hc hd r b' off' (fun h0 => (h2 h0).2) h3⟩, RowsV.keep hc hd t b (off + 1) (fun _ => hFb) h4⟩
    rw [show w'.cell? ⟨b, off, none⟩ = w.cell? ⟨b, off, none⟩ from World.cell?_of_block (hc.block b (cell_lt h1) (hd b hFb))]
    exact h1
end
mutual
theorem PtV.mono {F G : Nat → Prop} {w : World} (hFG : ∀ b, F b → G b) : ∀ (p : Pt) (v : Value), PtV F w p v → PtV G w p v
  | .chr c, v, h => by simp only [PtV] at h ⊢; exact h
  | .any, v, h => by simp only [PtV] at h ⊢; exact h
  | .cls neg l, v, h => by simp only [PtV] at h ⊢; exact h.mono hFG
  | .grp l, v, h => by
    simp only [PtV] at h ⊢
    obtain ⟨ad, c, b, off, e, h1, h2⟩ := h
    exact ⟨ad, c, b, off, e, fun h0 => ⟨(h1 h0).1, hFG _ (h1 h0).2⟩, RowsV.mono hFG l b off h2⟩
  | .rep a s, v, h => by
    simp only [PtV] at h ⊢
    obtain ⟨u, e, h1⟩ := h
    exact ⟨u, e, PtV.mono hFG a u h1⟩
theorem RowV.mono {F G : Nat → Prop} {w : World} (hFG : ∀ b, F b → G b) : ∀ (l : List Pt) (b off : Nat), RowV F w l b off → RowV G w l b off
  | [], b, off, h => by simp only [RowV]
  | p :: t, b, off, h => by
    simp only [RowV] at h ⊢
    obtain ⟨⟨v, h1, h2⟩, h3⟩ := h
    exact ⟨⟨v, h1, PtV.mono hFG p v h2⟩, RowV.mono hFG t b (off + 1) h3⟩
theorem RowsV.mono {F G : Nat → Prop} {w : World} (hFG : ∀ b, F b → G b) : ∀ (l : List (List Pt)) (b off : Nat), RowsV F w l b off → RowsV G w l b off
  | [], b, off, h => by simp only [RowsV]
  | r :: t, b, off, h => by
    simp only [RowsV] at h ⊢
    obtain ⟨⟨ad, c, b', off', h1, h2, h3⟩, h4⟩ := h
    exact ⟨⟨ad, c, b', off', h1, fun h0 => ⟨(h2 h0).1, hFG _ (h2 h0).2⟩, RowV.mono hFG r b' off' h3⟩, RowsV.mono hFG t b (off + 1) h4⟩
end

end Go.Proofs.YtgmdpbahcbhfjaaGreatDoor
/-
  Reading a pattern, purely: it goes on, and has steps enough.
-/
namespace Go.Proofs.YtgmdpbahcbhfjaaGreatDoor
open Go

theorem char_bd {S : List UInt8} {a c b : Nat} (ha : a ≤ S.length) (h : charF S a = .ok c b) : a < b ∧ b ≤ S.length := by
  unfold charF at h
  simp only at h
  generalize hb : (if decide (S[a]? = some 92) = true then a + 1 else a) = b0 at h
  have h0 : a ≤ b0 ∧ b0 ≤ S.length := by
    rw [← hb]
    split
    · rename_i hd
      exact ⟨by omega, (List.getElem?_eq_some_iff.1 (of_decide_eq_true hd)).1⟩
    · exact ⟨Nat.le_refl _, ha⟩
  split at h
  · cases h
  · rename_i c' k hf
    split at h
    · injection h with e1 e2
      have := fp_len hf
      rw [List.length_drop] at this
      omega
    · cases h
theorem char_no (S : List UInt8) (a : Nat) : charF S a ≠ .out := by
  unfold charF
  simp only
  split
  · simp
  · split <;> simp
theorem span_bd {S : List UInt8} {a : Nat} {x : Nat × Nat} {b : Nat} (ha : a ≤ S.length) (h : spanF S a = .ok x b) : a < b ∧ b ≤ S.length := by
  unfold spanF at h
  cases h1 : charF S a with
  | bad k => rw [h1] at h; cases h
  | out => rw [h1] at h; cases h
  | ok lo b1 =>
    have k1 := char_bd ha h1
    rw [h1] at h
    simp only at h
    split at h
    · rename_i h45
      have hl := (List.getElem?_eq_some_iff.1 h45).1
      cases h2 : charF S (b1 + 1) with
      | bad k => rw [h2] at h; cases h
      | out => rw [h2] at h; cases h
      | ok hi b2 =>
        have k2 := char_bd (by omega) h2
        rw [h2] at h
        simp only at h
        split at h
        · cases h
        · injection h with e1 e2; omega
    · injection h with e1 e2; omega
theorem span_no (S : List UInt8) (a : Nat) : spanF S a ≠ .out := by
  unfold spanF
  cases h1 : charF S a with
  | bad k => simp
  | out => exact absurd h1 (char_no S a)
  | ok lo b1 =>
    simp only
    split
    · cases h2 : charF S (b1 + 1) with
      | bad k => simp
      | out => exact absurd h2 (char_no S _)
      | ok hi b2 => simp only; split <;> simp
    · simp
theorem cls_bd {S : List UInt8} : ∀ (f a : Nat) (acc : Sn), a ≤ S.length → (∀ l b, clsF S f a acc = .ok l b → a < b ∧ b ≤ S.length) ∧ (S.length + 1 ≤ f + a → clsF S f a acc ≠ .out)
  | 0, a, acc, ha => ⟨(fun l b h => by rw [clsF] at h; cases h), fun h => by omega⟩
  | f + 1, a, acc, ha => by
    rw [clsF]
    by_cases h93 : acc ≠ [] ∧ S[a]? = some 93
    · rw [if_pos h93]
      refine ⟨fun l b h => ?_, fun _ => by simp⟩
      injection h with e1 e2
      have := (List.getElem?_eq_some_iff.1 h93.2).1
      omega
    · rw [if_neg h93]
      cases h1 : spanF S a with
      | bad k => exact ⟨(fun l b h => by cases h), fun _ => by simp⟩
      | out => exact absurd h1 (span_no S a)
      | ok x b1 =>
        have k1 := span_bd ha h1
        simp only
        obtain ⟨m1, m2⟩ := cls_bd f b1 (withS acc x) k1.2
        exact ⟨fun l b h => by have := m1 l b h; omega, fun h => m2 (by omega)⟩

theorem read_bd (S : List UInt8) : ∀ (f d a : Nat), a ≤ S.length →
    ((∀ l b, rowsF S f d a = .ok l b → a ≤ b ∧ b ≤ S.length) ∧ (4 * (S.length - a) + 4 ≤ f → rowsF S f d a ≠ .out)) ∧
    ((∀ l b, rowF S f d a = .ok l b → a ≤ b ∧ b ≤ S.length) ∧ (4 * (S.length - a) + 3 ≤ f → rowF S f d a ≠ .out)) ∧
    ((∀ l b, itemF S f d a = .ok l b → a < b ∧ b ≤ S.length) ∧ (4 * (S.length - a) + 2 ≤ f → itemF S f d a ≠ .out)) ∧
    ((∀ l b, atomF S f d a = .ok l b → a < b ∧ b ≤ S.length) ∧ (4 * (S.length - a) + 1 ≤ f → atomF S f d a ≠ .out))
  | 0, d, a, ha => by
    refine ⟨⟨fun l b h => ?_, fun h => by omega⟩, ⟨fun l b h => ?_, fun h => by omega⟩, ⟨fun l b h => ?_, fun h => by omega⟩, ⟨fun l b h => ?_, fun h => by omega⟩⟩
    · rw [rowsF] at h; cases h
    · rw [rowF] at h; cases h
    · rw [itemF] at h; cases h
    · rw [atomF] at h; cases h
  | f + 1, d, a, ha => by
    have ih := read_bd S f
    obtain ⟨_, ⟨r1, r2⟩, ⟨i1, i2⟩, ⟨t1, t2⟩⟩ := ih d a ha
    refine ⟨?_, ?_, ?_, ?_⟩
    · rw [rowsF]
      cases h1 : rowF S f d a with
      | bad k => exact ⟨(fun l b h => by cases h), fun _ => by simp⟩
      | out => exact ⟨(fun l b h => by cases h), fun h => absurd h1 (r2 (by omega))⟩
      | ok r b1 =>
        have k1 := r1 r b1 h1
        simp only
        by_cases h124 : S[b1]? = some 124
        · rw [if_pos h124]
          have hl := (List.getElem?_eq_some_iff.1 h124).1
          obtain ⟨⟨q1, q2⟩, _⟩ := ih d (b1 + 1) hl
          cases h2 : rowsF S f d (b1 + 1) with
          | bad k => exact ⟨(fun l b h => by cases h), fun _ => by simp⟩
          | out => exact ⟨(fun l b h => by cases h), fun h => absurd h2 (q2 (by omega))⟩
          | ok t b2 =>
            have k2 := q1 t b2 h2
            simp only
            exact ⟨fun l b h => by injection h with e1 e2; omega, fun _ => by simp⟩
        · rw [if_neg h124]
          exact ⟨fun l b h => by injection h with e1 e2; omega, fun _ => by simp⟩
    · rw [rowF]
      by_cases hst : S[a]? = none ∨ S[a]? = some 124 ∨ S[a]? = some 41
      · rw [if_pos hst]
        exact ⟨fun l b h => by injection h with e1 e2; omega, fun _ => by simp⟩
      · rw [if_neg hst]
        cases h1 : itemF S f d a with
        | bad k => exact ⟨(fun l b h => by cases h), fun _ => by simp⟩
        | out => exact ⟨(fun l b h => by cases h), fun h => absurd h1 (i2 (by omega))⟩
        | ok p b1 =>
          have k1 := i1 p b1 h1
          simp only
          obtain ⟨_, ⟨q1, q2⟩, _⟩ := ih d b1 k1.2
          cases h2 : rowF S f d b1 with
          | bad k => exact ⟨(fun l b h => by cases h), fun _ => by simp⟩
          | out => exact ⟨(fun l b h => by cases h), fun h => absurd h2 (q2 (by omega))⟩
          | ok t b2 =>
            have k2 := q1 t b2 h2
            simp only
            exact ⟨fun l b h => by injection h with e1 e2; omega, fun _ => by simp⟩
    · rw [itemF]
      cases h1 : atomF S f d a with
      | bad k => exact ⟨(fun l b h => by cases h), fun _ => by simp⟩
      | out => exact ⟨(fun l b h => by cases h), fun h => absurd h1 (t2 (by omega))⟩
      | ok p b1 =>
        have k1 := t1 p b1 h1
        simp only
        by_cases h42 : S[b1]? = some 42
        · rw [if_pos h42]
          have hl := (List.getElem?_eq_some_iff.1 h42).1
          exact ⟨fun l b h => by injection h with e1 e2; omega, fun _ => by simp⟩
        · rw [if_neg h42]
          by_cases h43 : S[b1]? = some 43
          · rw [if_pos h43]
            have hl := (List.getElem?_eq_some_iff.1 h43).1
            exact ⟨fun l b h => by injection h with e1 e2; omega, fun _ => by simp⟩
          · rw [if_neg h43]
            by_cases h63 : S[b1]? = some 63
            · rw [if_pos h63]
              have hl := (List.getElem?_eq_some_iff.1 h63).1
              exact ⟨fun l b h => by injection h with e1 e2; omega, fun _ => by simp⟩
            · rw [if_neg h63]
              exact ⟨fun l b h => by injection h with e1 e2; omega, fun _ => by simp⟩
    · rw [atomF]
      by_cases h46 : S[a]? = some 46
      · rw [if_pos h46]
        have hl := (List.getElem?_eq_some_iff.1 h46).1
        exact ⟨fun l b h => by injection h with e1 e2; omega, fun _ => by simp⟩
      · rw [if_neg h46]
        by_cases h91 : S[a]? = some 91
        · rw [if_pos h91]
          have hl := (List.getElem?_eq_some_iff.1 h91).1
          have hle : (if S[a + 1]? = some 94 then a + 2 else a + 1) ≤ S.length ∧ a < (if S[a + 1]? = some 94 then a + 2 else a + 1) := by
            split
            · rename_i h94; have := (List.getElem?_eq_some_iff.1 h94).1; omega
            · omega
          obtain ⟨m1, m2⟩ := cls_bd (S := S) (S.length + 2) (if S[a + 1]? = some 94 then a + 2 else a + 1) [] hle.1
          cases h2 : clsF S (S.length + 2) (if S[a + 1]? = some 94 then a + 2 else a + 1) [] with
          | bad k => exact ⟨(fun l b h => by cases h), fun _ => by simp⟩
          | out => exact absurd h2 (m2 (by omega))
          | ok t b2 =>
            have k2 := m1 t b2 h2
            simp only
            exact ⟨fun l b h => by injection h with e1 e2; omega, fun _ => by simp⟩
        · rw [if_neg h91]
          by_cases h40 : d < 16 ∧ S[a]? = some 40
          · rw [if_pos h40]
            have hl := (List.getElem?_eq_some_iff.1 h40.2).1
            obtain ⟨⟨q1, q2⟩, _⟩ := ih (d + 1) (a + 1) hl
            cases h2 : rowsF S f (d + 1) (a + 1) with
            | bad k => exact ⟨(fun l b h => by cases h), fun _ => by simp⟩
            | out => exact ⟨(fun l b h => by cases h), fun h => absurd h2 (q2 (by omega))⟩
            | ok t b2 =>
              have k2 := q1 t b2 h2
              simp only
              by_cases h41 : S[b2]? = some 41
              · rw [if_pos h41]
                have hl2 := (List.getElem?_eq_some_iff.1 h41).1
                exact ⟨fun l b h => by injection h with e1 e2; omega, fun _ => by simp⟩
              · rw [if_neg h41]
                exact ⟨(fun l b h => by cases h), fun _ => by simp⟩
          · rw [if_neg h40]
            cases h2 : charF S a with
            | bad k => exact ⟨(fun l b h => by cases h), fun _ => by simp⟩
            | out => exact absurd h2 (char_no S a)
            | ok c b2 =>
              have k2 := char_bd ha h2
              simp only
              exact ⟨fun l b h => by injection h with e1 e2; omega, fun _ => by simp⟩

end Go.Proofs.YtgmdpbahcbhfjaaGreatDoor
/-
  The machine: within.
-/
namespace Go.Proofs.YtgmdpbahcbhfjaaGreatDoor
open Go.RowKit

theorem inS_step {l : Sn} {i : Nat} {o : Nat × Nat} (h : l[i]? = some o) (x : Nat) : inS (l.drop i) x = ((decide (o.1 ≤ x) && decide (x ≤ o.2)) || inS (l.drop (i + 1)) x) := by
  have hl := (List.getElem?_eq_some_iff.1 h).1
  rw [List.drop_eq_getElem_cons hl]
  rw [List.getElem?_eq_getElem hl] at h
  injection h with h
  rw [h]
  simp [inS]

set_option maxRecDepth 100000 in
set_option maxHeartbeats 4000000 in
theorem withinP (ad : Option Addr) (c : Nat) (l : Sn) (x : Nat) (w : World) (hL : Ss w ad l) (hlen : l.length ≤ 9223372036854775807) :
    Calls Tryz.prog 172 #[.slice ad l.length c, .int .i32 (x : Int)] w fun e w' => e = .returned (.bool (inS l x)) ∧ Below w.heap.size w w' := by
  obtain ⟨n, hn⟩ : ∃ n, l.length = n := ⟨_, rfl⟩
  rw [hn] at hlen ⊢
  have HN := hidden hn
  have HL := hidden hL
  obtain ⟨R, hR⟩ : ∃ R, inS l x = R := ⟨_, rfl⟩
  have HR : Hid (inS (l.drop 0) x = R) := hidden (by rw [List.drop_zero]; exact hR)
  rw [hR]
  clear hn hL hR
  go_enter Tryz.func172, Tryz.ntmps172
  go_wp2
  go_loopw [9] (fun s9 wx => ∃ i : Nat, s9 = .int .i64 (i : Int) ∧ i ≤ n ∧ Hid (inS (l.drop i) x = R) ∧ Hid (Below w.heap.size w wx)) (fun s9 _ => n - (intOf s9).toNat)
  case atStart => exact ⟨0, rfl, by omega, HR, hidden (Below.refl _ _)⟩
  case round =>
    rename World => wr
    obtain ⟨i, rfl, hi, hrel, hbel⟩ := hrel
    clear HR
    by_cases hlt : i < n
    · have hltz : (i : Int) < (n : Int) := by omega
      obtain ⟨b, off, o, rfl, hb, ho, ho', d0, d1, y1, y2⟩ := (HL.out.later hbel.out).get (i := i) (by rw [HN.out]; exact hlt)
      have HST := hidden (inS_step ho x)
      have hal : Below w.heap.size w (wr.alloc (.cells #[.int .i32 (o.1 : Int), .int .i32 (o.2 : Int)] 289)) := hbel.out.alloc hbel.out.size _
      have HAL := hidden hal
      have B8 := Blk.new wr 289 [.int .i32 (o.1 : Int), .int .i32 (o.2 : Int)]
      have e0 : (wr.alloc (.cells #[.int .i32 (o.1 : Int), .int .i32 (o.2 : Int)] 289)).cell? ⟨wr.heap.size, 0, none⟩ = some (.int .i32 (o.1 : Int)) := B8.cell 0
      have e1 : (wr.alloc (.cells #[.int .i32 (o.1 : Int), .int .i32 (o.2 : Int)] 289)).cell? ⟨wr.heap.size, 1, none⟩ = some (.int .i32 (o.2 : Int)) := B8.cell 1
      clear ho ho' B8 hal
      by_cases h1 : o.1 ≤ x
      · have h1z : (o.1 : Int) ≤ (x : Int) := by omega
        by_cases h2 : x ≤ o.2
        · have h2z : (x : Int) ≤ (o.2 : Int) := by omega
          have HT : Hid (R = true) := hidden (by rw [← hrel.out, HST.out]; simp [h1, h2])
          clear h1 h2 hrel HST
          go_wp2
          go_ret
          exact ⟨by rw [HT.out]; rfl, HAL.out⟩
        · have h2z : ¬ (x : Int) ≤ (o.2 : Int) := by omega
          have h2z' : decide ((x : Int) ≤ (o.2 : Int)) = false := decide_eq_false h2z
          have HS : Hid (inS (l.drop (i + 1)) x = R) := hidden (by rw [← hrel.out, HST.out]; simp [h2])
          clear h1 h2 hrel HST
          go_wp2
          refine ⟨⟨i + 1, by first | rfl | simp, by omega, HS, HAL⟩, ?_⟩
          simp [intOf]
          omega
      · have h1z : ¬ (o.1 : Int) ≤ (x : Int) := by omega
        have h1z' : decide ((o.1 : Int) ≤ (x : Int)) = false := decide_eq_false h1z
        have HS : Hid (inS (l.drop (i + 1)) x = R) := hidden (by rw [← hrel.out, HST.out]; simp [h1])
        clear h1 hrel HST
        go_wp2
        refine ⟨⟨i + 1, by first | rfl | simp, by omega, HS, HAL⟩, ?_⟩
        simp [intOf]
        omega
    · have hltz : ¬ (i : Int) < (n : Int) := by omega
      have HF : Hid (R = false) := hidden (by rw [← hrel.out, List.drop_of_length_le (by rw [HN.out]; omega)]; rfl)
      clear hrel
      go_wp2
      go_ret
      exact ⟨by rw [HF.out]; rfl, hbel.out⟩

end Go.Proofs.YtgmdpbahcbhfjaaGreatDoor
/-
  The machine: others.
-/
namespace Go.Proofs.YtgmdpbahcbhfjaaGreatDoor
open Go.RowKit

theorem othS_step {l : Sn} {i : Nat} {o : Nat × Nat} (h : l[i]? = some o) (low : Nat) : othS low (l.drop i) = (if low < o.1 then [(low, o.1 - 1)] else []) ++ othS (o.2 + 1) (l.drop (i + 1)) := by
  have hl := (List.getElem?_eq_some_iff.1 h).1
  rw [List.drop_eq_getElem_cons hl]
  rw [List.getElem?_eq_getElem hl] at h
  injection h with h
  rw [h, othS]

set_option maxRecDepth 100000 in
set_option maxHeartbeats 8000000 in
theorem othersP (ad : Option Addr) (c : Nat) (l : Sn) (w : World) (hL : Ss w ad l) (hlen : l.length ≤ 1000) :
    Calls Tryz.prog 180 #[.slice ad l.length c] w fun e w' => ∃ a' c', e = .returned (.slice a' (othS 0 l).length c') ∧ w'.ownsRow w.heap.size 289 2 (.slice a' (othS 0 l).length c') (othS 0 l).length (cS (othS 0 l)) ∧ Bd (othS 0 l) ∧ Below w.heap.size w w' := by
  obtain ⟨i0, hi0, hz0, hz1, hz2⟩ := info_parts info93
  have HI := hidden hi0
  obtain ⟨n, hn⟩ : ∃ n, l.length = n := ⟨_, rfl⟩
  rw [hn] at hlen ⊢
  have HN := hidden hn
  have HL := hidden hL
  obtain ⟨R, hR⟩ : ∃ R, othS 0 l = R := ⟨_, rfl⟩
  have HR : Hid ([] ++ othS 0 (l.drop 0) = R) := hidden (by rw [List.drop_zero]; exact hR)
  rw [hR]
  clear hi0 hn hL hR
  go_enter Tryz.func180, Tryz.ntmps180
  go_wp2
  go_loopw [3, 4, 9] (fun s3 s4 s9 wx => ∃ (i low m cc : Nat) (aa : Option Addr) (acc : Sn), s3 = .slice aa m cc ∧ s4 = .int .i32 (low : Int) ∧ s9 = .int .i64 (i : Int) ∧ i ≤ n ∧ m ≤ i ∧ low ≤ 1114112 ∧ Hid (acc.length = m) ∧ Hid (Bd acc) ∧ Hid (acc ++ othS low (l.drop i) = R) ∧ Hid (wx.ownsRow w.heap.size 289 2 (.slice aa m cc) m (cS acc)) ∧ Hid (Below w.heap.size w wx)) (fun _ _ s9 _ => n - (intOf s9).toNat)
  case atStart => exact ⟨0, 0, 0, 0, none, [], rfl, rfl, rfl, by omega, by omega, by omega, hidden rfl, hidden (fun y hy => by cases hy), HR, hidden (World.ownsRow_nil _ _ _ _), hidden (Below.refl _ _)⟩
  case round =>
    rename World => wr
    obtain ⟨i, low, m, cc, aa, acc, rfl, rfl, rfl, hi, hmi, hlow, hlm, hbd, hrel, hown, hbel⟩ := hrel
    clear HR
    have HBS : Hid (w.heap.size ≤ wr.heap.size) := hidden hbel.out.size
    by_cases hlt : i < n
    · have hltz : (i : Int) < (n : Int) := by omega
      obtain ⟨b, off, o, rfl, hb, ho, ho', d0, d1, y1, y2⟩ := (HL.out.later hbel.out).get (i := i) (by rw [HN.out]; exact hlt)
      have HST := hidden (othS_step ho low)
      have hal1 : Below wr.heap.size wr (wr.alloc (.cells #[.int .i32 (o.1 : Int), .int .i32 (o.2 : Int)] 289)) := (Below.refl _ _).alloc (Nat.le_refl _) _
      have HAL := hidden (hbel.out.alloc hbel.out.size (.cells #[.int .i32 (o.1 : Int), .int .i32 (o.2 : Int)] 289))
      have OW := hidden (owl hown.out hal1)
      have B8 := Blk.new wr 289 [.int .i32 (o.1 : Int), .int .i32 (o.2 : Int)]
      have e0 : (wr.alloc (.cells #[.int .i32 (o.1 : Int), .int .i32 (o.2 : Int)] 289)).cell? ⟨wr.heap.size, 0, none⟩ = some (.int .i32 (o.1 : Int)) := B8.cell 0
      have e1 : (wr.alloc (.cells #[.int .i32 (o.1 : Int), .int .i32 (o.2 : Int)] 289)).cell? ⟨wr.heap.size, 1, none⟩ = some (.int .i32 (o.2 : Int)) := B8.cell 1
      have HB8 := hidden B8
      clear ho ho' B8 hal1
      by_cases h1 : low < o.1
      · have h1z : (low : Int) < (o.1 : Int) := by omega
        have hsub : Hid (((o.1 - 1 : Nat) : Int) = (o.1 : Int) - 1) := hidden (by omega)
        have HS : Hid ((acc ++ [(low, o.1 - 1)]) ++ othS (o.2 + 1) (l.drop (i + 1)) = R) := hidden (by rw [← hrel.out, HST.out, if_pos h1, List.append_assoc])
        have cellN : Hid (∀ jj u, [Value.int .i32 (low : Int), Value.int .i32 ((o.1 : Int) - 1)][jj]? = some u → ((wr.alloc (.cells #[.int .i32 (o.1 : Int), .int .i32 (o.2 : Int)] 289)).alloc (.cells #[.int .i32 (low : Int), .int .i32 ((o.1 : Int) - 1)] 289)).cell? ((⟨wr.heap.size + 1, 0, none⟩ : Addr).add jj) = some u) := hidden (fun jj u hu => by
          rw [Addr.add_lit, Nat.zero_add]
          have := (Blk.new (wr.alloc (.cells #[.int .i32 (o.1 : Int), .int .i32 (o.2 : Int)] 289)) 289 [.int .i32 (low : Int), .int .i32 ((o.1 : Int) - 1)]).cell jj
          rw [hu, show (wr.alloc (.cells #[.int .i32 (o.1 : Int), .int .i32 (o.2 : Int)] 289)).heap.size = wr.heap.size + 1 by simp] at this
          exact this)
        clear HST hrel
        go_wp2_with (refine wpList_push2 _ rfl (.tmp 17) (.tmp 23) 279 rfl 289 i0 (.agg #[.int .i32 0, .int .i32 0]) 8 Tryz.underlying279 HI.out hz0 hz1 hz2 rfl w.heap.size (.slice aa m cc) m (cS acc) rfl (OW.out.alloc _) ⟨wr.heap.size + 1, 0, none⟩ [.int .i32 (low : Int), .int .i32 ((o.1 : Int) - 1)] rfl rfl cellN.out (by intro u hu; simp at hu; rcases hu with rfl | rfl <;> rfl) (by unfold maxLen; omega) (by omega) (by have := HBS.out; simp; omega) ?_; intro g9 c9 w9 ho9 hp9; have hch := hp9.chg; have HO9 := hidden ho9; have HB9 := hidden (HAL.out.trans (hch.1.below (by have := HBS.out; simp; omega) (fun k hk => (OW.out.lt k hk).1))); have HE9 := hidden (hch.1.blk HB8.out (fun e => by have := owns_lt hown.out _ e; omega)); have f1 : w9.cell? ⟨wr.heap.size, 1, none⟩ = some (.int .i32 (o.2 : Int)) := HE9.out.cell 1; clear ho9 hp9 hch)
        refine ⟨⟨i + 1, o.2 + 1, m + 1, c9, some ⟨g9, 0, none⟩, acc ++ [(low, o.1 - 1)], by first | rfl | simp, by first | rfl | simp, by first | rfl | simp, by omega, by omega, by omega, hidden (by simp [hlm.out]), hidden (hbd.out.snoc ⟨by show low ≤ _; omega, by show o.1 - 1 ≤ _; omega⟩), HS, hidden ?_, HB9⟩, ?_⟩
        · rw [cS_append]
          have e : cS [(low, o.1 - 1)] = [.int .i32 (low : Int), .int .i32 ((o.1 : Int) - 1)] := by rw [← hsub.out]; rfl
          rw [e]
          exact HO9.out
        · simp [intOf]
          omega
      · have h1z : ¬ (low : Int) < (o.1 : Int) := by omega
        have HS : Hid (acc ++ othS (o.2 + 1) (l.drop (i + 1)) = R) := hidden (by rw [← hrel.out, HST.out, if_neg h1, List.nil_append])
        clear HST hrel
        go_wp2
        refine ⟨⟨i + 1, o.2 + 1, m, cc, aa, acc, by first | rfl | simp, by first | rfl | simp, by first | rfl | simp, by omega, by omega, by omega, hlm, hbd, HS, OW, HAL⟩, ?_⟩
        simp [intOf]
        omega
    · have hltz : ¬ (i : Int) < (n : Int) := by omega
      have hend : l.drop i = [] := List.drop_of_length_le (by rw [HN.out]; omega)
      by_cases h1 : low ≤ 1114111
      · have h1z : (low : Int) ≤ 1114111 := by omega
        have HS : Hid (acc ++ [(low, 1114111)] = R) := hidden (by rw [← hrel.out, hend, othS, if_pos h1])
        have cellN : Hid (∀ jj u, [Value.int .i32 (low : Int), Value.int .i32 1114111][jj]? = some u → (wr.alloc (.cells #[.int .i32 (low : Int), .int .i32 1114111] 289)).cell? ((⟨wr.heap.size, 0, none⟩ : Addr).add jj) = some u) := hidden (fun jj u hu => by
          rw [Addr.add_lit, Nat.zero_add]
          have := (Blk.new wr 289 [.int .i32 (low : Int), .int .i32 1114111]).cell jj
          rw [hu] at this
          exact this)
        clear hrel hend
        go_wp2_with (refine wpList_push2 _ rfl (.tmp 31) (.tmp 34) 279 rfl 289 i0 (.agg #[.int .i32 0, .int .i32 0]) 8 Tryz.underlying279 HI.out hz0 hz1 hz2 rfl w.heap.size (.slice aa m cc) m (cS acc) rfl (hown.out.alloc _) ⟨wr.heap.size, 0, none⟩ [.int .i32 (low : Int), .int .i32 1114111] rfl rfl cellN.out (by intro u hu; simp at hu; rcases hu with rfl | rfl <;> rfl) (by unfold maxLen; omega) (by omega) (by have := HBS.out; simp; omega) ?_; intro g9 c9 w9 ho9 hp9; have hch := hp9.chg; have HO9 := hidden ho9; have HB9 := hidden (hbel.out.trans (hch.1.below HBS.out (fun k hk => (hown.out.lt k hk).1))); clear ho9 hp9 hch)
        go_ret
        have hRl : R.length = m + 1 := by rw [← HS.out]; simp [hlm.out]
        refine ⟨some ⟨g9, 0, none⟩, c9, by rw [hRl]; rfl, ?_, ?_, HB9.out⟩
        · rw [hRl, ← HS.out, cS_append]
          exact HO9.out
        · rw [← HS.out]
          exact hbd.out.snoc ⟨h1, Nat.le_refl _⟩
      · have h1z : ¬ (low : Int) ≤ 1114111 := by omega
        have HS : Hid (acc = R) := hidden (by rw [← hrel.out, hend, othS, if_neg h1, List.append_nil])
        clear hrel hend
        go_wp2
        go_ret
        have hRl : R.length = m := by rw [← HS.out]; exact hlm.out
        refine ⟨aa, cc, by rw [hRl]; rfl, ?_, ?_, hbel.out⟩
        · rw [hRl, ← HS.out]; exact hown.out
        · rw [← HS.out]; exact hbd.out

end Go.Proofs.YtgmdpbahcbhfjaaGreatDoor
/-
  The machine: a set's bit.
-/
namespace Go.Proofs.YtgmdpbahcbhfjaaGreatDoor
open Go.RowKit

theorem bit64_eq (v k : Nat) (hv : v < 18446744073709551616) : (bits .and .u64 ((v : Int) / 2 ^ k) 1 == 1) = v.testBit k := by
  have e1 : (v : Int) / 2 ^ k = ((v / 2 ^ k : Nat) : Int) := by simp
  have hz : v / 2 ^ k < 18446744073709551616 := Nat.lt_of_le_of_lt (Nat.div_le_self _ _) hv
  rw [e1, show (1 : Int) = ((1 : Nat) : Int) from rfl, u64_and_nat _ _ hz (by omega), Nat.and_one_is_mod]
  unfold Nat.testBit
  rw [Nat.shiftRight_eq_div_pow, Nat.and_comm, Nat.and_one_is_mod]
  rcases Nat.mod_two_eq_zero_or_one (v / 2 ^ k) with h | h <;> rw [h] <;> rfl

set_option maxHeartbeats 2000000 in
theorem hasP (v k : Nat) (hv : v < 18446744073709551616) (hk : k < 64) (w : World) : Calls Tryz.prog 171 #[.int .u64 (v : Int), .int .i64 (k : Int)] w fun e w' => e = .returned (.bool (v.testBit k)) ∧ w' = w := by
  have HB := hidden (bit64_eq v k hv)
  go_enter Tryz.func171, Tryz.ntmps171
  go_wp2
  all_goals go_ret
  all_goals exact ⟨by rw [← HB.out]; rfl, rfl⟩

end Go.Proofs.YtgmdpbahcbhfjaaGreatDoor
/-
  The machine: spansOf.
-/
namespace Go.Proofs.YtgmdpbahcbhfjaaGreatDoor
open Go.RowKit

set_option maxRecDepth 100000 in
theorem as95 (x : Int) (w : World) : (Instr.typeAssert (.iface 287 (.int .i32 x)) 269 287 true).run Tryz.prog w = .ok (.tuple #[.int .i32 x, .bool true]) w := by rfl
set_option maxRecDepth 100000 in
theorem as97_95 (w : World) : (Instr.typeAssert (.iface 290 (.agg #[])) 269 287 true).run Tryz.prog w = .ok (.tuple #[.int .i32 0, .bool false]) w := by rfl
set_option maxRecDepth 100000 in
theorem as97 (w : World) : (Instr.typeAssert (.iface 290 (.agg #[])) 269 290 true).run Tryz.prog w = .ok (.tuple #[.agg #[], .bool true]) w := by rfl
set_option maxRecDepth 100000 in
theorem as100_95 (b : Bool) (v : Value) (w : World) : (Instr.typeAssert (.iface 293 (.agg #[.bool b, v])) 269 287 true).run Tryz.prog w = .ok (.tuple #[.int .i32 0, .bool false]) w := by rfl
set_option maxRecDepth 100000 in
theorem as100_97 (b : Bool) (v : Value) (w : World) : (Instr.typeAssert (.iface 293 (.agg #[.bool b, v])) 269 290 true).run Tryz.prog w = .ok (.tuple #[.agg #[], .bool false]) w := by rfl
set_option maxRecDepth 100000 in
theorem as100 (b : Bool) (v : Value) (w : World) : (Instr.typeAssert (.iface 293 (.agg #[.bool b, v])) 269 293 true).run Tryz.prog w = .ok (.tuple #[.agg #[.bool b, v], .bool true]) w := by rfl

set_option maxRecDepth 100000 in
set_option maxHeartbeats 4000000 in
theorem spansChr (x : Nat) (hx : x ≤ 1114111) (w : World) :
    Calls Tryz.prog 170 #[.iface 287 (.int .i32 (x : Int))] w fun e w' => e = .returned (.slice (some ⟨w.heap.size, 0, none⟩) 1 1) ∧ Blk w' w.heap.size 289 (cS [(x, x)]) ∧ Below w.heap.size w w' := by
  have k := fun w => as95 (x : Int) w
  have HB : Hid (Blk (w.alloc (.cells #[.int .i32 (x : Int), .int .i32 (x : Int)] 289)) w.heap.size 289 (cS [(x, x)])) := hidden (Blk.new w 289 (cS [(x, x)]))
  have HL : Hid (Below w.heap.size w (w.alloc (.cells #[.int .i32 (x : Int), .int .i32 (x : Int)] 289))) := hidden ((Below.refl _ _).alloc (Nat.le_refl _) _)
  go_enter Tryz.func170, Tryz.ntmps170
  go_wp2
  go_ret
  exact ⟨rfl, HB.out, HL.out⟩

set_option maxRecDepth 100000 in
set_option maxHeartbeats 4000000 in
theorem spansAny (w : World) :
    Calls Tryz.prog 170 #[.iface 290 (.agg #[])] w fun e w' => ∃ a' c', e = .returned (.slice a' (othS 0 []).length c') ∧ w'.ownsRow w.heap.size 289 2 (.slice a' (othS 0 []).length c') (othS 0 []).length (cS (othS 0 [])) ∧ Bd (othS 0 []) ∧ Below w.heap.size w w' := by
  have k1 := fun w => as97_95 w
  have k2 := fun w => as97 w
  have hal : Below w.heap.size w (w.alloc (.cells #[] 290)) := (Below.refl _ _).alloc (Nat.le_refl _) _
  have k3 := othersP none 0 [] (w.alloc (.cells #[] 290)) (Ss.nil _ _) (by simp)
  have HAL := hidden hal
  clear hal
  obtain ⟨R, hR⟩ : ∃ R, othS 0 [] = R := ⟨_, rfl⟩
  rw [hR] at k3 ⊢
  clear hR
  go_enter Tryz.func170, Tryz.ntmps170
  go_wp2_with (go_at_call 180; refine k3.mono ?_; rintro e w1 ⟨a1, c1, rfl, ho1, hb1, hl1⟩; clear k3)
  go_ret
  exact ⟨a1, c1, rfl, owns_base ho1 (fun g hg => Nat.le_trans HAL.out.size (ho1.lt g hg).1), hb1, HAL.out.trans (hl1.mono HAL.out.size)⟩

set_option maxRecDepth 100000 in
set_option maxHeartbeats 4000000 in
theorem spansCls (F : Nat → Prop) (v : Value) (neg : Bool) (l : Sn) (w : World) (h : ClV F w v neg l) (hlen : l.length ≤ 1000) :
    Calls Tryz.prog 170 #[v] w fun e w' => ∃ a' c', e = .returned (.slice a' (Pt.cls neg l).spans.length c') ∧ Ss w' a' (Pt.cls neg l).spans ∧ Bd (Pt.cls neg l).spans ∧ (∀ y, (Pt.cls neg l).spans ≠ [] → a' = some y → F y.block ∨ w.heap.size ≤ y.block) ∧ Below w.heap.size w w' := by
  obtain ⟨ad, c, rfl, hs, hb, hf⟩ := h
  obtain ⟨n, hn⟩ : ∃ n, l.length = n := ⟨_, rfl⟩
  have HN := hidden hn
  have k1 := fun w => as100_95 neg (.slice ad n c) w
  have k2 := fun w => as100_97 neg (.slice ad n c) w
  have k3 := fun w => as100 neg (.slice ad n c) w
  have hal : Below w.heap.size w (w.alloc (.cells #[.bool neg, .slice ad n c] 293)) := (Below.refl _ _).alloc (Nat.le_refl _) _
  have B8 := Blk.new w 293 [.bool neg, .slice ad n c]
  have e0 : (w.alloc (.cells #[.bool neg, .slice ad n c] 293)).cell? ⟨w.heap.size, 0, none⟩ = some (.bool neg) := B8.cell 0
  have e1 : (w.alloc (.cells #[.bool neg, .slice ad n c] 293)).cell? ⟨w.heap.size, 1, none⟩ = some (.slice ad n c) := B8.cell 1
  have HAL := hidden hal
  have HS := hidden hs
  have HB := hidden hb
  have HF := hidden hf
  have k4 := othersP ad c l (w.alloc (.cells #[.bool neg, .slice ad n c] 293)) (hs.later hal) hlen
  rw [hn] at k4 ⊢
  clear hn hal hs hb hf B8
  cases neg with
  | false =>
    have e : (Pt.cls false l).spans = l := by simp [Pt.spans]
    rw [e]
    clear e k4
    go_enter Tryz.func170, Tryz.ntmps170
    go_wp2
    go_ret
    exact ⟨ad, c, by rw [HN.out]; rfl, HS.out.later HAL.out, HB.out, fun y h0 e => Or.inl (HF.out y h0 e), HAL.out⟩
  | true =>
    have e : (Pt.cls true l).spans = othS 0 l := by simp [Pt.spans]
    rw [e]
    clear e
    obtain ⟨R, hR⟩ : ∃ R, othS 0 l = R := ⟨_, rfl⟩
    rw [hR] at k4 ⊢
    clear hR
    go_enter Tryz.func170, Tryz.ntmps170
    go_wp2_with (go_at_call 180; refine k4.mono ?_; rintro e w1 ⟨a1, c1, rfl, ho1, hb1, hl1⟩; clear k4)
    go_ret
    refine ⟨a1, c1, rfl, ss_of_owns ho1 hb1, hb1, fun y h0 e => Or.inr ?_, HAL.out.trans (hl1.mono HAL.out.size)⟩
    subst e
    obtain ⟨a2, c2, e2, _, hsp, _⟩ := owns_formS ho1
    injection e2 with e3 _ _
    obtain ⟨z0, z1⟩ := hsp y e3.symm
    obtain ⟨b, off, sp⟩ := y
    simp only at z0 z1
    subst z0 z1
    have := (ho1.lt b (by simp [Value.ownBlock])).1
    have := HAL.out.size
    simp only
    omega

end Go.Proofs.YtgmdpbahcbhfjaaGreatDoor
/-
  The machine: either.
-/
namespace Go.Proofs.YtgmdpbahcbhfjaaGreatDoor
open Go.RowKit

/-- Ends, as cells. -/
def esC (e : Es) : List Value := [.int .u64 (e.first : Int), .int .u64 (e.last : Int), .bool e.emp]
def esV (e : Es) : Value := .agg #[.int .u64 (e.first : Int), .int .u64 (e.last : Int), .bool e.emp]
def Es.b64 (e : Es) : Prop := e.first < 18446744073709551616 ∧ e.last < 18446744073709551616
theorem res_either (tmps : Array Value) (w : World) (g : Nat) (e : Es) (hp : tmps.getD 4 undef = .pointer (some ⟨g, 0, none⟩)) (h : Blk w g 223 (esC e)) :
    (results Tryz.f166 tmps).run Tryz.prog w = .ok (esV e) w := by
  have h0 : w.cell? ⟨g, 0, none⟩ = some (.int .u64 (e.first : Int)) := h.cell 0
  have h1 : w.cell? ⟨g, 1, none⟩ = some (.int .u64 (e.last : Int)) := h.cell 1
  have h2 : w.cell? ⟨g, 2, none⟩ = some (.bool e.emp) := h.cell 2
  have hr : Tryz.f166.results = #[.cell 4 223] := by kernel_rfl
  have hp' : tmps[4]?.getD undef = .pointer (some ⟨g, 0, none⟩) := by simpa using hp
  simp [results, hr, hp', asAddr, loadVar, h0, h1, h2, go_sem, esV]
theorem or64 {a b : Nat} (ha : a < 18446744073709551616) (hb : b < 18446744073709551616) : bits .or .u64 (a : Int) (b : Int) = ((a ||| b : Nat) : Int) := u64_or_nat a b ha hb

set_option maxRecDepth 100000 in
set_option maxHeartbeats 4000000 in
theorem eitherP (a b : Es) (ha : a.b64) (hb : b.b64) (w : World) : Calls Tryz.prog 166 #[esV a, esV b] w fun e w' => e = .returned (esV (a.either b)) ∧ Below w.heap.size w w' := by
  obtain ⟨af, al, ae⟩ := a
  obtain ⟨bf, bl, be⟩ := b
  have o1 := or64 ha.1 hb.1
  have o2 := or64 ha.2 hb.2
  have hal : Below w.heap.size w (((w.alloc (.cells #[.int .u64 (af : Int), .int .u64 (al : Int), .bool ae] 223)).alloc (.cells #[.int .u64 (bf : Int), .int .u64 (bl : Int), .bool be] 223)).alloc (.cells #[.int .u64 0, .int .u64 0, .bool false] 223)) := by
    have h1 := (Below.refl w.heap.size w).alloc (Nat.le_refl _) (.cells #[.int .u64 (af : Int), .int .u64 (al : Int), .bool ae] 223)
    have h2 := h1.alloc h1.size (.cells #[.int .u64 (bf : Int), .int .u64 (bl : Int), .bool be] 223)
    exact h2.alloc h2.size _
  have HBK : Hid (∀ (f l : Nat) (e : Bool), Blk (((w.alloc (.cells #[.int .u64 (af : Int), .int .u64 (al : Int), .bool ae] 223)).alloc (.cells #[.int .u64 (bf : Int), .int .u64 (bl : Int), .bool be] 223)).alloc (.cells #[.int .u64 (f : Int), .int .u64 (l : Int), .bool e] 223)) (w.heap.size + 1 + 1) 223 (esC ⟨f, l, e⟩) ∧ Below w.heap.size w (((w.alloc (.cells #[.int .u64 (af : Int), .int .u64 (al : Int), .bool ae] 223)).alloc (.cells #[.int .u64 (bf : Int), .int .u64 (bl : Int), .bool be] 223)).alloc (.cells #[.int .u64 (f : Int), .int .u64 (l : Int), .bool e] 223))) := hidden (fun f l e => by
    refine ⟨?_, ?_⟩
    · have := Blk.new ((w.alloc (.cells #[.int .u64 (af : Int), .int .u64 (al : Int), .bool ae] 223)).alloc (.cells #[.int .u64 (bf : Int), .int .u64 (bl : Int), .bool be] 223)) 223 (esC ⟨f, l, e⟩)
      rw [show ((w.alloc (.cells #[.int .u64 (af : Int), .int .u64 (al : Int), .bool ae] 223)).alloc (.cells #[.int .u64 (bf : Int), .int .u64 (bl : Int), .bool be] 223)).heap.size = w.heap.size + 1 + 1 by simp] at this
      exact this
    · have h1 := (Below.refl w.heap.size w).alloc (Nat.le_refl _) (.cells #[.int .u64 (af : Int), .int .u64 (al : Int), .bool ae] 223)
      have h2 := h1.alloc h1.size (.cells #[.int .u64 (bf : Int), .int .u64 (bl : Int), .bool be] 223)
      exact h2.alloc h2.size _)
  clear hal ha hb
  have hE : esV ((⟨af, al, ae⟩ : Es).either ⟨bf, bl, be⟩) = esV ⟨af ||| bf, al ||| bl, ae || be⟩ := rfl
  rw [hE]
  clear hE
  obtain ⟨R, hR⟩ : ∃ R, esV ⟨af ||| bf, al ||| bl, ae || be⟩ = R := ⟨_, rfl⟩
  have HR := hidden hR
  rw [hR]
  clear hR
  simp only [esV]
  go_enter Tryz.func166, Tryz.ntmps166
  cases ae
  · go_wp2
    refine bodyPost_ret (res_either _ _ (w.heap.size + 1 + 1) ⟨af ||| bf, al ||| bl, be⟩ rfl (HBK.out _ _ _).1) rfl ?_
    exact ⟨by rw [← HR.out]; rfl, (HBK.out _ _ _).2⟩
  · go_wp2
    refine bodyPost_ret (res_either _ _ (w.heap.size + 1 + 1) ⟨af ||| bf, al ||| bl, true⟩ rfl (HBK.out _ _ _).1) rfl ?_
    exact ⟨by rw [← HR.out]; rfl, (HBK.out _ _ _).2⟩

end Go.Proofs.YtgmdpbahcbhfjaaGreatDoor
/-
  The reader: what its functions that call one another promise, with so many steps; item.
-/
namespace Go.Proofs.YtgmdpbahcbhfjaaGreatDoor
open Go.RowKit

/-- Blocks made between two worlds. -/
def FW (w w' : World) (b : Nat) : Prop := w.heap.size ≤ b ∧ b < w'.heap.size
/-- What a reader's call answers of a part. -/
def PartR (r : Nat) (s : ByteArray) (d : Nat) (w : World) (R : Pr Pt) (e : Ending) (w' : World) : Prop :=
  ∃ v b ok, e = .returned (.tuple #[v, .bool ok]) ∧ Rd w' r s b d ∧ Chg (fun i => i = r) w w' ∧ b ≤ (bts s).length ∧ ((ok = true ∧ ∃ p, R = .ok p b ∧ PtV (FW w w') w' p v) ∨ (ok = false ∧ R = .bad b))
def AtomC (f : Nat) : Prop := ∀ (r : Nat) (s : ByteArray) (a d : Nat) (w : World), Rd w r s a d → a ≤ s.size → s.size ≤ 64 → d ≤ 16 → atomF (bts s) f d a ≠ .out → Calls Tryz.prog 178 #[.pointer (some ⟨r, 0, none⟩)] w (PartR r s d w (atomF (bts s) f d a))
def ItemC (f : Nat) : Prop := ∀ (r : Nat) (s : ByteArray) (a d : Nat) (w : World), Rd w r s a d → a ≤ s.size → s.size ≤ 64 → d ≤ 16 → itemF (bts s) f d a ≠ .out → Calls Tryz.prog 165 #[.pointer (some ⟨r, 0, none⟩)] w (PartR r s d w (itemF (bts s) f d a))

theorem PtV.on {w w1 w2 : World} {r : Nat} {p : Pt} {v : Value} (h : PtV (FW w w1) w1 p v) (hr : r < w.heap.size) (hc : Chg (fun i => i = r) w1 w2) : PtV (FW w w2) w2 p v :=
  PtV.mono (fun b hb => ⟨hb.1, Nat.lt_of_lt_of_le hb.2 hc.size⟩) p v (PtV.keep hc (fun b hb e => by have := hb.1; have e' : b = r := e; omega) p v h)

theorem PtV.form {F : Nat → Prop} {w : World} {p : Pt} {v : Value} (h : PtV F w p v) : ∃ t u, v = .iface t u := by
  cases p with
  | chr c => simp only [PtV] at h; exact ⟨_, _, h.1⟩
  | any => simp only [PtV] at h; exact ⟨_, _, h⟩
  | cls neg l => simp only [PtV] at h; obtain ⟨ad, c, e, _⟩ := h; exact ⟨_, _, e⟩
  | grp l => simp only [PtV] at h; obtain ⟨ad, c, b, off, e, _⟩ := h; exact ⟨_, _, e⟩
  | rep a s => simp only [PtV] at h; obtain ⟨u, e, _⟩ := h; exact ⟨_, _, e⟩
def sgs : List UInt8 := [42, 43, 63]
theorem item_yes {S : List UInt8} {f d a b k : Nat} {p : Pt} {x : UInt8} (hat : atomF S f d a = .ok p b) (hk : sgs[k]? = some x) (hno : ∀ j, j < k → S[b]? ≠ sgs[j]?) (hx : S[b]? = some x) : itemF S (f + 1) d a = .ok (.rep p x.toNat) (b + 1) := by
  rw [itemF, hat]
  simp only
  have h3 : k < 3 := (List.getElem?_eq_some_iff.1 hk).1
  rcases (show k = 0 ∨ k = 1 ∨ k = 2 by omega) with rfl | rfl | rfl
  · obtain rfl : x = 42 := by simpa [sgs] using hk.symm
    rw [if_pos hx]; rfl
  · obtain rfl : x = 43 := by simpa [sgs] using hk.symm
    rw [if_neg (by rw [hx]; decide), if_pos hx]; rfl
  · obtain rfl : x = 63 := by simpa [sgs] using hk.symm
    rw [if_neg (by rw [hx]; decide), if_neg (by rw [hx]; decide), if_pos hx]; rfl
theorem item_no {S : List UInt8} {f d a b : Nat} {p : Pt} (hat : atomF S f d a = .ok p b) (hno : ∀ j, j < 3 → S[b]? ≠ sgs[j]?) : itemF S (f + 1) d a = .ok p b := by
  rw [itemF, hat]
  simp only
  have h0 : ¬ S[b]? = some 42 := hno 0 (by omega)
  have h1 : ¬ S[b]? = some 43 := hno 1 (by omega)
  have h2 : ¬ S[b]? = some 63 := hno 2 (by omega)
  rw [if_neg h0, if_neg h1, if_neg h2]

set_option maxRecDepth 100000 in
set_option maxHeartbeats 8000000 in
theorem item_of_atom (f : Nat) (hA : AtomC f) : ItemC (f + 1) := by
  intro r s a d w h ha hs hd hno
  have hs2 : s.size ≤ 140737488355328 := by omega
  have hrw : r < w.heap.size := Blk.lt h
  have k1 := hA r s a d w h ha hs hd (fun e => hno (by rw [itemF, e]))
  obtain ⟨R, hR⟩ : ∃ R, itemF (bts s) (f + 1) d a = R := ⟨_, rfl⟩
  have HR := hidden hR
  rw [hR]
  clear hno h hA hR
  go_enter Tryz.func165, Tryz.ntmps165
  go_upto_region 2 with (go_at_call 178; refine k1.mono ?_; rintro e w1 ⟨v, b, ok, rfl, hrd, hch, hbl, hres⟩; clear k1)
  have HRD := hidden hrd
  have HCH := hidden hch
  have hbs : b ≤ s.size := by rw [size_bts]; exact hbl
  rcases hres with ⟨rfl, p, hat, hpv⟩ | ⟨rfl, hat⟩
  · obtain ⟨tv, uv, rfl⟩ := hpv.form
    have HAT := hidden hat
    have HPV := hidden hpv
    have hal : Below w1.heap.size w1 (w1.alloc (.cells #[.int .u8 42, .int .u8 43, .int .u8 63] 5)) := (Below.refl _ _).alloc (Nat.le_refl _) _
    have HA1 : Hid (Rd (w1.alloc (.cells #[.int .u8 42, .int .u8 43, .int .u8 63] 5)) r s b d) := hidden (hrd.later hal)
    have HA2 : Hid (Blk (w1.alloc (.cells #[.int .u8 42, .int .u8 43, .int .u8 63] 5)) w1.heap.size 5 [.int .u8 42, .int .u8 43, .int .u8 63]) := hidden (Blk.new w1 5 _)
    have HA3 : Hid (Chg (fun i => i = r) w1 (w1.alloc (.cells #[.int .u8 42, .int .u8 43, .int .u8 63] 5))) := hidden (Chg.of_below hal)
    have HGN : Hid (w1.heap.size ≠ r) := hidden (by have := hch.size; omega)
    clear hrd hch hat hpv hal
    go_wp2
    go_loopw [17] (fun s17 wx => ∃ k : Nat, s17 = .int .i64 (k : Int) ∧ k ≤ 3 ∧ Hid (∀ j, j < k → (bts s)[b]? ≠ sgs[j]?) ∧ Hid (Rd wx r s b d) ∧ Hid (Blk wx w1.heap.size 5 [.int .u8 42, .int .u8 43, .int .u8 63]) ∧ Hid (Chg (fun i => i = r) w1 wx)) (fun s17 _ => 3 - (intOf s17).toNat)
    case atStart => exact ⟨0, rfl, by omega, hidden (fun j hj => absurd hj (by omega)), HA1, HA2, HA3⟩
    case round =>
      rename World => wr
      obtain ⟨k, rfl, hk3, hsg, hrd, hblk, hch⟩ := hrel
      clear HA1 HA2 HA3
      by_cases hlt : k < 3
      · have hltz : (k : Int) < 3 := by omega
        obtain ⟨x, hx, hcell⟩ : ∃ x : UInt8, sgs[k]? = some x ∧ wr.cell? ⟨w1.heap.size, k, none⟩ = some (.int .u8 (x.toNat : Int)) := by
          rcases (show k = 0 ∨ k = 1 ∨ k = 2 by omega) with rfl | rfl | rfl
          · exact ⟨42, rfl, hblk.out.cell 0⟩
          · exact ⟨43, rfl, hblk.out.cell 1⟩
          · exact ⟨63, rfl, hblk.out.cell 2⟩
        have HX := hidden hx
        have kT := takeP r s b d x wr hrd.out hbs hs2
        clear hx
        by_cases hbx : (bts s)[b]? = some x
        · rw [decide_eq_true hbx, tkN, if_pos hbx] at kT
          have HE := hidden (item_yes HAT.out HX.out hsg.out hbx)
          have HB1 : Hid (b + 1 ≤ (bts s).length) := hidden (List.getElem?_eq_some_iff.1 hbx).1
          clear hbx
          go_wp2_with (go_at_call 150; refine kT.mono ?_; rintro e w3 ⟨rfl, h3, hc3⟩; clear kT)
          go_ret2
          have hcc := hch.out.trans hc3 (fun _ _ e => e)
          have hV : PtV (FW w w3) w3 (.rep p x.toNat) (.iface 276 (.agg #[.iface tv uv, .int .u8 (x.toNat : Int)])) := by
            simp only [PtV]
            exact ⟨.iface tv uv, rfl, PtV.on HPV.out hrw hcc⟩
          exact ⟨_, b + 1, true, rfl, h3, HCH.out.trans hcc (fun _ _ e => e), HB1.out, Or.inl ⟨rfl, _, by rw [← HR.out, HE.out], hV⟩⟩
        · rw [decide_eq_false hbx, tkN, if_neg hbx] at kT
          have HS : Hid (∀ j, j < k + 1 → (bts s)[b]? ≠ sgs[j]?) := hidden (fun j hj => by
            rcases (show j < k ∨ j = k by omega) with h | rfl
            · exact hsg.out j h
            · rw [HX.out]; exact hbx)
          clear hbx
          go_wp2_with (go_at_call 150; refine kT.mono ?_; rintro e w3 ⟨rfl, h3, hc3⟩; clear kT)
          refine ⟨⟨k + 1, by first | rfl | simp, by omega, HS, hidden h3, hidden (hc3.blk hblk.out HGN.out), hidden (hch.out.trans hc3 (fun _ _ e => e))⟩, ?_⟩
          simp [intOf]
          omega
      · have hltz : ¬ (k : Int) < 3 := by omega
        have HE := hidden (item_no HAT.out (fun j hj => hsg.out j (by omega)))
        go_wp2
        go_ret2
        exact ⟨_, b, true, rfl, hrd.out, HCH.out.trans hch.out (fun _ _ e => e), hbl, Or.inl ⟨rfl, p, by rw [← HR.out, HE.out], PtV.on HPV.out hrw hch.out⟩⟩
  · have HE : Hid (itemF (bts s) (f + 1) d a = .bad b) := hidden (by rw [itemF, hat])
    clear hrd hch hat
    go_wp2
    go_ret2
    exact ⟨_, b, false, rfl, HRD.out, HCH.out, hbl, Or.inr ⟨rfl, by rw [← HR.out, HE.out]⟩⟩

end Go.Proofs.YtgmdpbahcbhfjaaGreatDoor
/-
  The reader: group.
-/
namespace Go.Proofs.YtgmdpbahcbhfjaaGreatDoor
open Go.RowKit

/-- What rows answers. -/
def RowsR (r : Nat) (s : ByteArray) (d : Nat) (w : World) (R : Pr (List (List Pt))) (e : Ending) (w' : World) : Prop :=
  ∃ ad n c b ok, e = .returned (.tuple #[.slice ad n c, .bool ok]) ∧ Rd w' r s b d ∧ Chg (fun i => i = r) w w' ∧ b ≤ (bts s).length ∧ ((ok = true ∧ ∃ l g off, l.length = n ∧ R = .ok l b ∧ (l ≠ [] → ad = some ⟨g, off, none⟩ ∧ FW w w' g) ∧ RowsV (FW w w') w' l g off) ∨ (ok = false ∧ R = .bad b))
def RowsC (f : Nat) : Prop := ∀ (r : Nat) (s : ByteArray) (a d : Nat) (w : World), Rd w r s a d → a ≤ s.size → s.size ≤ 64 → d ≤ 16 → rowsF (bts s) f d a ≠ .out → Calls Tryz.prog 128 #[.pointer (some ⟨r, 0, none⟩)] w (RowsR r s d w (rowsF (bts s) f d a))
def grpF (S : List UInt8) (f d a : Nat) : Pr Pt :=
  match rowsF S f (d + 1) a with
  | .ok l b => if S[b]? = some 41 then .ok (.grp l) (b + 1) else .bad b
  | .bad k => .bad k
  | .out => .out
theorem Rd.deep {w : World} {r : Nat} {s : ByteArray} {a d : Nat} (h : Rd w r s a d) (x : Nat) (y : Int) (hy : y = (x : Int)) : Rd (w.setCell ⟨r, 2, none⟩ (.int .i64 y)) r s a x := by
  subst hy
  exact Blk.set h 2 _

set_option maxRecDepth 100000 in
set_option maxHeartbeats 8000000 in
theorem group_of_rows (f : Nat) (hR : RowsC f) (r : Nat) (s : ByteArray) (a d : Nat) (w : World) (h : Rd w r s a d) (ha : a ≤ s.size) (hs : s.size ≤ 64) (hd : d < 16) (hno : grpF (bts s) f d a ≠ .out) :
    Calls Tryz.prog 184 #[.pointer (some ⟨r, 0, none⟩)] w (PartR r s d w (grpF (bts s) f d a)) := by
  have hs2 : s.size ≤ 140737488355328 := by omega
  have hrw : r < w.heap.size := Blk.lt h
  have c2 : w.cell? ⟨r, 2, none⟩ = some (.int .i64 (d : Int)) := h.cell 2
  have f2 := h.frozen 2
  have h1 := h.deep (d + 1) ((d : Int) + 1) (by omega)
  have HC1 : Hid (Chg (fun i => i = r) w (w.setCell ⟨r, 2, none⟩ (.int .i64 ((d : Int) + 1)))) := hidden (Chg.set ⟨r, 2, none⟩ _ _)
  have k1 := hR r s a (d + 1) _ h1 ha hs (by omega) (fun e => hno (by rw [grpF, e]))
  have hsz : (w.setCell ⟨r, 2, none⟩ (.int .i64 ((d : Int) + 1))).heap.size = w.heap.size := by simp
  obtain ⟨G, hG⟩ : ∃ G, grpF (bts s) f d a = G := ⟨_, rfl⟩
  have HG := hidden hG
  rw [hG]
  have HSZ := hidden hsz
  clear hno h h1 hR hG hsz
  go_enter Tryz.func184, Tryz.ntmps184
  go_upto_region 3 with (go_at_call 128; refine k1.mono ?_; rintro e w1 ⟨ad, n, c, b, ok, rfl, hrd, hch, hbl, hres⟩; clear k1)
  have hbs : b ≤ s.size := by rw [size_bts]; exact hbl
  have e2 : w1.cell? ⟨r, 2, none⟩ = some (.int .i64 ((d : Int) + 1)) := by have := hrd.cell 2; simpa using this
  have g2 := hrd.frozen 2
  have H3 : Hid (∀ y : Int, y = (d : Int) → Rd (w1.setCell ⟨r, 2, none⟩ (.int .i64 y)) r s b d) := hidden (fun y hy => hrd.deep d y hy)
  have HC3 : Hid (∀ y : Int, Chg (fun i => i = r) w1 (w1.setCell ⟨r, 2, none⟩ (.int .i64 y))) := hidden (fun y => Chg.set ⟨r, 2, none⟩ _ _)
  have HCH := hidden (HC1.out.trans hch (fun _ _ e => e))
  have hdz : (d : Int) + 1 - 1 = (d : Int) := by omega
  rcases hres with ⟨rfl, l, g, off, hln, hro, hlg, hrv⟩ | ⟨rfl, hro⟩
  · have HRO := hidden hro
    have HLN := hidden hln
    have HLG := hidden hlg
    have HRV := hidden hrv
    have kT := takeP r s b d 41 (w1.setCell ⟨r, 2, none⟩ (.int .i64 (d : Int))) (H3.out _ rfl) hbs hs2
    clear hrd hch hro hln hlg hrv
    by_cases h41 : (bts s)[b]? = some 41
    · rw [decide_eq_true h41, tkN, if_pos h41] at kT
      have kT' : Calls Tryz.prog 150 #[.pointer (some ⟨r, 0, none⟩), .int .u8 41] (w1.setCell ⟨r, 2, none⟩ (.int .i64 (d : Int))) fun e w' => e = .returned (.bool true) ∧ Rd w' r s (b + 1) d ∧ Chg (fun i => i = r) (w1.setCell ⟨r, 2, none⟩ (.int .i64 (d : Int))) w' := kT
      have HE : Hid (G = .ok (.grp l) (b + 1)) := hidden (by rw [← HG.out, grpF, HRO.out]; simp only; rw [if_pos h41])
      have HB1 : Hid (b + 1 ≤ (bts s).length) := hidden (List.getElem?_eq_some_iff.1 h41).1
      clear h41 kT
      go_wp2_with (go_at_call 150; refine kT'.mono ?_; rintro e w3 ⟨rfl, h3, hc3⟩; clear kT')
      go_ret2
      have hcc := (HC3.out (d : Int)).trans hc3 (fun _ _ e => e)
      have hV : PtV (FW w w3) w3 (.grp l) (.iface 274 (.agg #[.slice ad n c])) := by
        have hF : ∀ b', FW (w.setCell ⟨r, 2, none⟩ (.int .i64 ((d : Int) + 1))) w1 b' → FW w w3 b' := fun b' hb' => ⟨by have := hb'.1; rw [HSZ.out] at this; exact this, Nat.lt_of_lt_of_le hb'.2 hcc.size⟩
        simp only [PtV]
        refine ⟨ad, c, g, off, by rw [HLN.out], fun h0 => ⟨(HLG.out h0).1, hF _ (HLG.out h0).2⟩, RowsV.mono hF l g off (RowsV.keep hcc (fun b' hb' e => ?_) l g off (fun h0 => (HLG.out h0).2) HRV.out)⟩
        have := hb'.1
        rw [HSZ.out] at this
        have e' : b' = r := e
        omega
      exact ⟨_, b + 1, true, rfl, h3, HCH.out.trans hcc (fun _ _ e => e), HB1.out, Or.inl ⟨rfl, _, HE.out, hV⟩⟩
    · rw [decide_eq_false h41, tkN, if_neg h41] at kT
      have kT' : Calls Tryz.prog 150 #[.pointer (some ⟨r, 0, none⟩), .int .u8 41] (w1.setCell ⟨r, 2, none⟩ (.int .i64 (d : Int))) fun e w' => e = .returned (.bool false) ∧ Rd w' r s b d ∧ Chg (fun i => i = r) (w1.setCell ⟨r, 2, none⟩ (.int .i64 (d : Int))) w' := kT
      have HE : Hid (G = .bad b) := hidden (by rw [← HG.out, grpF, HRO.out]; simp only; rw [if_neg h41])
      clear h41 kT
      go_wp2_with (go_at_call 150; refine kT'.mono ?_; rintro e w3 ⟨rfl, h3, hc3⟩; clear kT')
      go_ret2
      exact ⟨_, b, false, rfl, h3, HCH.out.trans ((HC3.out (d : Int)).trans hc3 (fun _ _ e => e)) (fun _ _ e => e), hbl, Or.inr ⟨rfl, HE.out⟩⟩
  · have HE : Hid (G = .bad b) := hidden (by rw [← HG.out, grpF, hro])
    clear hrd hch hro
    go_wp2
    go_ret2
    exact ⟨_, b, false, rfl, H3.out _ (by omega), HCH.out.trans (HC3.out _) (fun _ _ e => e), hbl, Or.inr ⟨rfl, HE.out⟩⟩

end Go.Proofs.YtgmdpbahcbhfjaaGreatDoor
/-
  The reader: atom.
-/
namespace Go.Proofs.YtgmdpbahcbhfjaaGreatDoor
open Go.RowKit

theorem ClV.up {B : Nat} {w : World} {v : Value} {neg : Bool} {l : Sn} (h : ClV (fun b => B ≤ b) w v neg l) : ClV (fun b => B ≤ b ∧ b < w.heap.size) w v neg l := by
  obtain ⟨ad, c, e, hs, hb, hf⟩ := h
  refine ⟨ad, c, e, hs, hb, fun y h0 e => ⟨hf y h0 e, ?_⟩⟩
  obtain ⟨b, off, e1, hlt, _⟩ := hs.at' h0
  rw [e1] at e
  injection e with e
  subst e
  exact hlt
set_option maxRecDepth 100000 in
set_option maxHeartbeats 8000000 in
theorem atom_of_rows (f : Nat) (hR : RowsC f) : AtomC (f + 1) := by
  intro r s a d w h ha hs hd hno
  have hs2 : s.size ≤ 140737488355328 := by omega
  have hrw : r < w.heap.size := Blk.lt h
  have hla : a ≤ (bts s).length := by rw [← size_bts]; exact ha
  have kT : ∀ (c : UInt8) (wx : World), Rd wx r s a d → Calls Tryz.prog 150 #[.pointer (some ⟨r, 0, none⟩), .int .u8 (c.toNat : Int)] wx fun e w' => e = .returned (.bool (decide ((bts s)[a]? = some c))) ∧ Rd w' r s (tkN (bts s) a c) d ∧ Chg (fun i => i = r) wx w' := fun c wx hx => takeP r s a d c wx hx ha hs2
  obtain ⟨R, hRR⟩ : ∃ R, atomF (bts s) (f + 1) d a = R := ⟨_, rfl⟩
  have HR := hidden hRR
  rw [hRR] at hno ⊢
  have HNO := hidden hno
  have HH := hidden h
  have HROW := hidden hR
  clear hRR hno h hR
  by_cases h46 : (bts s)[a]? = some 46
  · have k1 := kT 46 w HH.out
    rw [decide_eq_true h46, tkN, if_pos h46] at k1
    have k1' : Calls Tryz.prog 150 #[.pointer (some ⟨r, 0, none⟩), .int .u8 46] w fun e w' => e = .returned (.bool true) ∧ Rd w' r s (a + 1) d ∧ Chg (fun i => i = r) w w' := k1
    have HE : Hid (R = .ok .any (a + 1)) := hidden (by rw [← HR.out, atomF, if_pos h46])
    have HB : Hid (a + 1 ≤ (bts s).length) := hidden (List.getElem?_eq_some_iff.1 h46).1
    clear k1 kT h46
    go_enter Tryz.func178, Tryz.ntmps178
    go_wp2_with (go_at_call 150; refine k1'.mono ?_; rintro e w1 ⟨rfl, h1, hc1⟩; clear k1')
    go_ret2
    exact ⟨_, a + 1, true, rfl, h1, hc1, HB.out, Or.inl ⟨rfl, .any, HE.out, by simp only [PtV]; rfl⟩⟩
  · have k1 := kT 46 w HH.out
    rw [decide_eq_false h46, tkN, if_neg h46] at k1
    have k1' : Calls Tryz.prog 150 #[.pointer (some ⟨r, 0, none⟩), .int .u8 46] w fun e w' => e = .returned (.bool false) ∧ Rd w' r s a d ∧ Chg (fun i => i = r) w w' := k1
    clear k1
    by_cases h91 : (bts s)[a]? = some 91
    · have k2 : Hid (∀ wx, Rd wx r s a d → Calls Tryz.prog 150 #[.pointer (some ⟨r, 0, none⟩), .int .u8 91] wx fun e w' => e = .returned (.bool true) ∧ Rd w' r s (a + 1) d ∧ Chg (fun i => i = r) wx w') := hidden (fun wx hx => by
        have := kT 91 wx hx
        rw [decide_eq_true h91, tkN, if_pos h91] at this
        exact this)
      have ha1 : a + 1 ≤ (bts s).length := (List.getElem?_eq_some_iff.1 h91).1
      have k3 : Hid (∀ wx, Rd wx r s (a + 1) d → Calls Tryz.prog 183 #[.pointer (some ⟨r, 0, none⟩)] wx fun e w' => ∃ v neg l b ok, e = .returned (.tuple #[v, .bool ok]) ∧ ClR (bts s) (a + 1) neg l b ok ∧ Rd w' r s b d ∧ Chg (fun i => i = r) wx w' ∧ (ok = true → ClV (fun b => wx.heap.size ≤ b) w' v neg l) ∧ (ok = false → v = .nilIface)) := hidden (fun wx hx => classP r s (a + 1) d wx hx (by rw [size_bts]; exact ha1) hs)
      have HAT : Hid (R = match clsF (bts s) ((bts s).length + 2) (tkN (bts s) (a + 1) 94) [] with
        | .ok l b => .ok (.cls (decide ((bts s)[a + 1]? = some 94)) l) b
        | .bad k => .bad k
        | .out => .out) := hidden (by
        rw [← HR.out, atomF, if_neg h46, if_pos h91]
        have e : (if (bts s)[a + 1]? = some 94 then a + 2 else a + 1) = tkN (bts s) (a + 1) 94 := by unfold tkN; rfl
        rw [e]
        cases clsF (bts s) ((bts s).length + 2) (tkN (bts s) (a + 1) 94) [] <;> rfl)
      clear kT h46 h91
      go_enter Tryz.func178, Tryz.ntmps178
      go_upto_region 4 with (first
        | (go_at_call 150; refine k1'.mono ?_; rintro e w1 ⟨rfl, h1, hc1⟩; have k2' := k2.out _ h1; clear k1' k2)
        | (go_at_call 150; refine k2'.mono ?_; rintro e w2 ⟨rfl, h2, hc2⟩; have k3' := k3.out _ h2; clear k2' k3))
      have HC2 := hidden (hc1.trans hc2 (fun _ _ e => e))
      clear h1 h2 hc1 hc2
      go_wp2_with (go_at_call 183; refine k3'.mono ?_; rintro e w3 ⟨v, neg, l, b, ok, rfl, hcl, h3, hc3, hyes, hbad⟩; clear k3')
      go_ret2
      have hcc := HC2.out.trans hc3 (fun _ _ e => e)
      refine ⟨v, b, ok, rfl, h3, hcc, hcl.2.1, ?_⟩
      cases ok with
      | true =>
        refine Or.inl ⟨rfl, .cls neg l, by rw [HAT.out, hcl.2.2.2.1 rfl]; simp only; rw [← hcl.2.2.1], ?_⟩
        simp only [PtV]
        exact (hyes rfl).up.mono (fun b' hb' => ⟨Nat.le_trans HC2.out.size hb'.1, hb'.2⟩)
      | false => exact Or.inr ⟨rfl, by rw [HAT.out, hcl.2.2.2.2 rfl]⟩
    · have k2 : Hid (∀ wx, Rd wx r s a d → Calls Tryz.prog 150 #[.pointer (some ⟨r, 0, none⟩), .int .u8 91] wx fun e w' => e = .returned (.bool false) ∧ Rd w' r s a d ∧ Chg (fun i => i = r) wx w') := hidden (fun wx hx => by
        have := kT 91 wx hx
        rw [decide_eq_false h91, tkN, if_neg h91] at this
        exact this)
      have k4 : Hid (∀ wx, Rd wx r s a d → Calls Tryz.prog 185 #[.pointer (some ⟨r, 0, none⟩)] wx fun e w' => ∃ c b ok, e = .returned (.tuple #[.int .i32 ((c : Nat) : Int), .bool ok]) ∧ ChR (bts s) a c b ok ∧ Rd w' r s b d ∧ Chg (fun i => i = r) wx w') := hidden (fun wx hx => characterP r s a d wx hx ha hs2)
      have HCA : Hid (¬ (d < 16 ∧ (bts s)[a]? = some 40) → R = match charF (bts s) a with
        | .ok c b => .ok (.chr c) b
        | .bad k => .bad k
        | .out => .out) := hidden (fun hn => by
        rw [← HR.out, atomF, if_neg h46, if_neg h91, if_neg hn]
        cases charF (bts s) a <;> rfl)
      by_cases hdz : d < 16
      · have hdzz : (d : Int) < 16 := by omega
        by_cases h40 : (bts s)[a]? = some 40
        · have k3 : Hid (∀ wx, Rd wx r s a d → Calls Tryz.prog 150 #[.pointer (some ⟨r, 0, none⟩), .int .u8 40] wx fun e w' => e = .returned (.bool true) ∧ Rd w' r s (a + 1) d ∧ Chg (fun i => i = r) wx w') := hidden (fun wx hx => by
            have := kT 40 wx hx
            rw [decide_eq_true h40, tkN, if_pos h40] at this
            exact this)
          have ha1 : a + 1 ≤ (bts s).length := (List.getElem?_eq_some_iff.1 h40).1
          have HAT : Hid (R = grpF (bts s) f d (a + 1)) := hidden (by
            rw [← HR.out, atomF, if_neg h46, if_neg h91, if_pos ⟨hdz, h40⟩, grpF]
            cases rowsF (bts s) f (d + 1) (a + 1) <;> rfl)
          have k5 : Hid (∀ wx, Rd wx r s (a + 1) d → Calls Tryz.prog 184 #[.pointer (some ⟨r, 0, none⟩)] wx (PartR r s d wx R)) := hidden (fun wx hx => by
            rw [HAT.out]
            exact group_of_rows f HROW.out r s (a + 1) d wx hx (by rw [size_bts]; exact ha1) hs hdz (by rw [← HAT.out]; exact HNO.out))
          clear kT h46 h91 h40 k4 HCA HAT
          go_enter Tryz.func178, Tryz.ntmps178
          go_wp2_with (first
            | (go_at_call 150; refine k1'.mono ?_; rintro e w1 ⟨rfl, h1, hc1⟩; have k2' := k2.out _ h1; clear k1' k2)
            | (go_at_call 150; refine k2'.mono ?_; rintro e w2 ⟨rfl, h2, hc2⟩; have k3' := k3.out _ h2; have d2 : w2.cell? ⟨r, 2, none⟩ = some (.int .i64 (d : Int)) := h2.cell 2; clear k2' k3)
            | (go_at_call 150; refine k3'.mono ?_; rintro e w3 ⟨rfl, h3, hc3⟩; have k5' := k5.out _ h3; clear k3' k5)
            | (go_at_call 184; refine k5'.mono ?_; rintro e w4 ⟨v, b, ok, rfl, h4, hc4, hb4, hres⟩; clear k5'))
          go_ret2
          have hc123 := (hc1.trans hc2 (fun _ _ e => e)).trans hc3 (fun _ _ e => e)
          refine ⟨v, b, ok, rfl, h4, hc123.trans hc4 (fun _ _ e => e), hb4, ?_⟩
          rcases hres with ⟨e1, p, e2, e3⟩ | hres
          · exact Or.inl ⟨e1, p, e2, PtV.mono (fun b' hb' => ⟨Nat.le_trans hc123.size hb'.1, hb'.2⟩) p v e3⟩
          · exact Or.inr hres
        · have k3 : Hid (∀ wx, Rd wx r s a d → Calls Tryz.prog 150 #[.pointer (some ⟨r, 0, none⟩), .int .u8 40] wx fun e w' => e = .returned (.bool false) ∧ Rd w' r s a d ∧ Chg (fun i => i = r) wx w') := hidden (fun wx hx => by
            have := kT 40 wx hx
            rw [decide_eq_false h40, tkN, if_neg h40] at this
            exact this)
          have HAT := hidden (HCA.out (fun x => h40 x.2))
          clear kT h46 h91 h40 HCA
          go_enter Tryz.func178, Tryz.ntmps178
          go_upto_region 8 with (first
            | (go_at_call 150; refine k1'.mono ?_; rintro e w1 ⟨rfl, h1, hc1⟩; have k2' := k2.out _ h1; clear k1' k2)
            | (go_at_call 150; refine k2'.mono ?_; rintro e w2 ⟨rfl, h2, hc2⟩; have k3' := k3.out _ h2; have d2 : w2.cell? ⟨r, 2, none⟩ = some (.int .i64 (d : Int)) := h2.cell 2; clear k2' k3)
            | (go_at_call 150; refine k3'.mono ?_; rintro e w3 ⟨rfl, h3, hc3⟩; have k4' := k4.out _ h3; have HCC := hidden ((hc1.trans hc2 (fun _ _ e => e)).trans hc3 (fun _ _ e => e)); clear k3' k4)
            | (go_at_call 185; refine k4'.mono ?_; rintro e w4 ⟨cc, b, ok, rfl, hcr, h4, hc4⟩; clear k4'))
          have hcc := HCC.out.trans hc4 (fun _ _ e => e)
          have HF : Hid (PartR r s d w R (.returned (.tuple #[.iface 287 (.int .i32 ((cc : Nat) : Int)), .bool ok])) w4) := hidden ⟨_, b, ok, rfl, h4, hcc, hcr.2.1, by
            cases ok with
            | true =>
              refine Or.inl ⟨rfl, .chr cc, by rw [HAT.out, (hcr.2.2.1 rfl).1], ?_⟩
              simp only [PtV]
              exact ⟨by first | trivial | rfl, vc_le (hcr.2.2.1 rfl).2⟩
            | false => exact Or.inr ⟨rfl, by rw [HAT.out, (hcr.2.2.2 rfl).1]⟩⟩
          clear hcr h4 hc4 hcc
          go_wp2
          go_ret2
          exact HF.out
      · have hdzz : ¬ (d : Int) < 16 := by omega
        have hdzz' : decide ((d : Int) < 16) = false := decide_eq_false hdzz
        have HAT := hidden (HCA.out (fun x => hdz x.1))
        clear kT h46 h91 HCA
        go_enter Tryz.func178, Tryz.ntmps178
        go_upto_region 8 with (first
          | (go_at_call 150; refine k1'.mono ?_; rintro e w1 ⟨rfl, h1, hc1⟩; have k2' := k2.out _ h1; clear k1' k2)
          | (go_at_call 150; refine k2'.mono ?_; rintro e w2 ⟨rfl, h2, hc2⟩; have k4' := k4.out _ h2; have d2 : w2.cell? ⟨r, 2, none⟩ = some (.int .i64 (d : Int)) := h2.cell 2; have HCC := hidden (hc1.trans hc2 (fun _ _ e => e)); clear k2' k4)
          | (go_at_call 185; refine k4'.mono ?_; rintro e w4 ⟨cc, b, ok, rfl, hcr, h4, hc4⟩; clear k4'))
        have hcc := HCC.out.trans hc4 (fun _ _ e => e)
        have HF : Hid (PartR r s d w R (.returned (.tuple #[.iface 287 (.int .i32 ((cc : Nat) : Int)), .bool ok])) w4) := hidden ⟨_, b, ok, rfl, h4, hcc, hcr.2.1, by
          cases ok with
          | true =>
            refine Or.inl ⟨rfl, .chr cc, by rw [HAT.out, (hcr.2.2.1 rfl).1], ?_⟩
            simp only [PtV]
            exact ⟨by first | trivial | rfl, vc_le (hcr.2.2.1 rfl).2⟩
          | false => exact Or.inr ⟨rfl, by rw [HAT.out, (hcr.2.2.2 rfl).1]⟩⟩
        clear hcr h4 hc4 hcc
        go_wp2
        go_ret2
        exact HF.out

end Go.Proofs.YtgmdpbahcbhfjaaGreatDoor
