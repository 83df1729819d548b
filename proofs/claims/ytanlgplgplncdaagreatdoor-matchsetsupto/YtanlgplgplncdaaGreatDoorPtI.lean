import Derived.Test.YtanlgplgplncdaaGreatDoorPtH
/-
  The reader: class.
-/
namespace Go.Proofs.YtanlgplgplncdaaGreatDoor
open Go.RowKit
set_option linter.unusedVariables false
set_option linter.unusedSimpArgs false

theorem withF_len : ∀ (l : Sn) (x : Nat × Nat) (ah be : Sn), (withF l x ah be).length ≤ l.length + ah.length + be.length + 1
  | [], x, ah, be => by simp [withF]; omega
  | o :: t, x, ah, be => by
    rw [withF]
    split
    · have := withF_len t x (ah ++ [o]) be; simp at this ⊢; omega
    · split
      · have := withF_len t x ah (be ++ [o]); simp at this ⊢; omega
      · have := withF_len t (min o.1 x.1, max o.2 x.2) ah be; simp at this ⊢; omega
theorem withS_len (l : Sn) (x : Nat × Nat) : (withS l x).length ≤ l.length + 1 := by
  have := withF_len l x [] []
  simpa [withS] using this
def rdAt (r : Nat) (w : World) : Nat := ((w.cell? ⟨r, 1, none⟩).map (fun v => (intOf v).toNat)).getD 0
theorem Rd.at' {w : World} {r : Nat} {s : ByteArray} {a d : Nat} (h : Rd w r s a d) : rdAt r w = a := by
  have c1 : w.cell? ⟨r, 1, none⟩ = some (.int .i64 (a : Int)) := h.cell 1
  rw [rdAt, c1]
  simp [intOf]
theorem span_pos {S : List UInt8} {a : Nat} {x : Nat × Nat} {b : Nat} (h : spanF S a = .ok x b) : a < b := by
  unfold spanF at h
  have key : ∀ {a c b : Nat}, charF S a = .ok c b → a < b := fun {a c b} h => by
    unfold charF at h
    simp only at h
    split at h
    · cases h
    · rename_i c' k hf
      split at h
      · injection h with e1 e2
        have := (fp_len hf).1
        subst e2
        by_cases hd : decide (S[a]? = some 92) = true
        · rw [if_pos hd]; omega
        · rw [if_neg hd]; omega
      · cases h
  cases h1 : charF S a with
  | bad k => rw [h1] at h; cases h
  | out => rw [h1] at h; cases h
  | ok lo b1 =>
    have k1 := key h1
    rw [h1] at h
    simp only at h
    split at h
    · cases h2 : charF S (b1 + 1) with
      | bad k => rw [h2] at h; cases h
      | out => rw [h2] at h; cases h
      | ok hi b2 =>
        have k2 := key h2
        rw [h2] at h
        simp only at h
        split at h
        · cases h
        · injection h with e1 e2; omega
    · injection h with e1 e2; omega

/-- What class answers. -/
def ClR (S : List UInt8) (a : Nat) (neg : Bool) (l : Sn) (b : Nat) (ok : Bool) : Prop := a ≤ b ∧ b ≤ S.length ∧ neg = decide (S[a]? = some 94) ∧ (ok = true → clsF S (S.length + 2) (tkN S a 94) [] = .ok l b) ∧ (ok = false → clsF S (S.length + 2) (tkN S a 94) [] = .bad b)
/-- A class, as a value: its spans lie in blocks of F. -/
def ClV (F : Nat → Prop) (w : World) (v : Value) (neg : Bool) (l : Sn) : Prop := ∃ ad c, v = .iface 214 (.agg #[.bool neg, .slice ad l.length c]) ∧ Ss w ad l ∧ Bd l ∧ ∀ y, l ≠ [] → ad = some y → F y.block

/-- What is held in a round of class. -/
structure CI (w wx : World) (r g : Nat) (s : ByteArray) (d i : Nat) (neg : Bool) (ad : Option Addr) (c n : Nat) (acc : Sn) : Prop where
  rd : Rd wx r s i d
  blk : Blk wx g 214 [.bool neg, .slice ad n c]
  len : acc.length = n
  ss : Ss wx ad acc
  bd : Bd acc
  le : i ≤ (bts s).length
  ni : n ≤ i
  ch : Chg (fun k => k = r) w wx
  own : ∀ y, acc ≠ [] → ad = some y → w.heap.size ≤ y.block ∧ y.block ≠ g
theorem CI.moved {w wx w' : World} {r g : Nat} {s : ByteArray} {d i j : Nat} {neg : Bool} {ad : Option Addr} {c n : Nat} {acc : Sn} (h : CI w wx r g s d i neg ad c n acc) (hr : r < w.heap.size) (hg : w.heap.size ≤ g) (hrd : Rd w' r s j d) (hc : Chg (fun k => k = r) wx w') (hj : j ≤ (bts s).length) (hij : i ≤ j) : CI w w' r g s d j neg ad c n acc := by
  refine ⟨hrd, hc.blk h.blk (fun e => by have e' : g = r := e; omega), h.len, ⟨h.ss.sz, fun h0 => ?_⟩, h.bd, hj, by have := h.ni; omega, h.ch.trans hc (fun _ _ e => e), h.own⟩
  obtain ⟨b, off, e, hb, hcell⟩ := h.ss.at' h0
  have ho := (h.own _ h0 e).1
  have hbk := hc.block b hb (fun e' => by have e'' : b = r := e'; simp only at ho; omega)
  refine ⟨b, off, e, Nat.lt_of_lt_of_le hb hc.size, fun k x hx => ?_⟩
  rw [show w'.cell? ⟨b, off + k * 2, none⟩ = wx.cell? ⟨b, off + k * 2, none⟩ from World.cell?_of_block hbk, show w'.cell? ⟨b, off + k * 2 + 1, none⟩ = wx.cell? ⟨b, off + k * 2 + 1, none⟩ from World.cell?_of_block hbk]
  exact hcell k x hx

theorem CI.next {w w5 w6 : World} {r g : Nat} {s : ByteArray} {d i : Nat} {neg : Bool} {ad a' : Option Addr} {c n c' n' : Nat} {acc l' : Sn} {ob : Obj} (h : CI w w5 r g s d i neg ad c n acc) (hr : r < w.heap.size) (hg : w.heap.size ≤ g) (hb : Below (w5.alloc ob).heap.size (w5.alloc ob) w6)
    (ho : w6.ownsRow (w5.alloc ob).heap.size 209 2 (.slice a' n' c') n' (cS l')) (hbd : Bd l') (hl : l'.length = n') (hn : n' ≤ i) : CI w (w6.setCell ⟨g, 1, none⟩ (.slice a' n' c')) r g s d i neg a' c' n' l' := by
  have hal : Below w5.heap.size w5 w6 := ((Below.refl _ _).alloc (Nat.le_refl _) ob).trans (hb.mono (by simp))
  have hgl := h.blk.lt
  have hcs : Chg (fun k => k = g) w6 (w6.setCell ⟨g, 1, none⟩ (.slice a' n' c')) := Chg.set ⟨g, 1, none⟩ _ _
  have hbase : ∀ b, (Value.slice a' n' c').ownBlock = some b → w5.heap.size + 1 ≤ b := fun b hb' => by have := (ho.lt b hb').1; simpa using this
  have hoS : (w6.setCell ⟨g, 1, none⟩ (.slice a' n' c')).ownsRow (w5.alloc ob).heap.size 209 2 (.slice a' n' c') n' (cS l') := hcs.owns ho (fun b hb' e => by have := hbase b hb'; have e' : b = g := e; omega)
  refine ⟨hcs.blk (h.rd.later hal) (fun e => by have e' : r = g := e; omega), (h.blk.later hal).set 1 _, hl, ss_of_owns hoS hbd, hbd, h.le, hn, (h.ch.trans (Chg.of_below (F := fun _ => False) hal) (fun _ _ e => e.elim)).trans hcs (fun k hk e => by have e' : k = g := e; omega), fun y h0 e => ?_⟩
  subst e
  obtain ⟨a2, c2, e2, _, hsp, _⟩ := owns_formS ho
  injection e2 with e3 _ _
  obtain ⟨z0, z1⟩ := hsp y e3.symm
  obtain ⟨b, off, sp⟩ := y
  simp only at z0 z1
  subst z0 z1
  have := hbase b (by simp [Value.ownBlock])
  have hs5 := h.ch.size
  simp only
  omega

end Go.Proofs.YtanlgplgplncdaaGreatDoor

/-
  The reader: class (the walk).
-/
namespace Go.Proofs.YtanlgplgplncdaaGreatDoor
open Go.RowKit
set_option linter.unusedVariables false
set_option linter.unusedSimpArgs false

set_option maxRecDepth 100000 in
set_option maxHeartbeats 8000000 in
theorem classP (r : Nat) (s : ByteArray) (a d : Nat) (w : World) (h : Rd w r s a d) (ha : a ≤ s.size) (hs : s.size ≤ 64) :
    Calls Tryz.prog 120 #[.pointer (some ⟨r, 0, none⟩)] w fun e w' => ∃ v neg l b ok, e = .returned (.tuple #[v, .bool ok]) ∧ ClR (bts s) a neg l b ok ∧ Rd w' r s b d ∧ Chg (fun i => i = r) w w' ∧ (ok = true → ClV (fun b => w.heap.size ≤ b) w' v neg l) ∧ (ok = false → v = .nilIface) := by
  have hs2 : s.size ≤ 140737488355328 := by omega
  have hrw : r < w.heap.size := Blk.lt h
  have kT := takeP r s a d 94 w h ha hs2
  obtain ⟨neg, hneg⟩ : ∃ neg, decide ((bts s)[a]? = some 94) = neg := ⟨_, rfl⟩
  obtain ⟨a1, ha1⟩ : ∃ a1, tkN (bts s) a 94 = a1 := ⟨_, rfl⟩
  have hl1 : a ≤ a1 ∧ a1 ≤ (bts s).length := by
    rw [← ha1]
    unfold tkN
    split
    · rename_i h94; exact ⟨by omega, (List.getElem?_eq_some_iff.1 h94).1⟩
    · exact ⟨Nat.le_refl _, by rw [← size_bts]; exact ha⟩
  rw [hneg, ha1] at kT
  have kT' : Calls Tryz.prog 97 #[.pointer (some ⟨r, 0, none⟩), .int .u8 94] w fun e w' => e = .returned (.bool neg) ∧ Rd w' r s a1 d ∧ Chg (fun i => i = r) w w' := kT
  obtain ⟨RES, hRES⟩ : ∃ RES, clsF (bts s) ((bts s).length + 2) a1 [] = RES := ⟨_, rfl⟩
  have HOK : Hid (∀ l b, b ≤ (bts s).length → a ≤ b → RES = .ok l b → ClR (bts s) a neg l b true) := hidden (fun l b h1 h2 h3 => ⟨h2, h1, hneg.symm, (fun _ => by rw [ha1, hRES, h3]), fun h => by cases h⟩)
  have HBAD : Hid (∀ l b, b ≤ (bts s).length → a ≤ b → RES = .bad b → ClR (bts s) a neg l b false) := hidden (fun l b h1 h2 h3 => ⟨h2, h1, hneg.symm, (fun h => by cases h), fun _ => by rw [ha1, hRES, h3]⟩)
  have HRES := hidden hRES
  have hsl : (bts s).length ≤ 64 := by rw [← size_bts]; exact hs
  have HSB := hidden (size_bts s)
  clear kT hneg ha1 h hRES
  go_enter Tryz.func120, Tryz.ntmps120
  go_wp2_with (go_at_call 97; refine kT'.mono ?_; rintro e w1 ⟨rfl, h1, hc1⟩; clear kT')
  have hal : Below w1.heap.size w1 (w1.alloc (.cells #[.bool neg, .slice none 0 0] 214)) := (Below.refl _ _).alloc (Nat.le_refl _) _
  have C0 : Hid (CI w (w1.alloc (.cells #[.bool neg, .slice none 0 0] 214)) r w1.heap.size s d a1 neg none 0 0 []) := hidden ⟨h1.later hal, Blk.new w1 214 _, rfl, Ss.nil _ _, (fun y hy => by cases hy), hl1.2, Nat.zero_le _, hc1.trans (Chg.of_below (F := fun _ => False) hal) (fun _ _ e => e.elim), fun y h0 => absurd rfl h0⟩
  have HG : Hid (w.heap.size ≤ w1.heap.size) := hidden hc1.size
  clear h1 hc1 hal
  go_loopw [] (fun wx => ∃ (i n c f : Nat) (ad : Option Addr) (acc : Sn), a1 ≤ i ∧ i ≤ 64 ∧ (bts s).length + 2 ≤ f + i ∧ Hid (clsF (bts s) f i acc = RES) ∧ Hid (CI w wx r w1.heap.size s d i neg ad c n acc)) (fun wx => s.size - rdAt r wx)
  case atStart => exact ⟨a1, 0, 0, (bts s).length + 2, none, [], by omega, by have := hl1.2; omega, by omega, HRES, C0⟩
  case round =>
    rename World => wr
    obtain ⟨i, n, c, f, ad, acc, hi1, hi64, hf, hrel, hC⟩ := hrel
    clear C0 HRES
    have hile := hC.out.le
    obtain ⟨f', rfl⟩ : ∃ f', f = f' + 1 := ⟨f - 1, by omega⟩
    have HST : Hid (clsF (bts s) (f' + 1) i acc = if acc ≠ [] ∧ (bts s)[i]? = some 93 then .ok acc (i + 1) else
      match spanF (bts s) i with
      | .ok x b => clsF (bts s) f' b (withS acc x)
      | .bad k => .bad k
      | .out => .out) := hidden (by
      rw [clsF]
      split
      · rfl
      · cases spanF (bts s) i <;> rfl)
    have g1 : wr.cell? ⟨w1.heap.size, 1, none⟩ = some (.slice ad n c) := hC.out.blk.cell 1
    have hn0 : Hid (n = 0 ↔ acc = []) := hidden (by rw [← hC.out.len]; exact List.length_eq_zero_iff)
    have his : i ≤ s.size := by rw [HSB.out]; exact hile
    -- what follows where a span is read
    have go1 : Hid (∀ wx, CI w wx r w1.heap.size s d i neg ad c n acc → ¬ (acc ≠ [] ∧ (bts s)[i]? = some 93) → Calls Tryz.prog 123 #[.pointer (some ⟨r, 0, none⟩)] wx fun e w' => ∃ (lo hi b : Nat) (ok : Bool), e = .returned (.tuple #[.agg #[.int .i32 ((lo : Nat) : Int), .int .i32 ((hi : Nat) : Int)], .bool ok]) ∧ CI w w' r w1.heap.size s d b neg ad c n acc ∧ i ≤ b ∧ b ≤ (bts s).length ∧ (ok = true → i < b ∧ lo ≤ 1114111 ∧ hi ≤ 1114111 ∧ clsF (bts s) f' b (withS acc (lo, hi)) = RES) ∧ (ok = false → RES = .bad b)) := hidden (fun wx hCx hno => by
      refine (spanP r s i d wx hCx.rd his hs2).mono ?_
      rintro e w' ⟨lo, hi, b, ok, rfl, hsp, hrd, hch⟩
      refine ⟨lo, hi, b, ok, rfl, hCx.moved hrw HG.out hrd hch hsp.2.1 hsp.1, hsp.1, hsp.2.1, fun hok => ?_, fun hok => ?_⟩
      · obtain ⟨k1, k2, k3⟩ := hsp.2.2.1 hok
        refine ⟨span_pos k1, by omega, k3, ?_⟩
        rw [← hrel.out, HST.out, if_neg hno, k1]
      · rw [← hrel.out, HST.out, if_neg hno, hsp.2.2.2 hok])
    have hext : Hid (acc ≠ [] ∧ (bts s)[i]? = some 93 → RES = .ok acc (i + 1) ∧ i + 1 ≤ (bts s).length) := hidden (fun hy => ⟨by rw [← hrel.out, HST.out, if_pos hy], (List.getElem?_eq_some_iff.1 hy.2).1⟩)
    clear hrel HST
    by_cases h0 : n = 0
    · have h0z : ((n : Int) == 0) = true := by simp [h0]
      have hno : ¬ (acc ≠ [] ∧ (bts s)[i]? = some 93) := fun hy => hy.1 (hn0.out.1 h0)
      have CX := hC
      have H0 := hidden h0
      clear h0
      have k5 := go1.out _ CX.out hno
      clear go1 hext
      go_upto_region 4 with (go_at_call 123; refine k5.mono ?_; rintro e w5 ⟨lo, hi, b, ok, rfl, hC5, hib, hbl, hyes, hbad⟩; clear k5)
      have C5 := hidden hC5
      have hal5 : Below w5.heap.size w5 (w5.alloc (.cells #[.int .i32 (lo : Int), .int .i32 (hi : Int)] 209)) := (Below.refl _ _).alloc (Nat.le_refl _) _
      cases ok with
      | false =>
        have HB := hidden (HBAD.out [] b hbl (by omega) (hbad rfl))
        have HRD := hidden (show Rd (w5.alloc (.cells #[.int .i32 (lo : Int), .int .i32 (hi : Int)] 209)) r s b d from hC5.rd.later hal5)
        have HCH := hidden (hC5.ch.trans (Chg.of_below (F := fun _ => False) hal5) (fun _ _ e => e.elim))
        clear hC5 hyes hbad hal5
        go_wp2
        go_ret2
        first
          | exact ⟨_, neg, [], b, false, rfl, HB.out, HRD.out, HCH.out, (fun h => by cases h), fun _ => rfl⟩
          | exact ⟨_, neg, [], b, Or.inl ⟨rfl, HB.out, HRD.out, HCH.out, (fun h => by cases h), fun _ => rfl⟩⟩
      | true =>
        obtain ⟨hlt, hlo, hhi, hcl⟩ := hyes rfl
        have HCL := hidden hcl
        have B5 := hC5.blk.later hal5
        have p1 : (w5.alloc (.cells #[.int .i32 (lo : Int), .int .i32 (hi : Int)] 209)).cell? ⟨w1.heap.size, 1, none⟩ = some (.slice ad n c) := B5.cell 1
        have N5 := Blk.new w5 209 [.int .i32 (lo : Int), .int .i32 (hi : Int)]
        have e0 : (w5.alloc (.cells #[.int .i32 (lo : Int), .int .i32 (hi : Int)] 209)).cell? ⟨w5.heap.size, 0, none⟩ = some (.int .i32 (lo : Int)) := N5.cell 0
        have e1 : (w5.alloc (.cells #[.int .i32 (lo : Int), .int .i32 (hi : Int)] 209)).cell? ⟨w5.heap.size, 1, none⟩ = some (.int .i32 (hi : Int)) := N5.cell 1
        have kW := withP ad c acc (lo, hi) (w5.alloc (.cells #[.int .i32 (lo : Int), .int .i32 (hi : Int)] 209)) (hC5.ss.later hal5) (by rw [hC5.len]; have := hC5.ni; omega) ⟨hlo, hhi⟩
        rw [hC5.len] at kW
        obtain ⟨n', hn'⟩ : ∃ n', (withS acc (lo, hi)).length = n' := ⟨_, rfl⟩
        have hwl := withS_len acc (lo, hi)
        rw [hn', hC5.len] at hwl
        rw [hn'] at kW
        have hni := hC5.ni
        have hni2 : n ≤ i := CX.out.ni
        have HN' := hidden hn'
        have BL5 := hidden B5
        clear hC5 hyes hbad hcl hn' B5 N5 hni
        go_wp2_with (go_at_call 124; refine kW.mono ?_; rintro e w6 ⟨a6, c6, rfl, ho6, hbd6, hb6⟩; have q1 : w6.cell? ⟨w1.heap.size, 1, none⟩ = some (.slice ad n c) := (BL5.out.later hb6).cell 1; have qf := (BL5.out.later hb6).frozen 1; clear kW)
        have C7 := hidden (C5.out.next hrw HG.out hb6 ho6 hbd6 HN'.out (by omega))
        refine ⟨⟨b, n', c6, f', a6, withS acc (lo, hi), by omega, by omega, by omega, HCL, C7⟩, ?_⟩
        rw [C7.out.rd.at', hC.out.rd.at', HSB.out]
        omega
    · have h0z : ((n : Int) == 0) = false := by simp [h0]
      have kC := takeP r s i d 93 wr hC.out.rd his hs2
      by_cases h93 : (bts s)[i]? = some 93
      · rw [decide_eq_true h93, tkN, if_pos h93] at kC
        have kC' : Calls Tryz.prog 97 #[.pointer (some ⟨r, 0, none⟩), .int .u8 93] wr fun e w' => e = .returned (.bool true) ∧ Rd w' r s (i + 1) d ∧ Chg (fun i => i = r) wr w' := kC
        obtain ⟨x1, x2⟩ := hext.out ⟨fun e => h0 (hn0.out.2 e), h93⟩
        have HB := hidden (HOK.out acc (i + 1) x2 (by omega) x1)
        have HX2 := hidden x2
        clear kC h93 x1 x2 hext go1 hn0
        go_wp2_with (go_at_call 97; refine kC'.mono ?_; rintro e w3 ⟨rfl, h3, hc3⟩; have C3 := hidden (hC.out.moved hrw HG.out h3 hc3 HX2.out (Nat.le_succ i)); have q0 : w3.cell? ⟨w1.heap.size, 0, none⟩ = some (.bool neg) := C3.out.blk.cell 0; have q1 : w3.cell? ⟨w1.heap.size, 1, none⟩ = some (.slice ad n c) := C3.out.blk.cell 1; clear kC' h3 hc3)
        go_ret2
        have HV : ClV (fun b => w.heap.size ≤ b) w3 (.iface 214 (.agg #[.bool neg, .slice ad n c])) neg acc := ⟨ad, c, by rw [C3.out.len], C3.out.ss, C3.out.bd, fun y h0 e => (C3.out.own y h0 e).1⟩
        first
          | exact ⟨_, neg, acc, i + 1, true, rfl, HB.out, C3.out.rd, C3.out.ch, fun _ => HV, fun h => by cases h⟩
          | exact ⟨_, neg, acc, i + 1, Or.inr ⟨rfl, HB.out, C3.out.rd, C3.out.ch, fun _ => HV, fun h => by cases h⟩⟩
      · rw [decide_eq_false h93, tkN, if_neg h93] at kC
        have kC' : Calls Tryz.prog 97 #[.pointer (some ⟨r, 0, none⟩), .int .u8 93] wr fun e w' => e = .returned (.bool false) ∧ Rd w' r s i d ∧ Chg (fun i => i = r) wr w' := kC
        have hno : ¬ (acc ≠ [] ∧ (bts s)[i]? = some 93) := fun hy => h93 hy.2
        clear kC h93
        go_wp2_with (go_at_call 97; refine kC'.mono ?_; rintro e w3 ⟨rfl, h3, hc3⟩; clear kC')
        have CX := hidden (hC.out.moved hrw HG.out h3 hc3 hile (Nat.le_refl i))
        clear h3 hc3
        have k5 := go1.out _ CX.out hno
        clear go1 hext
        go_upto_region 4 with (go_at_call 123; refine k5.mono ?_; rintro e w5 ⟨lo, hi, b, ok, rfl, hC5, hib, hbl, hyes, hbad⟩; clear k5)
        have C5 := hidden hC5
        have hal5 : Below w5.heap.size w5 (w5.alloc (.cells #[.int .i32 (lo : Int), .int .i32 (hi : Int)] 209)) := (Below.refl _ _).alloc (Nat.le_refl _) _
        cases ok with
        | false =>
          have HB := hidden (HBAD.out [] b hbl (by omega) (hbad rfl))
          have HRD := hidden (show Rd (w5.alloc (.cells #[.int .i32 (lo : Int), .int .i32 (hi : Int)] 209)) r s b d from hC5.rd.later hal5)
          have HCH := hidden (hC5.ch.trans (Chg.of_below (F := fun _ => False) hal5) (fun _ _ e => e.elim))
          clear hC5 hyes hbad hal5
          go_wp2
          go_ret2
          first
            | exact ⟨_, neg, [], b, false, rfl, HB.out, HRD.out, HCH.out, (fun h => by cases h), fun _ => rfl⟩
            | exact ⟨_, neg, [], b, Or.inl ⟨rfl, HB.out, HRD.out, HCH.out, (fun h => by cases h), fun _ => rfl⟩⟩
        | true =>
          obtain ⟨hlt, hlo, hhi, hcl⟩ := hyes rfl
          have HCL := hidden hcl
          have B5 := hC5.blk.later hal5
          have p1 : (w5.alloc (.cells #[.int .i32 (lo : Int), .int .i32 (hi : Int)] 209)).cell? ⟨w1.heap.size, 1, none⟩ = some (.slice ad n c) := B5.cell 1
          have N5 := Blk.new w5 209 [.int .i32 (lo : Int), .int .i32 (hi : Int)]
          have e0 : (w5.alloc (.cells #[.int .i32 (lo : Int), .int .i32 (hi : Int)] 209)).cell? ⟨w5.heap.size, 0, none⟩ = some (.int .i32 (lo : Int)) := N5.cell 0
          have e1 : (w5.alloc (.cells #[.int .i32 (lo : Int), .int .i32 (hi : Int)] 209)).cell? ⟨w5.heap.size, 1, none⟩ = some (.int .i32 (hi : Int)) := N5.cell 1
          have kW := withP ad c acc (lo, hi) (w5.alloc (.cells #[.int .i32 (lo : Int), .int .i32 (hi : Int)] 209)) (hC5.ss.later hal5) (by rw [hC5.len]; have := hC5.ni; omega) ⟨hlo, hhi⟩
          rw [hC5.len] at kW
          obtain ⟨n', hn'⟩ : ∃ n', (withS acc (lo, hi)).length = n' := ⟨_, rfl⟩
          have hwl := withS_len acc (lo, hi)
          rw [hn', hC5.len] at hwl
          rw [hn'] at kW
          have hni := hC5.ni
          have hni2 : n ≤ i := CX.out.ni
          have HN' := hidden hn'
          have BL5 := hidden B5
          clear hC5 hyes hbad hcl hn' B5 N5 hni
          go_wp2_with (go_at_call 124; refine kW.mono ?_; rintro e w6 ⟨a6, c6, rfl, ho6, hbd6, hb6⟩; have q1 : w6.cell? ⟨w1.heap.size, 1, none⟩ = some (.slice ad n c) := (BL5.out.later hb6).cell 1; have qf := (BL5.out.later hb6).frozen 1; clear kW)
          have C7 := hidden (C5.out.next hrw HG.out hb6 ho6 hbd6 HN'.out (by omega))
          refine ⟨⟨b, n', c6, f', a6, withS acc (lo, hi), by omega, by omega, by omega, HCL, C7⟩, ?_⟩
          rw [C7.out.rd.at', hC.out.rd.at', HSB.out]
          omega

end Go.Proofs.YtanlgplgplncdaaGreatDoor

/-
  Parts of a pattern in memory: their blocks lie in F.
-/
namespace Go.Proofs.YtanlgplgplncdaaGreatDoor
open Go.RowKit
set_option linter.unusedVariables false
set_option linter.unusedSimpArgs false

mutual
/-- A part, as a value. -/
def PtV (F : Nat → Prop) (w : World) : Pt → Value → Prop
  | .chr c, v => v = .iface 207 (.int .i32 (c : Int)) ∧ c ≤ 1114111
  | .any, v => v = .iface 211 (.agg #[])
  | .cls neg l, v => ClV F w v neg l
  | .grp l, v => ∃ ad c b off, v = .iface 194 (.agg #[.slice ad l.length c]) ∧ (l ≠ [] → ad = some ⟨b, off, none⟩ ∧ F b) ∧ RowsV F w l b off
  | .rep a s, v => ∃ u, v = .iface 196 (.agg #[u, .int .u8 (s : Int)]) ∧ PtV F w a u
/-- Items from a place on. -/
def RowV (F : Nat → Prop) (w : World) : List Pt → Nat → Nat → Prop
  | [], _, _ => True
  | p :: t, b, off => (∃ v, w.cell? ⟨b, off, none⟩ = some v ∧ PtV F w p v) ∧ RowV F w t b (off + 1)
/-- Rows from a place on. -/
def RowsV (F : Nat → Prop) (w : World) : List (List Pt) → Nat → Nat → Prop
  | [], _, _ => True
  | r :: t, b, off => (∃ ad c b' off', w.cell? ⟨b, off, none⟩ = some (.slice ad r.length c) ∧ (r ≠ [] → ad = some ⟨b', off', none⟩ ∧ F b') ∧ RowV F w r b' off') ∧ RowsV F w t b (off + 1)
end

theorem ClV.keep {F G : Nat → Prop} {w w' : World} {v : Value} {neg : Bool} {l : Sn} (h : ClV F w v neg l) (hc : Chg G w w') (hd : ∀ b, F b → ¬ G b) : ClV F w' v neg l := by
  obtain ⟨ad, c, e, hs, hb, hf⟩ := h
  refine ⟨ad, c, e, ⟨hs.sz, fun h0 => ?_⟩, hb, hf⟩
  obtain ⟨b, off, e1, hlt, hcell⟩ := hs.at' h0
  have hbk := hc.block b hlt (hd b (hf _ h0 e1))
  refine ⟨b, off, e1, Nat.lt_of_lt_of_le hlt hc.size, fun k x hx => ?_⟩
  rw [show w'.cell? ⟨b, off + k * 2, none⟩ = w.cell? ⟨b, off + k * 2, none⟩ from World.cell?_of_block hbk, show w'.cell? ⟨b, off + k * 2 + 1, none⟩ = w.cell? ⟨b, off + k * 2 + 1, none⟩ from World.cell?_of_block hbk]
  exact hcell k x hx
theorem ClV.mono {F G : Nat → Prop} {w : World} {v : Value} {neg : Bool} {l : Sn} (h : ClV F w v neg l) (hFG : ∀ b, F b → G b) : ClV G w v neg l := by
  obtain ⟨ad, c, e, hs, hb, hf⟩ := h
  exact ⟨ad, c, e, hs, hb, fun y h0 e => hFG _ (hf y h0 e)⟩
theorem cell_lt {w : World} {b off : Nat} {v : Value} (h : w.cell? ⟨b, off, none⟩ = some v) : b < w.heap.size := by
  rcases Nat.lt_or_ge b w.heap.size with h' | h'
  · exact h'
  · simp [World.cell?, Array.getElem?_eq_none h'] at h

mutual
/-- Parts stay while other blocks change. -/
theorem PtV.keep {F G : Nat → Prop} {w w' : World} (hc : Chg G w w') (hd : ∀ b, F b → ¬ G b) : ∀ (p : Pt) (v : Value), PtV F w p v → PtV F w' p v
  | .chr c, v, h => by simp only [PtV] at h ⊢; exact h
  | .any, v, h => by simp only [PtV] at h ⊢; exact h
  | .cls neg l, v, h => by simp only [PtV] at h ⊢; exact h.keep hc hd
  | .grp l, v, h => by
    simp only [PtV] at h ⊢
    obtain ⟨ad, c, b, off, e, h1, h2⟩ := h
    refine ⟨ad, c, b, off, e, h1, RowsV.keep hc hd l b off (fun h0 => (h1 h0).2) h2⟩
  | .rep a s, v, h => by
    simp only [PtV] at h ⊢
    obtain ⟨u, e, h1⟩ := h
    exact ⟨u, e, PtV.keep hc hd a u h1⟩
theorem RowV.keep {F G : Nat → Prop} {w w' : World} (hc : Chg G w w') (hd : ∀ b, F b → ¬ G b) : ∀ (l : List Pt) (b off : Nat), (l ≠ [] → F b) → RowV F w l b off → RowV F w' l b off
  | [], b, off, _, h => by simp only [RowV]
  | p :: t, b, off, hF, h => by
    simp only [RowV] at h ⊢
    obtain ⟨⟨v, h1, h2⟩, h3⟩ := h
    have hFb := hF (by simp)
    refine ⟨⟨v, ?_, PtV.keep hc hd p v h2⟩, RowV.keep hc hd t b (off + 1) (fun _ => hFb) h3⟩
    rw [show w'.cell? ⟨b, off, none⟩ = w.cell? ⟨b, off, none⟩ from World.cell?_of_block (hc.block b (cell_lt h1) (hd b hFb))]
    exact h1
theorem RowsV.keep {F G : Nat → Prop} {w w' : World} (hc : Chg G w w') (hd : ∀ b, F b → ¬ G b) : ∀ (l : List (List Pt)) (b off : Nat), (l ≠ [] → F b) → RowsV F w l b off → RowsV F w' l b off
  | [], b, off, _, h => by simp only [RowsV]
  | r :: t, b, off, hF, h => by
    simp only [RowsV] at h ⊢
    obtain ⟨⟨ad, c, b', off', h1, h2, h3⟩, h4⟩ := h
    have hFb := hF (by simp)
    refine ⟨⟨ad, c, b', off', ?_, h2, RowV.keep hc hd r b' off' (fun h0 => (h2 h0).2) h3⟩, RowsV.keep hc hd t b (off + 1) (fun _ => hFb) h4⟩
    rw [show w'.cell? ⟨b, off, none⟩ = w.cell? ⟨b, off, none⟩ from World.cell?_of_block (hc.block b (cell_lt h1) (hd b hFb))]
    exact h1
end
mutual
theorem PtV.mono {F G : Nat → Prop} {w : World} (hFG : ∀ b, F b → G b) : ∀ (p : Pt) (v : Value), PtV F w p v → PtV G w p v
  | .chr c, v, h => by simp only [PtV] at h ⊢; exact h
  | .any, v, h => by simp only [PtV] at h ⊢; exact h
  | .cls neg l, v, h => by simp only [PtV] at h ⊢; exact h.mono hFG
  | .grp l, v, h => by
    simp only [PtV] at h ⊢
    obtain ⟨ad, c, b, off, e, h1, h2⟩ := h
    exact ⟨ad, c, b, off, e, fun h0 => ⟨(h1 h0).1, hFG _ (h1 h0).2⟩, RowsV.mono hFG l b off h2⟩
  | .rep a s, v, h => by
    simp only [PtV] at h ⊢
    obtain ⟨u, e, h1⟩ := h
    exact ⟨u, e, PtV.mono hFG a u h1⟩
theorem RowV.mono {F G : Nat → Prop} {w : World} (hFG : ∀ b, F b → G b) : ∀ (l : List Pt) (b off : Nat), RowV F w l b off → RowV G w l b off
  | [], b, off, h => by simp only [RowV]
  | p :: t, b, off, h => by
    simp only [RowV] at h ⊢
    obtain ⟨⟨v, h1, h2⟩, h3⟩ := h
    exact ⟨⟨v, h1, PtV.mono hFG p v h2⟩, RowV.mono hFG t b (off + 1) h3⟩
theorem RowsV.mono {F G : Nat → Prop} {w : World} (hFG : ∀ b, F b → G b) : ∀ (l : List (List Pt)) (b off : Nat), RowsV F w l b off → RowsV G w l b off
  | [], b, off, h => by simp only [RowsV]
  | r :: t, b, off, h => by
    simp only [RowsV] at h ⊢
    obtain ⟨⟨ad, c, b', off', h1, h2, h3⟩, h4⟩ := h
    exact ⟨⟨ad, c, b', off', h1, fun h0 => ⟨(h2 h0).1, hFG _ (h2 h0).2⟩, RowV.mono hFG r b' off' h3⟩, RowsV.mono hFG t b (off + 1) h4⟩
end

end Go.Proofs.YtanlgplgplncdaaGreatDoor

/-
  Reading a pattern, purely: it goes on, and has steps enough.
-/
namespace Go.Proofs.YtanlgplgplncdaaGreatDoor
open Go
set_option linter.unusedVariables false
set_option linter.unusedSimpArgs false

theorem char_bd {S : List UInt8} {a c b : Nat} (ha : a ≤ S.length) (h : charF S a = .ok c b) : a < b ∧ b ≤ S.length := by
  unfold charF at h
  simp only at h
  generalize hb : (if decide (S[a]? = some 92) = true then a + 1 else a) = b0 at h
  have h0 : a ≤ b0 ∧ b0 ≤ S.length := by
    rw [← hb]
    split
    · rename_i hd
      exact ⟨by omega, (List.getElem?_eq_some_iff.1 (of_decide_eq_true hd)).1⟩
    · exact ⟨Nat.le_refl _, ha⟩
  split at h
  · cases h
  · rename_i c' k hf
    split at h
    · injection h with e1 e2
      have := fp_len hf
      rw [List.length_drop] at this
      omega
    · cases h
theorem char_no (S : List UInt8) (a : Nat) : charF S a ≠ .out := by
  unfold charF
  simp only
  split
  · simp
  · split <;> simp
theorem span_bd {S : List UInt8} {a : Nat} {x : Nat × Nat} {b : Nat} (ha : a ≤ S.length) (h : spanF S a = .ok x b) : a < b ∧ b ≤ S.length := by
  unfold spanF at h
  cases h1 : charF S a with
  | bad k => rw [h1] at h; cases h
  | out => rw [h1] at h; cases h
  | ok lo b1 =>
    have k1 := char_bd ha h1
    rw [h1] at h
    simp only at h
    split at h
    · rename_i h45
      have hl := (List.getElem?_eq_some_iff.1 h45).1
      cases h2 : charF S (b1 + 1) with
      | bad k => rw [h2] at h; cases h
      | out => rw [h2] at h; cases h
      | ok hi b2 =>
        have k2 := char_bd (by omega) h2
        rw [h2] at h
        simp only at h
        split at h
        · cases h
        · injection h with e1 e2; omega
    · injection h with e1 e2; omega
theorem span_no (S : List UInt8) (a : Nat) : spanF S a ≠ .out := by
  unfold spanF
  cases h1 : charF S a with
  | bad k => simp
  | out => exact absurd h1 (char_no S a)
  | ok lo b1 =>
    simp only
    split
    · cases h2 : charF S (b1 + 1) with
      | bad k => simp
      | out => exact absurd h2 (char_no S _)
      | ok hi b2 => simp only; split <;> simp
    · simp
theorem cls_bd {S : List UInt8} : ∀ (f a : Nat) (acc : Sn), a ≤ S.length → (∀ l b, clsF S f a acc = .ok l b → a < b ∧ b ≤ S.length) ∧ (S.length + 1 ≤ f + a → clsF S f a acc ≠ .out)
  | 0, a, acc, ha => ⟨(fun l b h => by rw [clsF] at h; cases h), fun h => by omega⟩
  | f + 1, a, acc, ha => by
    rw [clsF]
    by_cases h93 : acc ≠ [] ∧ S[a]? = some 93
    · rw [if_pos h93]
      refine ⟨fun l b h => ?_, fun _ => by simp⟩
      injection h with e1 e2
      have := (List.getElem?_eq_some_iff.1 h93.2).1
      omega
    · rw [if_neg h93]
      cases h1 : spanF S a with
      | bad k => exact ⟨(fun l b h => by cases h), fun _ => by simp⟩
      | out => exact absurd h1 (span_no S a)
      | ok x b1 =>
        have k1 := span_bd ha h1
        simp only
        obtain ⟨m1, m2⟩ := cls_bd f b1 (withS acc x) k1.2
        exact ⟨fun l b h => by have := m1 l b h; omega, fun h => m2 (by omega)⟩

theorem read_bd (S : List UInt8) : ∀ (f d a : Nat), a ≤ S.length →
    ((∀ l b, rowsF S f d a = .ok l b → a ≤ b ∧ b ≤ S.length) ∧ (4 * (S.length - a) + 4 ≤ f → rowsF S f d a ≠ .out)) ∧
    ((∀ l b, rowF S f d a = .ok l b → a ≤ b ∧ b ≤ S.length) ∧ (4 * (S.length - a) + 3 ≤ f → rowF S f d a ≠ .out)) ∧
    ((∀ l b, itemF S f d a = .ok l b → a < b ∧ b ≤ S.length) ∧ (4 * (S.length - a) + 2 ≤ f → itemF S f d a ≠ .out)) ∧
    ((∀ l b, atomF S f d a = .ok l b → a < b ∧ b ≤ S.length) ∧ (4 * (S.length - a) + 1 ≤ f → atomF S f d a ≠ .out))
  | 0, d, a, ha => by
    refine ⟨⟨fun l b h => ?_, fun h => by omega⟩, ⟨fun l b h => ?_, fun h => by omega⟩, ⟨fun l b h => ?_, fun h => by omega⟩, ⟨fun l b h => ?_, fun h => by omega⟩⟩
    · rw [rowsF] at h; cases h
    · rw [rowF] at h; cases h
    · rw [itemF] at h; cases h
    · rw [atomF] at h; cases h
  | f + 1, d, a, ha => by
    have ih := read_bd S f
    obtain ⟨_, ⟨r1, r2⟩, ⟨i1, i2⟩, ⟨t1, t2⟩⟩ := ih d a ha
    refine ⟨?_, ?_, ?_, ?_⟩
    · rw [rowsF]
      cases h1 : rowF S f d a with
      | bad k => exact ⟨(fun l b h => by cases h), fun _ => by simp⟩
      | out => exact ⟨(fun l b h => by cases h), fun h => absurd h1 (r2 (by omega))⟩
      | ok r b1 =>
        have k1 := r1 r b1 h1
        simp only
        by_cases h124 : S[b1]? = some 124
        · rw [if_pos h124]
          have hl := (List.getElem?_eq_some_iff.1 h124).1
          obtain ⟨⟨q1, q2⟩, _⟩ := ih d (b1 + 1) hl
          cases h2 : rowsF S f d (b1 + 1) with
          | bad k => exact ⟨(fun l b h => by cases h), fun _ => by simp⟩
          | out => exact ⟨(fun l b h => by cases h), fun h => absurd h2 (q2 (by omega))⟩
          | ok t b2 =>
            have k2 := q1 t b2 h2
            simp only
            exact ⟨fun l b h => by injection h with e1 e2; omega, fun _ => by simp⟩
        · rw [if_neg h124]
          exact ⟨fun l b h => by injection h with e1 e2; omega, fun _ => by simp⟩
    · rw [rowF]
      by_cases hst : S[a]? = none ∨ S[a]? = some 124 ∨ S[a]? = some 41
      · rw [if_pos hst]
        exact ⟨fun l b h => by injection h with e1 e2; omega, fun _ => by simp⟩
      · rw [if_neg hst]
        cases h1 : itemF S f d a with
        | bad k => exact ⟨(fun l b h => by cases h), fun _ => by simp⟩
        | out => exact ⟨(fun l b h => by cases h), fun h => absurd h1 (i2 (by omega))⟩
        | ok p b1 =>
          have k1 := i1 p b1 h1
          simp only
          obtain ⟨_, ⟨q1, q2⟩, _⟩ := ih d b1 k1.2
          cases h2 : rowF S f d b1 with
          | bad k => exact ⟨(fun l b h => by cases h), fun _ => by simp⟩
          | out => exact ⟨(fun l b h => by cases h), fun h => absurd h2 (q2 (by omega))⟩
          | ok t b2 =>
            have k2 := q1 t b2 h2
            simp only
            exact ⟨fun l b h => by injection h with e1 e2; omega, fun _ => by simp⟩
    · rw [itemF]
      cases h1 : atomF S f d a with
      | bad k => exact ⟨(fun l b h => by cases h), fun _ => by simp⟩
      | out => exact ⟨(fun l b h => by cases h), fun h => absurd h1 (t2 (by omega))⟩
      | ok p b1 =>
        have k1 := t1 p b1 h1
        simp only
        by_cases h42 : S[b1]? = some 42
        · rw [if_pos h42]
          have hl := (List.getElem?_eq_some_iff.1 h42).1
          exact ⟨fun l b h => by injection h with e1 e2; omega, fun _ => by simp⟩
        · rw [if_neg h42]
          by_cases h43 : S[b1]? = some 43
          · rw [if_pos h43]
            have hl := (List.getElem?_eq_some_iff.1 h43).1
            exact ⟨fun l b h => by injection h with e1 e2; omega, fun _ => by simp⟩
          · rw [if_neg h43]
            by_cases h63 : S[b1]? = some 63
            · rw [if_pos h63]
              have hl := (List.getElem?_eq_some_iff.1 h63).1
              exact ⟨fun l b h => by injection h with e1 e2; omega, fun _ => by simp⟩
            · rw [if_neg h63]
              exact ⟨fun l b h => by injection h with e1 e2; omega, fun _ => by simp⟩
    · rw [atomF]
      by_cases h46 : S[a]? = some 46
      · rw [if_pos h46]
        have hl := (List.getElem?_eq_some_iff.1 h46).1
        exact ⟨fun l b h => by injection h with e1 e2; omega, fun _ => by simp⟩
      · rw [if_neg h46]
        by_cases h91 : S[a]? = some 91
        · rw [if_pos h91]
          have hl := (List.getElem?_eq_some_iff.1 h91).1
          have hle : (if S[a + 1]? = some 94 then a + 2 else a + 1) ≤ S.length ∧ a < (if S[a + 1]? = some 94 then a + 2 else a + 1) := by
            split
            · rename_i h94; have := (List.getElem?_eq_some_iff.1 h94).1; omega
            · omega
          obtain ⟨m1, m2⟩ := cls_bd (S := S) (S.length + 2) (if S[a + 1]? = some 94 then a + 2 else a + 1) [] hle.1
          cases h2 : clsF S (S.length + 2) (if S[a + 1]? = some 94 then a + 2 else a + 1) [] with
          | bad k => exact ⟨(fun l b h => by cases h), fun _ => by simp⟩
          | out => exact absurd h2 (m2 (by omega))
          | ok t b2 =>
            have k2 := m1 t b2 h2
            simp only
            exact ⟨fun l b h => by injection h with e1 e2; omega, fun _ => by simp⟩
        · rw [if_neg h91]
          by_cases h40 : d < 16 ∧ S[a]? = some 40
          · rw [if_pos h40]
            have hl := (List.getElem?_eq_some_iff.1 h40.2).1
            obtain ⟨⟨q1, q2⟩, _⟩ := ih (d + 1) (a + 1) hl
            cases h2 : rowsF S f (d + 1) (a + 1) with
            | bad k => exact ⟨(fun l b h => by cases h), fun _ => by simp⟩
            | out => exact ⟨(fun l b h => by cases h), fun h => absurd h2 (q2 (by omega))⟩
            | ok t b2 =>
              have k2 := q1 t b2 h2
              simp only
              by_cases h41 : S[b2]? = some 41
              · rw [if_pos h41]
                have hl2 := (List.getElem?_eq_some_iff.1 h41).1
                exact ⟨fun l b h => by injection h with e1 e2; omega, fun _ => by simp⟩
              · rw [if_neg h41]
                exact ⟨(fun l b h => by cases h), fun _ => by simp⟩
          · rw [if_neg h40]
            cases h2 : charF S a with
            | bad k => exact ⟨(fun l b h => by cases h), fun _ => by simp⟩
            | out => exact absurd h2 (char_no S a)
            | ok c b2 =>
              have k2 := char_bd ha h2
              simp only
              exact ⟨fun l b h => by injection h with e1 e2; omega, fun _ => by simp⟩

end Go.Proofs.YtanlgplgplncdaaGreatDoor
