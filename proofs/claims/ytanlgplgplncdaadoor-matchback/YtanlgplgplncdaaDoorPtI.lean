import Derived.Test.YtanlgplgplncdaaDoorPtH
/-
  The reader: class.
-/
namespace Go.Proofs.YtanlgplgplncdaaDoor
open Go.RowKit
set_option linter.unusedVariables false
set_option linter.unusedSimpArgs false

theorem withF_len : ∀ (l : Sn) (x : Nat × Nat) (ah be : Sn), (withF l x ah be).length ≤ l.length + ah.length + be.length + 1
  | [], x, ah, be => by simp [withF]; omega
  | o :: t, x, ah, be => by
    rw [withF]
    split
    · have := withF_len t x (ah ++ [o]) be; simp at this ⊢; omega
    · split
      · have := withF_len t x ah (be ++ [o]); simp at this ⊢; omega
      · have := withF_len t (min o.1 x.1, max o.2 x.2) ah be; simp at this ⊢; omega
theorem withS_len (l : Sn) (x : Nat × Nat) : (withS l x).length ≤ l.length + 1 := by
  have := withF_len l x [] []
  simpa [withS] using this
def rdAt (r : Nat) (w : World) : Nat := ((w.cell? ⟨r, 1, none⟩).map (fun v => (intOf v).toNat)).getD 0
theorem Rd.at' {w : World} {r : Nat} {s : ByteArray} {a d : Nat} (h : Rd w r s a d) : rdAt r w = a := by
  have c1 : w.cell? ⟨r, 1, none⟩ = some (.int .i64 (a : Int)) := h.cell 1
  rw [rdAt, c1]
  simp [intOf]
theorem span_pos {S : List UInt8} {a : Nat} {x : Nat × Nat} {b : Nat} (h : spanF S a = .ok x b) : a < b := by
  unfold spanF at h
  have key : ∀ {a c b : Nat}, charF S a = .ok c b → a < b := fun {a c b} h => by
    unfold charF at h
    simp only at h
    split at h
    · cases h
    · rename_i c' k hf
      split at h
      · injection h with e1 e2
        have := (fp_len hf).1
        subst e2
        by_cases hd : decide (S[a]? = some 92) = true
        · rw [if_pos hd]; omega
        · rw [if_neg hd]; omega
      · cases h
  cases h1 : charF S a with
  | bad k => rw [h1] at h; cases h
  | out => rw [h1] at h; cases h
  | ok lo b1 =>
    have k1 := key h1
    rw [h1] at h
    simp only at h
    split at h
    · cases h2 : charF S (b1 + 1) with
      | bad k => rw [h2] at h; cases h
      | out => rw [h2] at h; cases h
      | ok hi b2 =>
        have k2 := key h2
        rw [h2] at h
        simp only at h
        split at h
        · cases h
        · injection h with e1 e2; omega
    · injection h with e1 e2; omega

/-- What class answers. -/
def ClR (S : List UInt8) (a : Nat) (neg : Bool) (l : Sn) (b : Nat) (ok : Bool) : Prop := a ≤ b ∧ b ≤ S.length ∧ neg = decide (S[a]? = some 94) ∧ (ok = true → clsF S (S.length + 2) (tkN S a 94) [] = .ok l b) ∧ (ok = false → clsF S (S.length + 2) (tkN S a 94) [] = .bad b)
/-- A class, as a value: its spans lie in blocks of F. -/
def ClV (F : Nat → Prop) (w : World) (v : Value) (neg : Bool) (l : Sn) : Prop := ∃ ad c, v = .iface 162 (.agg #[.bool neg, .slice ad l.length c]) ∧ Ss w ad l ∧ Bd l ∧ ∀ y, l ≠ [] → ad = some y → F y.block

/-- What is held in a round of class. -/
structure CI (w wx : World) (r g : Nat) (s : ByteArray) (d i : Nat) (neg : Bool) (ad : Option Addr) (c n : Nat) (acc : Sn) : Prop where
  rd : Rd wx r s i d
  blk : Blk wx g 162 [.bool neg, .slice ad n c]
  len : acc.length = n
  ss : Ss wx ad acc
  bd : Bd acc
  le : i ≤ (bts s).length
  ni : n ≤ i
  ch : Chg (fun k => k = r) w wx
  own : ∀ y, acc ≠ [] → ad = some y → w.heap.size ≤ y.block ∧ y.block ≠ g
theorem CI.moved {w wx w' : World} {r g : Nat} {s : ByteArray} {d i j : Nat} {neg : Bool} {ad : Option Addr} {c n : Nat} {acc : Sn} (h : CI w wx r g s d i neg ad c n acc) (hr : r < w.heap.size) (hg : w.heap.size ≤ g) (hrd : Rd w' r s j d) (hc : Chg (fun k => k = r) wx w') (hj : j ≤ (bts s).length) (hij : i ≤ j) : CI w w' r g s d j neg ad c n acc := by
  refine ⟨hrd, hc.blk h.blk (fun e => by have e' : g = r := e; omega), h.len, ⟨h.ss.sz, fun h0 => ?_⟩, h.bd, hj, by have := h.ni; omega, h.ch.trans hc (fun _ _ e => e), h.own⟩
  obtain ⟨b, off, e, hb, hcell⟩ := h.ss.at' h0
  have ho := (h.own _ h0 e).1
  have hbk := hc.block b hb (fun e' => by have e'' : b = r := e'; simp only at ho; omega)
  refine ⟨b, off, e, Nat.lt_of_lt_of_le hb hc.size, fun k x hx => ?_⟩
  rw [show w'.cell? ⟨b, off + k * 2, none⟩ = wx.cell? ⟨b, off + k * 2, none⟩ from World.cell?_of_block hbk, show w'.cell? ⟨b, off + k * 2 + 1, none⟩ = wx.cell? ⟨b, off + k * 2 + 1, none⟩ from World.cell?_of_block hbk]
  exact hcell k x hx

theorem CI.next {w w5 w6 : World} {r g : Nat} {s : ByteArray} {d i : Nat} {neg : Bool} {ad a' : Option Addr} {c n c' n' : Nat} {acc l' : Sn} {ob : Obj} (h : CI w w5 r g s d i neg ad c n acc) (hr : r < w.heap.size) (hg : w.heap.size ≤ g) (hb : Below (w5.alloc ob).heap.size (w5.alloc ob) w6)
    (ho : w6.ownsRow (w5.alloc ob).heap.size 157 2 (.slice a' n' c') n' (cS l')) (hbd : Bd l') (hl : l'.length = n') (hn : n' ≤ i) : CI w (w6.setCell ⟨g, 1, none⟩ (.slice a' n' c')) r g s d i neg a' c' n' l' := by
  have hal : Below w5.heap.size w5 w6 := ((Below.refl _ _).alloc (Nat.le_refl _) ob).trans (hb.mono (by simp))
  have hgl := h.blk.lt
  have hcs : Chg (fun k => k = g) w6 (w6.setCell ⟨g, 1, none⟩ (.slice a' n' c')) := Chg.set ⟨g, 1, none⟩ _ _
  have hbase : ∀ b, (Value.slice a' n' c').ownBlock = some b → w5.heap.size + 1 ≤ b := fun b hb' => by have := (ho.lt b hb').1; simpa using this
  have hoS : (w6.setCell ⟨g, 1, none⟩ (.slice a' n' c')).ownsRow (w5.alloc ob).heap.size 157 2 (.slice a' n' c') n' (cS l') := hcs.owns ho (fun b hb' e => by have := hbase b hb'; have e' : b = g := e; omega)
  refine ⟨hcs.blk (h.rd.later hal) (fun e => by have e' : r = g := e; omega), (h.blk.later hal).set 1 _, hl, ss_of_owns hoS hbd, hbd, h.le, hn, (h.ch.trans (Chg.of_below (F := fun _ => False) hal) (fun _ _ e => e.elim)).trans hcs (fun k hk e => by have e' : k = g := e; omega), fun y h0 e => ?_⟩
  subst e
  obtain ⟨a2, c2, e2, _, hsp, _⟩ := owns_formS ho
  injection e2 with e3 _ _
  obtain ⟨z0, z1⟩ := hsp y e3.symm
  obtain ⟨b, off, sp⟩ := y
  simp only at z0 z1
  subst z0 z1
  have := hbase b (by simp [Value.ownBlock])
  have hs5 := h.ch.size
  simp only
  omega

end Go.Proofs.YtanlgplgplncdaaDoor

/-
  The reader: class (the walk).
-/
namespace Go.Proofs.YtanlgplgplncdaaDoor
open Go.RowKit
set_option linter.unusedVariables false
set_option linter.unusedSimpArgs false

set_option maxRecDepth 100000 in
set_option maxHeartbeats 8000000 in
theorem classP (r : Nat) (s : ByteArray) (a d : Nat) (w : World) (h : Rd w r s a d) (ha : a ≤ s.size) (hs : s.size ≤ 64) :
    Calls Tryd.prog 74 #[.pointer (some ⟨r, 0, none⟩)] w fun e w' => ∃ v neg l b ok, e = .returned (.tuple #[v, .bool ok]) ∧ ClR (bts s) a neg l b ok ∧ Rd w' r s b d ∧ Chg (fun i => i = r) w w' ∧ (ok = true → ClV (fun b => w.heap.size ≤ b) w' v neg l) ∧ (ok = false → v = .nilIface) := by
  have hs2 : s.size ≤ 140737488355328 := by omega
  have hrw : r < w.heap.size := Blk.lt h
  have kT := takeP r s a d 94 w h ha hs2
  obtain ⟨neg, hneg⟩ : ∃ neg, decide ((bts s)[a]? = some 94) = neg := ⟨_, rfl⟩
  obtain ⟨a1, ha1⟩ : ∃ a1, tkN (bts s) a 94 = a1 := ⟨_, rfl⟩
  have hl1 : a ≤ a1 ∧ a1 ≤ (bts s).length := by
    rw [← ha1]
    unfold tkN
    split
    · rename_i h94; exact ⟨by omega, (List.getElem?_eq_some_iff.1 h94).1⟩
    · exact ⟨Nat.le_refl _, by rw [← size_bts]; exact ha⟩
  rw [hneg, ha1] at kT
  have kT' : Calls Tryd.prog 54 #[.pointer (some ⟨r, 0, none⟩), .int .u8 94] w fun e w' => e = .returned (.bool neg) ∧ Rd w' r s a1 d ∧ Chg (fun i => i = r) w w' := kT
  obtain ⟨RES, hRES⟩ : ∃ RES, clsF (bts s) ((bts s).length + 2) a1 [] = RES := ⟨_, rfl⟩
  have HOK : Hid (∀ l b, b ≤ (bts s).length → a ≤ b → RES = .ok l b → ClR (bts s) a neg l b true) := hidden (fun l b h1 h2 h3 => ⟨h2, h1, hneg.symm, (fun _ => by rw [ha1, hRES, h3]), fun h => by cases h⟩)
  have HBAD : Hid (∀ l b, b ≤ (bts s).length → a ≤ b → RES = .bad b → ClR (bts s) a neg l b false) := hidden (fun l b h1 h2 h3 => ⟨h2, h1, hneg.symm, (fun h => by cases h), fun _ => by rw [ha1, hRES, h3]⟩)
  have HRES := hidden hRES
  have hsl : (bts s).length ≤ 64 := by rw [← size_bts]; exact hs
  have HSB := hidden (size_bts s)
  clear kT hneg ha1 h hRES
  go_enter Tryd.func74, Tryd.ntmps74
  go_wp2_with (go_at_call 54; refine kT'.mono ?_; rintro e w1 ⟨rfl, h1, hc1⟩; clear kT')
  have hal : Below w1.heap.size w1 (w1.alloc (.cells #[.bool neg, .slice none 0 0] 162)) := (Below.refl _ _).alloc (Nat.le_refl _) _
  have C0 : Hid (CI w (w1.alloc (.cells #[.bool neg, .slice none 0 0] 162)) r w1.heap.size s d a1 neg none 0 0 []) := hidden ⟨h1.later hal, Blk.new w1 162 _, rfl, Ss.nil _ _, (fun y hy => by cases hy), hl1.2, Nat.zero_le _, hc1.trans (Chg.of_below (F := fun _ => False) hal) (fun _ _ e => e.elim), fun y h0 => absurd rfl h0⟩
  have HG : Hid (w.heap.size ≤ w1.heap.size) := hidden hc1.size
  clear h1 hc1 hal
  go_loopw [] (fun wx => ∃ (i n c f : Nat) (ad : Option Addr) (acc : Sn), a1 ≤ i ∧ i ≤ 64 ∧ (bts s).length + 2 ≤ f + i ∧ Hid (clsF (bts s) f i acc = RES) ∧ Hid (CI w wx r w1.heap.size s d i neg ad c n acc)) (fun wx => s.size - rdAt r wx)
  case atStart => exact ⟨a1, 0, 0, (bts s).length + 2, none, [], by omega, by have := hl1.2; omega, by omega, HRES, C0⟩
  case round =>
    rename World => wr
    obtain ⟨i, n, c, f, ad, acc, hi1, hi64, hf, hrel, hC⟩ := hrel
    clear C0 HRES
    have hile := hC.out.le
    obtain ⟨f', rfl⟩ : ∃ f', f = f' + 1 := ⟨f - 1, by omega⟩
    have HST : Hid (clsF (bts s) (f' + 1) i acc = if acc ≠ [] ∧ (bts s)[i]? = some 93 then .ok acc (i + 1) else
      match spanF (bts s) i with
      | .ok x b => clsF (bts s) f' b (withS acc x)
      | .bad k => .bad k
      | .out => .out) := hidden (by
      rw [clsF]
      split
      · rfl
      · cases spanF (bts s) i <;> rfl)
    have g1 : wr.cell? ⟨w1.heap.size, 1, none⟩ = some (.slice ad n c) := hC.out.blk.cell 1
    have hn0 : Hid (n = 0 ↔ acc = []) := hidden (by rw [← hC.out.len]; exact List.length_eq_zero_iff)
    have his : i ≤ s.size := by rw [HSB.out]; exact hile
    -- what follows where a span is read
    have go1 : Hid (∀ wx, CI w wx r w1.heap.size s d i neg ad c n acc → ¬ (acc ≠ [] ∧ (bts s)[i]? = some 93) → Calls Tryd.prog 77 #[.pointer (some ⟨r, 0, none⟩)] wx fun e w' => ∃ (lo hi b : Nat) (ok : Bool), e = .returned (.tuple #[.agg #[.int .i32 ((lo : Nat) : Int), .int .i32 ((hi : Nat) : Int)], .bool ok]) ∧ CI w w' r w1.heap.size s d b neg ad c n acc ∧ i ≤ b ∧ b ≤ (bts s).length ∧ (ok = true → i < b ∧ lo ≤ 1114111 ∧ hi ≤ 1114111 ∧ clsF (bts s) f' b (withS acc (lo, hi)) = RES) ∧ (ok = false → RES = .bad b)) := hidden (fun wx hCx hno => by
      refine (spanP r s i d wx hCx.rd his hs2).mono ?_
      rintro e w' ⟨lo, hi, b, ok, rfl, hsp, hrd, hch⟩
      refine ⟨lo, hi, b, ok, rfl, hCx.moved hrw HG.out hrd hch hsp.2.1 hsp.1, hsp.1, hsp.2.1, fun hok => ?_, fun hok => ?_⟩
      · obtain ⟨k1, k2, k3⟩ := hsp.2.2.1 hok
        refine ⟨span_pos k1, by omega, k3, ?_⟩
        rw [← hrel.out, HST.out, if_neg hno, k1]
      · rw [← hrel.out, HST.out, if_neg hno, hsp.2.2.2 hok])
    have hext : Hid (acc ≠ [] ∧ (bts s)[i]? = some 93 → RES = .ok acc (i + 1) ∧ i + 1 ≤ (bts s).length) := hidden (fun hy => ⟨by rw [← hrel.out, HST.out, if_pos hy], (List.getElem?_eq_some_iff.1 hy.2).1⟩)
    clear hrel HST
    by_cases h0 : n = 0
    · have h0z : ((n : Int) == 0) = true := by simp [h0]
      have hno : ¬ (acc ≠ [] ∧ (bts s)[i]? = some 93) := fun hy => hy.1 (hn0.out.1 h0)
      have CX := hC
      have H0 := hidden h0
      clear h0
      have k5 := go1.out _ CX.out hno
      clear go1 hext
      go_upto_region 4 with (go_at_call 77; refine k5.mono ?_; rintro e w5 ⟨lo, hi, b, ok, rfl, hC5, hib, hbl, hyes, hbad⟩; clear k5)
      have C5 := hidden hC5
      have hal5 : Below w5.heap.size w5 (w5.alloc (.cells #[.int .i32 (lo : Int), .int .i32 (hi : Int)] 157)) := (Below.refl _ _).alloc (Nat.le_refl _) _
      cases ok with
      | false =>
        have HB := hidden (HBAD.out [] b hbl (by omega) (hbad rfl))
        have HRD := hidden (show Rd (w5.alloc (.cells #[.int .i32 (lo : Int), .int .i32 (hi : Int)] 157)) r s b d from hC5.rd.later hal5)
        have HCH := hidden (hC5.ch.trans (Chg.of_below (F := fun _ => False) hal5) (fun _ _ e => e.elim))
        clear hC5 hyes hbad hal5
        go_wp2
        go_ret2
        first
          | exact ⟨_, neg, [], b, false, rfl, HB.out, HRD.out, HCH.out, (fun h => by cases h), fun _ => rfl⟩
          | exact ⟨_, neg, [], b, Or.inl ⟨rfl, HB.out, HRD.out, HCH.out, (fun h => by cases h), fun _ => rfl⟩⟩
      | true =>
        obtain ⟨hlt, hlo, hhi, hcl⟩ := hyes rfl
        have HCL := hidden hcl
        have B5 := hC5.blk.later hal5
        have p1 : (w5.alloc (.cells #[.int .i32 (lo : Int), .int .i32 (hi : Int)] 157)).cell? ⟨w1.heap.size, 1, none⟩ = some (.slice ad n c) := B5.cell 1
        have N5 := Blk.new w5 157 [.int .i32 (lo : Int), .int .i32 (hi : Int)]
        have e0 : (w5.alloc (.cells #[.int .i32 (lo : Int), .int .i32 (hi : Int)] 157)).cell? ⟨w5.heap.size, 0, none⟩ = some (.int .i32 (lo : Int)) := N5.cell 0
        have e1 : (w5.alloc (.cells #[.int .i32 (lo : Int), .int .i32 (hi : Int)] 157)).cell? ⟨w5.heap.size, 1, none⟩ = some (.int .i32 (hi : Int)) := N5.cell 1
        have kW := withP ad c acc (lo, hi) (w5.alloc (.cells #[.int .i32 (lo : Int), .int .i32 (hi : Int)] 157)) (hC5.ss.later hal5) (by rw [hC5.len]; have := hC5.ni; omega) ⟨hlo, hhi⟩
        rw [hC5.len] at kW
        obtain ⟨n', hn'⟩ : ∃ n', (withS acc (lo, hi)).length = n' := ⟨_, rfl⟩
        have hwl := withS_len acc (lo, hi)
        rw [hn', hC5.len] at hwl
        rw [hn'] at kW
        have hni := hC5.ni
        have hni2 : n ≤ i := CX.out.ni
        have HN' := hidden hn'
        have BL5 := hidden B5
        clear hC5 hyes hbad hcl hn' B5 N5 hni
        go_wp2_with (go_at_call 78; refine kW.mono ?_; rintro e w6 ⟨a6, c6, rfl, ho6, hbd6, hb6⟩; have q1 : w6.cell? ⟨w1.heap.size, 1, none⟩ = some (.slice ad n c) := (BL5.out.later hb6).cell 1; have qf := (BL5.out.later hb6).frozen 1; clear kW)
        have C7 := hidden (C5.out.next hrw HG.out hb6 ho6 hbd6 HN'.out (by omega))
        refine ⟨⟨b, n', c6, f', a6, withS acc (lo, hi), by omega, by omega, by omega, HCL, C7⟩, ?_⟩
        rw [C7.out.rd.at', hC.out.rd.at', HSB.out]
        omega
    · have h0z : ((n : Int) == 0) = false := by simp [h0]
      have kC := takeP r s i d 93 wr hC.out.rd his hs2
      by_cases h93 : (bts s)[i]? = some 93
      · rw [decide_eq_true h93, tkN, if_pos h93] at kC
        have kC' : Calls Tryd.prog 54 #[.pointer (some ⟨r, 0, none⟩), .int .u8 93] wr fun e w' => e = .returned (.bool true) ∧ Rd w' r s (i + 1) d ∧ Chg (fun i => i = r) wr w' := kC
        obtain ⟨x1, x2⟩ := hext.out ⟨fun e => h0 (hn0.out.2 e), h93⟩
        have HB := hidden (HOK.out acc (i + 1) x2 (by omega) x1)
        have HX2 := hidden x2
        clear kC h93 x1 x2 hext go1 hn0
        go_wp2_with (go_at_call 54; refine kC'.mono ?_; rintro e w3 ⟨rfl, h3, hc3⟩; have C3 := hidden (hC.out.moved hrw HG.out h3 hc3 HX2.out (Nat.le_succ i)); have q0 : w3.cell? ⟨w1.heap.size, 0, none⟩ = some (.bool neg) := C3.out.blk.cell 0; have q1 : w3.cell? ⟨w1.heap.size, 1, none⟩ = some (.slice ad n c) := C3.out.blk.cell 1; clear kC' h3 hc3)
        go_ret2
        have HV : ClV (fun b => w.heap.size ≤ b) w3 (.iface 162 (.agg #[.bool neg, .slice ad n c])) neg acc := ⟨ad, c, by rw [C3.out.len], C3.out.ss, C3.out.bd, fun y h0 e => (C3.out.own y h0 e).1⟩
        first
          | exact ⟨_, neg, acc, i + 1, true, rfl, HB.out, C3.out.rd, C3.out.ch, fun _ => HV, fun h => by cases h⟩
          | exact ⟨_, neg, acc, i + 1, Or.inr ⟨rfl, HB.out, C3.out.rd, C3.out.ch, fun _ => HV, fun h => by cases h⟩⟩
      · rw [decide_eq_false h93, tkN, if_neg h93] at kC
        have kC' : Calls Tryd.prog 54 #[.pointer (some ⟨r, 0, none⟩), .int .u8 93] wr fun e w' => e = .returned (.bool false) ∧ Rd w' r s i d ∧ Chg (fun i => i = r) wr w' := kC
        have hno : ¬ (acc ≠ [] ∧ (bts s)[i]? = some 93) := fun hy => h93 hy.2
        clear kC h93
        go_wp2_with (go_at_call 54; refine kC'.mono ?_; rintro e w3 ⟨rfl, h3, hc3⟩; clear kC')
        have CX := hidden (hC.out.moved hrw HG.out h3 hc3 hile (Nat.le_refl i))
        clear h3 hc3
        have k5 := go1.out _ CX.out hno
        clear go1 hext
        go_upto_region 4 with (go_at_call 77; refine k5.mono ?_; rintro e w5 ⟨lo, hi, b, ok, rfl, hC5, hib, hbl, hyes, hbad⟩; clear k5)
        have C5 := hidden hC5
        have hal5 : Below w5.heap.size w5 (w5.alloc (.cells #[.int .i32 (lo : Int), .int .i32 (hi : Int)] 157)) := (Below.refl _ _).alloc (Nat.le_refl _) _
        cases ok with
        | false =>
          have HB := hidden (HBAD.out [] b hbl (by omega) (hbad rfl))
          have HRD := hidden (show Rd (w5.alloc (.cells #[.int .i32 (lo : Int), .int .i32 (hi : Int)] 157)) r s b d from hC5.rd.later hal5)
          have HCH := hidden (hC5.ch.trans (Chg.of_below (F := fun _ => False) hal5) (fun _ _ e => e.elim))
          clear hC5 hyes hbad hal5
          go_wp2
          go_ret2
          first
            | exact ⟨_, neg, [], b, false, rfl, HB.out, HRD.out, HCH.out, (fun h => by cases h), fun _ => rfl⟩
            | exact ⟨_, neg, [], b, Or.inl ⟨rfl, HB.out, HRD.out, HCH.out, (fun h => by cases h), fun _ => rfl⟩⟩
        | true =>
          obtain ⟨hlt, hlo, hhi, hcl⟩ := hyes rfl
          have HCL := hidden hcl
          have B5 := hC5.blk.later hal5
          have p1 : (w5.alloc (.cells #[.int .i32 (lo : Int), .int .i32 (hi : Int)] 157)).cell? ⟨w1.heap.size, 1, none⟩ = some (.slice ad n c) := B5.cell 1
          have N5 := Blk.new w5 157 [.int .i32 (lo : Int), .int .i32 (hi : Int)]
          have e0 : (w5.alloc (.cells #[.int .i32 (lo : Int), .int .i32 (hi : Int)] 157)).cell? ⟨w5.heap.size, 0, none⟩ = some (.int .i32 (lo : Int)) := N5.cell 0
          have e1 : (w5.alloc (.cells #[.int .i32 (lo : Int), .int .i32 (hi : Int)] 157)).cell? ⟨w5.heap.size, 1, none⟩ = some (.int .i32 (hi : Int)) := N5.cell 1
          have kW := withP ad c acc (lo, hi) (w5.alloc (.cells #[.int .i32 (lo : Int), .int .i32 (hi : Int)] 157)) (hC5.ss.later hal5) (by rw [hC5.len]; have := hC5.ni; omega) ⟨hlo, hhi⟩
          rw [hC5.len] at kW
          obtain ⟨n', hn'⟩ : ∃ n', (withS acc (lo, hi)).length = n' := ⟨_, rfl⟩
          have hwl := withS_len acc (lo, hi)
          rw [hn', hC5.len] at hwl
          rw [hn'] at kW
          have hni := hC5.ni
          have hni2 : n ≤ i := CX.out.ni
          have HN' := hidden hn'
          have BL5 := hidden B5
          clear hC5 hyes hbad hcl hn' B5 N5 hni
          go_wp2_with (go_at_call 78; refine kW.mono ?_; rintro e w6 ⟨a6, c6, rfl, ho6, hbd6, hb6⟩; have q1 : w6.cell? ⟨w1.heap.size, 1, none⟩ = some (.slice ad n c) := (BL5.out.later hb6).cell 1; have qf := (BL5.out.later hb6).frozen 1; clear kW)
          have C7 := hidden (C5.out.next hrw HG.out hb6 ho6 hbd6 HN'.out (by omega))
          refine ⟨⟨b, n', c6, f', a6, withS acc (lo, hi), by omega, by omega, by omega, HCL, C7⟩, ?_⟩
          rw [C7.out.rd.at', hC.out.rd.at', HSB.out]
          omega

end Go.Proofs.YtanlgplgplncdaaDoor
