/-
  The reader: atom.
-/
import Derived.Test.YtanlgplgplncdaaDoorPtT
namespace Go.Proofs.YtanlgplgplncdaaDoor
open Go.RowKit
set_option linter.unusedVariables false
set_option linter.unusedSimpArgs false

theorem ClV.up {B : Nat} {w : World} {v : Value} {neg : Bool} {l : Sn} (h : ClV (fun b => B ≤ b) w v neg l) : ClV (fun b => B ≤ b ∧ b < w.heap.size) w v neg l := by
  obtain ⟨ad, c, e, hs, hb, hf⟩ := h
  refine ⟨ad, c, e, hs, hb, fun y h0 e => ⟨hf y h0 e, ?_⟩⟩
  obtain ⟨b, off, e1, hlt, _⟩ := hs.at' h0
  rw [e1] at e
  injection e with e
  subst e
  exact hlt
theorem ClV.form {F : Nat → Prop} {w : World} {v : Value} {neg : Bool} {l : Sn} (h : ClV F w v neg l) : ∃ u, v = .iface 162 u := by
  obtain ⟨ad, c, e, _⟩ := h
  exact ⟨_, e⟩

set_option maxRecDepth 100000 in
set_option maxHeartbeats 8000000 in
theorem atom_of_rows (f : Nat) (hR : RowsC f) : AtomC (f + 1) := by
  intro r s a d w h ha hs hd hno
  have hs2 : s.size ≤ 140737488355328 := by omega
  have hrw : r < w.heap.size := Blk.lt h
  have hla : a ≤ (bts s).length := by rw [← size_bts]; exact ha
  have kT : ∀ (c : UInt8) (wx : World), Rd wx r s a d → Calls Tryd.prog 54 #[.pointer (some ⟨r, 0, none⟩), .int .u8 (c.toNat : Int)] wx fun e w' => e = .returned (.bool (decide ((bts s)[a]? = some c))) ∧ Rd w' r s (tkN (bts s) a c) d ∧ Chg (fun i => i = r) wx w' := fun c wx hx => takeP r s a d c wx hx ha hs2
  obtain ⟨R, hRR⟩ : ∃ R, atomF (bts s) (f + 1) d a = R := ⟨_, rfl⟩
  have HR := hidden hRR
  rw [hRR] at hno ⊢
  have HNO := hidden hno
  have HH := hidden h
  have HROW := hidden hR
  clear hRR hno h hR
  by_cases h46 : (bts s)[a]? = some 46
  · have k1 := kT 46 w HH.out
    rw [decide_eq_true h46, tkN, if_pos h46] at k1
    have k1' : Calls Tryd.prog 54 #[.pointer (some ⟨r, 0, none⟩), .int .u8 46] w fun e w' => e = .returned (.bool true) ∧ Rd w' r s (a + 1) d ∧ Chg (fun i => i = r) w w' := k1
    have HE : Hid (R = .ok .any (a + 1)) := hidden (by rw [← HR.out, atomF, if_pos h46])
    have HB : Hid (a + 1 ≤ (bts s).length) := hidden (List.getElem?_eq_some_iff.1 h46).1
    clear k1 kT h46
    go_enter Tryd.func71, Tryd.ntmps71
    go_wp2_with (go_at_call 54; refine k1'.mono ?_; rintro e w1 ⟨rfl, h1, hc1⟩; clear k1')
    go_ret2
    exact ⟨_, a + 1, true, rfl, h1, hc1, HB.out, Or.inl ⟨rfl, .any, HE.out, by simp only [PtV]; rfl⟩⟩
  · have k1 := kT 46 w HH.out
    rw [decide_eq_false h46, tkN, if_neg h46] at k1
    have k1' : Calls Tryd.prog 54 #[.pointer (some ⟨r, 0, none⟩), .int .u8 46] w fun e w' => e = .returned (.bool false) ∧ Rd w' r s a d ∧ Chg (fun i => i = r) w w' := k1
    clear k1
    by_cases h91 : (bts s)[a]? = some 91
    · have k2 : Hid (∀ wx, Rd wx r s a d → Calls Tryd.prog 54 #[.pointer (some ⟨r, 0, none⟩), .int .u8 91] wx fun e w' => e = .returned (.bool true) ∧ Rd w' r s (a + 1) d ∧ Chg (fun i => i = r) wx w') := hidden (fun wx hx => by
        have := kT 91 wx hx
        rw [decide_eq_true h91, tkN, if_pos h91] at this
        exact this)
      have ha1 : a + 1 ≤ (bts s).length := (List.getElem?_eq_some_iff.1 h91).1
      have k3 : Hid (∀ wx, Rd wx r s (a + 1) d → Calls Tryd.prog 74 #[.pointer (some ⟨r, 0, none⟩)] wx fun e w' => ∃ v neg l b ok, e = .returned (.tuple #[v, .bool ok]) ∧ ClR (bts s) (a + 1) neg l b ok ∧ Rd w' r s b d ∧ Chg (fun i => i = r) wx w' ∧ (ok = true → ClV (fun b => wx.heap.size ≤ b) w' v neg l) ∧ (ok = false → v = .nilIface)) := hidden (fun wx hx => classP r s (a + 1) d wx hx (by rw [size_bts]; exact ha1) hs)
      have HAT : Hid (R = match clsF (bts s) ((bts s).length + 2) (tkN (bts s) (a + 1) 94) [] with
        | .ok l b => .ok (.cls (decide ((bts s)[a + 1]? = some 94)) l) b
        | .bad k => .bad k
        | .out => .out) := hidden (by
        rw [← HR.out, atomF, if_neg h46, if_pos h91]
        have e : (if (bts s)[a + 1]? = some 94 then a + 2 else a + 1) = tkN (bts s) (a + 1) 94 := by unfold tkN; rfl
        rw [e]
        cases clsF (bts s) ((bts s).length + 2) (tkN (bts s) (a + 1) 94) [] <;> rfl)
      clear kT h46 h91
      go_enter Tryd.func71, Tryd.ntmps71
      go_upto_region 4 with (first
        | (go_at_call 54; refine k1'.mono ?_; rintro e w1 ⟨rfl, h1, hc1⟩; have k2' := k2.out _ h1; clear k1' k2)
        | (go_at_call 54; refine k2'.mono ?_; rintro e w2 ⟨rfl, h2, hc2⟩; have k3' := k3.out _ h2; clear k2' k3))
      have HC2 := hidden (hc1.trans hc2 (fun _ _ e => e))
      clear h1 h2 hc1 hc2
      go_wp2_with (go_at_call 74; refine k3'.mono ?_; rintro e w3 ⟨v, neg, l, b, ok, rfl, hcl, h3, hc3, hyes, hbad⟩; clear k3')
      go_ret2
      have hcc := HC2.out.trans hc3 (fun _ _ e => e)
      refine ⟨v, b, ok, rfl, h3, hcc, hcl.2.1, ?_⟩
      cases ok with
      | true =>
        refine Or.inl ⟨rfl, .cls neg l, by rw [HAT.out, hcl.2.2.2.1 rfl]; simp only; rw [← hcl.2.2.1], ?_⟩
        simp only [PtV]
        exact (hyes rfl).up.mono (fun b' hb' => ⟨Nat.le_trans HC2.out.size hb'.1, hb'.2⟩)
      | false => exact Or.inr ⟨rfl, by rw [HAT.out, hcl.2.2.2.2 rfl]⟩
    · have k2 : Hid (∀ wx, Rd wx r s a d → Calls Tryd.prog 54 #[.pointer (some ⟨r, 0, none⟩), .int .u8 91] wx fun e w' => e = .returned (.bool false) ∧ Rd w' r s a d ∧ Chg (fun i => i = r) wx w') := hidden (fun wx hx => by
        have := kT 91 wx hx
        rw [decide_eq_false h91, tkN, if_neg h91] at this
        exact this)
      have k4 : Hid (∀ wx, Rd wx r s a d → Calls Tryd.prog 76 #[.pointer (some ⟨r, 0, none⟩)] wx fun e w' => ∃ c b ok, e = .returned (.tuple #[.int .i32 ((c : Nat) : Int), .bool ok]) ∧ ChR (bts s) a c b ok ∧ Rd w' r s b d ∧ Chg (fun i => i = r) wx w') := hidden (fun wx hx => characterP r s a d wx hx ha hs2)
      have HCA : Hid (¬ (d < 16 ∧ (bts s)[a]? = some 40) → R = match charF (bts s) a with
        | .ok c b => .ok (.chr c) b
        | .bad k => .bad k
        | .out => .out) := hidden (fun hn => by
        rw [← HR.out, atomF, if_neg h46, if_neg h91, if_neg hn]
        cases charF (bts s) a <;> rfl)
      by_cases hdz : d < 16
      · have hdzz : (d : Int) < 16 := by omega
        by_cases h40 : (bts s)[a]? = some 40
        · have k3 : Hid (∀ wx, Rd wx r s a d → Calls Tryd.prog 54 #[.pointer (some ⟨r, 0, none⟩), .int .u8 40] wx fun e w' => e = .returned (.bool true) ∧ Rd w' r s (a + 1) d ∧ Chg (fun i => i = r) wx w') := hidden (fun wx hx => by
            have := kT 40 wx hx
            rw [decide_eq_true h40, tkN, if_pos h40] at this
            exact this)
          have ha1 : a + 1 ≤ (bts s).length := (List.getElem?_eq_some_iff.1 h40).1
          have HAT : Hid (R = grpF (bts s) f d (a + 1)) := hidden (by
            rw [← HR.out, atomF, if_neg h46, if_neg h91, if_pos ⟨hdz, h40⟩, grpF]
            cases rowsF (bts s) f (d + 1) (a + 1) <;> rfl)
          have k5 : Hid (∀ wx, Rd wx r s (a + 1) d → Calls Tryd.prog 75 #[.pointer (some ⟨r, 0, none⟩)] wx (PartR r s d wx R)) := hidden (fun wx hx => by
            rw [HAT.out]
            exact group_of_rows f HROW.out r s (a + 1) d wx hx (by rw [size_bts]; exact ha1) hs hdz (by rw [← HAT.out]; exact HNO.out))
          clear kT h46 h91 h40 k4 HCA HAT
          go_enter Tryd.func71, Tryd.ntmps71
          go_wp2_with (first
            | (go_at_call 54; refine k1'.mono ?_; rintro e w1 ⟨rfl, h1, hc1⟩; have k2' := k2.out _ h1; clear k1' k2)
            | (go_at_call 54; refine k2'.mono ?_; rintro e w2 ⟨rfl, h2, hc2⟩; have k3' := k3.out _ h2; have d2 : w2.cell? ⟨r, 2, none⟩ = some (.int .i64 (d : Int)) := h2.cell 2; clear k2' k3)
            | (go_at_call 54; refine k3'.mono ?_; rintro e w3 ⟨rfl, h3, hc3⟩; have k5' := k5.out _ h3; clear k3' k5)
            | (go_at_call 75; refine k5'.mono ?_; rintro e w4 ⟨v, b, ok, rfl, h4, hc4, hb4, hres⟩; clear k5'))
          go_ret2
          have hc123 := (hc1.trans hc2 (fun _ _ e => e)).trans hc3 (fun _ _ e => e)
          refine ⟨v, b, ok, rfl, h4, hc123.trans hc4 (fun _ _ e => e), hb4, ?_⟩
          rcases hres with ⟨e1, p, e2, e3⟩ | hres
          · exact Or.inl ⟨e1, p, e2, PtV.mono (fun b' hb' => ⟨Nat.le_trans hc123.size hb'.1, hb'.2⟩) p v e3⟩
          · exact Or.inr hres
        · have k3 : Hid (∀ wx, Rd wx r s a d → Calls Tryd.prog 54 #[.pointer (some ⟨r, 0, none⟩), .int .u8 40] wx fun e w' => e = .returned (.bool false) ∧ Rd w' r s a d ∧ Chg (fun i => i = r) wx w') := hidden (fun wx hx => by
            have := kT 40 wx hx
            rw [decide_eq_false h40, tkN, if_neg h40] at this
            exact this)
          have HAT := hidden (HCA.out (fun x => h40 x.2))
          clear kT h46 h91 h40 HCA
          go_enter Tryd.func71, Tryd.ntmps71
          go_upto_region 8 with (first
            | (go_at_call 54; refine k1'.mono ?_; rintro e w1 ⟨rfl, h1, hc1⟩; have k2' := k2.out _ h1; clear k1' k2)
            | (go_at_call 54; refine k2'.mono ?_; rintro e w2 ⟨rfl, h2, hc2⟩; have k3' := k3.out _ h2; have d2 : w2.cell? ⟨r, 2, none⟩ = some (.int .i64 (d : Int)) := h2.cell 2; clear k2' k3)
            | (go_at_call 54; refine k3'.mono ?_; rintro e w3 ⟨rfl, h3, hc3⟩; have k4' := k4.out _ h3; have HCC := hidden ((hc1.trans hc2 (fun _ _ e => e)).trans hc3 (fun _ _ e => e)); clear k3' k4)
            | (go_at_call 76; refine k4'.mono ?_; rintro e w4 ⟨cc, b, ok, rfl, hcr, h4, hc4⟩; clear k4'))
          have hcc := HCC.out.trans hc4 (fun _ _ e => e)
          have HF : Hid (PartR r s d w R (.returned (.tuple #[.iface 155 (.int .i32 ((cc : Nat) : Int)), .bool ok])) w4) := hidden ⟨_, b, ok, rfl, h4, hcc, hcr.2.1, by
            cases ok with
            | true =>
              refine Or.inl ⟨rfl, .chr cc, by rw [HAT.out, (hcr.2.2.1 rfl).1], ?_⟩
              simp only [PtV]
              exact ⟨by first | trivial | rfl, vc_le (hcr.2.2.1 rfl).2⟩
            | false => exact Or.inr ⟨rfl, by rw [HAT.out, (hcr.2.2.2 rfl).1]⟩⟩
          clear hcr h4 hc4 hcc
          go_wp2
          go_ret2
          exact HF.out
      · have hdzz : ¬ (d : Int) < 16 := by omega
        have hdzz' : decide ((d : Int) < 16) = false := decide_eq_false hdzz
        have HAT := hidden (HCA.out (fun x => hdz x.1))
        clear kT h46 h91 HCA
        go_enter Tryd.func71, Tryd.ntmps71
        go_upto_region 8 with (first
          | (go_at_call 54; refine k1'.mono ?_; rintro e w1 ⟨rfl, h1, hc1⟩; have k2' := k2.out _ h1; clear k1' k2)
          | (go_at_call 54; refine k2'.mono ?_; rintro e w2 ⟨rfl, h2, hc2⟩; have k4' := k4.out _ h2; have d2 : w2.cell? ⟨r, 2, none⟩ = some (.int .i64 (d : Int)) := h2.cell 2; have HCC := hidden (hc1.trans hc2 (fun _ _ e => e)); clear k2' k4)
          | (go_at_call 76; refine k4'.mono ?_; rintro e w4 ⟨cc, b, ok, rfl, hcr, h4, hc4⟩; clear k4'))
        have hcc := HCC.out.trans hc4 (fun _ _ e => e)
        have HF : Hid (PartR r s d w R (.returned (.tuple #[.iface 155 (.int .i32 ((cc : Nat) : Int)), .bool ok])) w4) := hidden ⟨_, b, ok, rfl, h4, hcc, hcr.2.1, by
          cases ok with
          | true =>
            refine Or.inl ⟨rfl, .chr cc, by rw [HAT.out, (hcr.2.2.1 rfl).1], ?_⟩
            simp only [PtV]
            exact ⟨by first | trivial | rfl, vc_le (hcr.2.2.1 rfl).2⟩
          | false => exact Or.inr ⟨rfl, by rw [HAT.out, (hcr.2.2.2 rfl).1]⟩⟩
        clear hcr h4 hc4 hcc
        go_wp2
        go_ret2
        exact HF.out

end Go.Proofs.YtanlgplgplncdaaDoor
