import Derived.Test.YtalmpmhnkilalaaGreatDoorDyA
import Derived.Test.YtalmpmhnkilalaaGreatDoorDrD
import Derived.Test.YtalmpmhnkilalaaGreatDoorRwA
import Derived.Test.YtalmpmhnkilalaaGreatDoorRrF
/-
  The document's reader in memory: samples.
-/
namespace Go.Proofs.YtalmpmhnkilalaaGreatDoor
open Go.RowKit
set_option linter.unusedVariables false

theorem txL_byte {b : List Int} (hb : Byte b) (most : Nat) : Byte (txL b most) := by
  unfold txL
  split
  · intro x hx; cases hx
  · exact (hb.drop _).take _
theorem txL_len {b : List Int} (hb : Byte b) (most : Nat) : (txL b most).length ≤ b.length := by
  unfold txL
  split
  · simp
  · simp only [List.length_take, List.length_drop]
    omega
/-- Samples, purely. -/
def Ri.smpV (s : Ri) : List Sm := (rdR (txL s.b s.b.length)).getD []
def Ri.smp (s : Ri) : Ri := ⟨(s.txt s.b.length).b, (s.txt s.b.length).ok && (rdR (txL s.b s.b.length)).isSome⟩
set_option maxRecDepth 8000 in
set_option maxHeartbeats 2000000 in
theorem samplesI (p K : Nat) (s : Ri) (w : World) (h : It w p K s) :
    Calls Tryz.prog 81 #[.pointer (some ⟨p, 0, none⟩)] w (IQ w p K s.smp fun v w' => ∃ ad c, v = .slice ad s.smpV.length c ∧ w'.ownsRow w.heap.size 50 2 v s.smpV.length (cS s.smpV) ∧ ∀ x ∈ s.smpV, OkS x) := by
  have HT := hidden (textI p K s s.b.length w h (by have := h.byte.2; omega))
  have hby := txL_byte h.byte.1 s.b.length
  have hln := txL_len h.byte.1 s.b.length
  have hl2 := h.byte.2
  have c0 : ∃ ad c, w.cell? ⟨p, 0, none⟩ = some (.slice ad s.b.length c) := by
    obtain ⟨_, _, ad, n, c, hB⟩ := h
    refine ⟨ad, c, ?_⟩
    have := hB.blk.cell 0
    rw [hB.sl.len]
    simpa using this
  obtain ⟨ad0, cc0, c0⟩ := c0
  have hpw := h.lt
  unfold Ri.smp Ri.smpV
  clear h
  obtain ⟨L, hL⟩ : ∃ L, txL s.b s.b.length = L := ⟨_, rfl⟩
  rw [hL] at HT hby hln
  rw [hL]
  clear hL
  generalize s.txt s.b.length = t at *
  generalize s.b.length = k at *
  obtain ⟨tb, tok⟩ := t
  have hsz : (strOfNums L).size = L.length := strOf_size L
  have hbt : bts (strOfNums L) = L := bts_strOf L hby
  obtain ⟨d, hd⟩ : ∃ d, strOfNums L = d := ⟨_, rfl⟩
  rw [hd] at HT hsz hbt
  clear hd
  have kc := fun (w : World) => Lib.run_convert_string_bytes (P := Tryz.prog) w 9 22 5 d Tryz.underlying9 Tryz.underlying22 Tryz.underlying5
  go_enter Tryz.func81, Tryz.ntmps81
  go_wp2_with fail
  refine HT.out.mono ?_
  rintro e w1 ⟨v, rfl, hQ, rfl⟩
  have HQ := hidden hQ
  clear hQ
  go_wp2_with fail
  have HSB := hidden (sl_bytes w1 d)
  have HBW := hidden (Go.Joins.below_bytesWorld w1.heap.size w1 5 d (Nat.le_refl _))
  have hg1 := grownCap_ge w1 d.size 0 5
  have hg2 := grownCap_le_maxLen w1 d.size 0 5 (by unfold maxLen; omega)
  obtain ⟨w3, hw3⟩ : ∃ w3, Lib.bytesWorld w1 5 d = w3 := ⟨_, rfl⟩
  rw [hw3, hbt, hsz] at HSB
  rw [hw3] at HBW
  rw [hsz] at hg1 hg2
  obtain ⟨cc, hcc⟩ : ∃ cc, grownCap w1 L.length 0 5 = cc := ⟨_, rfl⟩
  rw [hcc] at hg1 hg2
  rw [hw3, hcc]
  clear hw3 hcc kc
  refine (readD w3 (some ⟨w1.heap.size, 0, none⟩) L.length cc L HSB.out (by omega) hg1 (by unfold maxLen at hg2; omega) (fun h => by cases h)).mono ?_
  rintro e w4 ⟨ad4, c4, l4, ec, rfl, ho4, hok4, hb4, hcase⟩
  have HO4 := hidden ho4
  have HOK := hidden hok4
  have hI4 := (HQ.out.it.later HBW.out).later hb4
  have HI4 := hidden hI4
  have HC4 := hidden ((HQ.out.chg.trans (Chg.of_below (F := fpr p) HBW.out) (fun i _ hi => hi)).trans (Chg.of_below (F := fpr p) hb4) (fun i _ hi => hi))
  have cf := hI4.flag
  have f1 := hI4.frozen 1
  have hsz3 : w.heap.size ≤ w3.heap.size := Nat.le_trans HQ.out.chg.size HBW.out.size
  have HLO := hidden (fun (g : Nat) (hg : Value.ownBlock (.slice ad4 l4.length c4) = some g) => show ¬ fpr p g from by have := (HO4.out.lt g hg).1; unfold fpr; omega)
  clear hI4 ho4 hok4 hb4
  have fin : ∀ y : Bool, y = (tok && (rdR L).isSome) → l4 = (rdR L).getD [] → IQ w p K ⟨tb, tok && (rdR L).isSome⟩ (fun v w' => ∃ ad c, v = .slice ad ((rdR L).getD []).length c ∧ w'.ownsRow w.heap.size 50 2 v ((rdR L).getD []).length (cS ((rdR L).getD [])) ∧ ∀ x ∈ (rdR L).getD [], OkS x) (.returned (.slice ad4 l4.length c4)) (w4.setCell ⟨p, 1, none⟩ (.bool y)) := by
    intro y hy hl
    subst hy
    rw [← hl]
    exact ⟨_, rfl, ⟨HI4.out.setOk _, HC4.out.trans (chg_ok p _ _ 1) (fun i _ hi => hi)⟩, ad4, c4, rfl, (chg_ok p _ _ 1).owns (owns_base HO4.out (fun g hg => by have := (HO4.out.lt g hg).1; omega)) HLO.out, HOK.out⟩
  have HF := hidden fin
  clear fin
  rcases hcase with ⟨hr, rfl⟩ | ⟨hr, rfl, rfl⟩
  · have H0 := hidden hr
    clear hr
    cases tok with
    | true =>
      go_wp2_with fail
      go_ret
      exact HF.out true (by rw [H0.out]; rfl) (by rw [H0.out]; rfl)
    | false =>
      go_wp2_with fail
      go_ret
      exact HF.out false (by rw [H0.out]; rfl) (by rw [H0.out]; rfl)
  · have H0 := hidden hr
    clear hr
    cases tok with
    | true =>
      go_wp2_with fail
      go_ret
      exact HF.out false (by rw [H0.out]; rfl) (by rw [H0.out]; rfl)
    | false =>
      go_wp2_with fail
      go_ret
      exact HF.out false (by rw [H0.out]; rfl) (by rw [H0.out]; rfl)
end Go.Proofs.YtalmpmhnkilalaaGreatDoor

/-
  The document's reader in memory: writes. By gendyg21.py.
-/
namespace Go.Proofs.YtalmpmhnkilalaaGreatDoor
open Go.RowKit
set_option linter.unusedVariables false
set_option linter.unusedSimpArgs false

theorem smpV_len {s : Ri} (hb : Byte s.b) (hl : s.b.length ≤ 1048576) : s.smpV.length ≤ 4194304 := by
  unfold Ri.smpV
  have h1 := txL_byte hb s.b.length
  have h2 := txL_len hb s.b.length
  cases hr : rdR (txL s.b s.b.length) with
  | none => simp
  | some L =>
    show L.length ≤ _
    by_cases h0 : txL s.b s.b.length = []
    · rw [h0] at hr
      have : L = [] := by
        have : rdR [] = some [] := rfl
        rw [this] at hr
        injection hr with hr
        exact hr.symm
      rw [this]
      simp
    · obtain ⟨k1, k2, k3, k4, _⟩ := rdR_bits h1 h0 hr
      have k5 := len_enc4 k1
      rw [k3] at k5
      omega
/-- A series, purely: its value, what is left. -/
def Ri.ser (s : Ri) : Se := (s.labs.1, s.labs.2.smpV)
def Ri.serN (s : Ri) : Ri := s.labs.2.smp
/-- The rounds of writes, purely. -/
def Ri.wrep : Nat → Nat → Ri → List Se → List Se × Ri
  | 0, _, s, acc => (acc, s)
  | n + 1, all, s, acc => if s.ok then Ri.wrep n (all + s.ser.2.length) ⟨s.serN.b, s.serN.ok && decide (0 < s.ser.2.length) && decide (all + s.ser.2.length ≤ 256)⟩ (acc ++ [s.ser]) else (acc, s)
theorem Ri.wrep_no (n all : Nat) {s : Ri} (h : s.ok = false) (acc : List Se) : Ri.wrep n all s acc = (acc, s) := by
  cases n with
  | zero => rfl
  | succ n => rw [Ri.wrep, h]; rfl
theorem Ri.wrep_yes (n all : Nat) {s : Ri} (h : s.ok = true) (acc : List Se) : Ri.wrep (n + 1) all s acc = Ri.wrep n (all + s.ser.2.length) ⟨s.serN.b, s.serN.ok && decide (0 < s.ser.2.length) && decide (all + s.ser.2.length ≤ 256)⟩ (acc ++ [s.ser]) := by
  rw [Ri.wrep, if_pos h]
def Ri.wrs (s : Ri) : List Se × Ri := Ri.wrep (s.many 64) 0 ⟨(s.cnt 64).b, (s.cnt 64).ok && decide (0 < s.many 64)⟩ []
theorem ty_it {w : World} {p K : Nat} {s : Ri} (h : It w p K s) : Ty w p 89 := by
  obtain ⟨_, _, ad, n, c, hB⟩ := h
  exact ty_blk hB.blk
theorem sro_fpr {w w' : World} {p K B : Nat} {s : Ri} {x : Ser} (h : It w p K s) (hx : SrO B x w) (hc : Chg (fpr p) w w') : SrO B x w' :=
  hx.chg hc (fun i hi => by
    have e : i = p := hi
    subst e
    exact ⟨fun k => absurd (k.ne (ty_it h)) (by decide), fun k => absurd (k.ne (ty_it h)) (by decide)⟩)
/-- What a round of it holds. -/
def WrI (w : World) (p K N : Nat) (R : List Se × Ri) (n all : Nat) (v : Value) (wx : World) : Prop :=
  ∃ (xs : List Ser) (t : Ri) (ad : Option Addr) (c : Nat), xs.length + n = N ∧ v = .slice ad xs.length c ∧ wx.ownsRow w.heap.size 45 2 v xs.length (xs.flatMap Ser.cells) ∧ (∀ x ∈ xs, SrO w.heap.size x wx) ∧ It wx p K t ∧ Chg (fpr p) w wx ∧ R = Ri.wrep n all t (xs.map prS)
set_option maxRecDepth 8000 in
set_option maxHeartbeats 4000000 in
theorem writesI (p K : Nat) (s : Ri) (w : World) (h : It w p K s) :
    Calls Tryz.prog 71 #[.pointer (some ⟨p, 0, none⟩)] w (IQ w p K s.wrs.2 fun v w' => Lst 45 2 Ser.cells prS (fun B x w => SrO B x w) w.heap.size s.wrs.1 v w') := by
  obtain ⟨i0, z0, hi0, hz0, hz1, hz2, hz3⟩ := info_z infoE
  have HN := hidden (countI p K s 64 w h (by omega))
  have hNm := many_le 64 s
  have hN : (if (s.cnt 64).ok then ((Q.dec s.b).1 : Int) else 0) = (s.many 64 : Nat) := by unfold Ri.many; split <;> rfl
  rw [hN] at HN
  clear hN
  have hpw := h.lt
  have hkw := h.klt
  clear h
  obtain ⟨R, hR⟩ : ∃ R, R = s.wrs := ⟨_, rfl⟩
  rw [← hR]
  unfold Ri.wrs at hR
  have hNN : (s.cnt 64).ok = false → s.many 64 = 0 := by unfold Ri.many; intro h; rw [h]; rfl
  generalize s.many 64 = N at *
  generalize s.cnt 64 = s0 at *
  have HRR := hidden hR
  have HNN := hidden hNN
  clear hR hNN
  go_enter Tryz.func71, Tryz.ntmps71
  go_wp2_with fail
  refine HN.out.mono ?_
  rintro e w1 ⟨v, rfl, hQ, rfl⟩
  have cf := hQ.it.flag
  have f1 := hQ.it.frozen 1
  have H1 : Hid (WrI w p K N R N 0 (.slice none 0 0) (w1.setCell ⟨p, 1, none⟩ (.bool (s0.ok && decide (0 < N))))) :=
    hidden ⟨[], ⟨s0.b, s0.ok && decide (0 < N)⟩, none, 0, by simp, rfl, World.ownsRow_nil _ _ _ _, fun x hx => (by cases hx), hQ.it.setOk _, hQ.chg.trans (chg_ok p _ _ 1) (fun i _ hi => hi), HRR.out⟩
  clear hQ
  have loop : ∀ (w2 : World) (tmps : Array Value), True := fun _ _ => trivial
  clear loop
  obtain ⟨b0, ok0⟩ := s0
  cases ok0 with
  | false =>
    have hN0 : N = 0 := HNN.out rfl
    subst hN0
    rw [show (false && decide (0 < 0)) = false from rfl] at H1
    simp at cf
    go_wp2_with fail
    refine wp_loop_rounds 1 ?_
    rw [rounds_succ]
    go_wp2_with fail
    go_ret
    obtain ⟨xs, t, ad, c, hxn, hv3, hown, hSr, hIt, hC, hT⟩ := H1.out
    have e : R = (xs.map prS, t) := hT
    rw [e]
    exact ⟨_, rfl, ⟨hIt, hC⟩, xs, rfl, ⟨ad, c, hv3⟩, hown, hSr⟩
  | true =>
    by_cases hN0 : 0 < N
    · have hN1 : (N : Int) > 0 := by omega
      rw [show (true && decide (0 < N)) = true by simp; exact hN0] at H1
      simp at cf
      go_wp2_with fail
      go_loopw [3, 4, 5, 6, 7] (fun v3 v4 v5 _ _ wx => ∃ n all : Nat, v3 = .int .i64 (n : Int) ∧ v5 = .int .i64 (all : Int) ∧ n ≤ N ∧ all + 4194304 * n ≤ 4194304 * N ∧ Hid (WrI w p K N R n all v4 wx)) (fun v3 _ _ _ _ _ => (intOf v3).toNat)
      case atStart => exact ⟨N, 0, rfl, rfl, by omega, by omega, H1⟩
      case round =>
        obtain ⟨n, all, rfl, rfl, hn, hal, hI⟩ := hrel
        obtain ⟨xs, t, ad, c, hxn, hv3, hown, hSr, hIt, hC, hT⟩ := hI.out
        subst hv3
        have cf := hIt.flag
        have HOW := hidden hown
        have HSR := hidden hSr
        have HIT := hidden hIt
        have HCC := hidden hC
        have HT := hidden hT
        clear hI H1 hown hSr hIt hC hT
        cases n with
        | zero =>
          go_wp2_with fail
          go_ret
          have e : R = (xs.map prS, t) := HT.out
          rw [e]
          exact ⟨_, rfl, ⟨HIT.out, HCC.out⟩, xs, rfl, ⟨ad, c, rfl⟩, HOW.out, HSR.out⟩
        | succ n =>
          have hn0 : ((n + 1 : Nat) : Int) > 0 := by omega
          obtain ⟨y, hy⟩ : ∃ y, t.ok = y := ⟨_, rfl⟩
          rw [hy] at cf
          cases y with
          | false =>
            go_wp2_with fail
            go_ret
            have e : R = (xs.map prS, t) := HT.out.trans (Ri.wrep_no _ _ hy _)
            rw [e]
            exact ⟨_, rfl, ⟨HIT.out, HCC.out⟩, xs, rfl, ⟨ad, c, rfl⟩, HOW.out, HSR.out⟩
          | true =>
            have HT2 := hidden (HT.out.trans (Ri.wrep_yes _ _ hy _))
            clear HT hy
            go_wp2_with fail
            refine (labelsI p K t _ HIT.out).mono ?_
            rintro e w2 ⟨v, rfl, hQ2, a2, c2, hv2, ho2⟩
            subst hv2
            have HQ2 := hidden hQ2
            have HO2 := hidden ho2
            clear hQ2 ho2 cf
            go_wp2_with fail
            refine (samplesI p K t.labs.2 _ HQ2.out.it).mono ?_
            rintro e w3 ⟨v, rfl, hQ3, a3, c3, hv3, ho3, hok3⟩
            subst hv3
            have hS := smpV_len HQ2.out.it.byte.1 HQ2.out.it.byte.2
            have cf := hQ3.it.flag
            have f1 := hQ3.it.frozen 1
            have hsw := HCC.out.size
            have hs2 := HQ2.out.chg.size
            have hs3 := hQ3.chg.size
            have hC3 := HQ2.out.chg.trans hQ3.chg (fun i _ hi => hi)
            have HI3 := hidden hQ3.it
            have HC3 := hidden (HCC.out.trans hC3 (fun i _ hi => hi))
            have HOW3 := hidden (hC3.owns HOW.out (fun g hg e => by have h1 := (HOW.out.lt g hg).1; unfold fpr at e; omega))
            have HSR3 : Hid (∀ x ∈ xs, SrO w.heap.size x w3) := hidden (fun x hx => sro_fpr HIT.out (HSR.out x hx) hC3)
            have HSX : Hid (SrO w.heap.size ⟨a2, t.labs.1.length, c2, t.labs.1, a3, t.labs.2.smpV.length, c3, t.labs.2.smpV⟩ w3) := hidden (by
              refine ⟨rfl, rfl, ?_, owns_base ho3 (fun g hg => by have := (ho3.lt g hg).1; omega), hok3⟩
              have hh := hQ3.chg.owns HO2.out (fun g hg e => by have h1 := (HO2.out.lt g hg).1; unfold fpr at e; omega)
              exact owns_base hh (fun g hg => by have := (hh.lt g hg).1; omega))
            have HX : Hid (t.ser = prS ⟨a2, t.labs.1.length, c2, t.labs.1, a3, t.labs.2.smpV.length, c3, t.labs.2.smpV⟩) := hidden rfl
            have HL : Hid (t.ser.2.length = t.labs.2.smpV.length) := hidden rfl
            have HN3 : Hid (t.serN = t.labs.2.smp) := hidden rfl
            rw [HL.out, HN3.out, HX.out] at HT2
            clear hQ3 hC3 ho3 hok3 HO2 HQ2 HX HL HN3
            generalize t.labs.2.smp = u at *
            generalize t.labs.1 = L1 at *
            generalize t.labs.2.smpV = L2 at *
            obtain ⟨ub', uok⟩ := u
            cases uok with
            | false =>
              have hx : True := trivial
              have hI4 : Hid (It (w3.setCell ⟨p, 1, none⟩ (.bool false)) p K ⟨ub', false⟩) := hidden (HI3.out.setOk false)
              have hC4 := chg_ok p w3 (.bool false) 1
              have HOW4 := hidden (hC4.owns HOW3.out (fun g hg e => by have h1 := (HOW3.out.lt g hg).1; unfold fpr at e; omega))
              have HSR4 : Hid (∀ x ∈ xs, SrO w.heap.size x (w3.setCell ⟨p, 1, none⟩ (.bool false))) := hidden (fun x hx => sro_fpr HI3.out (HSR3.out x hx) hC4)
              have HSX4 := hidden (sro_fpr HI3.out HSX.out hC4)
              have HC4 := hidden (HC3.out.trans hC4 (fun i _ hi => hi))
              have hs4 := HC4.out.size
              have hsz4 : (w3.setCell ⟨p, 1, none⟩ (.bool false)).heap.size = w3.heap.size := by simp [World.setCell]
              clear hC4
              go_wp2_with (first
                | (at_builtin; refine wpList_pushN _ rfl _ _ 23 rfl 45 i0 z0 2 48 Tryz.underlying23 hi0 hz0 hz1 hz2 hz3 (by decide) w.heap.size (.slice ad xs.length c) xs.length (xs.flatMap Ser.cells) rfl (by exact (HOW4.out.alloc _)) ⟨w3.heap.size, 0, none⟩ [.slice a2 L1.length c2, .slice a3 L2.length c3] rfl rfl (by intro j u hu; have h9 := (Blk.new (w3.setCell ⟨p, 1, none⟩ (.bool false)) 45 [.slice a2 L1.length c2, .slice a3 L2.length c3]).cell (0 + j); rw [hsz4] at h9; rw [Addr.add_lit, h9, Nat.zero_add]; exact hu) (by intro u hu; simp at hu; rcases hu with rfl | rfl <;> rfl) (by unfold maxLen; omega) (by omega) (by simp; omega) ?_; intro g' c' w' ho' hp'; have HO' := hidden ho'; have HP' := hidden hp'; clear ho' hp'))
              have hI2 : Hid (WrI w p K N R n (all + L2.length) (.slice (some ⟨g', 0, none⟩) (xs.length + 1) c') w') := by
                have hw2 : Chg (fun i_1 => Value.ownBlock (.slice ad xs.length c) = some i_1) (w3.setCell ⟨p, 1, none⟩ (.bool false)) w' := HP'.out.chg.1
                have hfp : ∀ j, Value.ownBlock (.slice ad xs.length c) = some j → w.heap.size ≤ j := fun j hj => (HOW4.out.lt j hj).1
                have hty : ∀ j, Value.ownBlock (.slice ad xs.length c) = some j → ¬ Ty (w3.setCell ⟨p, 1, none⟩ (.bool false)) j 47 ∧ ¬ Ty (w3.setCell ⟨p, 1, none⟩ (.bool false)) j 50 := fun j hj => ⟨fun k => absurd (k.ne (ty_owns HOW4.out hj)) (by decide), fun k => absurd (k.ne (ty_owns HOW4.out hj)) (by decide)⟩
                refine hidden ⟨xs ++ [⟨a2, L1.length, c2, L1, a3, L2.length, c3, L2⟩], ⟨ub', false⟩, _, _, by rw [List.length_append]; simp; omega, by rw [List.length_append]; rfl, ?_, fun x hx => ?_, hI4.out.chg hw2 (fun e => by have := hfp p e; omega) (fun e => by have := hfp K e; omega), HC4.out.trans hw2 (fun j hj e => absurd (hfp j e) (by omega)), ?_⟩
                · rw [List.length_append, List.flatMap_append]
                  simpa [Ser.cells] using HO'.out
                · rcases List.mem_append.1 hx with hx | hx
                  · exact (HSR4.out x hx).chg hw2 hty
                  · rw [List.mem_singleton] at hx
                    subst hx
                    exact HSX4.out.chg hw2 hty
                · rw [HT2.out, List.map_append]
                  simp only [Bool.false_and]
                  rfl
              clear HO' HP'
              go_wp2_with fail
              refine ⟨⟨n, all + L2.length, by first | rfl | simp, by first | rfl | simp, by omega, by omega, hI2⟩, ?_⟩
              simp [intOf]
            | true =>
              by_cases h1 : 0 < L2.length
              · have h1' : (L2.length : Int) > 0 := by omega
                by_cases h2 : all + L2.length ≤ 256
                · have h2' : (all : Int) + (L2.length : Int) ≤ 256 := by omega
                  have hd2 := decide_eq_true h2'
                  have hx : True := trivial
                  have hI4 : Hid (It (w3.setCell ⟨p, 1, none⟩ (.bool true)) p K ⟨ub', true⟩) := hidden (HI3.out.setOk true)
                  have hC4 := chg_ok p w3 (.bool true) 1
                  have HOW4 := hidden (hC4.owns HOW3.out (fun g hg e => by have h1 := (HOW3.out.lt g hg).1; unfold fpr at e; omega))
                  have HSR4 : Hid (∀ x ∈ xs, SrO w.heap.size x (w3.setCell ⟨p, 1, none⟩ (.bool true))) := hidden (fun x hx => sro_fpr HI3.out (HSR3.out x hx) hC4)
                  have HSX4 := hidden (sro_fpr HI3.out HSX.out hC4)
                  have HC4 := hidden (HC3.out.trans hC4 (fun i _ hi => hi))
                  have hs4 := HC4.out.size
                  have hsz4 : (w3.setCell ⟨p, 1, none⟩ (.bool true)).heap.size = w3.heap.size := by simp [World.setCell]
                  clear hC4
                  go_wp2_with (first
                    | (at_builtin; refine wpList_pushN _ rfl _ _ 23 rfl 45 i0 z0 2 48 Tryz.underlying23 hi0 hz0 hz1 hz2 hz3 (by decide) w.heap.size (.slice ad xs.length c) xs.length (xs.flatMap Ser.cells) rfl (by exact (HOW4.out.alloc _)) ⟨w3.heap.size, 0, none⟩ [.slice a2 L1.length c2, .slice a3 L2.length c3] rfl rfl (by intro j u hu; have h9 := (Blk.new (w3.setCell ⟨p, 1, none⟩ (.bool true)) 45 [.slice a2 L1.length c2, .slice a3 L2.length c3]).cell (0 + j); rw [hsz4] at h9; rw [Addr.add_lit, h9, Nat.zero_add]; exact hu) (by intro u hu; simp at hu; rcases hu with rfl | rfl <;> rfl) (by unfold maxLen; omega) (by omega) (by simp; omega) ?_; intro g' c' w' ho' hp'; have HO' := hidden ho'; have HP' := hidden hp'; clear ho' hp'))
                  have hI2 : Hid (WrI w p K N R n (all + L2.length) (.slice (some ⟨g', 0, none⟩) (xs.length + 1) c') w') := by
                    have hw2 : Chg (fun i_1 => Value.ownBlock (.slice ad xs.length c) = some i_1) (w3.setCell ⟨p, 1, none⟩ (.bool true)) w' := HP'.out.chg.1
                    have hfp : ∀ j, Value.ownBlock (.slice ad xs.length c) = some j → w.heap.size ≤ j := fun j hj => (HOW4.out.lt j hj).1
                    have hty : ∀ j, Value.ownBlock (.slice ad xs.length c) = some j → ¬ Ty (w3.setCell ⟨p, 1, none⟩ (.bool true)) j 47 ∧ ¬ Ty (w3.setCell ⟨p, 1, none⟩ (.bool true)) j 50 := fun j hj => ⟨fun k => absurd (k.ne (ty_owns HOW4.out hj)) (by decide), fun k => absurd (k.ne (ty_owns HOW4.out hj)) (by decide)⟩
                    refine hidden ⟨xs ++ [⟨a2, L1.length, c2, L1, a3, L2.length, c3, L2⟩], ⟨ub', true⟩, _, _, by rw [List.length_append]; simp; omega, by rw [List.length_append]; rfl, ?_, fun x hx => ?_, hI4.out.chg hw2 (fun e => by have := hfp p e; omega) (fun e => by have := hfp K e; omega), HC4.out.trans hw2 (fun j hj e => absurd (hfp j e) (by omega)), ?_⟩
                    · rw [List.length_append, List.flatMap_append]
                      simpa [Ser.cells] using HO'.out
                    · rcases List.mem_append.1 hx with hx | hx
                      · exact (HSR4.out x hx).chg hw2 hty
                      · rw [List.mem_singleton] at hx
                        subst hx
                        exact HSX4.out.chg hw2 hty
                    · rw [HT2.out, List.map_append]
                      simp only [Bool.true_and, decide_eq_true h1, decide_eq_true h2]
                      rfl
                  clear HO' HP'
                  go_wp2_with fail
                  refine ⟨⟨n, all + L2.length, by first | rfl | simp, by first | rfl | simp, by omega, by omega, hI2⟩, ?_⟩
                  simp [intOf]
                · have h2' : ¬ (all : Int) + (L2.length : Int) ≤ 256 := by omega
                  have hd2 := decide_eq_false h2'
                  have hx : True := trivial
                  have hI4 : Hid (It (w3.setCell ⟨p, 1, none⟩ (.bool false)) p K ⟨ub', false⟩) := hidden (HI3.out.setOk false)
                  have hC4 := chg_ok p w3 (.bool false) 1
                  have HOW4 := hidden (hC4.owns HOW3.out (fun g hg e => by have h1 := (HOW3.out.lt g hg).1; unfold fpr at e; omega))
                  have HSR4 : Hid (∀ x ∈ xs, SrO w.heap.size x (w3.setCell ⟨p, 1, none⟩ (.bool false))) := hidden (fun x hx => sro_fpr HI3.out (HSR3.out x hx) hC4)
                  have HSX4 := hidden (sro_fpr HI3.out HSX.out hC4)
                  have HC4 := hidden (HC3.out.trans hC4 (fun i _ hi => hi))
                  have hs4 := HC4.out.size
                  have hsz4 : (w3.setCell ⟨p, 1, none⟩ (.bool false)).heap.size = w3.heap.size := by simp [World.setCell]
                  clear hC4
                  go_wp2_with (first
                    | (at_builtin; refine wpList_pushN _ rfl _ _ 23 rfl 45 i0 z0 2 48 Tryz.underlying23 hi0 hz0 hz1 hz2 hz3 (by decide) w.heap.size (.slice ad xs.length c) xs.length (xs.flatMap Ser.cells) rfl (by exact (HOW4.out.alloc _)) ⟨w3.heap.size, 0, none⟩ [.slice a2 L1.length c2, .slice a3 L2.length c3] rfl rfl (by intro j u hu; have h9 := (Blk.new (w3.setCell ⟨p, 1, none⟩ (.bool false)) 45 [.slice a2 L1.length c2, .slice a3 L2.length c3]).cell (0 + j); rw [hsz4] at h9; rw [Addr.add_lit, h9, Nat.zero_add]; exact hu) (by intro u hu; simp at hu; rcases hu with rfl | rfl <;> rfl) (by unfold maxLen; omega) (by omega) (by simp; omega) ?_; intro g' c' w' ho' hp'; have HO' := hidden ho'; have HP' := hidden hp'; clear ho' hp'))
                  have hI2 : Hid (WrI w p K N R n (all + L2.length) (.slice (some ⟨g', 0, none⟩) (xs.length + 1) c') w') := by
                    have hw2 : Chg (fun i_1 => Value.ownBlock (.slice ad xs.length c) = some i_1) (w3.setCell ⟨p, 1, none⟩ (.bool false)) w' := HP'.out.chg.1
                    have hfp : ∀ j, Value.ownBlock (.slice ad xs.length c) = some j → w.heap.size ≤ j := fun j hj => (HOW4.out.lt j hj).1
                    have hty : ∀ j, Value.ownBlock (.slice ad xs.length c) = some j → ¬ Ty (w3.setCell ⟨p, 1, none⟩ (.bool false)) j 47 ∧ ¬ Ty (w3.setCell ⟨p, 1, none⟩ (.bool false)) j 50 := fun j hj => ⟨fun k => absurd (k.ne (ty_owns HOW4.out hj)) (by decide), fun k => absurd (k.ne (ty_owns HOW4.out hj)) (by decide)⟩
                    refine hidden ⟨xs ++ [⟨a2, L1.length, c2, L1, a3, L2.length, c3, L2⟩], ⟨ub', false⟩, _, _, by rw [List.length_append]; simp; omega, by rw [List.length_append]; rfl, ?_, fun x hx => ?_, hI4.out.chg hw2 (fun e => by have := hfp p e; omega) (fun e => by have := hfp K e; omega), HC4.out.trans hw2 (fun j hj e => absurd (hfp j e) (by omega)), ?_⟩
                    · rw [List.length_append, List.flatMap_append]
                      simpa [Ser.cells] using HO'.out
                    · rcases List.mem_append.1 hx with hx | hx
                      · exact (HSR4.out x hx).chg hw2 hty
                      · rw [List.mem_singleton] at hx
                        subst hx
                        exact HSX4.out.chg hw2 hty
                    · rw [HT2.out, List.map_append]
                      simp only [Bool.true_and, decide_eq_true h1, decide_eq_false h2, Bool.and_false]
                      rfl
                  clear HO' HP'
                  go_wp2_with fail
                  refine ⟨⟨n, all + L2.length, by first | rfl | simp, by first | rfl | simp, by omega, by omega, hI2⟩, ?_⟩
                  simp [intOf]
              · have h1' : ¬ (L2.length : Int) > 0 := by omega
                have hd1 := decide_eq_false h1'
                have hx : True := trivial
                have hI4 : Hid (It (w3.setCell ⟨p, 1, none⟩ (.bool false)) p K ⟨ub', false⟩) := hidden (HI3.out.setOk false)
                have hC4 := chg_ok p w3 (.bool false) 1
                have HOW4 := hidden (hC4.owns HOW3.out (fun g hg e => by have h1 := (HOW3.out.lt g hg).1; unfold fpr at e; omega))
                have HSR4 : Hid (∀ x ∈ xs, SrO w.heap.size x (w3.setCell ⟨p, 1, none⟩ (.bool false))) := hidden (fun x hx => sro_fpr HI3.out (HSR3.out x hx) hC4)
                have HSX4 := hidden (sro_fpr HI3.out HSX.out hC4)
                have HC4 := hidden (HC3.out.trans hC4 (fun i _ hi => hi))
                have hs4 := HC4.out.size
                have hsz4 : (w3.setCell ⟨p, 1, none⟩ (.bool false)).heap.size = w3.heap.size := by simp [World.setCell]
                clear hC4
                go_wp2_with (first
                  | (at_builtin; refine wpList_pushN _ rfl _ _ 23 rfl 45 i0 z0 2 48 Tryz.underlying23 hi0 hz0 hz1 hz2 hz3 (by decide) w.heap.size (.slice ad xs.length c) xs.length (xs.flatMap Ser.cells) rfl (by exact (HOW4.out.alloc _)) ⟨w3.heap.size, 0, none⟩ [.slice a2 L1.length c2, .slice a3 L2.length c3] rfl rfl (by intro j u hu; have h9 := (Blk.new (w3.setCell ⟨p, 1, none⟩ (.bool false)) 45 [.slice a2 L1.length c2, .slice a3 L2.length c3]).cell (0 + j); rw [hsz4] at h9; rw [Addr.add_lit, h9, Nat.zero_add]; exact hu) (by intro u hu; simp at hu; rcases hu with rfl | rfl <;> rfl) (by unfold maxLen; omega) (by omega) (by simp; omega) ?_; intro g' c' w' ho' hp'; have HO' := hidden ho'; have HP' := hidden hp'; clear ho' hp'))
                have hI2 : Hid (WrI w p K N R n (all + L2.length) (.slice (some ⟨g', 0, none⟩) (xs.length + 1) c') w') := by
                  have hw2 : Chg (fun i_1 => Value.ownBlock (.slice ad xs.length c) = some i_1) (w3.setCell ⟨p, 1, none⟩ (.bool false)) w' := HP'.out.chg.1
                  have hfp : ∀ j, Value.ownBlock (.slice ad xs.length c) = some j → w.heap.size ≤ j := fun j hj => (HOW4.out.lt j hj).1
                  have hty : ∀ j, Value.ownBlock (.slice ad xs.length c) = some j → ¬ Ty (w3.setCell ⟨p, 1, none⟩ (.bool false)) j 47 ∧ ¬ Ty (w3.setCell ⟨p, 1, none⟩ (.bool false)) j 50 := fun j hj => ⟨fun k => absurd (k.ne (ty_owns HOW4.out hj)) (by decide), fun k => absurd (k.ne (ty_owns HOW4.out hj)) (by decide)⟩
                  refine hidden ⟨xs ++ [⟨a2, L1.length, c2, L1, a3, L2.length, c3, L2⟩], ⟨ub', false⟩, _, _, by rw [List.length_append]; simp; omega, by rw [List.length_append]; rfl, ?_, fun x hx => ?_, hI4.out.chg hw2 (fun e => by have := hfp p e; omega) (fun e => by have := hfp K e; omega), HC4.out.trans hw2 (fun j hj e => absurd (hfp j e) (by omega)), ?_⟩
                  · rw [List.length_append, List.flatMap_append]
                    simpa [Ser.cells] using HO'.out
                  · rcases List.mem_append.1 hx with hx | hx
                    · exact (HSR4.out x hx).chg hw2 hty
                    · rw [List.mem_singleton] at hx
                      subst hx
                      exact HSX4.out.chg hw2 hty
                  · rw [HT2.out, List.map_append]
                    simp only [Bool.true_and, decide_eq_false h1, Bool.false_and, Bool.and_false]
                    rfl
                clear HO' HP'
                go_wp2_with fail
                refine ⟨⟨n, all + L2.length, by first | rfl | simp, by first | rfl | simp, by omega, by omega, hI2⟩, ?_⟩
                simp [intOf]
    · have hN1 : ¬ (N : Int) > 0 := by omega
      have hd0 := decide_eq_false hN1
      rw [show (true && decide (0 < N)) = false by simp; omega] at H1
      simp at cf
      obtain rfl : N = 0 := by omega
      go_wp2_with fail
      refine wp_loop_rounds 1 ?_
      rw [rounds_succ]
      go_wp2_with fail
      go_ret
      obtain ⟨xs, t, ad, c, hxn, hv3, hown, hSr, hIt, hC, hT⟩ := H1.out
      have e : R = (xs.map prS, t) := hT
      rw [e]
      exact ⟨_, rfl, ⟨hIt, hC⟩, xs, rfl, ⟨ad, c, hv3⟩, hown, hSr⟩
end Go.Proofs.YtalmpmhnkilalaaGreatDoor

/-
  The document's reader, purely, against the code's: lists, labels, samples, series.
-/
namespace Go.Proofs.YtalmpmhnkilalaaGreatDoor
open Go.RowKit
set_option linter.unusedVariables false
set_option linter.unusedSimpArgs false

/-- What is told, and what is left, is what a reader tells. -/
def Agr {α : Type} (r : Rdr α) (b : List Int) (v : α) (s : Ri) : Prop := (s.ok = true → r b = some (v, s.b)) ∧ (s.ok = false → r b = none)
/-- Bytes, and not too many. -/
def Ri.P (s : Ri) : Prop := Byte s.b ∧ s.b.length ≤ 1048576
theorem P_drop {b : List Int} (h : Byte b ∧ b.length ≤ 1048576) (n : Nat) (ok : Bool) : (Ri.mk (b.drop n) ok).P := ⟨h.1.drop n, by show (b.drop n).length ≤ _; rw [List.length_drop]; have := h.2; omega⟩
theorem P_num {s : Ri} (h : s.P) : s.num.P := P_drop h _ _
theorem P_cnt {s : Ri} (h : s.P) (m : Nat) : (s.cnt m).P := P_drop h _ _
theorem P_txt {s : Ri} (h : s.P) (m : Nat) : (s.txt m).P := P_drop h _ _
theorem P_smp {s : Ri} (h : s.P) : s.smp.P := P_drop h _ _
theorem P_rep {α : Type} {val : Ri → α} {next : Ri → Ri} (hn : ∀ s : Ri, s.P → (next s).P) : ∀ (n : Nat) (s : Ri) (acc : List α), s.P → (Ri.rep val next n s acc).2.P
  | 0, s, acc, h => h
  | n + 1, s, acc, h => by
    rw [Ri.rep]
    split
    · exact P_rep hn n _ _ (hn s h)
    · exact h
theorem P_labs {s : Ri} (h : s.P) : s.labs.2.P := P_rep (fun s h => P_txt (P_txt h 64) 64) _ _ _ (P_cnt h 16)
theorem P_serN {s : Ri} (h : s.P) : s.serN.P := P_smp (P_labs h)
theorem agr_num {s : Ri} (h : s.P) (ho : s.ok = true) : Agr (rNum U64) s.b (Q.dec s.b).1 s.num := by
  have hb := (Q.dec_bound s.b h.1).1
  unfold Agr Ri.num rNum U64
  simp only [ho, Bool.true_and, decide_eq_true_eq, decide_eq_false_iff_not]
  constructor
  · intro h0
    rw [if_pos ⟨by omega, hb⟩]
  · intro h0
    rw [if_neg (by rintro ⟨h1, _⟩; omega)]
theorem agr_cnt {s : Ri} (h : s.P) (ho : s.ok = true) (m : Nat) : Agr (rNum m) s.b (Q.dec s.b).1 (s.cnt m) := by
  unfold Agr Ri.cnt Ri.num rNum
  simp only [ho, Bool.true_and, Bool.and_eq_true, decide_eq_true_eq, Bool.and_eq_false_iff, decide_eq_false_iff_not]
  constructor
  · rintro ⟨h1, h2⟩
    rw [if_pos ⟨by omega, h2⟩]
  · intro h0
    rw [if_neg (by rintro ⟨h1, h2⟩; rcases h0 with h0 | h0 <;> omega)]
theorem agr_lim {s : Ri} (h : s.P) (ho : s.ok = true) (m m' : Nat) (hm : m = m' ∨ (s.b.length = m ∧ m' = 18446744073709551615)) : Agr (rLim m') s.b (txL s.b m) (s.txt m) := by
  have hd := Q.dec_bound s.b h.1
  have hl := h.2
  unfold Agr Ri.txt txN txL rLim rNum Q.badB
  by_cases hb : (decide ((Q.dec s.b).2 = 0) || decide ((m : Int) < 0) || decide ((m : Int) < ((Q.dec s.b).1 : Int)) || decide (s.b.length - (Q.dec s.b).2 < (Q.dec s.b).1)) = true
  · rw [if_pos hb, if_pos hb]
    refine ⟨fun e => by simp at e, fun _ => ?_⟩
    simp at hb
    by_cases h1 : (Q.dec s.b).2 ≠ 0 ∧ (Q.dec s.b).1 ≤ m'
    · rw [if_pos h1]
      show rCut _ _ = none
      unfold rCut
      rw [if_neg]
      rw [List.length_drop]
      rcases hm with rfl | ⟨h2, h3⟩ <;> omega
    · rw [if_neg h1]
      rfl
  · rw [if_neg hb, if_neg hb]
    simp at hb
    refine ⟨fun _ => ?_, fun e => ?_⟩
    · rw [if_pos ⟨by omega, by rcases hm with rfl | ⟨h2, h3⟩ <;> omega⟩]
      show rCut _ _ = _
      unfold rCut
      rw [if_pos (by rw [List.length_drop]; omega), List.drop_drop]
    · simp [ho] at e
      omega
theorem agr_txt {s : Ri} (h : s.P) (ho : s.ok = true) (m : Nat) : Agr (rTxt m) s.b (strOfNums (txL s.b m)) (s.txt m) := by
  have ha := agr_lim h ho m m (.inl rfl)
  exact ⟨fun e => by unfold rTxt rMap; rw [ha.1 e]; rfl, fun e => by unfold rTxt rMap; rw [ha.2 e]; rfl⟩
theorem rPair_at {α β : Type} (r : Rdr α) (q : Rdr β) (b : List Int) : rPair r q b = (r b).bind (fun x => (q x.2).map (fun p => ((x.1, p.1), p.2))) := rfl
theorem rEach_at {α : Type} (m : Nat) (r : Rdr α) (b : List Int) : rEach m r b = (rNum m b).bind (fun q => rRep r q.1 q.2) := rfl
theorem rSmp_at (b : List Int) : rSmp b = (rLim 18446744073709551615 b).bind (fun q => (rdR q.1).map (fun l => (l, q.2))) := rfl
/-- One behind the other. -/
theorem agr_pair {α β : Type} {r : Rdr α} {q : Rdr β} {b : List Int} {x : α} {y : β} {s t : Ri} (h1 : Agr r b x s) (h2 : s.ok = true → Agr q s.b y t) (h3 : s.ok = false → t.ok = false) : Agr (rPair r q) b (x, y) t := by
  unfold Agr
  rw [rPair_at]
  cases hs : s.ok with
  | false =>
    refine ⟨fun e => ?_, fun _ => ?_⟩
    · rw [h3 hs] at e; cases e
    · rw [h1.2 hs]; rfl
  | true =>
    refine ⟨fun e => ?_, fun e => ?_⟩
    · rw [h1.1 hs]
      show (q s.b).map _ = _
      rw [(h2 hs).1 e]
      rfl
    · rw [h1.1 hs]
      show (q s.b).map _ = _
      rw [(h2 hs).2 e]
      rfl
theorem agr_map {α β : Type} {r : Rdr α} {b : List Int} {x : α} {s : Ri} (f : α → β) (h : Agr r b x s) : Agr (rMap f r) b (f x) s := ⟨fun e => by unfold rMap; rw [h.1 e]; rfl, fun e => by unfold rMap; rw [h.2 e]; rfl⟩
theorem agr_rep {α : Type} {one : Rdr α} {val : Ri → α} {next : Ri → Ri} (hP : ∀ s : Ri, s.P → (next s).P) (hA : ∀ s : Ri, s.P → s.ok = true → Agr one s.b (val s) (next s)) :
    ∀ (n : Nat) (s : Ri) (acc : List α), s.P → s.ok = true → ((Ri.rep val next n s acc).2.ok = true → ∃ l, (Ri.rep val next n s acc).1 = acc ++ l ∧ rRep one n s.b = some (l, (Ri.rep val next n s acc).2.b)) ∧ ((Ri.rep val next n s acc).2.ok = false → rRep one n s.b = none)
  | 0, s, acc, h, ho => by
    refine ⟨fun _ => ⟨[], by simp [Ri.rep], rfl⟩, fun e => ?_⟩
    have e : s.ok = false := e
    rw [ho] at e
    cases e
  | n + 1, s, acc, h, ho => by
    rw [Ri.rep_yes n ho acc]
    have ha := hA s h ho
    cases hn : (next s).ok with
    | false =>
      rw [Ri.rep_no n hn]
      refine ⟨fun e => ?_, fun _ => ?_⟩
      · have e : (next s).ok = true := e
        rw [hn] at e
        cases e
      · unfold rRep
        rw [ha.2 hn]
        rfl
    | true =>
      obtain ⟨i1, i2⟩ := agr_rep hP hA n (next s) (acc ++ [val s]) (hP s h) hn
      refine ⟨fun e => ?_, fun e => ?_⟩
      · obtain ⟨l, h1, h2⟩ := i1 e
        refine ⟨val s :: l, by rw [h1]; simp, ?_⟩
        unfold rRep
        rw [ha.1 hn]
        show (rRep one n (next s).b).map _ = _
        rw [h2]
        rfl
      · unfold rRep
        rw [ha.1 hn]
        show (rRep one n (next s).b).map _ = _
        rw [i2 e]
        rfl
theorem rep_short {α : Type} {one : Rdr α} (hlt : ∀ b y t, Byte b → b.length ≤ 1048576 → one b = some (y, t) → Byte t ∧ t.length < b.length) : ∀ (n : Nat) (b : List Int), Byte b → b.length ≤ 1048576 → b.length < n → rRep one n b = none
  | 0, b, _, _, h => by omega
  | n + 1, b, hb, hl, h => by
    unfold rRep
    cases ho : one b with
    | none => rfl
    | some q =>
      obtain ⟨y, t⟩ := q
      obtain ⟨h1, h2⟩ := hlt b y t hb hl ho
      show (rRep one n t).map _ = none
      rw [rep_short hlt n t h1 (by omega) (by omega)]
      rfl
theorem agr_each {α : Type} {one : Rdr α} {val : Ri → α} {next : Ri → Ri} (hP : ∀ s : Ri, s.P → (next s).P) (hA : ∀ s : Ri, s.P → s.ok = true → Agr one s.b (val s) (next s)) (m m' : Nat) {s : Ri} (h : s.P) (ho : s.ok = true)
    (hm : m = m' ∨ (s.b.length = m ∧ m' = U64 ∧ ∀ b y t, Byte b → b.length ≤ 1048576 → one b = some (y, t) → Byte t ∧ t.length < b.length)) :
    Agr (rEach m' one) s.b (Ri.rep val next (s.many m) (s.cnt m) []).1 (Ri.rep val next (s.many m) (s.cnt m) []).2 := by
  have hd := Q.dec_bound s.b h.1
  have hc := agr_cnt h ho m
  unfold Agr
  rw [rEach_at]
  cases hk : (s.cnt m).ok with
  | false =>
    rw [Ri.rep_no _ hk]
    refine ⟨fun e => ?_, fun _ => ?_⟩
    · have e : (s.cnt m).ok = true := e
      rw [hk] at e
      cases e
    · rcases hm with rfl | ⟨h1, h2, h3⟩
      · rw [hc.2 hk]; rfl
      · have hk2 : ¬ ((Q.dec s.b).2 ≠ 0 ∧ (Q.dec s.b).1 ≤ m) := by
          have := hc.2 hk
          unfold rNum at this
          split at this
          · cases this
          · assumption
        unfold rNum
        by_cases h5 : (Q.dec s.b).2 ≠ 0 ∧ (Q.dec s.b).1 ≤ m'
        · rw [if_pos h5]
          show rRep one _ _ = none
          refine rep_short h3 _ _ (h.1.drop _) (by rw [List.length_drop]; have := h.2; omega) ?_
          rw [List.length_drop]
          have : ¬ (Q.dec s.b).1 ≤ m := fun e => hk2 ⟨h5.1, e⟩
          omega
        · rw [if_neg h5]
          rfl
  | true =>
    have hmany : s.many m = (Q.dec s.b).1 := by unfold Ri.many; rw [hk]; rfl
    have hc1 := hc.1 hk
    have hc2 : rNum m' s.b = some ((Q.dec s.b).1, (s.cnt m).b) := by
      rcases hm with rfl | ⟨h1, h2, h3⟩
      · exact hc1
      · unfold rNum at hc1 ⊢
        split at hc1
        · rename_i h6
          rw [if_pos ⟨h6.1, by unfold U64 at h2; omega⟩]
          exact hc1
        · cases hc1
    rw [hc2, hmany]
    obtain ⟨i1, i2⟩ := agr_rep hP hA (Q.dec s.b).1 (s.cnt m) [] (P_cnt h m) hk
    refine ⟨fun e => ?_, fun e => ?_⟩
    · obtain ⟨l, h1, h2⟩ := i1 e
      show rRep one _ _ = _
      rw [h2, h1]
      rfl
    · exact i2 e
theorem txt_no {s : Ri} (m : Nat) (h : s.ok = false) : (s.txt m).ok = false := by unfold Ri.txt; simp [h]
theorem smp_no {s : Ri} (h : s.ok = false) : s.smp.ok = false := by unfold Ri.smp; simp [txt_no _ h]
theorem num_no {s : Ri} (h : s.ok = false) : s.num.ok = false := by unfold Ri.num; simp [h]
theorem agr_lab {s : Ri} (h : s.P) (ho : s.ok = true) : Agr rLab s.b s.lab s.labN :=
  agr_map (fun p : ByteArray × ByteArray => La.mk p.1 p.2) (agr_pair (agr_txt h ho 64) (fun h2 => agr_txt (P_txt h 64) h2 64) (fun h2 => txt_no 64 h2))
theorem agr_labs {s : Ri} (h : s.P) (ho : s.ok = true) : Agr rLabs s.b s.labs.1 s.labs.2 :=
  agr_each (fun s h => P_txt (P_txt h 64) 64) (fun s h ho => agr_lab h ho) 16 16 h ho (.inl rfl)
theorem agr_smp {s : Ri} (h : s.P) (ho : s.ok = true) : Agr rSmp s.b s.smpV s.smp := by
  have ha := agr_lim h ho s.b.length 18446744073709551615 (.inr ⟨rfl, rfl⟩)
  unfold Agr Ri.smp Ri.smpV
  rw [rSmp_at]
  cases ht : (s.txt s.b.length).ok with
  | false => exact ⟨fun e => by simp at e, fun _ => by rw [ha.2 ht]; rfl⟩
  | true =>
    rw [ha.1 ht]
    cases hr : rdR (txL s.b s.b.length) with
    | none => exact ⟨fun e => by simp at e, fun _ => by show (rdR _).map _ = _; rw [hr]; rfl⟩
    | some l => exact ⟨fun e => by show (rdR _).map _ = _; rw [hr]; rfl, fun e => by simp at e⟩
theorem agr_ser {s : Ri} (h : s.P) (ho : s.ok = true) : Agr rSer s.b s.ser s.serN :=
  agr_pair (agr_labs h ho) (fun h2 => agr_smp (P_labs h) h2) (fun h2 => smp_no h2)
theorem lt_cod {α : Type} {r : Rdr α} {ok : α → Prop} {en : α → List Int} (h : Cod r ok en) (hp : ∀ x, 0 < (en x).length) : ∀ b y t, Byte b → b.length ≤ 1048576 → r b = some (y, t) → Byte t ∧ t.length < b.length := by
  intro b y t hb hl hr
  obtain ⟨_, e⟩ := h.forth b y t hb hl hr
  have := hp y
  refine ⟨by rw [e] at hb; exact hb.right, ?_⟩
  rw [e, List.length_append]
  omega
theorem P_wrep : ∀ (n all : Nat) (s : Ri) (acc : List Se), s.P → (∀ x ∈ acc, x.2.length ≤ 4194304) → (Ri.wrep n all s acc).2.P ∧ ∀ x ∈ (Ri.wrep n all s acc).1, x.2.length ≤ 4194304
  | 0, all, s, acc, h, ha => ⟨h, ha⟩
  | n + 1, all, s, acc, h, ha => by
    rw [Ri.wrep]
    split
    · refine P_wrep n _ _ _ (P_serN h) (fun x hx => ?_)
      rcases List.mem_append.1 hx with hx | hx
      · exact ha x hx
      · rw [List.mem_singleton] at hx
        subst hx
        exact smpV_len (P_labs h).1 (P_labs h).2
    · exact ⟨h, ha⟩
theorem wrs_len {s : Ri} (h : s.P) : ∀ x ∈ s.wrs.1, x.2.length ≤ 4194304 := (P_wrep (s.many 64) 0 ⟨(s.cnt 64).b, (s.cnt 64).ok && decide (0 < s.many 64)⟩ [] ⟨(P_cnt h 64).1, (P_cnt h 64).2⟩ (by simp)).2
end Go.Proofs.YtalmpmhnkilalaaGreatDoor
