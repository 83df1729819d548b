import Derived.Test.YtalmpmhnkilalaaGreatDoorDxA
import Derived.Test.YtalmpmhnkilalaaGreatDoorRqL
import Derived.Deep.CutRange
/-
  The document's writer: matchers. By gendxd20.py.
-/
namespace Go.Proofs.YtalmpmhnkilalaaGreatDoor
open Go.RowKit
set_option linter.unusedVariables false
set_option linter.unusedSimpArgs false

theorem lat_cellA {w w1 : World} (hL : Below w.heap.size w w1) {a : Addr} {v : Value} (h : w.cell? a = some v) : w1.cell? a = some v := by
  rw [World.cell?_of_block (hL.block a.block (World.block_lt_of_cell? w a h))]
  exact h
theorem wrap_u8 (n : Int) : IntKind.u8.wrap n = u8 n := by
  unfold u8
  simp [IntKind.wrap, IntKind.signed, IntKind.bits]
theorem step_pushO (w : World) {ops : Array Oper} {o : Oper} {a : Act} {K : Act → World → Prop} {Q : Exit → Act → World → Prop} {E : Prop} (hgd : o.guard = none) (s x : Operand)
    (ho : o.op = .call { callee := .builtin .append, args := #[s, x], argTypes := #[22, 22] }) (base : Nat) (v : Value) (n : Nat) (xs : List Value) (hs : a.eval s = v) (w0 : World) (hown : w0.ownsRow base 5 1 v n xs) (y : Int)
    (hw : w = w0.alloc (.cells #[.int .u8 y] 5)) (hx : a.eval x = .slice (some ⟨w0.heap.size, 0, none⟩) 1 1) (hn : n ≤ 10000000000000) (hbase : base ≤ w0.heap.size)
    (h : ∀ g' c' w', w'.ownsRow base 5 1 (.slice (some ⟨g', 0, none⟩) (n + 1) c') (n + 1) (xs ++ [.int .u8 y]) → Chg (fun i => v.ownBlock = some i) w0 w' → Moved w0 v.ownBlock (some g') → K (a.put o.dst (.slice (some ⟨g', 0, none⟩) (n + 1) c')) w') :
    if Region.wanted o (yielded ops a.tmps) = true then Oper.wp Tryz.prog o a w K Q else E := by
  subst hw
  obtain ⟨i0, hi0, hz0, hz1, hz2⟩ := info_parts info5
  refine step_push _ hgd s x 22 ho 5 i0 (.int .u8 0) 1 Tryz.underlying22 hi0 hz0 hz1 hz2 rfl base v n xs hs (hown.alloc _) ⟨w0.heap.size, 0, none⟩ (.int .u8 y) hx (by simp) rfl (by unfold maxLen; omega) (by omega) (by simp; omega) ?_
  intro g' c' w' h1 h2
  exact h g' c' w' h1 h2.chg.1 h2.chg.2
/-- A byte behind its row. -/
theorem OV.push {w w6 : World} {p : Nat} {rb : Option Nat} {s : Od} {v : Value} {x : Int} {g c : Nat} (h : OV w p rb s v) (ho : w6.ownsRow 0 5 1 (.slice (some ⟨g, 0, none⟩) (s.b.length + 1) c) (s.b.length + 1) (cells8 s.b ++ [.int .u8 x])) (hc : Chg (fun i => v.ownBlock = some i) w w6) (hm : Moved w v.ownBlock (some g)) (h0 : 0 ≤ x) (h1 : x ≤ 255) :
    Blk w6 p 80 [v, .bool s.ok] ∧ OR w p rb ⟨s.b ++ [x], s.ok⟩ (w6.setCell ⟨p, 0, none⟩ (.slice (some ⟨g, 0, none⟩) (s.b.length + 1) c)) := by
  have hown := h.own
  rw [hown] at hc hm
  have hB : Blk w6 p 80 [v, .bool s.ok] := hc.blk h.blk (fun e => h.ne e)
  have hne : g ≠ p := by
    intro e
    subst e
    rcases hm with k | ⟨g2, k, hg⟩
    · exact h.ne k.symm
    · have := h.blk.lt
      injection k with k
      omega
  refine ⟨hB, some g, ⟨_, ⟨fun e => hne (by simpa using e), rfl, hB.set 0 _, ?_, h.byte.append (fun y hy => by simp at hy; omega)⟩⟩, (hc.mono (G := fpt p rb) (fun i _ hi => .inr hi)).trans (Chg.set ⟨p, 0, none⟩ _ w6) (fun i _ hi => .inl hi), fun g2 hg2 => ?_⟩
  · have e : (cells8 (s.b ++ [x])) = cells8 s.b ++ [.int .u8 x] := by rw [cells8_append]; rfl
    show (w6.setCell ⟨p, 0, none⟩ _).ownsRow 0 5 1 _ (s.b ++ [x]).length (cells8 (s.b ++ [x]))
    rw [e, List.length_append]
    exact (Chg.set ⟨p, 0, none⟩ _ w6).owns ho (fun g2 hg2 e => hne (by simp [Value.ownBlock] at hg2; simp at e; omega))
  · rcases hm with k | ⟨g3, k, hg⟩
    · left
      rw [← k]
      exact hg2
    · right
      rw [k] at hg2
      injection hg2 with hg2
      omega

set_option maxHeartbeats 2000000 in
set_option maxRecDepth 8000 in
theorem matchersO (p : Nat) (rb : Option Nat) (s : Od) (ad : Option Addr) (N c : Nat) (l : List Ma) (w : World) (h : Ot w p rb s) (hN : l.length = N) (hN9 : N ≤ 9223372036854775807) (hE : ∀ wx, Chg (fpt p rb) w wx → Es wx ad 3 (l.map Ma.cells)) (hb : s.b.length ≤ 900000000000) :
    Calls Tryz.prog 63 #[.pointer (some ⟨p, 0, none⟩), .slice ad N c] w (OQ w p rb (s.matchers l)) := by
  have HE := hidden hE
  have HN := hidden hN
  have HO := hidden h
  clear h hE hN
  go_enter Tryz.func63, Tryz.ntmps63
  go_wp2_with fail
  refine (countO p rb s (N : Int) 8 w HO.out ⟨by omega, by omega⟩ ⟨by omega, by omega⟩ (by omega)).mono ?_
  rintro e w1 ⟨rfl, hR⟩
  obtain ⟨s1, hs1⟩ : ∃ s1, s.count (N : Int) 8 = s1 := ⟨_, rfl⟩
  rw [hs1] at hR
  have HR1 := hidden hR
  have HL1 : Hid (s1.b.length ≤ 900000000010) := hidden (by rw [← hs1]; have := (dwt_count (N : Int) 8 (by omega)).len s; omega)
  have HS1 := hidden hs1
  clear hR hs1
  go_wp2_with fail
  go_loopw [4] (fun v4 wx => ∃ i : Nat, v4 = .int .i64 (i : Int) ∧ i ≤ N ∧ Hid (OR w p rb (eachO oMatch (l.take i) s1) wx)) (fun v4 _ => N - (intOf v4).toNat)
  case atStart => exact ⟨0, rfl, by omega, HR1⟩
  case round =>
    obtain ⟨i, rfl, hi, hI⟩ := hrel
    have hfin : ∀ (hq : i = N ∨ (eachO oMatch (l.take i) s1).ok = false), OQ w p rb (s.matchers l) (.returned (.tuple #[])) wr := fun hq => by
      refine ⟨rfl, ?_⟩
      have e : s.matchers l = eachO oMatch l s1 := by
        show eachO oMatch l (s.count (l.length : Int) 8) = _
        rw [HN.out, HS1.out]
      rw [e]
      rcases hq with hq | hq
      · have := hI.out
        rw [hq, ← HN.out, List.take_length] at this
        exact this
      · rw [eachO_rest oMatch l s1 i hq]
        exact hI.out
    have HFIN := hidden hfin
    clear hfin
    obtain ⟨st, hst⟩ : ∃ st, eachO oMatch (l.take i) s1 = st := ⟨_, rfl⟩
    rw [hst] at hI HFIN
    have HST := hidden hst
    clear hst
    obtain ⟨rb1, hO1, hC1, hM1⟩ := hI.out
    have HO1 := hidden hO1
    have HC1 := hidden hC1
    have HM1 := hidden hM1
    obtain ⟨v1, hv1⟩ := hO1
    have cO : wr.cell? ⟨p, 1, none⟩ = some (.bool st.ok) := hv1.blk.cell 1
    clear hv1 hC1 hM1
    obtain ⟨ok, hok⟩ : ∃ ok, st.ok = ok := ⟨_, rfl⟩
    rw [hok] at cO
    have HOK := hidden hok
    clear hok
    by_cases hin : i < N
    · have hin' : (i : Int) < (N : Int) := by omega
      cases ok with
      | false =>
        go_wp2_with fail
        go_end0
        exact HFIN.out (.inr HOK.out)
      | true =>
        obtain ⟨x, hx⟩ : ∃ x, l[i]? = some x := ⟨l[i]'(by have := HN.out; omega), by simp⟩
        have hxm : (l.map Ma.cells)[i]? = some [.string x.n, .int .i64 x.op, .string x.t] := by rw [List.getElem?_map, hx]; rfl
        have hN8 : N ≤ 8 := by
          by_cases h8 : N ≤ 8
          · exact h8
          · exfalso
            have h1 : s1.ok = false := by rw [← HS1.out]; exact count_no (by omega)
            have h2 := eachO_no oMatch (l.take i) s1 h1
            rw [HST.out] at h2
            have h3 := HOK.out
            rw [h2, h1] at h3
            cases h3
        have HLS : Hid (st.b.length ≤ 900000003000) := hidden (by
          have h1 := (dwt_each (l.take i) (fun x _ => dwt_match x)).len s1
          rw [HST.out] at h1
          have h2 : (l.take i).length ≤ 8 := by rw [List.length_take]; omega
          have := Nat.mul_le_mul_right 149 h2
          have := HL1.out
          omega)
        have HXT : Hid (∀ wx, Chg (fpt p rb) w wx → ∃ b1 o1, ad = some ⟨b1, o1, none⟩ ∧ wx.cell? ⟨b1, o1 + i * 3, none⟩ = some (.string x.n) ∧ wx.cell? ⟨b1, o1 + i * 3 + 1, none⟩ = some (.int .i64 x.op) ∧ wx.cell? ⟨b1, o1 + i * 3 + 2, none⟩ = some (.string x.t)) := hidden (fun wx hc => by
          obtain ⟨b1, o1, e, _, hcell⟩ := HE.out wx hc (by intro h0; rw [h0] at hxm; simp at hxm)
          have e0 := hcell i _ hxm 0 _ rfl
          have e1 := hcell i _ hxm 1 _ rfl
          have e2 := hcell i _ hxm 2 _ rfl
          rw [Nat.add_zero] at e0
          exact ⟨b1, o1, e, e0, e1, e2⟩)
        have HNX : Hid (eachO oMatch (l.take (i + 1)) s1 = oMatch st x) := hidden (by rw [eachO_next oMatch l s1 i x hx, HST.out, if_pos HOK.out])
        obtain ⟨b1, o1, rfl, k0, k1, k2⟩ := HXT.out wr HC1.out
        clear hx hxm
        go_wp2_with fail
        refine (textO p rb1 st x.n 64 wr HO1.out (by omega) (by have := HLS.out; omega)).mono ?_
        rintro e w2 ⟨rfl, hR2⟩
        have HR2 := hidden (OR.trans HC1.out HM1.out hR2)
        clear hR2 k0 k1 k2
        obtain ⟨rb2, hO2, hC2, hM2⟩ := HR2.out
        have HO2 := hidden hO2
        have HC2 := hidden hC2
        have HM2 := hidden hM2
        obtain ⟨v2, hv2⟩ := hO2
        obtain ⟨a2, cc2, rfl⟩ := owns_form hv2.row
        obtain ⟨kk, hkk⟩ : ∃ kk, (st.text x.n 64).b.length = kk := ⟨_, rfl⟩
        rw [hkk] at hv2
        have HV2 := hidden hv2
        have HKK := hidden hkk
        have cO2 : w2.cell? ⟨p, 1, none⟩ = some (.bool (st.text x.n 64).ok) := hv2.blk.cell 1
        have f12 := hv2.blk.frozen 1
        have HTL : Hid ((st.text x.n 64).b.length ≤ st.b.length + 74) := hidden ((dwt_text x.n 64 (by omega)).len st)
        obtain ⟨ok2, hok2⟩ : ∃ ok2, (st.text x.n 64).ok = ok2 := ⟨_, rfl⟩
        rw [hok2] at cO2
        have HMU : Hid ((st.text x.n 64).must (decide (1 ≤ x.op) && decide (x.op ≤ 4)) = ⟨(st.text x.n 64).b, ok2 && (decide (1 ≤ x.op) && decide (x.op ≤ 4))⟩) := hidden (by rw [must_if, hok2])
        clear hkk hv2 hC2 hM2 hok2
        obtain ⟨b2, o2, hbe, k0, k1, k2⟩ := HXT.out w2 HC2.out
        simp only [Option.some.injEq, Addr.mk.injEq, and_true] at hbe
        obtain ⟨rfl, rfl⟩ := hbe
        cases ok2 with
        | false =>
          have HCO : Hid ((false && (decide (1 ≤ x.op) && decide (x.op ≤ 4))) = false) := hidden rfl
          have HC4 : Hid (Chg (fpt p rb) w (w2.setCell ⟨p, 1, none⟩ (.bool false))) := hidden (HC2.out.trans (Chg.set ⟨p, 1, none⟩ _ w2) (fun i _ hi => .inl hi))
          obtain ⟨b4, o4, hbe, m0, m1, m2⟩ := HXT.out _ HC4.out
          simp only [Option.some.injEq, Addr.mk.injEq, and_true] at hbe
          obtain ⟨rfl, rfl⟩ := hbe
          have g0 : (w2.setCell ⟨p, 1, none⟩ (.bool false)).cell? ⟨p, 0, none⟩ = some (.slice a2 kk cc2) := (HV2.out.setOk false).blk.cell 0
          go_upto_region 6 with fail
          obtain ⟨w4, hw4⟩ : ∃ w4, w2.setCell ⟨p, 1, none⟩ (.bool false) = w4 := ⟨_, rfl⟩
          have HV4 : Hid (OV w4 p rb2 ⟨(st.text x.n 64).b, false⟩ (.slice a2 kk cc2)) := hidden (by rw [← hw4]; exact HV2.out.setOk false)
          rw [hw4] at HC4 m0 m1 m2 g0
          rw [hw4]
          clear hw4 k0 k1 k2
          have hT : (st.text x.n 64).must (decide (1 ≤ x.op) && decide (x.op ≤ 4)) = ⟨(st.text x.n 64).b, false⟩ := HMU.out.trans (by rw [HCO.out])
          have HT := hidden hT
          clear hT
          go_cut [] from 51 to 65 (fun wx => Hid (OR w4 p rb2 ⟨(st.text x.n 64).b ++ [u8 x.op], false⟩ wx))
          case first =>
            have hrow : w4.ownsRow 0 5 1 (.slice a2 kk cc2) kk (cells8 (st.text x.n 64).b) := by have := HV4.out.row; simp only [HKK.out] at this; exact this
            have HRW := hidden hrow
            have m1d : w4.drew.cell? ⟨b1, o1 + i * 3 + 1, none⟩ = some (.int .i64 x.op) := m1
            have g0d : w4.drew.cell? ⟨p, 0, none⟩ = some (.slice a2 kk cc2) := g0
            have hplt : p < w4.heap.size := HV4.out.blk.lt
            have m1a : ∀ (o : Obj), (w4.drew.alloc o).cell? ⟨b1, o1 + i * 3 + 1, none⟩ = some (.int .i64 x.op) := fun o => lat_cellA ((Below.refl _ _).alloc (Nat.le_refl _) o) m1d
            have g0a : ∀ (o : Obj), (w4.drew.alloc o).cell? ⟨p, 0, none⟩ = some (.slice a2 kk cc2) := fun o => lat_cellA ((Below.refl _ _).alloc (Nat.le_refl _) o) g0d
            clear hrow
            go_region_law (first
              | (refine step_pushO _ (by rfl) (.tmp 55) (.tmp 62) (by rfl) 0 (.slice a2 kk cc2) kk _ (by rfl) w4.drew (HRW.out.drew) (IntKind.u8.wrap x.op) (by rfl) (by rfl) (by have := HLS.out; have := HKK.out; have := HTL.out; omega) (Nat.zero_le _) ?_
                 intro g7 c7 w7 ho7 hc7 hm7
                 have HG7 := hidden (HV4.out.push (x := IntKind.u8.wrap x.op) (by rw [HKK.out]; exact ho7) ((Chg.of_below ((Below.refl _ w4).drew)).trans hc7 (fun _ _ e => e)) (by have := hm7; exact this) (by rw [wrap_u8]; unfold u8; omega) (by rw [wrap_u8]; unfold u8; omega))
                 have f7 := HG7.out.1.frozen 0
                 have g7 := HG7.out.1.cell 0
                 simp at g7
                 clear ho7 hc7 hm7))
            all_goals
              go_wp2_with fail
              go_meet
              exact hidden (by have := HG7.out.2; rw [HKK.out, wrap_u8] at this; exact this)
          case rest =>
            have HR5 := hidden (OR.trans HC4.out HM2.out hcut.out)
            clear hcut
            obtain ⟨rb5, hO5, hC5, hM5⟩ := HR5.out
            have HO5 := hidden hO5
            have HC5 := hidden hC5
            have HM5 := hidden hM5
            clear hO5 hC5 hM5 m0 m1 m2 g0
            obtain ⟨b4, o4, hbe, m0, m1, m2⟩ := HXT.out wc HC5.out
            simp only [Option.some.injEq, Addr.mk.injEq, and_true] at hbe
            obtain ⟨rfl, rfl⟩ := hbe
            go_wp2_with fail
            refine (textO p rb5 ⟨(st.text x.n 64).b ++ [u8 x.op], false⟩ x.t 64 wc HO5.out (by omega) (by have := HLS.out; have := HTL.out; simp; omega)).mono ?_
            rintro e w6 ⟨rfl, hR6⟩
            have HR6 := hidden (OR.trans HC5.out HM5.out hR6)
            clear hR6 m0 m1 m2
            go_wp2_with fail
            refine ⟨⟨i + 1, by first | rfl | simp, by omega, hidden (by rw [HNX.out]; unfold oMatch; rw [HT.out]; exact HR6.out)⟩, ?_⟩
            show N - ((i : Int) + 1).toNat < N - (i : Int).toNat
            omega
        | true =>
          by_cases hq1 : 1 ≤ x.op
          · have hq1' : x.op ≥ 1 := hq1
            by_cases hq2 : x.op ≤ 4
            · have HCO : Hid ((true && (decide (1 ≤ x.op) && decide (x.op ≤ 4))) = true) := hidden (by simp [hq1, hq2])
              have HC4 : Hid (Chg (fpt p rb) w (w2.setCell ⟨p, 1, none⟩ (.bool true))) := hidden (HC2.out.trans (Chg.set ⟨p, 1, none⟩ _ w2) (fun i _ hi => .inl hi))
              obtain ⟨b4, o4, hbe, m0, m1, m2⟩ := HXT.out _ HC4.out
              simp only [Option.some.injEq, Addr.mk.injEq, and_true] at hbe
              obtain ⟨rfl, rfl⟩ := hbe
              have g0 : (w2.setCell ⟨p, 1, none⟩ (.bool true)).cell? ⟨p, 0, none⟩ = some (.slice a2 kk cc2) := (HV2.out.setOk true).blk.cell 0
              go_upto_region 6 with fail
              obtain ⟨w4, hw4⟩ : ∃ w4, w2.setCell ⟨p, 1, none⟩ (.bool true) = w4 := ⟨_, rfl⟩
              have HV4 : Hid (OV w4 p rb2 ⟨(st.text x.n 64).b, true⟩ (.slice a2 kk cc2)) := hidden (by rw [← hw4]; exact HV2.out.setOk true)
              rw [hw4] at HC4 m0 m1 m2 g0
              rw [hw4]
              clear hw4 k0 k1 k2
              have hT : (st.text x.n 64).must (decide (1 ≤ x.op) && decide (x.op ≤ 4)) = ⟨(st.text x.n 64).b, true⟩ := HMU.out.trans (by rw [HCO.out])
              have HT := hidden hT
              clear hT
              go_cut [] from 51 to 65 (fun wx => Hid (OR w4 p rb2 ⟨(st.text x.n 64).b ++ [u8 x.op], true⟩ wx))
              case first =>
                have hrow : w4.ownsRow 0 5 1 (.slice a2 kk cc2) kk (cells8 (st.text x.n 64).b) := by have := HV4.out.row; simp only [HKK.out] at this; exact this
                have HRW := hidden hrow
                have m1d : w4.drew.cell? ⟨b1, o1 + i * 3 + 1, none⟩ = some (.int .i64 x.op) := m1
                have g0d : w4.drew.cell? ⟨p, 0, none⟩ = some (.slice a2 kk cc2) := g0
                have hplt : p < w4.heap.size := HV4.out.blk.lt
                have m1a : ∀ (o : Obj), (w4.drew.alloc o).cell? ⟨b1, o1 + i * 3 + 1, none⟩ = some (.int .i64 x.op) := fun o => lat_cellA ((Below.refl _ _).alloc (Nat.le_refl _) o) m1d
                have g0a : ∀ (o : Obj), (w4.drew.alloc o).cell? ⟨p, 0, none⟩ = some (.slice a2 kk cc2) := fun o => lat_cellA ((Below.refl _ _).alloc (Nat.le_refl _) o) g0d
                clear hrow
                go_region_law (first
                  | (refine step_pushO _ (by rfl) (.tmp 55) (.tmp 62) (by rfl) 0 (.slice a2 kk cc2) kk _ (by rfl) w4.drew (HRW.out.drew) (IntKind.u8.wrap x.op) (by rfl) (by rfl) (by have := HLS.out; have := HKK.out; have := HTL.out; omega) (Nat.zero_le _) ?_
                     intro g7 c7 w7 ho7 hc7 hm7
                     have HG7 := hidden (HV4.out.push (x := IntKind.u8.wrap x.op) (by rw [HKK.out]; exact ho7) ((Chg.of_below ((Below.refl _ w4).drew)).trans hc7 (fun _ _ e => e)) (by have := hm7; exact this) (by rw [wrap_u8]; unfold u8; omega) (by rw [wrap_u8]; unfold u8; omega))
                     have f7 := HG7.out.1.frozen 0
                     have g7 := HG7.out.1.cell 0
                     simp at g7
                     clear ho7 hc7 hm7))
                all_goals
                  go_wp2_with fail
                  go_meet
                  exact hidden (by have := HG7.out.2; rw [HKK.out, wrap_u8] at this; exact this)
              case rest =>
                have HR5 := hidden (OR.trans HC4.out HM2.out hcut.out)
                clear hcut
                obtain ⟨rb5, hO5, hC5, hM5⟩ := HR5.out
                have HO5 := hidden hO5
                have HC5 := hidden hC5
                have HM5 := hidden hM5
                clear hO5 hC5 hM5 m0 m1 m2 g0
                obtain ⟨b4, o4, hbe, m0, m1, m2⟩ := HXT.out wc HC5.out
                simp only [Option.some.injEq, Addr.mk.injEq, and_true] at hbe
                obtain ⟨rfl, rfl⟩ := hbe
                go_wp2_with fail
                refine (textO p rb5 ⟨(st.text x.n 64).b ++ [u8 x.op], true⟩ x.t 64 wc HO5.out (by omega) (by have := HLS.out; have := HTL.out; simp; omega)).mono ?_
                rintro e w6 ⟨rfl, hR6⟩
                have HR6 := hidden (OR.trans HC5.out HM5.out hR6)
                clear hR6 m0 m1 m2
                go_wp2_with fail
                refine ⟨⟨i + 1, by first | rfl | simp, by omega, hidden (by rw [HNX.out]; unfold oMatch; rw [HT.out]; exact HR6.out)⟩, ?_⟩
                show N - ((i : Int) + 1).toNat < N - (i : Int).toNat
                omega
            · have hq2' : 4 < x.op := by omega
              have hq3 : decide (x.op ≤ 4) = false := by simp; omega
              have HCO : Hid ((true && (decide (1 ≤ x.op) && decide (x.op ≤ 4))) = false) := hidden (by simp [hq2])
              have HC4 : Hid (Chg (fpt p rb) w (w2.setCell ⟨p, 1, none⟩ (.bool false))) := hidden (HC2.out.trans (Chg.set ⟨p, 1, none⟩ _ w2) (fun i _ hi => .inl hi))
              obtain ⟨b4, o4, hbe, m0, m1, m2⟩ := HXT.out _ HC4.out
              simp only [Option.some.injEq, Addr.mk.injEq, and_true] at hbe
              obtain ⟨rfl, rfl⟩ := hbe
              have g0 : (w2.setCell ⟨p, 1, none⟩ (.bool false)).cell? ⟨p, 0, none⟩ = some (.slice a2 kk cc2) := (HV2.out.setOk false).blk.cell 0
              go_upto_region 6 with fail
              obtain ⟨w4, hw4⟩ : ∃ w4, w2.setCell ⟨p, 1, none⟩ (.bool false) = w4 := ⟨_, rfl⟩
              have HV4 : Hid (OV w4 p rb2 ⟨(st.text x.n 64).b, false⟩ (.slice a2 kk cc2)) := hidden (by rw [← hw4]; exact HV2.out.setOk false)
              rw [hw4] at HC4 m0 m1 m2 g0
              rw [hw4]
              clear hw4 k0 k1 k2
              have hT : (st.text x.n 64).must (decide (1 ≤ x.op) && decide (x.op ≤ 4)) = ⟨(st.text x.n 64).b, false⟩ := HMU.out.trans (by rw [HCO.out])
              have HT := hidden hT
              clear hT
              go_cut [] from 51 to 65 (fun wx => Hid (OR w4 p rb2 ⟨(st.text x.n 64).b ++ [u8 x.op], false⟩ wx))
              case first =>
                have hrow : w4.ownsRow 0 5 1 (.slice a2 kk cc2) kk (cells8 (st.text x.n 64).b) := by have := HV4.out.row; simp only [HKK.out] at this; exact this
                have HRW := hidden hrow
                have m1d : w4.drew.cell? ⟨b1, o1 + i * 3 + 1, none⟩ = some (.int .i64 x.op) := m1
                have g0d : w4.drew.cell? ⟨p, 0, none⟩ = some (.slice a2 kk cc2) := g0
                have hplt : p < w4.heap.size := HV4.out.blk.lt
                have m1a : ∀ (o : Obj), (w4.drew.alloc o).cell? ⟨b1, o1 + i * 3 + 1, none⟩ = some (.int .i64 x.op) := fun o => lat_cellA ((Below.refl _ _).alloc (Nat.le_refl _) o) m1d
                have g0a : ∀ (o : Obj), (w4.drew.alloc o).cell? ⟨p, 0, none⟩ = some (.slice a2 kk cc2) := fun o => lat_cellA ((Below.refl _ _).alloc (Nat.le_refl _) o) g0d
                clear hrow
                go_region_law (first
                  | (refine step_pushO _ (by rfl) (.tmp 55) (.tmp 62) (by rfl) 0 (.slice a2 kk cc2) kk _ (by rfl) w4.drew (HRW.out.drew) (IntKind.u8.wrap x.op) (by rfl) (by rfl) (by have := HLS.out; have := HKK.out; have := HTL.out; omega) (Nat.zero_le _) ?_
                     intro g7 c7 w7 ho7 hc7 hm7
                     have HG7 := hidden (HV4.out.push (x := IntKind.u8.wrap x.op) (by rw [HKK.out]; exact ho7) ((Chg.of_below ((Below.refl _ w4).drew)).trans hc7 (fun _ _ e => e)) (by have := hm7; exact this) (by rw [wrap_u8]; unfold u8; omega) (by rw [wrap_u8]; unfold u8; omega))
                     have f7 := HG7.out.1.frozen 0
                     have g7 := HG7.out.1.cell 0
                     simp at g7
                     clear ho7 hc7 hm7))
                all_goals
                  go_wp2_with fail
                  go_meet
                  exact hidden (by have := HG7.out.2; rw [HKK.out, wrap_u8] at this; exact this)
              case rest =>
                have HR5 := hidden (OR.trans HC4.out HM2.out hcut.out)
                clear hcut
                obtain ⟨rb5, hO5, hC5, hM5⟩ := HR5.out
                have HO5 := hidden hO5
                have HC5 := hidden hC5
                have HM5 := hidden hM5
                clear hO5 hC5 hM5 m0 m1 m2 g0
                obtain ⟨b4, o4, hbe, m0, m1, m2⟩ := HXT.out wc HC5.out
                simp only [Option.some.injEq, Addr.mk.injEq, and_true] at hbe
                obtain ⟨rfl, rfl⟩ := hbe
                go_wp2_with fail
                refine (textO p rb5 ⟨(st.text x.n 64).b ++ [u8 x.op], false⟩ x.t 64 wc HO5.out (by omega) (by have := HLS.out; have := HTL.out; simp; omega)).mono ?_
                rintro e w6 ⟨rfl, hR6⟩
                have HR6 := hidden (OR.trans HC5.out HM5.out hR6)
                clear hR6 m0 m1 m2
                go_wp2_with fail
                refine ⟨⟨i + 1, by first | rfl | simp, by omega, hidden (by rw [HNX.out]; unfold oMatch; rw [HT.out]; exact HR6.out)⟩, ?_⟩
                show N - ((i : Int) + 1).toNat < N - (i : Int).toNat
                omega
          · have hq1' : ¬ x.op ≥ 1 := hq1
            have HCO : Hid ((true && (decide (1 ≤ x.op) && decide (x.op ≤ 4))) = false) := hidden (by simp [hq1])
            have HC4 : Hid (Chg (fpt p rb) w (w2.setCell ⟨p, 1, none⟩ (.bool false))) := hidden (HC2.out.trans (Chg.set ⟨p, 1, none⟩ _ w2) (fun i _ hi => .inl hi))
            obtain ⟨b4, o4, hbe, m0, m1, m2⟩ := HXT.out _ HC4.out
            simp only [Option.some.injEq, Addr.mk.injEq, and_true] at hbe
            obtain ⟨rfl, rfl⟩ := hbe
            have g0 : (w2.setCell ⟨p, 1, none⟩ (.bool false)).cell? ⟨p, 0, none⟩ = some (.slice a2 kk cc2) := (HV2.out.setOk false).blk.cell 0
            go_upto_region 6 with fail
            obtain ⟨w4, hw4⟩ : ∃ w4, w2.setCell ⟨p, 1, none⟩ (.bool false) = w4 := ⟨_, rfl⟩
            have HV4 : Hid (OV w4 p rb2 ⟨(st.text x.n 64).b, false⟩ (.slice a2 kk cc2)) := hidden (by rw [← hw4]; exact HV2.out.setOk false)
            rw [hw4] at HC4 m0 m1 m2 g0
            rw [hw4]
            clear hw4 k0 k1 k2
            have hT : (st.text x.n 64).must (decide (1 ≤ x.op) && decide (x.op ≤ 4)) = ⟨(st.text x.n 64).b, false⟩ := HMU.out.trans (by rw [HCO.out])
            have HT := hidden hT
            clear hT
            go_cut [] from 51 to 65 (fun wx => Hid (OR w4 p rb2 ⟨(st.text x.n 64).b ++ [u8 x.op], false⟩ wx))
            case first =>
              have hrow : w4.ownsRow 0 5 1 (.slice a2 kk cc2) kk (cells8 (st.text x.n 64).b) := by have := HV4.out.row; simp only [HKK.out] at this; exact this
              have HRW := hidden hrow
              have m1d : w4.drew.cell? ⟨b1, o1 + i * 3 + 1, none⟩ = some (.int .i64 x.op) := m1
              have g0d : w4.drew.cell? ⟨p, 0, none⟩ = some (.slice a2 kk cc2) := g0
              have hplt : p < w4.heap.size := HV4.out.blk.lt
              have m1a : ∀ (o : Obj), (w4.drew.alloc o).cell? ⟨b1, o1 + i * 3 + 1, none⟩ = some (.int .i64 x.op) := fun o => lat_cellA ((Below.refl _ _).alloc (Nat.le_refl _) o) m1d
              have g0a : ∀ (o : Obj), (w4.drew.alloc o).cell? ⟨p, 0, none⟩ = some (.slice a2 kk cc2) := fun o => lat_cellA ((Below.refl _ _).alloc (Nat.le_refl _) o) g0d
              clear hrow
              go_region_law (first
                | (refine step_pushO _ (by rfl) (.tmp 55) (.tmp 62) (by rfl) 0 (.slice a2 kk cc2) kk _ (by rfl) w4.drew (HRW.out.drew) (IntKind.u8.wrap x.op) (by rfl) (by rfl) (by have := HLS.out; have := HKK.out; have := HTL.out; omega) (Nat.zero_le _) ?_
                   intro g7 c7 w7 ho7 hc7 hm7
                   have HG7 := hidden (HV4.out.push (x := IntKind.u8.wrap x.op) (by rw [HKK.out]; exact ho7) ((Chg.of_below ((Below.refl _ w4).drew)).trans hc7 (fun _ _ e => e)) (by have := hm7; exact this) (by rw [wrap_u8]; unfold u8; omega) (by rw [wrap_u8]; unfold u8; omega))
                   have f7 := HG7.out.1.frozen 0
                   have g7 := HG7.out.1.cell 0
                   simp at g7
                   clear ho7 hc7 hm7))
              all_goals
                go_wp2_with fail
                go_meet
                exact hidden (by have := HG7.out.2; rw [HKK.out, wrap_u8] at this; exact this)
            case rest =>
              have HR5 := hidden (OR.trans HC4.out HM2.out hcut.out)
              clear hcut
              obtain ⟨rb5, hO5, hC5, hM5⟩ := HR5.out
              have HO5 := hidden hO5
              have HC5 := hidden hC5
              have HM5 := hidden hM5
              clear hO5 hC5 hM5 m0 m1 m2 g0
              obtain ⟨b4, o4, hbe, m0, m1, m2⟩ := HXT.out wc HC5.out
              simp only [Option.some.injEq, Addr.mk.injEq, and_true] at hbe
              obtain ⟨rfl, rfl⟩ := hbe
              go_wp2_with fail
              refine (textO p rb5 ⟨(st.text x.n 64).b ++ [u8 x.op], false⟩ x.t 64 wc HO5.out (by omega) (by have := HLS.out; have := HTL.out; simp; omega)).mono ?_
              rintro e w6 ⟨rfl, hR6⟩
              have HR6 := hidden (OR.trans HC5.out HM5.out hR6)
              clear hR6 m0 m1 m2
              go_wp2_with fail
              refine ⟨⟨i + 1, by first | rfl | simp, by omega, hidden (by rw [HNX.out]; unfold oMatch; rw [HT.out]; exact HR6.out)⟩, ?_⟩
              show N - ((i : Int) + 1).toNat < N - (i : Int).toNat
              omega
    · obtain rfl : i = N := by omega
      go_wp2_with fail
      go_end0
      exact HFIN.out (.inl (by first | rfl | trivial))


end Go.Proofs.YtalmpmhnkilalaaGreatDoor

/-
  The document's uses, used, bare. By gendxe20.py.
-/
namespace Go.Proofs.YtalmpmhnkilalaaGreatDoor
open Go.RowKit
set_option linter.unusedVariables false
set_option linter.unusedSimpArgs false

theorem usedD (ad : Option Addr) (n c : Nat) (L : List Nat) (f : Nat) (w : World) (hI : In w ad L) (hn : L.length = n) (hn9 : n ≤ 9223372036854775807) :
    Calls Tryz.prog 60 #[.slice ad n c, .int .i64 (f : Int)] w fun e w' => e = .returned (.bool (decide (f ∈ L))) ∧ w' = w := by
  have HI := hidden hI
  have HN := hidden hn
  clear hI hn
  go_enter Tryz.func60, Tryz.ntmps60
  go_wp2_with fail
  go_loopw [5] (fun v5 wx => ∃ i : Nat, v5 = .int .i64 (i : Int) ∧ i ≤ n ∧ Hid (f ∉ L.take i) ∧ wx = w) (fun v5 _ => n - (intOf v5).toNat)
  case atStart => exact ⟨0, rfl, by omega, hidden (by simp), rfl⟩
  case round =>
    obtain ⟨i, rfl, hi, hF, rfl⟩ := hrel
    by_cases hin : i < n
    · obtain ⟨x, hx⟩ : ∃ x, L[i]? = some x := ⟨L[i]'(by have := HN.out; omega), by simp⟩
      have hxm : (L.map (fun (n : Nat) => [Value.int .i64 (n : Int)]))[i]? = some [.int .i64 (x : Int)] := by rw [List.getElem?_map, hx]; rfl
      obtain ⟨b1, o1, rfl, _, hcell⟩ := HI.out (by intro h0; rw [h0] at hxm; simp at hxm)
      have c0 := hcell i _ hxm 0 _ rfl
      rw [Nat.add_zero, Nat.mul_one] at c0
      have HX := hidden hx
      clear hcell hx hxm
      have hin' : (i : Int) < (n : Int) := by omega
      by_cases hxf : x = f
      · subst hxf
        go_wp2_with fail
        go_ret
        refine ⟨?_, rfl⟩
        have : x ∈ L := List.mem_of_getElem? HX.out
        simp [this]
      · have hxf' : ¬ (x : Int) = (f : Int) := by omega
        go_wp2_with fail
        refine ⟨⟨i + 1, by first | rfl | simp, by omega, hidden (by rw [List.take_add_one, HX.out]; simp; exact ⟨hF.out, fun h => hxf h.symm⟩), by first | rfl | trivial⟩, ?_⟩
        show n - ((i : Int) + 1).toNat < n - (i : Int).toNat
        omega
    · obtain rfl : i = n := by omega
      go_wp2_with fail
      go_ret
      refine ⟨?_, by first | rfl | trivial⟩
      have h1 := hF.out
      rw [← HN.out, List.take_length] at h1
      simp [h1]
/-- The document's fields of a kind. -/
def docL (k : Int) : Option (List Nat) :=
  if k = 1 then some [0] else if k = 2 then some [1, 2, 3] else if k = 3 then some [4] else if k = 4 ∨ k = 5 then some [1]
  else if k = 6 then some [1, 5] else if k = 7 ∨ k = 17 then some [] else if k = 16 then some [6, 7] else if k = 18 then some [9, 8, 1]
  else if k = 19 then some [9] else none
theorem docL_fields (k : Int) : fieldsK k = (docL k).map (fun L => 0 :: 1 :: L.map (· + 2)) := by
  unfold fieldsK docL
  repeat' split
  all_goals rfl
theorem docL_lt {k : Int} {L : List Nat} (h : docL k = some L) : (∀ i ∈ L, i < 10) ∧ L.length ≤ 3 := by
  unfold docL at h
  repeat' split at h
  all_goals first | (cases h; done) | (injection h with h; subst h; exact ⟨by decide, by decide⟩)
def usesQ (w : World) (k : Int) (e : Ending) (w' : World) : Prop :=
  Below w.heap.size w w' ∧ match docL k with
    | some l => ∃ ad c, e = .returned (.tuple #[.slice ad l.length c, .bool true]) ∧ In w' ad l
    | none => e = .returned (.tuple #[.slice none 0 0, .bool false])

set_option maxHeartbeats 2000000 in
theorem usesD (k : Int) (w : World) (h0 : -9223372036854775808 ≤ k) (h1 : k ≤ 9223372036854775807) : Calls Tryz.prog 28 #[.int .i64 k] w (usesQ w k) := by
  by_cases k1 : k = 1
  · subst k1
    go_enter Tryz.func28, Tryz.ntmps28
    go_wp2_with fail
    go_ret2
    exact ⟨(Below.refl _ _).alloc (Nat.le_refl _) _, _, _, rfl, in_lit w [0] _ rfl _⟩
  by_cases k2 : k = 2
  · subst k2
    go_enter Tryz.func28, Tryz.ntmps28
    go_wp2_with fail
    go_ret2
    exact ⟨(Below.refl _ _).alloc (Nat.le_refl _) _, _, _, rfl, in_lit w [1, 2, 3] _ rfl _⟩
  by_cases k3 : k = 3
  · subst k3
    go_enter Tryz.func28, Tryz.ntmps28
    go_wp2_with fail
    go_ret2
    exact ⟨(Below.refl _ _).alloc (Nat.le_refl _) _, _, _, rfl, in_lit w [4] _ rfl _⟩
  by_cases k4 : k = 4
  · subst k4
    go_enter Tryz.func28, Tryz.ntmps28
    go_wp2_with fail
    go_ret2
    exact ⟨(Below.refl _ _).alloc (Nat.le_refl _) _, _, _, rfl, in_lit w [1] _ rfl _⟩
  by_cases k5 : k = 5
  · subst k5
    go_enter Tryz.func28, Tryz.ntmps28
    go_wp2_with fail
    go_ret2
    exact ⟨(Below.refl _ _).alloc (Nat.le_refl _) _, _, _, rfl, in_lit w [1] _ rfl _⟩
  by_cases k6 : k = 6
  · subst k6
    go_enter Tryz.func28, Tryz.ntmps28
    go_wp2_with fail
    go_ret2
    exact ⟨(Below.refl _ _).alloc (Nat.le_refl _) _, _, _, rfl, in_lit w [1, 5] _ rfl _⟩
  by_cases k7 : k = 7
  · subst k7
    go_enter Tryz.func28, Tryz.ntmps28
    go_wp2_with fail
    go_ret2
    exact ⟨Below.refl _ _, none, 0, rfl, fun h => absurd rfl h⟩
  by_cases k17 : k = 17
  · subst k17
    go_enter Tryz.func28, Tryz.ntmps28
    go_wp2_with fail
    go_ret2
    exact ⟨Below.refl _ _, none, 0, rfl, fun h => absurd rfl h⟩
  by_cases k16 : k = 16
  · subst k16
    go_enter Tryz.func28, Tryz.ntmps28
    go_wp2_with fail
    go_ret2
    exact ⟨(Below.refl _ _).alloc (Nat.le_refl _) _, _, _, rfl, in_lit w [6, 7] _ rfl _⟩
  by_cases k18 : k = 18
  · subst k18
    go_enter Tryz.func28, Tryz.ntmps28
    go_wp2_with fail
    go_ret2
    exact ⟨(Below.refl _ _).alloc (Nat.le_refl _) _, _, _, rfl, in_lit w [9, 8, 1] _ rfl _⟩
  by_cases k19 : k = 19
  · subst k19
    go_enter Tryz.func28, Tryz.ntmps28
    go_wp2_with fail
    go_ret2
    exact ⟨(Below.refl _ _).alloc (Nat.le_refl _) _, _, _, rfl, in_lit w [9] _ rfl _⟩
  have hd : docL k = none := by unfold docL; simp [k1, k2, k3, k4, k5, k6, k7, k17, k16, k18, k19]
  have HD := hidden hd
  clear hd
  go_enter Tryz.func28, Tryz.ntmps28
  go_wp2_with fail
  go_ret2
  unfold usesQ
  rw [HD.out]
  exact ⟨Below.refl _ _, rfl⟩

end Go.Proofs.YtalmpmhnkilalaaGreatDoor

/-
  The document's bare. By gendxf20.py.
-/
namespace Go.Proofs.YtalmpmhnkilalaaGreatDoor
open Go.RowKit
set_option linter.unusedVariables false
set_option linter.unusedSimpArgs false

theorem str_ne0 {d : ByteArray} (h : ¬ d.size = 0) : d.toList.isEmpty = false := by rw [lst_nil]; simp [h]
theorem bool3 (a b c u v w : Bool) : ((!u && !a) || (!v && !b) || (!w && !c)) = !((a || u) && (b || v) && (c || w)) := by cases a <;> cases b <;> cases c <;> cases u <;> cases v <;> cases w <;> rfl

set_option maxHeartbeats 16000000 in
set_option maxRecDepth 100000 in
theorem bareD (k : Int) (fm : Nat → FM) (ad : Option Addr) (n c : Nat) (L : List Nat) (w : World) (hk : ∀ i, i < 12 → (fm i).fv.kd = kdQ i) (hm : ∀ i, i < 12 → (fm i).mem w) (hI : In w ad L) (hn : L.length = n) (hn9 : n ≤ 9223372036854775807) :
    Calls Tryz.prog 29 #[.agg (cQ k fm).toArray, .slice ad n c] w fun e w' => e = .returned (.bool (bareB (fun i => (fm i).fv) (0 :: 1 :: L.map (· + 2)))) ∧ Below w.heap.size w w' := by
  obtain ⟨a2, c2, l2, q2⟩ : ∃ a c l, fm 2 = .ws a c l := by have := hk 2 (by omega); cases h : fm 2 <;> rw [h] at this <;> first | (cases this; done) | exact ⟨_, _, _, rfl⟩
  obtain ⟨a3, c3, l3, q3⟩ : ∃ a c l, fm 3 = .ms a c l := by have := hk 3 (by omega); cases h : fm 3 <;> rw [h] at this <;> first | (cases this; done) | exact ⟨_, _, _, rfl⟩
  obtain ⟨m4, q4⟩ : ∃ d, fm 4 = .tm d := by have := hk 4 (by omega); cases h : fm 4 <;> rw [h] at this <;> first | (cases this; done) | exact ⟨_, rfl⟩
  obtain ⟨m5, q5⟩ : ∃ d, fm 5 = .tm d := by have := hk 5 (by omega); cases h : fm 5 <;> rw [h] at this <;> first | (cases this; done) | exact ⟨_, rfl⟩
  obtain ⟨t6, q6⟩ : ∃ d, fm 6 = .qu d := by have := hk 6 (by omega); cases h : fm 6 <;> rw [h] at this <;> first | (cases this; done) | exact ⟨_, rfl⟩
  obtain ⟨t7, q7⟩ : ∃ d, fm 7 = .tx d := by have := hk 7 (by omega); cases h : fm 7 <;> rw [h] at this <;> first | (cases this; done) | exact ⟨_, rfl⟩
  obtain ⟨m8, q8⟩ : ∃ d, fm 8 = .am d := by have := hk 8 (by omega); cases h : fm 8 <;> rw [h] at this <;> first | (cases this; done) | exact ⟨_, rfl⟩
  obtain ⟨m9, q9⟩ : ∃ d, fm 9 = .am d := by have := hk 9 (by omega); cases h : fm 9 <;> rw [h] at this <;> first | (cases this; done) | exact ⟨_, rfl⟩
  obtain ⟨m10, q10⟩ : ∃ d, fm 10 = .am d := by have := hk 10 (by omega); cases h : fm 10 <;> rw [h] at this <;> first | (cases this; done) | exact ⟨_, rfl⟩
  obtain ⟨a11, n11, c11, l11, q11⟩ : ∃ a n c l, fm 11 = .tk a n c l := by have := hk 11 (by omega); cases h : fm 11 <;> rw [h] at this <;> first | (cases this; done) | exact ⟨_, _, _, _, rfl⟩
  obtain ⟨N2, hN2⟩ : ∃ N, l2.length = N := ⟨_, rfl⟩
  obtain ⟨N3, hN3⟩ : ∃ N, l3.length = N := ⟨_, rfl⟩
  have hn11 : l11.length = n11 := by have := hm 11 (by omega); rw [q11] at this; exact this.1.len
  obtain ⟨bo0, hu0⟩ : ∃ u, decide (0 ∈ L) = u := ⟨_, rfl⟩
  obtain ⟨bo1, hu1⟩ : ∃ u, decide (1 ∈ L) = u := ⟨_, rfl⟩
  obtain ⟨bo2, hu2⟩ : ∃ u, decide (2 ∈ L) = u := ⟨_, rfl⟩
  obtain ⟨bo3, hu3⟩ : ∃ u, decide (3 ∈ L) = u := ⟨_, rfl⟩
  obtain ⟨bo4, hu4⟩ : ∃ u, decide (4 ∈ L) = u := ⟨_, rfl⟩
  obtain ⟨bo5, hu5⟩ : ∃ u, decide (5 ∈ L) = u := ⟨_, rfl⟩
  obtain ⟨bo6, hu6⟩ : ∃ u, decide (6 ∈ L) = u := ⟨_, rfl⟩
  obtain ⟨bo7, hu7⟩ : ∃ u, decide (7 ∈ L) = u := ⟨_, rfl⟩
  obtain ⟨bo8, hu8⟩ : ∃ u, decide (8 ∈ L) = u := ⟨_, rfl⟩
  obtain ⟨bo9, hu9⟩ : ∃ u, decide (9 ∈ L) = u := ⟨_, rfl⟩
  have HV : Hid (bareB (fun i => (fm i).fv) (0 :: 1 :: L.map (· + 2)) = (((decide (N2 = 0) || bo0) && (decide (N3 = 0) || bo1) && (decide (n11 = 0) || bo9)) && ((decide (m4 = 0) || bo2) && (decide (m5 = 0) || bo3) && (decide (t6.size = 0) || bo4) && (decide (t7.size = 0) || bo5)) && ((decide (m8 = 0) || bo6) && (decide (m9 = 0) || bo7) && (decide (m10 = 0) || bo8)))) := hidden (by
    have h1 : bareB (fun i => (fm i).fv) (0 :: 1 :: L.map (· + 2)) = ((decide (N2 = 0) || bo0) && (decide (N3 = 0) || bo1) && (decide (m4 = 0) || bo2) && (decide (m5 = 0) || bo3) && (decide (t6.size = 0) || bo4) && (decide (t7.size = 0) || bo5) && (decide (m8 = 0) || bo6) && (decide (m9 = 0) || bo7) && (decide (m10 = 0) || bo8) && (decide (n11 = 0) || bo9)) := by
      unfold bareB
      simp only [List.range_succ, List.range_zero, List.nil_append, List.cons_append, List.all_cons, List.all_nil, Bool.and_true]
      have hmem : ∀ i : Nat, decide (i + 2 ∈ 0 :: 1 :: L.map (· + 2)) = decide (i ∈ L) := fun i => by simp
      have z0 : (isZ (fm 0).fv || decide (0 ∈ 0 :: 1 :: L.map (· + 2))) = true := by simp
      have z1 : (isZ (fm 1).fv || decide (1 ∈ 0 :: 1 :: L.map (· + 2))) = true := by simp
      rw [z0, z1, show (decide (2 ∈ 0 :: 1 :: L.map (· + 2))) = decide (0 ∈ L) from hmem 0, show (decide (3 ∈ 0 :: 1 :: L.map (· + 2))) = decide (1 ∈ L) from hmem 1, show (decide (4 ∈ 0 :: 1 :: L.map (· + 2))) = decide (2 ∈ L) from hmem 2, show (decide (5 ∈ 0 :: 1 :: L.map (· + 2))) = decide (3 ∈ L) from hmem 3, show (decide (6 ∈ 0 :: 1 :: L.map (· + 2))) = decide (4 ∈ L) from hmem 4, show (decide (7 ∈ 0 :: 1 :: L.map (· + 2))) = decide (5 ∈ L) from hmem 5, show (decide (8 ∈ 0 :: 1 :: L.map (· + 2))) = decide (6 ∈ L) from hmem 6, show (decide (9 ∈ 0 :: 1 :: L.map (· + 2))) = decide (7 ∈ L) from hmem 7, show (decide (10 ∈ 0 :: 1 :: L.map (· + 2))) = decide (8 ∈ L) from hmem 8, show (decide (11 ∈ 0 :: 1 :: L.map (· + 2))) = decide (9 ∈ L) from hmem 9]
      rw [q2, q3, q4, q5, q6, q7, q8, q9, q10, q11]
      simp only [FM.fv, isZ, List.length_map, hN2, hN3, hn11, Bool.true_and, Bool.and_assoc, hu0, hu1, hu2, hu3, hu4, hu5, hu6, hu7, hu8, hu9]
    rw [h1, Bool.eq_iff_iff]
    simp only [Bool.and_eq_true]
    constructor
    · rintro ⟨⟨⟨⟨⟨⟨⟨⟨⟨a0, a1⟩, a2⟩, a3⟩, a4⟩, a5⟩, a6⟩, a7⟩, a8⟩, a9⟩
      exact ⟨⟨⟨⟨a0, a1⟩, a9⟩, ⟨⟨a2, a3⟩, a4⟩, a5⟩, ⟨a6, a7⟩, a8⟩
    · rintro ⟨⟨⟨⟨a0, a1⟩, a9⟩, ⟨⟨a2, a3⟩, a4⟩, a5⟩, ⟨a6, a7⟩, a8⟩
      exact ⟨⟨⟨⟨⟨⟨⟨⟨⟨a0, a1⟩, a2⟩, a3⟩, a4⟩, a5⟩, a6⟩, a7⟩, a8⟩, a9⟩)
  have HB := hidden (Blk.new w 26 (cQ k fm))
  obtain ⟨w2, hw2⟩ : ∃ w2, w.alloc (.cells (cQ k fm).toArray 26) = w2 := ⟨_, rfl⟩
  have HL2 : Hid (Below w.heap.size w w2) := hidden (by rw [← hw2]; exact (Below.refl _ _).alloc (Nat.le_refl _) _)
  rw [hw2] at HB
  have HI2 := hidden (hI.later HL2.out)
  have HU0 : Hid (Calls Tryz.prog 60 #[.slice ad n c, .int .i64 0] w2 fun e w' => e = .returned (.bool bo0) ∧ w' = w2) := hidden (by rw [← hu0]; exact usedD ad n c L 0 w2 HI2.out hn hn9)
  have HU1 : Hid (Calls Tryz.prog 60 #[.slice ad n c, .int .i64 1] w2 fun e w' => e = .returned (.bool bo1) ∧ w' = w2) := hidden (by rw [← hu1]; exact usedD ad n c L 1 w2 HI2.out hn hn9)
  have HU2 : Hid (Calls Tryz.prog 60 #[.slice ad n c, .int .i64 2] w2 fun e w' => e = .returned (.bool bo2) ∧ w' = w2) := hidden (by rw [← hu2]; exact usedD ad n c L 2 w2 HI2.out hn hn9)
  have HU3 : Hid (Calls Tryz.prog 60 #[.slice ad n c, .int .i64 3] w2 fun e w' => e = .returned (.bool bo3) ∧ w' = w2) := hidden (by rw [← hu3]; exact usedD ad n c L 3 w2 HI2.out hn hn9)
  have HU4 : Hid (Calls Tryz.prog 60 #[.slice ad n c, .int .i64 4] w2 fun e w' => e = .returned (.bool bo4) ∧ w' = w2) := hidden (by rw [← hu4]; exact usedD ad n c L 4 w2 HI2.out hn hn9)
  have HU5 : Hid (Calls Tryz.prog 60 #[.slice ad n c, .int .i64 5] w2 fun e w' => e = .returned (.bool bo5) ∧ w' = w2) := hidden (by rw [← hu5]; exact usedD ad n c L 5 w2 HI2.out hn hn9)
  have HU6 : Hid (Calls Tryz.prog 60 #[.slice ad n c, .int .i64 6] w2 fun e w' => e = .returned (.bool bo6) ∧ w' = w2) := hidden (by rw [← hu6]; exact usedD ad n c L 6 w2 HI2.out hn hn9)
  have HU7 : Hid (Calls Tryz.prog 60 #[.slice ad n c, .int .i64 7] w2 fun e w' => e = .returned (.bool bo7) ∧ w' = w2) := hidden (by rw [← hu7]; exact usedD ad n c L 7 w2 HI2.out hn hn9)
  have HU8 : Hid (Calls Tryz.prog 60 #[.slice ad n c, .int .i64 8] w2 fun e w' => e = .returned (.bool bo8) ∧ w' = w2) := hidden (by rw [← hu8]; exact usedD ad n c L 8 w2 HI2.out hn hn9)
  have HU9 : Hid (Calls Tryz.prog 60 #[.slice ad n c, .int .i64 9] w2 fun e w' => e = .returned (.bool bo9) ∧ w' = w2) := hidden (by rw [← hu9]; exact usedD ad n c L 9 w2 HI2.out hn hn9)
  have y2 : w2.cell? ⟨w.heap.size, 3, none⟩ = some (.slice a2 N2 c2) := by rw [HB.out.cell, cQ_at k fm 2 (by omega), q2]; rw [← hN2]; first | rfl | (simp only [FM.val]; done)
  have y3 : w2.cell? ⟨w.heap.size, 4, none⟩ = some (.slice a3 N3 c3) := by rw [HB.out.cell, cQ_at k fm 3 (by omega), q3]; rw [← hN3]; first | rfl | (simp only [FM.val]; done)
  have y4 : w2.cell? ⟨w.heap.size, 5, none⟩ = some (.int .i64 m4) := by rw [HB.out.cell, cQ_at k fm 4 (by omega), q4]; first | rfl | (simp only [FM.val]; done)
  have y5 : w2.cell? ⟨w.heap.size, 6, none⟩ = some (.int .i64 m5) := by rw [HB.out.cell, cQ_at k fm 5 (by omega), q5]; first | rfl | (simp only [FM.val]; done)
  have y6 : w2.cell? ⟨w.heap.size, 7, none⟩ = some (.string t6) := by rw [HB.out.cell, cQ_at k fm 6 (by omega), q6]; first | rfl | (simp only [FM.val]; done)
  have y7 : w2.cell? ⟨w.heap.size, 8, none⟩ = some (.string t7) := by rw [HB.out.cell, cQ_at k fm 7 (by omega), q7]; first | rfl | (simp only [FM.val]; done)
  have y8 : w2.cell? ⟨w.heap.size, 9, none⟩ = some (.int .i64 m8) := by rw [HB.out.cell, cQ_at k fm 8 (by omega), q8]; first | rfl | (simp only [FM.val]; done)
  have y9 : w2.cell? ⟨w.heap.size, 10, none⟩ = some (.int .i64 m9) := by rw [HB.out.cell, cQ_at k fm 9 (by omega), q9]; first | rfl | (simp only [FM.val]; done)
  have y10 : w2.cell? ⟨w.heap.size, 11, none⟩ = some (.int .i64 m10) := by rw [HB.out.cell, cQ_at k fm 10 (by omega), q10]; first | rfl | (simp only [FM.val]; done)
  have y11 : w2.cell? ⟨w.heap.size, 12, none⟩ = some (.slice a11 n11 c11) := by rw [HB.out.cell, cQ_at k fm 11 (by omega), q11]; first | rfl | (simp only [FM.val]; done)
  rw [HV.out]
  obtain ⟨P1, hP1⟩ : ∃ P, ((decide (N2 = 0) || bo0) && (decide (N3 = 0) || bo1) && (decide (n11 = 0) || bo9)) = P := ⟨_, rfl⟩
  have HP1 := hidden hP1
  rw [hP1]
  obtain ⟨P3, hP3⟩ : ∃ P, ((decide (m4 = 0) || bo2) && (decide (m5 = 0) || bo3) && (decide (t6.size = 0) || bo4) && (decide (t7.size = 0) || bo5)) = P := ⟨_, rfl⟩
  have HP3 := hidden hP3
  rw [hP3]
  obtain ⟨P5, hP5⟩ : ∃ P, ((decide (m8 = 0) || bo6) && (decide (m9 = 0) || bo7) && (decide (m10 = 0) || bo8)) = P := ⟨_, rfl⟩
  have HP5 := hidden hP5
  rw [hP5]
  clear hP1 hP3 hP5 HB HI2 hI hk hm hn q2 q3 q4 q5 q6 q7 q8 q9 q10 q11 hN2 hN3 hn11 hu0 hu1 hu2 hu3 hu4 hu5 hu6 hu7 hu8 hu9
  go_enter Tryz.func29, Tryz.ntmps29
  go_upto_region 1 with fail
  try rw [hw2]
  clear hw2 HV
  go_cut [35] from 5 to 34 (fun v35 wx => v35 = .bool (!P1) ∧ wx = w2)
  case first =>
    cases bo0 with
    | true =>
      cases bo1 with
      | true =>
        cases bo9 with
        | true =>
          go_wp2_with fail
          refine HU0.out.mono ?_
          rintro e wz ⟨rfl, hwz⟩
          rw [hwz]
          clear hwz
          go_wp2_with fail
          refine HU1.out.mono ?_
          rintro e wz ⟨rfl, hwz⟩
          rw [hwz]
          clear hwz
          go_wp2_with fail
          refine HU9.out.mono ?_
          rintro e wz ⟨rfl, hwz⟩
          rw [hwz]
          clear hwz
          go_wp2_with fail
          go_meet
          refine ⟨?_, rfl⟩
          rw [← HP1.out]
          first | rfl | (simp; done) | (simp; omega)
        | false =>
          by_cases g9 : n11 = 0
          · skip
            have g9' : ¬ (n11 : Int) > 0 := by omega
            go_wp2_with fail
            refine HU0.out.mono ?_
            rintro e wz ⟨rfl, hwz⟩
            rw [hwz]
            clear hwz
            go_wp2_with fail
            refine HU1.out.mono ?_
            rintro e wz ⟨rfl, hwz⟩
            rw [hwz]
            clear hwz
            go_wp2_with fail
            refine HU9.out.mono ?_
            rintro e wz ⟨rfl, hwz⟩
            rw [hwz]
            clear hwz
            go_wp2_with fail
            go_meet
            refine ⟨?_, rfl⟩
            rw [← HP1.out]
            first | rfl | (simp [g9]; done) | (simp [g9]; omega)
          · skip
            have g9' : (n11 : Int) > 0 := by omega
            go_wp2_with fail
            refine HU0.out.mono ?_
            rintro e wz ⟨rfl, hwz⟩
            rw [hwz]
            clear hwz
            go_wp2_with fail
            refine HU1.out.mono ?_
            rintro e wz ⟨rfl, hwz⟩
            rw [hwz]
            clear hwz
            go_wp2_with fail
            refine HU9.out.mono ?_
            rintro e wz ⟨rfl, hwz⟩
            rw [hwz]
            clear hwz
            go_wp2_with fail
            go_meet
            refine ⟨?_, rfl⟩
            rw [← HP1.out]
            first | rfl | (simp [g9]; done) | (simp [g9]; omega)
      | false =>
        by_cases g1 : N3 = 0
        · skip
          have g1' : ¬ (N3 : Int) > 0 := by omega
          cases bo9 with
          | true =>
            go_wp2_with fail
            refine HU0.out.mono ?_
            rintro e wz ⟨rfl, hwz⟩
            rw [hwz]
            clear hwz
            go_wp2_with fail
            refine HU1.out.mono ?_
            rintro e wz ⟨rfl, hwz⟩
            rw [hwz]
            clear hwz
            go_wp2_with fail
            refine HU9.out.mono ?_
            rintro e wz ⟨rfl, hwz⟩
            rw [hwz]
            clear hwz
            go_wp2_with fail
            go_meet
            refine ⟨?_, rfl⟩
            rw [← HP1.out]
            first | rfl | (simp [g1]; done) | (simp [g1]; omega)
          | false =>
            by_cases g9 : n11 = 0
            · skip
              have g9' : ¬ (n11 : Int) > 0 := by omega
              go_wp2_with fail
              refine HU0.out.mono ?_
              rintro e wz ⟨rfl, hwz⟩
              rw [hwz]
              clear hwz
              go_wp2_with fail
              refine HU1.out.mono ?_
              rintro e wz ⟨rfl, hwz⟩
              rw [hwz]
              clear hwz
              go_wp2_with fail
              refine HU9.out.mono ?_
              rintro e wz ⟨rfl, hwz⟩
              rw [hwz]
              clear hwz
              go_wp2_with fail
              go_meet
              refine ⟨?_, rfl⟩
              rw [← HP1.out]
              first | rfl | (simp [g1, g9]; done) | (simp [g1, g9]; omega)
            · skip
              have g9' : (n11 : Int) > 0 := by omega
              go_wp2_with fail
              refine HU0.out.mono ?_
              rintro e wz ⟨rfl, hwz⟩
              rw [hwz]
              clear hwz
              go_wp2_with fail
              refine HU1.out.mono ?_
              rintro e wz ⟨rfl, hwz⟩
              rw [hwz]
              clear hwz
              go_wp2_with fail
              refine HU9.out.mono ?_
              rintro e wz ⟨rfl, hwz⟩
              rw [hwz]
              clear hwz
              go_wp2_with fail
              go_meet
              refine ⟨?_, rfl⟩
              rw [← HP1.out]
              first | rfl | (simp [g1, g9]; done) | (simp [g1, g9]; omega)
        · skip
          have g1' : (N3 : Int) > 0 := by omega
          go_wp2_with fail
          refine HU0.out.mono ?_
          rintro e wz ⟨rfl, hwz⟩
          rw [hwz]
          clear hwz
          go_wp2_with fail
          refine HU1.out.mono ?_
          rintro e wz ⟨rfl, hwz⟩
          rw [hwz]
          clear hwz
          go_wp2_with fail
          go_meet
          refine ⟨?_, rfl⟩
          rw [← HP1.out]
          first | rfl | (simp [g1]; done) | (simp [g1]; omega)
    | false =>
      by_cases g0 : N2 = 0
      · skip
        have g0' : ¬ (N2 : Int) > 0 := by omega
        cases bo1 with
        | true =>
          cases bo9 with
          | true =>
            go_wp2_with fail
            refine HU0.out.mono ?_
            rintro e wz ⟨rfl, hwz⟩
            rw [hwz]
            clear hwz
            go_wp2_with fail
            refine HU1.out.mono ?_
            rintro e wz ⟨rfl, hwz⟩
            rw [hwz]
            clear hwz
            go_wp2_with fail
            refine HU9.out.mono ?_
            rintro e wz ⟨rfl, hwz⟩
            rw [hwz]
            clear hwz
            go_wp2_with fail
            go_meet
            refine ⟨?_, rfl⟩
            rw [← HP1.out]
            first | rfl | (simp [g0]; done) | (simp [g0]; omega)
          | false =>
            by_cases g9 : n11 = 0
            · skip
              have g9' : ¬ (n11 : Int) > 0 := by omega
              go_wp2_with fail
              refine HU0.out.mono ?_
              rintro e wz ⟨rfl, hwz⟩
              rw [hwz]
              clear hwz
              go_wp2_with fail
              refine HU1.out.mono ?_
              rintro e wz ⟨rfl, hwz⟩
              rw [hwz]
              clear hwz
              go_wp2_with fail
              refine HU9.out.mono ?_
              rintro e wz ⟨rfl, hwz⟩
              rw [hwz]
              clear hwz
              go_wp2_with fail
              go_meet
              refine ⟨?_, rfl⟩
              rw [← HP1.out]
              first | rfl | (simp [g0, g9]; done) | (simp [g0, g9]; omega)
            · skip
              have g9' : (n11 : Int) > 0 := by omega
              go_wp2_with fail
              refine HU0.out.mono ?_
              rintro e wz ⟨rfl, hwz⟩
              rw [hwz]
              clear hwz
              go_wp2_with fail
              refine HU1.out.mono ?_
              rintro e wz ⟨rfl, hwz⟩
              rw [hwz]
              clear hwz
              go_wp2_with fail
              refine HU9.out.mono ?_
              rintro e wz ⟨rfl, hwz⟩
              rw [hwz]
              clear hwz
              go_wp2_with fail
              go_meet
              refine ⟨?_, rfl⟩
              rw [← HP1.out]
              first | rfl | (simp [g0, g9]; done) | (simp [g0, g9]; omega)
        | false =>
          by_cases g1 : N3 = 0
          · skip
            have g1' : ¬ (N3 : Int) > 0 := by omega
            cases bo9 with
            | true =>
              go_wp2_with fail
              refine HU0.out.mono ?_
              rintro e wz ⟨rfl, hwz⟩
              rw [hwz]
              clear hwz
              go_wp2_with fail
              refine HU1.out.mono ?_
              rintro e wz ⟨rfl, hwz⟩
              rw [hwz]
              clear hwz
              go_wp2_with fail
              refine HU9.out.mono ?_
              rintro e wz ⟨rfl, hwz⟩
              rw [hwz]
              clear hwz
              go_wp2_with fail
              go_meet
              refine ⟨?_, rfl⟩
              rw [← HP1.out]
              first | rfl | (simp [g0, g1]; done) | (simp [g0, g1]; omega)
            | false =>
              by_cases g9 : n11 = 0
              · skip
                have g9' : ¬ (n11 : Int) > 0 := by omega
                go_wp2_with fail
                refine HU0.out.mono ?_
                rintro e wz ⟨rfl, hwz⟩
                rw [hwz]
                clear hwz
                go_wp2_with fail
                refine HU1.out.mono ?_
                rintro e wz ⟨rfl, hwz⟩
                rw [hwz]
                clear hwz
                go_wp2_with fail
                refine HU9.out.mono ?_
                rintro e wz ⟨rfl, hwz⟩
                rw [hwz]
                clear hwz
                go_wp2_with fail
                go_meet
                refine ⟨?_, rfl⟩
                rw [← HP1.out]
                first | rfl | (simp [g0, g1, g9]; done) | (simp [g0, g1, g9]; omega)
              · skip
                have g9' : (n11 : Int) > 0 := by omega
                go_wp2_with fail
                refine HU0.out.mono ?_
                rintro e wz ⟨rfl, hwz⟩
                rw [hwz]
                clear hwz
                go_wp2_with fail
                refine HU1.out.mono ?_
                rintro e wz ⟨rfl, hwz⟩
                rw [hwz]
                clear hwz
                go_wp2_with fail
                refine HU9.out.mono ?_
                rintro e wz ⟨rfl, hwz⟩
                rw [hwz]
                clear hwz
                go_wp2_with fail
                go_meet
                refine ⟨?_, rfl⟩
                rw [← HP1.out]
                first | rfl | (simp [g0, g1, g9]; done) | (simp [g0, g1, g9]; omega)
          · skip
            have g1' : (N3 : Int) > 0 := by omega
            go_wp2_with fail
            refine HU0.out.mono ?_
            rintro e wz ⟨rfl, hwz⟩
            rw [hwz]
            clear hwz
            go_wp2_with fail
            refine HU1.out.mono ?_
            rintro e wz ⟨rfl, hwz⟩
            rw [hwz]
            clear hwz
            go_wp2_with fail
            go_meet
            refine ⟨?_, rfl⟩
            rw [← HP1.out]
            first | rfl | (simp [g0, g1]; done) | (simp [g0, g1]; omega)
      · skip
        have g0' : (N2 : Int) > 0 := by omega
        go_wp2_with fail
        refine HU0.out.mono ?_
        rintro e wz ⟨rfl, hwz⟩
        rw [hwz]
        clear hwz
        go_wp2_with fail
        go_meet
        refine ⟨?_, rfl⟩
        rw [← HP1.out]
        first | rfl | (simp [g0]; done) | (simp [g0]; omega)
  case rest =>
    obtain ⟨rfl, hwc⟩ := hcut
    rw [hwc]
    clear hwc
    cases P1 with
    | false =>
      go_wp2_with fail
      go_ret
      exact ⟨rfl, HL2.out⟩
    | true =>
      go_upto_region 3 with fail
      go_cut [73] from 36 to 72 (fun v73 wx => v73 = .bool (!P3) ∧ wx = w2)
      case first =>
        cases bo2 with
        | true =>
          cases bo3 with
          | true =>
            cases bo4 with
            | true =>
              cases bo5 with
              | true =>
                go_wp2_with fail
                refine HU2.out.mono ?_
                rintro e wz ⟨rfl, hwz⟩
                rw [hwz]
                clear hwz
                go_wp2_with fail
                refine HU3.out.mono ?_
                rintro e wz ⟨rfl, hwz⟩
                rw [hwz]
                clear hwz
                go_wp2_with fail
                refine HU4.out.mono ?_
                rintro e wz ⟨rfl, hwz⟩
                rw [hwz]
                clear hwz
                go_wp2_with fail
                refine HU5.out.mono ?_
                rintro e wz ⟨rfl, hwz⟩
                rw [hwz]
                clear hwz
                go_wp2_with fail
                go_meet
                refine ⟨?_, rfl⟩
                rw [← HP3.out]
                first | rfl | (simp; done) | (simp; omega)
              | false =>
                by_cases g5 : t7.size = 0
                · skip
                  have g5' : t7 = ⟨#[]⟩ := size_empty g5
                  subst g5'
                  go_wp2_with fail
                  refine HU2.out.mono ?_
                  rintro e wz ⟨rfl, hwz⟩
                  rw [hwz]
                  clear hwz
                  go_wp2_with fail
                  refine HU3.out.mono ?_
                  rintro e wz ⟨rfl, hwz⟩
                  rw [hwz]
                  clear hwz
                  go_wp2_with fail
                  refine HU4.out.mono ?_
                  rintro e wz ⟨rfl, hwz⟩
                  rw [hwz]
                  clear hwz
                  go_wp2_with fail
                  refine HU5.out.mono ?_
                  rintro e wz ⟨rfl, hwz⟩
                  rw [hwz]
                  clear hwz
                  go_wp2_with fail
                  go_meet
                  refine ⟨?_, rfl⟩
                  rw [← HP3.out]
                  first | rfl | (simp [g5]; done) | (simp [g5]; omega)
                · skip
                  have g5' := str_ne0 g5
                  go_wp2_with fail
                  refine HU2.out.mono ?_
                  rintro e wz ⟨rfl, hwz⟩
                  rw [hwz]
                  clear hwz
                  go_wp2_with fail
                  refine HU3.out.mono ?_
                  rintro e wz ⟨rfl, hwz⟩
                  rw [hwz]
                  clear hwz
                  go_wp2_with fail
                  refine HU4.out.mono ?_
                  rintro e wz ⟨rfl, hwz⟩
                  rw [hwz]
                  clear hwz
                  go_wp2_with fail
                  refine HU5.out.mono ?_
                  rintro e wz ⟨rfl, hwz⟩
                  rw [hwz]
                  clear hwz
                  go_wp2_with fail
                  go_meet
                  refine ⟨?_, rfl⟩
                  rw [← HP3.out]
                  first | rfl | (simp [g5]; done) | (simp [g5]; omega)
            | false =>
              by_cases g4 : t6.size = 0
              · skip
                have g4' : t6 = ⟨#[]⟩ := size_empty g4
                subst g4'
                cases bo5 with
                | true =>
                  go_wp2_with fail
                  refine HU2.out.mono ?_
                  rintro e wz ⟨rfl, hwz⟩
                  rw [hwz]
                  clear hwz
                  go_wp2_with fail
                  refine HU3.out.mono ?_
                  rintro e wz ⟨rfl, hwz⟩
                  rw [hwz]
                  clear hwz
                  go_wp2_with fail
                  refine HU4.out.mono ?_
                  rintro e wz ⟨rfl, hwz⟩
                  rw [hwz]
                  clear hwz
                  go_wp2_with fail
                  refine HU5.out.mono ?_
                  rintro e wz ⟨rfl, hwz⟩
                  rw [hwz]
                  clear hwz
                  go_wp2_with fail
                  go_meet
                  refine ⟨?_, rfl⟩
                  rw [← HP3.out]
                  first | rfl | (simp [g4]; done) | (simp [g4]; omega)
                | false =>
                  by_cases g5 : t7.size = 0
                  · skip
                    have g5' : t7 = ⟨#[]⟩ := size_empty g5
                    subst g5'
                    go_wp2_with fail
                    refine HU2.out.mono ?_
                    rintro e wz ⟨rfl, hwz⟩
                    rw [hwz]
                    clear hwz
                    go_wp2_with fail
                    refine HU3.out.mono ?_
                    rintro e wz ⟨rfl, hwz⟩
                    rw [hwz]
                    clear hwz
                    go_wp2_with fail
                    refine HU4.out.mono ?_
                    rintro e wz ⟨rfl, hwz⟩
                    rw [hwz]
                    clear hwz
                    go_wp2_with fail
                    refine HU5.out.mono ?_
                    rintro e wz ⟨rfl, hwz⟩
                    rw [hwz]
                    clear hwz
                    go_wp2_with fail
                    go_meet
                    refine ⟨?_, rfl⟩
                    rw [← HP3.out]
                    first | rfl | (simp [g4, g5]; done) | (simp [g4, g5]; omega)
                  · skip
                    have g5' := str_ne0 g5
                    go_wp2_with fail
                    refine HU2.out.mono ?_
                    rintro e wz ⟨rfl, hwz⟩
                    rw [hwz]
                    clear hwz
                    go_wp2_with fail
                    refine HU3.out.mono ?_
                    rintro e wz ⟨rfl, hwz⟩
                    rw [hwz]
                    clear hwz
                    go_wp2_with fail
                    refine HU4.out.mono ?_
                    rintro e wz ⟨rfl, hwz⟩
                    rw [hwz]
                    clear hwz
                    go_wp2_with fail
                    refine HU5.out.mono ?_
                    rintro e wz ⟨rfl, hwz⟩
                    rw [hwz]
                    clear hwz
                    go_wp2_with fail
                    go_meet
                    refine ⟨?_, rfl⟩
                    rw [← HP3.out]
                    first | rfl | (simp [g4, g5]; done) | (simp [g4, g5]; omega)
              · skip
                have g4' := str_ne0 g4
                go_wp2_with fail
                refine HU2.out.mono ?_
                rintro e wz ⟨rfl, hwz⟩
                rw [hwz]
                clear hwz
                go_wp2_with fail
                refine HU3.out.mono ?_
                rintro e wz ⟨rfl, hwz⟩
                rw [hwz]
                clear hwz
                go_wp2_with fail
                refine HU4.out.mono ?_
                rintro e wz ⟨rfl, hwz⟩
                rw [hwz]
                clear hwz
                go_wp2_with fail
                go_meet
                refine ⟨?_, rfl⟩
                rw [← HP3.out]
                first | rfl | (simp [g4]; done) | (simp [g4]; omega)
          | false =>
            by_cases g3 : m5 = 0
            · skip
              cases bo4 with
              | true =>
                cases bo5 with
                | true =>
                  go_wp2_with fail
                  refine HU2.out.mono ?_
                  rintro e wz ⟨rfl, hwz⟩
                  rw [hwz]
                  clear hwz
                  go_wp2_with fail
                  refine HU3.out.mono ?_
                  rintro e wz ⟨rfl, hwz⟩
                  rw [hwz]
                  clear hwz
                  go_wp2_with fail
                  refine HU4.out.mono ?_
                  rintro e wz ⟨rfl, hwz⟩
                  rw [hwz]
                  clear hwz
                  go_wp2_with fail
                  refine HU5.out.mono ?_
                  rintro e wz ⟨rfl, hwz⟩
                  rw [hwz]
                  clear hwz
                  go_wp2_with fail
                  go_meet
                  refine ⟨?_, rfl⟩
                  rw [← HP3.out]
                  first | rfl | (simp [g3]; done) | (simp [g3]; omega)
                | false =>
                  by_cases g5 : t7.size = 0
                  · skip
                    have g5' : t7 = ⟨#[]⟩ := size_empty g5
                    subst g5'
                    go_wp2_with fail
                    refine HU2.out.mono ?_
                    rintro e wz ⟨rfl, hwz⟩
                    rw [hwz]
                    clear hwz
                    go_wp2_with fail
                    refine HU3.out.mono ?_
                    rintro e wz ⟨rfl, hwz⟩
                    rw [hwz]
                    clear hwz
                    go_wp2_with fail
                    refine HU4.out.mono ?_
                    rintro e wz ⟨rfl, hwz⟩
                    rw [hwz]
                    clear hwz
                    go_wp2_with fail
                    refine HU5.out.mono ?_
                    rintro e wz ⟨rfl, hwz⟩
                    rw [hwz]
                    clear hwz
                    go_wp2_with fail
                    go_meet
                    refine ⟨?_, rfl⟩
                    rw [← HP3.out]
                    first | rfl | (simp [g3, g5]; done) | (simp [g3, g5]; omega)
                  · skip
                    have g5' := str_ne0 g5
                    go_wp2_with fail
                    refine HU2.out.mono ?_
                    rintro e wz ⟨rfl, hwz⟩
                    rw [hwz]
                    clear hwz
                    go_wp2_with fail
                    refine HU3.out.mono ?_
                    rintro e wz ⟨rfl, hwz⟩
                    rw [hwz]
                    clear hwz
                    go_wp2_with fail
                    refine HU4.out.mono ?_
                    rintro e wz ⟨rfl, hwz⟩
                    rw [hwz]
                    clear hwz
                    go_wp2_with fail
                    refine HU5.out.mono ?_
                    rintro e wz ⟨rfl, hwz⟩
                    rw [hwz]
                    clear hwz
                    go_wp2_with fail
                    go_meet
                    refine ⟨?_, rfl⟩
                    rw [← HP3.out]
                    first | rfl | (simp [g3, g5]; done) | (simp [g3, g5]; omega)
              | false =>
                by_cases g4 : t6.size = 0
                · skip
                  have g4' : t6 = ⟨#[]⟩ := size_empty g4
                  subst g4'
                  cases bo5 with
                  | true =>
                    go_wp2_with fail
                    refine HU2.out.mono ?_
                    rintro e wz ⟨rfl, hwz⟩
                    rw [hwz]
                    clear hwz
                    go_wp2_with fail
                    refine HU3.out.mono ?_
                    rintro e wz ⟨rfl, hwz⟩
                    rw [hwz]
                    clear hwz
                    go_wp2_with fail
                    refine HU4.out.mono ?_
                    rintro e wz ⟨rfl, hwz⟩
                    rw [hwz]
                    clear hwz
                    go_wp2_with fail
                    refine HU5.out.mono ?_
                    rintro e wz ⟨rfl, hwz⟩
                    rw [hwz]
                    clear hwz
                    go_wp2_with fail
                    go_meet
                    refine ⟨?_, rfl⟩
                    rw [← HP3.out]
                    first | rfl | (simp [g3, g4]; done) | (simp [g3, g4]; omega)
                  | false =>
                    by_cases g5 : t7.size = 0
                    · skip
                      have g5' : t7 = ⟨#[]⟩ := size_empty g5
                      subst g5'
                      go_wp2_with fail
                      refine HU2.out.mono ?_
                      rintro e wz ⟨rfl, hwz⟩
                      rw [hwz]
                      clear hwz
                      go_wp2_with fail
                      refine HU3.out.mono ?_
                      rintro e wz ⟨rfl, hwz⟩
                      rw [hwz]
                      clear hwz
                      go_wp2_with fail
                      refine HU4.out.mono ?_
                      rintro e wz ⟨rfl, hwz⟩
                      rw [hwz]
                      clear hwz
                      go_wp2_with fail
                      refine HU5.out.mono ?_
                      rintro e wz ⟨rfl, hwz⟩
                      rw [hwz]
                      clear hwz
                      go_wp2_with fail
                      go_meet
                      refine ⟨?_, rfl⟩
                      rw [← HP3.out]
                      first | rfl | (simp [g3, g4, g5]; done) | (simp [g3, g4, g5]; omega)
                    · skip
                      have g5' := str_ne0 g5
                      go_wp2_with fail
                      refine HU2.out.mono ?_
                      rintro e wz ⟨rfl, hwz⟩
                      rw [hwz]
                      clear hwz
                      go_wp2_with fail
                      refine HU3.out.mono ?_
                      rintro e wz ⟨rfl, hwz⟩
                      rw [hwz]
                      clear hwz
                      go_wp2_with fail
                      refine HU4.out.mono ?_
                      rintro e wz ⟨rfl, hwz⟩
                      rw [hwz]
                      clear hwz
                      go_wp2_with fail
                      refine HU5.out.mono ?_
                      rintro e wz ⟨rfl, hwz⟩
                      rw [hwz]
                      clear hwz
                      go_wp2_with fail
                      go_meet
                      refine ⟨?_, rfl⟩
                      rw [← HP3.out]
                      first | rfl | (simp [g3, g4, g5]; done) | (simp [g3, g4, g5]; omega)
                · skip
                  have g4' := str_ne0 g4
                  go_wp2_with fail
                  refine HU2.out.mono ?_
                  rintro e wz ⟨rfl, hwz⟩
                  rw [hwz]
                  clear hwz
                  go_wp2_with fail
                  refine HU3.out.mono ?_
                  rintro e wz ⟨rfl, hwz⟩
                  rw [hwz]
                  clear hwz
                  go_wp2_with fail
                  refine HU4.out.mono ?_
                  rintro e wz ⟨rfl, hwz⟩
                  rw [hwz]
                  clear hwz
                  go_wp2_with fail
                  go_meet
                  refine ⟨?_, rfl⟩
                  rw [← HP3.out]
                  first | rfl | (simp [g3, g4]; done) | (simp [g3, g4]; omega)
            · skip
              go_wp2_with fail
              refine HU2.out.mono ?_
              rintro e wz ⟨rfl, hwz⟩
              rw [hwz]
              clear hwz
              go_wp2_with fail
              refine HU3.out.mono ?_
              rintro e wz ⟨rfl, hwz⟩
              rw [hwz]
              clear hwz
              go_wp2_with fail
              go_meet
              refine ⟨?_, rfl⟩
              rw [← HP3.out]
              first | rfl | (simp [g3]; done) | (simp [g3]; omega)
        | false =>
          by_cases g2 : m4 = 0
          · skip
            cases bo3 with
            | true =>
              cases bo4 with
              | true =>
                cases bo5 with
                | true =>
                  go_wp2_with fail
                  refine HU2.out.mono ?_
                  rintro e wz ⟨rfl, hwz⟩
                  rw [hwz]
                  clear hwz
                  go_wp2_with fail
                  refine HU3.out.mono ?_
                  rintro e wz ⟨rfl, hwz⟩
                  rw [hwz]
                  clear hwz
                  go_wp2_with fail
                  refine HU4.out.mono ?_
                  rintro e wz ⟨rfl, hwz⟩
                  rw [hwz]
                  clear hwz
                  go_wp2_with fail
                  refine HU5.out.mono ?_
                  rintro e wz ⟨rfl, hwz⟩
                  rw [hwz]
                  clear hwz
                  go_wp2_with fail
                  go_meet
                  refine ⟨?_, rfl⟩
                  rw [← HP3.out]
                  first | rfl | (simp [g2]; done) | (simp [g2]; omega)
                | false =>
                  by_cases g5 : t7.size = 0
                  · skip
                    have g5' : t7 = ⟨#[]⟩ := size_empty g5
                    subst g5'
                    go_wp2_with fail
                    refine HU2.out.mono ?_
                    rintro e wz ⟨rfl, hwz⟩
                    rw [hwz]
                    clear hwz
                    go_wp2_with fail
                    refine HU3.out.mono ?_
                    rintro e wz ⟨rfl, hwz⟩
                    rw [hwz]
                    clear hwz
                    go_wp2_with fail
                    refine HU4.out.mono ?_
                    rintro e wz ⟨rfl, hwz⟩
                    rw [hwz]
                    clear hwz
                    go_wp2_with fail
                    refine HU5.out.mono ?_
                    rintro e wz ⟨rfl, hwz⟩
                    rw [hwz]
                    clear hwz
                    go_wp2_with fail
                    go_meet
                    refine ⟨?_, rfl⟩
                    rw [← HP3.out]
                    first | rfl | (simp [g2, g5]; done) | (simp [g2, g5]; omega)
                  · skip
                    have g5' := str_ne0 g5
                    go_wp2_with fail
                    refine HU2.out.mono ?_
                    rintro e wz ⟨rfl, hwz⟩
                    rw [hwz]
                    clear hwz
                    go_wp2_with fail
                    refine HU3.out.mono ?_
                    rintro e wz ⟨rfl, hwz⟩
                    rw [hwz]
                    clear hwz
                    go_wp2_with fail
                    refine HU4.out.mono ?_
                    rintro e wz ⟨rfl, hwz⟩
                    rw [hwz]
                    clear hwz
                    go_wp2_with fail
                    refine HU5.out.mono ?_
                    rintro e wz ⟨rfl, hwz⟩
                    rw [hwz]
                    clear hwz
                    go_wp2_with fail
                    go_meet
                    refine ⟨?_, rfl⟩
                    rw [← HP3.out]
                    first | rfl | (simp [g2, g5]; done) | (simp [g2, g5]; omega)
              | false =>
                by_cases g4 : t6.size = 0
                · skip
                  have g4' : t6 = ⟨#[]⟩ := size_empty g4
                  subst g4'
                  cases bo5 with
                  | true =>
                    go_wp2_with fail
                    refine HU2.out.mono ?_
                    rintro e wz ⟨rfl, hwz⟩
                    rw [hwz]
                    clear hwz
                    go_wp2_with fail
                    refine HU3.out.mono ?_
                    rintro e wz ⟨rfl, hwz⟩
                    rw [hwz]
                    clear hwz
                    go_wp2_with fail
                    refine HU4.out.mono ?_
                    rintro e wz ⟨rfl, hwz⟩
                    rw [hwz]
                    clear hwz
                    go_wp2_with fail
                    refine HU5.out.mono ?_
                    rintro e wz ⟨rfl, hwz⟩
                    rw [hwz]
                    clear hwz
                    go_wp2_with fail
                    go_meet
                    refine ⟨?_, rfl⟩
                    rw [← HP3.out]
                    first | rfl | (simp [g2, g4]; done) | (simp [g2, g4]; omega)
                  | false =>
                    by_cases g5 : t7.size = 0
                    · skip
                      have g5' : t7 = ⟨#[]⟩ := size_empty g5
                      subst g5'
                      go_wp2_with fail
                      refine HU2.out.mono ?_
                      rintro e wz ⟨rfl, hwz⟩
                      rw [hwz]
                      clear hwz
                      go_wp2_with fail
                      refine HU3.out.mono ?_
                      rintro e wz ⟨rfl, hwz⟩
                      rw [hwz]
                      clear hwz
                      go_wp2_with fail
                      refine HU4.out.mono ?_
                      rintro e wz ⟨rfl, hwz⟩
                      rw [hwz]
                      clear hwz
                      go_wp2_with fail
                      refine HU5.out.mono ?_
                      rintro e wz ⟨rfl, hwz⟩
                      rw [hwz]
                      clear hwz
                      go_wp2_with fail
                      go_meet
                      refine ⟨?_, rfl⟩
                      rw [← HP3.out]
                      first | rfl | (simp [g2, g4, g5]; done) | (simp [g2, g4, g5]; omega)
                    · skip
                      have g5' := str_ne0 g5
                      go_wp2_with fail
                      refine HU2.out.mono ?_
                      rintro e wz ⟨rfl, hwz⟩
                      rw [hwz]
                      clear hwz
                      go_wp2_with fail
                      refine HU3.out.mono ?_
                      rintro e wz ⟨rfl, hwz⟩
                      rw [hwz]
                      clear hwz
                      go_wp2_with fail
                      refine HU4.out.mono ?_
                      rintro e wz ⟨rfl, hwz⟩
                      rw [hwz]
                      clear hwz
                      go_wp2_with fail
                      refine HU5.out.mono ?_
                      rintro e wz ⟨rfl, hwz⟩
                      rw [hwz]
                      clear hwz
                      go_wp2_with fail
                      go_meet
                      refine ⟨?_, rfl⟩
                      rw [← HP3.out]
                      first | rfl | (simp [g2, g4, g5]; done) | (simp [g2, g4, g5]; omega)
                · skip
                  have g4' := str_ne0 g4
                  go_wp2_with fail
                  refine HU2.out.mono ?_
                  rintro e wz ⟨rfl, hwz⟩
                  rw [hwz]
                  clear hwz
                  go_wp2_with fail
                  refine HU3.out.mono ?_
                  rintro e wz ⟨rfl, hwz⟩
                  rw [hwz]
                  clear hwz
                  go_wp2_with fail
                  refine HU4.out.mono ?_
                  rintro e wz ⟨rfl, hwz⟩
                  rw [hwz]
                  clear hwz
                  go_wp2_with fail
                  go_meet
                  refine ⟨?_, rfl⟩
                  rw [← HP3.out]
                  first | rfl | (simp [g2, g4]; done) | (simp [g2, g4]; omega)
            | false =>
              by_cases g3 : m5 = 0
              · skip
                cases bo4 with
                | true =>
                  cases bo5 with
                  | true =>
                    go_wp2_with fail
                    refine HU2.out.mono ?_
                    rintro e wz ⟨rfl, hwz⟩
                    rw [hwz]
                    clear hwz
                    go_wp2_with fail
                    refine HU3.out.mono ?_
                    rintro e wz ⟨rfl, hwz⟩
                    rw [hwz]
                    clear hwz
                    go_wp2_with fail
                    refine HU4.out.mono ?_
                    rintro e wz ⟨rfl, hwz⟩
                    rw [hwz]
                    clear hwz
                    go_wp2_with fail
                    refine HU5.out.mono ?_
                    rintro e wz ⟨rfl, hwz⟩
                    rw [hwz]
                    clear hwz
                    go_wp2_with fail
                    go_meet
                    refine ⟨?_, rfl⟩
                    rw [← HP3.out]
                    first | rfl | (simp [g2, g3]; done) | (simp [g2, g3]; omega)
                  | false =>
                    by_cases g5 : t7.size = 0
                    · skip
                      have g5' : t7 = ⟨#[]⟩ := size_empty g5
                      subst g5'
                      go_wp2_with fail
                      refine HU2.out.mono ?_
                      rintro e wz ⟨rfl, hwz⟩
                      rw [hwz]
                      clear hwz
                      go_wp2_with fail
                      refine HU3.out.mono ?_
                      rintro e wz ⟨rfl, hwz⟩
                      rw [hwz]
                      clear hwz
                      go_wp2_with fail
                      refine HU4.out.mono ?_
                      rintro e wz ⟨rfl, hwz⟩
                      rw [hwz]
                      clear hwz
                      go_wp2_with fail
                      refine HU5.out.mono ?_
                      rintro e wz ⟨rfl, hwz⟩
                      rw [hwz]
                      clear hwz
                      go_wp2_with fail
                      go_meet
                      refine ⟨?_, rfl⟩
                      rw [← HP3.out]
                      first | rfl | (simp [g2, g3, g5]; done) | (simp [g2, g3, g5]; omega)
                    · skip
                      have g5' := str_ne0 g5
                      go_wp2_with fail
                      refine HU2.out.mono ?_
                      rintro e wz ⟨rfl, hwz⟩
                      rw [hwz]
                      clear hwz
                      go_wp2_with fail
                      refine HU3.out.mono ?_
                      rintro e wz ⟨rfl, hwz⟩
                      rw [hwz]
                      clear hwz
                      go_wp2_with fail
                      refine HU4.out.mono ?_
                      rintro e wz ⟨rfl, hwz⟩
                      rw [hwz]
                      clear hwz
                      go_wp2_with fail
                      refine HU5.out.mono ?_
                      rintro e wz ⟨rfl, hwz⟩
                      rw [hwz]
                      clear hwz
                      go_wp2_with fail
                      go_meet
                      refine ⟨?_, rfl⟩
                      rw [← HP3.out]
                      first | rfl | (simp [g2, g3, g5]; done) | (simp [g2, g3, g5]; omega)
                | false =>
                  by_cases g4 : t6.size = 0
                  · skip
                    have g4' : t6 = ⟨#[]⟩ := size_empty g4
                    subst g4'
                    cases bo5 with
                    | true =>
                      go_wp2_with fail
                      refine HU2.out.mono ?_
                      rintro e wz ⟨rfl, hwz⟩
                      rw [hwz]
                      clear hwz
                      go_wp2_with fail
                      refine HU3.out.mono ?_
                      rintro e wz ⟨rfl, hwz⟩
                      rw [hwz]
                      clear hwz
                      go_wp2_with fail
                      refine HU4.out.mono ?_
                      rintro e wz ⟨rfl, hwz⟩
                      rw [hwz]
                      clear hwz
                      go_wp2_with fail
                      refine HU5.out.mono ?_
                      rintro e wz ⟨rfl, hwz⟩
                      rw [hwz]
                      clear hwz
                      go_wp2_with fail
                      go_meet
                      refine ⟨?_, rfl⟩
                      rw [← HP3.out]
                      first | rfl | (simp [g2, g3, g4]; done) | (simp [g2, g3, g4]; omega)
                    | false =>
                      by_cases g5 : t7.size = 0
                      · skip
                        have g5' : t7 = ⟨#[]⟩ := size_empty g5
                        subst g5'
                        go_wp2_with fail
                        refine HU2.out.mono ?_
                        rintro e wz ⟨rfl, hwz⟩
                        rw [hwz]
                        clear hwz
                        go_wp2_with fail
                        refine HU3.out.mono ?_
                        rintro e wz ⟨rfl, hwz⟩
                        rw [hwz]
                        clear hwz
                        go_wp2_with fail
                        refine HU4.out.mono ?_
                        rintro e wz ⟨rfl, hwz⟩
                        rw [hwz]
                        clear hwz
                        go_wp2_with fail
                        refine HU5.out.mono ?_
                        rintro e wz ⟨rfl, hwz⟩
                        rw [hwz]
                        clear hwz
                        go_wp2_with fail
                        go_meet
                        refine ⟨?_, rfl⟩
                        rw [← HP3.out]
                        first | rfl | (simp [g2, g3, g4, g5]; done) | (simp [g2, g3, g4, g5]; omega)
                      · skip
                        have g5' := str_ne0 g5
                        go_wp2_with fail
                        refine HU2.out.mono ?_
                        rintro e wz ⟨rfl, hwz⟩
                        rw [hwz]
                        clear hwz
                        go_wp2_with fail
                        refine HU3.out.mono ?_
                        rintro e wz ⟨rfl, hwz⟩
                        rw [hwz]
                        clear hwz
                        go_wp2_with fail
                        refine HU4.out.mono ?_
                        rintro e wz ⟨rfl, hwz⟩
                        rw [hwz]
                        clear hwz
                        go_wp2_with fail
                        refine HU5.out.mono ?_
                        rintro e wz ⟨rfl, hwz⟩
                        rw [hwz]
                        clear hwz
                        go_wp2_with fail
                        go_meet
                        refine ⟨?_, rfl⟩
                        rw [← HP3.out]
                        first | rfl | (simp [g2, g3, g4, g5]; done) | (simp [g2, g3, g4, g5]; omega)
                  · skip
                    have g4' := str_ne0 g4
                    go_wp2_with fail
                    refine HU2.out.mono ?_
                    rintro e wz ⟨rfl, hwz⟩
                    rw [hwz]
                    clear hwz
                    go_wp2_with fail
                    refine HU3.out.mono ?_
                    rintro e wz ⟨rfl, hwz⟩
                    rw [hwz]
                    clear hwz
                    go_wp2_with fail
                    refine HU4.out.mono ?_
                    rintro e wz ⟨rfl, hwz⟩
                    rw [hwz]
                    clear hwz
                    go_wp2_with fail
                    go_meet
                    refine ⟨?_, rfl⟩
                    rw [← HP3.out]
                    first | rfl | (simp [g2, g3, g4]; done) | (simp [g2, g3, g4]; omega)
              · skip
                go_wp2_with fail
                refine HU2.out.mono ?_
                rintro e wz ⟨rfl, hwz⟩
                rw [hwz]
                clear hwz
                go_wp2_with fail
                refine HU3.out.mono ?_
                rintro e wz ⟨rfl, hwz⟩
                rw [hwz]
                clear hwz
                go_wp2_with fail
                go_meet
                refine ⟨?_, rfl⟩
                rw [← HP3.out]
                first | rfl | (simp [g2, g3]; done) | (simp [g2, g3]; omega)
          · skip
            go_wp2_with fail
            refine HU2.out.mono ?_
            rintro e wz ⟨rfl, hwz⟩
            rw [hwz]
            clear hwz
            go_wp2_with fail
            go_meet
            refine ⟨?_, rfl⟩
            rw [← HP3.out]
            first | rfl | (simp [g2]; done) | (simp [g2]; omega)
      case rest =>
        obtain ⟨rfl, hwc⟩ := hcut
        rw [hwc]
        clear hwc
        cases P3 with
        | false =>
          go_wp2_with fail
          go_ret
          exact ⟨rfl, HL2.out⟩
        | true =>
          cases bo6 with
          | true =>
            cases bo7 with
            | true =>
              cases bo8 with
              | true =>
                go_wp2_with fail
                refine HU6.out.mono ?_
                rintro e wz ⟨rfl, hwz⟩
                rw [hwz]
                clear hwz
                go_wp2_with fail
                refine HU7.out.mono ?_
                rintro e wz ⟨rfl, hwz⟩
                rw [hwz]
                clear hwz
                go_wp2_with fail
                refine HU8.out.mono ?_
                rintro e wz ⟨rfl, hwz⟩
                rw [hwz]
                clear hwz
                go_wp2_with fail
                go_ret
                refine ⟨?_, HL2.out⟩
                rw [← HP5.out]
                first | rfl | (simp; done) | (simp; omega)
              | false =>
                by_cases g8 : m10 = 0
                · skip
                  go_wp2_with fail
                  refine HU6.out.mono ?_
                  rintro e wz ⟨rfl, hwz⟩
                  rw [hwz]
                  clear hwz
                  go_wp2_with fail
                  refine HU7.out.mono ?_
                  rintro e wz ⟨rfl, hwz⟩
                  rw [hwz]
                  clear hwz
                  go_wp2_with fail
                  refine HU8.out.mono ?_
                  rintro e wz ⟨rfl, hwz⟩
                  rw [hwz]
                  clear hwz
                  go_wp2_with fail
                  go_ret
                  refine ⟨?_, HL2.out⟩
                  rw [← HP5.out]
                  first | rfl | (simp [g8]; done) | (simp [g8]; omega)
                · skip
                  go_wp2_with fail
                  refine HU6.out.mono ?_
                  rintro e wz ⟨rfl, hwz⟩
                  rw [hwz]
                  clear hwz
                  go_wp2_with fail
                  refine HU7.out.mono ?_
                  rintro e wz ⟨rfl, hwz⟩
                  rw [hwz]
                  clear hwz
                  go_wp2_with fail
                  refine HU8.out.mono ?_
                  rintro e wz ⟨rfl, hwz⟩
                  rw [hwz]
                  clear hwz
                  go_wp2_with fail
                  go_ret
                  refine ⟨?_, HL2.out⟩
                  rw [← HP5.out]
                  first | rfl | (simp [g8]; done) | (simp [g8]; omega)
            | false =>
              by_cases g7 : m9 = 0
              · skip
                cases bo8 with
                | true =>
                  go_wp2_with fail
                  refine HU6.out.mono ?_
                  rintro e wz ⟨rfl, hwz⟩
                  rw [hwz]
                  clear hwz
                  go_wp2_with fail
                  refine HU7.out.mono ?_
                  rintro e wz ⟨rfl, hwz⟩
                  rw [hwz]
                  clear hwz
                  go_wp2_with fail
                  refine HU8.out.mono ?_
                  rintro e wz ⟨rfl, hwz⟩
                  rw [hwz]
                  clear hwz
                  go_wp2_with fail
                  go_ret
                  refine ⟨?_, HL2.out⟩
                  rw [← HP5.out]
                  first | rfl | (simp [g7]; done) | (simp [g7]; omega)
                | false =>
                  by_cases g8 : m10 = 0
                  · skip
                    go_wp2_with fail
                    refine HU6.out.mono ?_
                    rintro e wz ⟨rfl, hwz⟩
                    rw [hwz]
                    clear hwz
                    go_wp2_with fail
                    refine HU7.out.mono ?_
                    rintro e wz ⟨rfl, hwz⟩
                    rw [hwz]
                    clear hwz
                    go_wp2_with fail
                    refine HU8.out.mono ?_
                    rintro e wz ⟨rfl, hwz⟩
                    rw [hwz]
                    clear hwz
                    go_wp2_with fail
                    go_ret
                    refine ⟨?_, HL2.out⟩
                    rw [← HP5.out]
                    first | rfl | (simp [g7, g8]; done) | (simp [g7, g8]; omega)
                  · skip
                    go_wp2_with fail
                    refine HU6.out.mono ?_
                    rintro e wz ⟨rfl, hwz⟩
                    rw [hwz]
                    clear hwz
                    go_wp2_with fail
                    refine HU7.out.mono ?_
                    rintro e wz ⟨rfl, hwz⟩
                    rw [hwz]
                    clear hwz
                    go_wp2_with fail
                    refine HU8.out.mono ?_
                    rintro e wz ⟨rfl, hwz⟩
                    rw [hwz]
                    clear hwz
                    go_wp2_with fail
                    go_ret
                    refine ⟨?_, HL2.out⟩
                    rw [← HP5.out]
                    first | rfl | (simp [g7, g8]; done) | (simp [g7, g8]; omega)
              · skip
                go_wp2_with fail
                refine HU6.out.mono ?_
                rintro e wz ⟨rfl, hwz⟩
                rw [hwz]
                clear hwz
                go_wp2_with fail
                refine HU7.out.mono ?_
                rintro e wz ⟨rfl, hwz⟩
                rw [hwz]
                clear hwz
                go_wp2_with fail
                go_ret
                refine ⟨?_, HL2.out⟩
                rw [← HP5.out]
                first | rfl | (simp [g7]; done) | (simp [g7]; omega)
          | false =>
            by_cases g6 : m8 = 0
            · skip
              cases bo7 with
              | true =>
                cases bo8 with
                | true =>
                  go_wp2_with fail
                  refine HU6.out.mono ?_
                  rintro e wz ⟨rfl, hwz⟩
                  rw [hwz]
                  clear hwz
                  go_wp2_with fail
                  refine HU7.out.mono ?_
                  rintro e wz ⟨rfl, hwz⟩
                  rw [hwz]
                  clear hwz
                  go_wp2_with fail
                  refine HU8.out.mono ?_
                  rintro e wz ⟨rfl, hwz⟩
                  rw [hwz]
                  clear hwz
                  go_wp2_with fail
                  go_ret
                  refine ⟨?_, HL2.out⟩
                  rw [← HP5.out]
                  first | rfl | (simp [g6]; done) | (simp [g6]; omega)
                | false =>
                  by_cases g8 : m10 = 0
                  · skip
                    go_wp2_with fail
                    refine HU6.out.mono ?_
                    rintro e wz ⟨rfl, hwz⟩
                    rw [hwz]
                    clear hwz
                    go_wp2_with fail
                    refine HU7.out.mono ?_
                    rintro e wz ⟨rfl, hwz⟩
                    rw [hwz]
                    clear hwz
                    go_wp2_with fail
                    refine HU8.out.mono ?_
                    rintro e wz ⟨rfl, hwz⟩
                    rw [hwz]
                    clear hwz
                    go_wp2_with fail
                    go_ret
                    refine ⟨?_, HL2.out⟩
                    rw [← HP5.out]
                    first | rfl | (simp [g6, g8]; done) | (simp [g6, g8]; omega)
                  · skip
                    go_wp2_with fail
                    refine HU6.out.mono ?_
                    rintro e wz ⟨rfl, hwz⟩
                    rw [hwz]
                    clear hwz
                    go_wp2_with fail
                    refine HU7.out.mono ?_
                    rintro e wz ⟨rfl, hwz⟩
                    rw [hwz]
                    clear hwz
                    go_wp2_with fail
                    refine HU8.out.mono ?_
                    rintro e wz ⟨rfl, hwz⟩
                    rw [hwz]
                    clear hwz
                    go_wp2_with fail
                    go_ret
                    refine ⟨?_, HL2.out⟩
                    rw [← HP5.out]
                    first | rfl | (simp [g6, g8]; done) | (simp [g6, g8]; omega)
              | false =>
                by_cases g7 : m9 = 0
                · skip
                  cases bo8 with
                  | true =>
                    go_wp2_with fail
                    refine HU6.out.mono ?_
                    rintro e wz ⟨rfl, hwz⟩
                    rw [hwz]
                    clear hwz
                    go_wp2_with fail
                    refine HU7.out.mono ?_
                    rintro e wz ⟨rfl, hwz⟩
                    rw [hwz]
                    clear hwz
                    go_wp2_with fail
                    refine HU8.out.mono ?_
                    rintro e wz ⟨rfl, hwz⟩
                    rw [hwz]
                    clear hwz
                    go_wp2_with fail
                    go_ret
                    refine ⟨?_, HL2.out⟩
                    rw [← HP5.out]
                    first | rfl | (simp [g6, g7]; done) | (simp [g6, g7]; omega)
                  | false =>
                    by_cases g8 : m10 = 0
                    · skip
                      go_wp2_with fail
                      refine HU6.out.mono ?_
                      rintro e wz ⟨rfl, hwz⟩
                      rw [hwz]
                      clear hwz
                      go_wp2_with fail
                      refine HU7.out.mono ?_
                      rintro e wz ⟨rfl, hwz⟩
                      rw [hwz]
                      clear hwz
                      go_wp2_with fail
                      refine HU8.out.mono ?_
                      rintro e wz ⟨rfl, hwz⟩
                      rw [hwz]
                      clear hwz
                      go_wp2_with fail
                      go_ret
                      refine ⟨?_, HL2.out⟩
                      rw [← HP5.out]
                      first | rfl | (simp [g6, g7, g8]; done) | (simp [g6, g7, g8]; omega)
                    · skip
                      go_wp2_with fail
                      refine HU6.out.mono ?_
                      rintro e wz ⟨rfl, hwz⟩
                      rw [hwz]
                      clear hwz
                      go_wp2_with fail
                      refine HU7.out.mono ?_
                      rintro e wz ⟨rfl, hwz⟩
                      rw [hwz]
                      clear hwz
                      go_wp2_with fail
                      refine HU8.out.mono ?_
                      rintro e wz ⟨rfl, hwz⟩
                      rw [hwz]
                      clear hwz
                      go_wp2_with fail
                      go_ret
                      refine ⟨?_, HL2.out⟩
                      rw [← HP5.out]
                      first | rfl | (simp [g6, g7, g8]; done) | (simp [g6, g7, g8]; omega)
                · skip
                  go_wp2_with fail
                  refine HU6.out.mono ?_
                  rintro e wz ⟨rfl, hwz⟩
                  rw [hwz]
                  clear hwz
                  go_wp2_with fail
                  refine HU7.out.mono ?_
                  rintro e wz ⟨rfl, hwz⟩
                  rw [hwz]
                  clear hwz
                  go_wp2_with fail
                  go_ret
                  refine ⟨?_, HL2.out⟩
                  rw [← HP5.out]
                  first | rfl | (simp [g6, g7]; done) | (simp [g6, g7]; omega)
            · skip
              go_wp2_with fail
              refine HU6.out.mono ?_
              rintro e wz ⟨rfl, hwz⟩
              rw [hwz]
              clear hwz
              go_wp2_with fail
              go_ret
              refine ⟨?_, HL2.out⟩
              rw [← HP5.out]
              first | rfl | (simp [g6]; done) | (simp [g6]; omega)

end Go.Proofs.YtalmpmhnkilalaaGreatDoor
