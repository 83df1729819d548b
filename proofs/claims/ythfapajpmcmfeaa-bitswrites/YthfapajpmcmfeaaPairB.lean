import Derived.Test.YthfapajpmcmfeaaPairM
namespace Go.Proofs.Ythfapajpmcmfeaa
open Go.RowKit
set_option linter.unusedVariables false

set_option maxRecDepth 100000 in
set_option maxHeartbeats 4000000 in
theorem pbytes_any (pp p q : Nat) (rb rc ro : Option Nat) (L : List Bool) (w : World) (h : PS w pp p q rb rc ro L) (hL : L.length ≤ 1099511627776) :
    Calls Try.prog 10 #[.pointer (some ⟨pp, 0, none⟩)] w fun e w' => e = .returned (.bool true) ∧ PC w w' pp p q rb rc ro L := by
  obtain ⟨i0, hi, hz0, hz1, hz2⟩ := info_parts info5
  obtain ⟨v, n, m, ln, hP⟩ := h
  have HP := hidden hP
  have c0 : w.cell? ⟨pp, 0, none⟩ = some (.pointer (some ⟨p, 0, none⟩)) := hP.blk.cell 0
  obtain ⟨k, hk⟩ : ∃ k, (L.length + 7) / 8 = k := ⟨_, rfl⟩
  have hkb : k ≤ 1099511627776 := by omega
  clear hP
  go_enter Try.func10, Try.ntmps10
  go_wp2_with fail
  refine (bytes_any p rb L w HP.out.a (by omega)).mono ?_
  rintro e w1 ⟨ad1, c1, R, rfl, hRl, hO1, hRb, hRep, hb1⟩
  rw [hk] at hRl hO1 ⊢
  have hP1 := HP.out.chg (Chg.of_below (F := fun _ => False) hb1) (fun _ _ h => h)
  have d0 : w1.cell? ⟨pp, 0, none⟩ = some (.pointer (some ⟨p, 0, none⟩)) := hP1.blk.cell 0
  have HP1 := hidden hP1
  have HRl := hidden hRl
  have HO1 := hidden hO1
  have HRb := hidden hRb
  have HRep := hidden hRep
  have HB1 := hidden hb1
  clear hP1 hRl hO1 hRb hRep hb1 c0
  go_wp2_with fail
  refine (bytes_any p rb L w1 HP1.out.a (by omega)).mono ?_
  rintro e w2 ⟨ad2, c2, R2, rfl, hRl2, hO2, hRb2, hRep2, hb2⟩
  rw [hk] at hRl2 hO2 ⊢
  obtain rfl : R2 = R := hRep2.unique HRep.out (by rw [hRl2, HRl.out]) hRb2 HRb.out
  have hP2 := HP1.out.chg (Chg.of_below (F := fun _ => False) hb2) (fun _ _ h => h)
  have e1 : w2.cell? ⟨pp, 1, none⟩ = some (.pointer (some ⟨q, 0, none⟩)) := hP2.blk.cell 1
  have HP2 := hidden hP2
  have HO2 := hidden hO2
  have HB2 := hidden hb2
  clear hP2 hRl2 hO2 hRb2 hRep2 hb2 d0 HP1
  go_wp2_with fail
  refine (bytesR_any q rc L w2 HP2.out.b (by omega)).mono ?_
  rintro e w3 ⟨ad3, c3, R3, rfl, hRl3, hO3, hRb3, hRep3, hb3⟩
  rw [hk] at hRl3 hO3 ⊢
  obtain rfl : R3 = R2 := hRep3.unique HRep.out (by rw [hRl3, HRl.out]) hRb3 HRb.out
  have hP3 := HP2.out.chg (Chg.of_below (F := fun _ => False) hb3) (fun _ _ h => h)
  have hO13 : w3.ownsRow w.heap.size 5 1 (.slice ad1 k c1) k (cells8 R3) := (Chg.of_below (F := fun _ => False) hb3).owns ((Chg.of_below (F := fun _ => False) HB2.out).owns HO1.out (fun _ _ h => h)) (fun _ _ h => h)
  have hO23 : w3.ownsRow w1.heap.size 5 1 (.slice ad2 k c2) k (cells8 R3) := (Chg.of_below (F := fun _ => False) hb3).owns HO2.out (fun _ _ h => h)
  have st1 : (convert 29 9 (.slice ad1 k c1)).run Try.prog w3 = .ok (.string (strOfNums R3)) w3 := str_run (sl_of_owns hO13 HRb.out)
  have st2 : (convert 29 9 (.slice ad2 k c2)).run Try.prog w3 = .ok (.string (strOfNums R3)) w3 := str_run (sl_of_owns hO23 HRb.out)
  have st3 : (convert 29 9 (.slice ad3 k c3)).run Try.prog w3 = .ok (.string (strOfNums R3)) w3 := str_run (sl_of_owns hO3 HRb.out)
  obtain ⟨S, hS⟩ : ∃ S, strOfNums R3 = S := ⟨_, rfl⟩
  rw [hS] at st1 st2 st3
  have hbl3 : Below w.heap.size w w3 := (HB1.out.trans (HB2.out.mono HB1.out.size)).trans (hb3.mono (Nat.le_trans HB1.out.size HB2.out.size))
  have hlt1 : ∀ i, (Value.slice ad1 k c1).ownBlock = some i → i < w1.heap.size := owns_lt HO1.out
  have hwz : w1.heap.size ≤ w3.heap.size := Nat.le_trans HB2.out.size hb3.size
  have HP3 := hidden hP3
  have HO13 := hidden hO13
  have HO23 := hidden hO23
  have HSS := hidden hS
  have HBL3 := hidden hbl3
  have HLT1 := hidden hlt1
  have HK := hidden hk
  have HWZ := hidden hwz
  clear hP3 hO13 hO23 hS hbl3 hlt1 hRl3 hO3 hRb3 hRep3 hb3 e1 HP2 HO1 HO2 HB2 hk hwz
  go_wp2_with fail
  obtain ⟨av, cv, rfl⟩ := owns_form HP3.out.row
  obtain ⟨_, hnc, hcm, _⟩ := owns_cap HP3.out.row
  have hnb : n ≤ 9223372036854775807 := by unfold maxLen at hcm; omega
  have hmb := HP3.out.mb
  clear hnc hcm st1 st2 st3
  go_loopw [6] (fun iv wr => ∃ i : Nat, i ≤ n ∧ iv = .int .i64 (i : Int) ∧ Chg (fun _ => False) w3 wr) (fun iv _ => n - (intOf iv).toNat)
  case atStart => exact ⟨0, Nat.zero_le _, rfl, Chg.refl _ _⟩
  case round =>
    rename World => wr
    obtain ⟨i, hin, rfl, hC⟩ := hrel
    have hPr := HP3.out.chg hC (fun _ _ h => h)
    have HC := hidden hC
    clear hC
    have x2 : wr.cell? ⟨pp, 2, none⟩ = some (.slice av n cv) := hPr.blk.cell 2
    have x3 : wr.cell? ⟨pp, 3, none⟩ = some (.int .u8 (m : Int)) := hPr.blk.cell 3
    by_cases hlt : i < n
    · obtain ⟨g, rfl⟩ : ∃ g, av = some ⟨g, 0, none⟩ := by
        rcases hPr.row.2 with ⟨h0, h1⟩ | ⟨g, cap, cur, h0, _⟩
        · omega
        · simp only [Value.slice.injEq] at h0
          exact ⟨g, h0.1⟩
      have cg : wr.cell? ⟨g, i, none⟩ = some (.int .u8 (m : Int)) := by
        rw [hPr.row.cellAt i (by omega)]
        simp [cells8, hlt]
      clear hPr
      go_wp2_with fail
      go_region
      have HC2 : Hid (Chg (fun _ => False) w3 wr.drew) := HC.out.trans (Chg.drew _ _) (fun _ _ h => h)
      generalize wr.drew = wd at *
      clear x2 x3 cg
      go_wp2_with fail
      refine ⟨⟨i + 1, by omega, ?_, HC2.out⟩, ?_⟩
      · go_num
      · simp [intOf]
        omega
    · have hin2 : n = i := by omega
      subst hin2
      have f3 := hPr.blk.frozen 3
      obtain ⟨m2, hm2⟩ : ∃ m2, (m + 1) % 256 = m2 := ⟨_, rfl⟩
      have hm2i : ((m : Int) + 1) % 256 = (m2 : Int) := by omega
      have hm2b : m2 < 256 := by omega
      have hBu : Blk (wr.setCell ⟨pp, 3, none⟩ (.int .u8 (m2 : Int))) pp 31 [.pointer (some ⟨p, 0, none⟩), .pointer (some ⟨q, 0, none⟩), .slice av n cv, .int .u8 (m2 : Int), .int .i64 ln] := hPr.blk.set 3 _
      have hppw : pp < w.heap.size := HP.out.blk.lt
      have hOu : (wr.setCell ⟨pp, 3, none⟩ (.int .u8 (m2 : Int))).ownsRow w.heap.size 5 1 (.slice ad1 k c1) k (cells8 R3) := by
        have := HC.out.owns HO13.out (fun _ _ h => h)
        refine ownsRow_setCell_other this (fun e => ?_) _
        have := (this.lt pp e).1
        omega
      have hSu : (wr.setCell ⟨pp, 3, none⟩ (.int .u8 (m2 : Int))).ownsRow w1.heap.size 5 1 (.slice ad2 k c2) k (cells8 R3) := by
        have := HC.out.owns HO23.out (fun _ _ h => h)
        refine ownsRow_setCell_other this (fun e => ?_) _
        have := (this.lt pp e).1
        have := HB1.out.size
        omega
      have hCu : Chg (fun i => i = pp) w3 (wr.setCell ⟨pp, 3, none⟩ (.int .u8 (m2 : Int))) := (HC.out.mono (fun _ _ h => h.elim)).trans (Chg.set ⟨pp, 3, none⟩ _ wr) (fun _ _ h => h)
      have HBu := hidden hBu
      have HOu := hidden hOu
      have HSu := hidden hSu
      have HCu := hidden hCu
      have HPPW := hidden hppw
      clear hPr hBu hOu hSu hCu hppw HC HO13 HO23 hm2 hin
      go_wp2_with fail
      clear hm2i f3
      obtain ⟨u, hu⟩ : ∃ u, wr.setCell ⟨pp, 3, none⟩ (.int .u8 (m2 : Int)) = u := ⟨_, rfl⟩
      rw [hu] at HBu HOu HSu HCu ⊢
      clear hu x2 x3
      have hlo : ∀ i, (Value.slice ad1 k c1).ownBlock = some i → w.heap.size ≤ i := fun i hi => (HOu.out.lt i hi).1
      have HLO := hidden hlo
      clear hlo
      go_loopw [7] (fun iv wr => ∃ (i : Nat) (X : List Int), i ≤ k ∧ iv = .int .i64 (i : Int) ∧ X.length = k ∧ Byte X ∧ (∀ j, j < i → X.getD j 0 = (m2 : Int)) ∧ wr.ownsRow w.heap.size 5 1 (.slice ad1 k c1) k (cells8 X) ∧ Chg (fun i => (Value.slice ad1 k c1).ownBlock = some i) u wr) (fun iv _ => k - (intOf iv).toNat)
      case atStart => exact ⟨0, R3, Nat.zero_le _, rfl, HRl.out, HRb.out, fun j hj => absurd hj (by omega), HOu.out, Chg.refl _ _⟩
      case round =>
        obtain ⟨i, X, hik, rfl, hXl, hXb, hX, hO, hC⟩ := hrel
        have hBr := hC.blk HBu.out (fun e => by have := HLO.out pp e; have := HPPW.out; omega)
        have x3 : wr.cell? ⟨pp, 3, none⟩ = some (.int .u8 (m2 : Int)) := hBr.cell 3
        have HXl := hidden hXl
        have HXb := hidden hXb
        have HX := hidden hX
        have HO := hidden hO
        have HC := hidden hC
        clear hXl hXb hX hO hC
        by_cases hlt : i < k
        · obtain ⟨g1, rfl⟩ : ∃ g, ad1 = some ⟨g, 0, none⟩ := by
            rcases HO.out.2 with ⟨h0, h1⟩ | ⟨g, cap, cur, h0, _⟩
            · omega
            · simp only [Value.slice.injEq] at h0
              exact ⟨g, h0.1⟩
          have cg : wr.cell? ⟨g1, i, none⟩ = some (.int .u8 (X.getD i 0)) := by
            have hxl := HXl.out
            rw [HO.out.cellAt i (by omega)]
            simp [cells8, List.getD, show i < X.length by omega]
          have fg : wr.frozen? ⟨g1, i, none⟩ = false := by
            rcases HO.out.2 with ⟨h0, _⟩ | ⟨g', cap, cur, h0, _, hh, _⟩
            · cases h0
            · simp only [Value.slice.injEq, Option.some.injEq, Addr.mk.injEq] at h0
              obtain ⟨⟨rfl, _⟩, _, rfl⟩ := h0
              exact frozen_of_row wr g1 i _ 5 hh
          have hO2 := owns_set HO.out i (m2 : Int) (by rw [HXl.out]; exact hlt)
          have hC2 : Chg (fun i => (Value.slice (some ⟨g1, 0, none⟩) k c1).ownBlock = some i) u (wr.setCell ⟨g1, i, none⟩ (.int .u8 (m2 : Int))) := HC.out.trans (Chg.set ⟨g1, i, none⟩ _ wr) (fun j _ h => by rw [h]; rfl)
          have HO2 := hidden hO2
          have HC2 := hidden hC2
          clear hO2 hC2 hBr
          go_wp2_with fail
          refine ⟨⟨i + 1, X.set i (m2 : Int), by omega, ?_, by rw [List.length_set]; exact HXl.out, fun y hy => ?_, fun j hj => ?_, HO2.out, HC2.out⟩, ?_⟩
          · go_num
          · rcases List.mem_or_eq_of_mem_set hy with h1 | h1
            · exact HXb.out y h1
            · omega
          · have hxl := HXl.out
            by_cases hji : j = i
            · subst hji
              simp [List.getD, show j < X.length by omega]
            · rw [← HX.out j (by omega), List.getD_eq_getElem?_getD, List.getElem?_set_ne (by omega), ← List.getD_eq_getElem?_getD]
          · simp [intOf]
            omega
        · have hik2 : k = i := by omega
          subst hik2
          have hXe : X = List.replicate k (m2 : Int) := by
            refine List.ext_getElem (by rw [HXl.out, List.length_replicate]) (fun j h1 h2 => ?_)
            have := HX.out j (by rw [← HXl.out]; exact h1)
            rw [List.getElem_replicate]
            simpa [List.getD, h1] using this
          have hO := HO.out
          rw [hXe] at hO
          have HOk := hidden hO
          have HC2 := hidden HC.out
          clear hO hXe HX HXl HXb HO hBr x3 HC
          go_wp2_with fail
          go_loopw [3, 8] (fun lv jv wr => ∃ j : Nat, j ≤ 9 ∧ jv = .int .i64 (j : Int) ∧ wr.ownsRow w.heap.size 5 1 lv (k + j) (cells8 (List.replicate (k + j) (m2 : Int))) ∧ Chg (fun i => (Value.slice ad1 k c1).ownBlock = some i) u wr ∧ Moved u (Value.slice ad1 k c1).ownBlock lv.ownBlock) (fun _ jv _ => 9 - (intOf jv).toNat)
          case atStart => exact ⟨0, Nat.zero_le _, rfl, HOk.out, HC2.out, .inl rfl⟩
          case round =>
            obtain ⟨j, hj, rfl, hO, hC, hM⟩ := hrel
            clear HOk HC2
            have hBr := hC.blk HBu.out (fun e => by have := HLO.out pp e; have := HPPW.out; omega)
            have x3 : wr.cell? ⟨pp, 3, none⟩ = some (.int .u8 (m2 : Int)) := hBr.cell 3
            have HO := hidden hO
            have HC := hidden hC
            have HM := hidden hM
            obtain ⟨a3, c3', rfl⟩ := owns_form hO
            have hwr : w.heap.size ≤ wr.heap.size := Nat.le_trans (Nat.le_trans HBL3.out.size HCu.out.size) hC.size
            have HWR := hidden hwr
            clear hO hC hM hwr
            by_cases hj9 : j < 9
            · clear hBr
              go_wp2_with (first
                | (at_builtin; (refine wpList_push _ rfl _ _ 29 rfl 5 i0 (.int .u8 0) 1 Try.underlying29 hi hz0 hz1 hz2 rfl w.heap.size (.slice a3 (k + j) c3') (k + j) (cells8 (List.replicate (k + j) (m2 : Int))) rfl (by exact (Chg.alloc (fun _ => False) wr _).owns HO.out (fun _ _ h => h)) ⟨wr.heap.size, 0, none⟩ (.int .u8 (m2 : Int)) rfl (by first | (simp; done) | (simp; omega)) rfl (by unfold maxLen; omega) (by omega) (by have := HWR.out; simp; omega) ?_); intro g6 c6 w6 ho6 hp6; obtain ⟨r1, r2⟩ := hp6.chg; have HO6 := hidden ho6; have HR1 := hidden r1; have HR2 := hidden r2; clear r1 r2 ho6 hp6 x3))
              refine ⟨⟨j + 1, by omega, ?_, ?_, ?_, HM.out.trans HR2.out HC.out.size⟩, ?_⟩
              · go_num
              · rw [show k + (j + 1) = k + j + 1 by omega, List.replicate_succ', cells8_append]
                exact HO6.out
              · refine HC.out.trans HR1.out (fun i hi h => ?_)
                rcases HM.out with e | ⟨g, e, hg⟩
                · rw [← e]; exact h
                · rw [e] at h
                  simp at h
                  omega
              · simp [intOf]
                omega
            · obtain rfl : j = 9 := by omega
              have f2 := hBr.frozen 2
              have x2 : wr.cell? ⟨pp, 2, none⟩ = some (.slice av n cv) := hBr.cell 2
              have hBf : Blk (wr.setCell ⟨pp, 2, none⟩ (.slice a3 (k + 9) c3')) pp 31 [.pointer (some ⟨p, 0, none⟩), .pointer (some ⟨q, 0, none⟩), .slice a3 (k + 9) c3', .int .u8 (m2 : Int), .int .i64 ln] := hBr.set 2 _
              have hOf : (wr.setCell ⟨pp, 2, none⟩ (.slice a3 (k + 9) c3')).ownsRow w.heap.size 5 1 (.slice a3 (k + 9) c3') (k + 9) (cells8 (List.replicate (k + 9) (m2 : Int))) := ownsRow_setCell_other HO.out (fun e => by
                have := (HO.out.lt pp e).1
                have := HPPW.out
                omega) _
              have hSf : (wr.setCell ⟨pp, 2, none⟩ (.slice a3 (k + 9) c3')).ownsRow w1.heap.size 5 1 (.slice ad2 k c2) k (cells8 R3) := by
                have h1 := HC.out.owns HSu.out (fun g hg e => by
                  have := (HSu.out.lt g hg).1
                  have := HLT1.out g e
                  omega)
                refine ownsRow_setCell_other h1 (fun e => ?_) _
                have := (h1.lt pp e).1
                have := HPPW.out
                have := HB1.out.size
                omega
              have hCf : Chg (fun i => i = pp) w (wr.setCell ⟨pp, 2, none⟩ (.slice a3 (k + 9) c3')) := by
                have s1 : Chg (fun i => i = pp) w w3 := ⟨HBL3.out.os, HBL3.out.tape, HBL3.out.output, HBL3.out.size, fun i hi _ => HBL3.out.block i hi⟩
                have s2 := s1.trans HCu.out (fun _ _ h => h)
                have s3 := s2.trans HC.out (fun i hi h => by have := HLO.out i h; omega)
                exact s3.trans (Chg.set ⟨pp, 2, none⟩ _ wr) (fun _ _ h => h)
              have st4 : (convert 29 9 (.slice ad2 k c2)).run Try.prog (wr.setCell ⟨pp, 2, none⟩ (.slice a3 (k + 9) c3')) = .ok (.string (strOfNums R3)) (wr.setCell ⟨pp, 2, none⟩ (.slice a3 (k + 9) c3')) := str_run (sl_of_owns hSf HRb.out)
              rw [HSS.out] at st4
              have HBf := hidden hBf
              have HOf := hidden hOf
              have HCf := hidden hCf
              clear hBf hOf hSf hCf hBr x3
              go_wp2_with fail
              go_ret
              refine ⟨rfl, ?_⟩
              obtain ⟨g, rfl⟩ : ∃ g, a3 = some ⟨g, 0, none⟩ := by
                rcases HOf.out.2 with ⟨h0, h1⟩ | ⟨g, cap, cur, h0, _⟩
                · omega
                · simp only [Value.slice.injEq] at h0
                  exact ⟨g, h0.1⟩
              have hg := (HOf.out.lt g rfl).1
              have hppt := HP.out.blk.tg
              refine ⟨rb, rc, some g, ⟨.slice (some ⟨g, 0, none⟩) (k + 9) c3', k + 9, m2, ln, HBf.out, ?_, ?_, rfl, ?_, hm2b, fun i hi e => ?_⟩, HCf.out.mono (fun i _ h => .inl h), .inl rfl, .inl rfl, .inr ⟨g, rfl, hg⟩⟩
              · refine HP.out.a.chg HCf.out (fun i hi e => ?_)
                subst e
                rcases HP.out.a.tg i hi with t | t <;> exact absurd (t.one hppt) (by decide)
              · refine HP.out.b.chg HCf.out (fun i hi e => ?_)
                subst e
                rcases HP.out.b.tg i hi with t | t <;> exact absurd (t.one hppt) (by decide)
              · rcases HOf.out.2 with h0 | ⟨g', cap, cur, h0, h1, h2⟩
                · exact ⟨HOf.out.1, .inl h0⟩
                · exact ⟨HOf.out.1, .inr ⟨g', cap, cur, h0, Nat.zero_le _, h2⟩⟩
              · have := HP.out.a.lt i (.inr hi)
                simp at e
                omega

end Go.Proofs.Ythfapajpmcmfeaa
