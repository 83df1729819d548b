import Derived.Test.YthfapajpmcmfeaaPairR
namespace Go.Proofs.Ythfapajpmcmfeaa
open Go.RowKit
set_option linter.unusedVariables false

/-- Behind the call on the program's writer. -/
def RA (w0 : World) (pp p q : Nat) (rb rc ro : Option Nat) (L' L : List Bool) (v : Value) (n m : Nat) (ln : Int) (ob : Nat) (bx : List Value) (wx : World) : Prop :=
  ∃ rb', PQ wx pp p q rb' rc ro L' L v n m ln ∧ Chg (FP pp p q rb rc ro) w0 wx ∧ Moved w0 rb rb' ∧ Blk wx ob 35 bx
/-- Behind both. -/
def RZ (w0 : World) (pp p q : Nat) (rb rc ro : Option Nat) (L' : List Bool) (v : Value) (n m : Nat) (ln : Int) (wx : World) : Prop :=
  ∃ rb' rc', PR wx pp p q rb' rc' ro L' v n m ln ∧ Chg (FP pp p q rb rc ro) w0 wx ∧ Moved w0 rb rb' ∧ Moved w0 rc rc'

section
variable {w0 : World} {pp p q : Nat} {rb rc ro : Option Nat} {L L' : List Bool} {v : Value} {n m : Nat} {ln : Int} {ob : Nat} {bx : List Value}

theorem RA.mk (hP : PR w0 pp p q rb rc ro L v n m ln) (hB : Blk w0 ob 35 bx) (hlt : ∀ i, FP pp p q rb rc ro i → i < ob) {w1 w2 : World} (hL : Lat w0 w1) {rb' : Option Nat} (hW : WS w2 p rb' L') (hc : Chg (fpt p rb) w1 w2) (hM : Moved w1 rb rb') : RA w0 pp p q rb rc ro L' L v n m ln ob bx w2 := by
  have hP1 := hP.chg (Chg.of_below (F := fun _ => False) hL) (fun _ _ h => h)
  obtain ⟨r1, r2⟩ := hP1.toA hW hc hM
  have r3 : Chg (FP pp p q rb rc ro) w0 w2 := (Chg.of_below hL).trans r2 (fun _ _ h => h)
  exact ⟨rb', r1, r3, Moved.trans (a := w0) (b := w1) (.inl rfl) hM hL.size, r3.blk hB (fun e => by have := hlt ob e; omega)⟩
theorem callA_put (hP : PR w0 pp p q rb rc ro L v n m ln) (hB : Blk w0 ob 35 bx) (hlt : ∀ i, FP pp p q rb rc ro i → i < ob) (hL : L.length ≤ 1099511627776) (V : Nat) (nn : Int) (hV : V < 18446744073709551616) :
    ∀ w1, Lat w0 w1 → Calls Try.prog 17 #[.pointer (some ⟨p, 0, none⟩), .int .u64 (V : Int), .int .i64 nn] w1 fun e w2 => ∃ x, e = .returned x ∧ RA w0 pp p q rb rc ro (L ++ low V (cl nn)) L v n m ln ob bx w2 := by
  intro w1 hl
  refine (put_any p rb L V nn w1 (hP.a.chg (Chg.of_below (F := fun _ => False) hl) (fun _ _ h => h)) hV hL).mono ?_
  rintro e w2 ⟨rfl, rb', h1, h2, h3⟩
  exact ⟨_, rfl, RA.mk hP hB hlt hl h1 h2 h3⟩
theorem callA_cut (hP : PR w0 pp p q rb rc ro L v n m ln) (hB : Blk w0 ob 35 bx) (hlt : ∀ i, FP pp p q rb rc ro i → i < ob) (hL : L.length ≤ 1099511627776) (nn : Int) :
    ∀ w1, Lat w0 w1 → Calls Try.prog 19 #[.pointer (some ⟨p, 0, none⟩), .int .i64 nn] w1 fun e w2 => ∃ x, e = .returned x ∧ RA w0 pp p q rb rc ro (L.take nn.toNat) L v n m ln ob bx w2 := by
  intro w1 hl
  refine (cut_any p rb L nn w1 (hP.a.chg (Chg.of_below (F := fun _ => False) hl) (fun _ _ h => h)) (by omega)).mono ?_
  rintro e w2 ⟨rfl, h1, h2⟩
  exact ⟨_, rfl, RA.mk hP hB hlt hl h1 h2 (.inl rfl)⟩
theorem RZ.mk {u w1 w2 : World} (h : RA w0 pp p q rb rc ro L' L v n m ln ob bx u) (hL : Lat u w1) {rc' : Option Nat} (hD : DS w2 q rc' L') (hc : Chg (fpt q rc) w1 w2) (hM : Moved w1 rc rc') : RZ w0 pp p q rb rc ro L' v n m ln w2 := by
  obtain ⟨rb', hQ, hC, hM1, hB⟩ := h
  have hQ1 : PQ w1 pp p q rb' rc ro L' L v n m ln := ⟨hQ.blk.later hL, hQ.a.chg (Chg.of_below (F := fun _ => False) hL) (fun _ _ h => h), hQ.b.chg (Chg.of_below (F := fun _ => False) hL) (fun _ _ h => h), hQ.own, (Chg.of_below (F := fun _ => False) hL).owns hQ.row (fun _ _ h => h), hQ.mb, hQ.ne⟩
  obtain ⟨r1, r2⟩ := hQ1.toB hD hc
  have hC1 : Chg (FP pp p q rb rc ro) w0 w1 := hC.trans (Chg.of_below (F := fun _ => False) hL) (fun _ _ h => h.elim)
  exact ⟨rb', rc', r1, hC1.trans r2 (FP_moved hM1 (.inl rfl) (.inl rfl)), hM1, Moved.trans (a := w0) (b := w1) (.inl rfl) hM hC1.size⟩
theorem callB_put {u : World} {V : Nat} {nn : Int} (h : RA w0 pp p q rb rc ro (L ++ low V (cl nn)) L v n m ln ob bx u) (hL : L.length ≤ 1099511627776) (hV : V < 18446744073709551616) :
    ∀ w1, Lat u w1 → Calls Try.prog 21 #[.pointer (some ⟨q, 0, none⟩), .int .u64 (V : Int), .int .i64 nn] w1 fun e w2 => ∃ x, e = .returned x ∧ RZ w0 pp p q rb rc ro (L ++ low V (cl nn)) v n m ln w2 := by
  intro w1 hl
  have hb : DS u q rc L := by obtain ⟨_, hQ, _⟩ := h; exact hQ.b
  refine (putR_any q rc L V nn w1 (hb.chg (Chg.of_below (F := fun _ => False) hl) (fun _ _ h => h)) hV hL).mono ?_
  rintro e w2 ⟨rfl, rc', h1, h2, h3⟩
  exact ⟨_, rfl, RZ.mk h hl h1 h2 h3⟩
theorem callB_cut {u : World} {nn : Int} (h : RA w0 pp p q rb rc ro (L.take nn.toNat) L v n m ln ob bx u) (hL : L.length ≤ 1099511627776) :
    ∀ w1, Lat u w1 → Calls Try.prog 22 #[.pointer (some ⟨q, 0, none⟩), .int .i64 nn] w1 fun e w2 => ∃ x, e = .returned x ∧ RZ w0 pp p q rb rc ro (L.take nn.toNat) v n m ln w2 := by
  intro w1 hl
  have hb : DS u q rc L := by obtain ⟨_, hQ, _⟩ := h; exact hQ.b
  refine (cutR_any q rc L nn w1 (hb.chg (Chg.of_below (F := fun _ => False) hl) (fun _ _ h => h)) (by omega)).mono ?_
  rintro e w2 ⟨rfl, h1, h2⟩
  exact ⟨_, rfl, RZ.mk h hl h1 h2 (.inl rfl)⟩
end
theorem PC.later {w a b : World} {pp p q : Nat} {rb rc ro : Option Nat} {L' : List Bool} (h : PC w a pp p q rb rc ro L') (hL : Lat a b) : PC w b pp p q rb rc ro L' := by
  obtain ⟨rb', rc', ro', h1, h2, h3⟩ := h
  exact ⟨rb', rc', ro', h1.chg (Chg.of_below (F := fun _ => False) hL) (fun _ _ h => h), h2.trans (Chg.of_below (F := fun _ => False) hL) (fun _ _ h => h.elim), h3⟩
theorem PC.cells {w a : World} {pp p q : Nat} {rb rc ro : Option Nat} {L' : List Bool} (h : PC w a pp p q rb rc ro L') : a.cell? ⟨pp, 0, none⟩ = some (.pointer (some ⟨p, 0, none⟩)) ∧ a.cell? ⟨pp, 1, none⟩ = some (.pointer (some ⟨q, 0, none⟩)) := by
  obtain ⟨rb', rc', ro', ⟨v, n, m, ln, h1⟩, _⟩ := h
  exact ⟨h1.blk.cell 0, h1.blk.cell 1⟩
theorem PC.len {w a : World} {pp p q : Nat} {rb rc ro : Option Nat} {L' : List Bool} (h : PC w a pp p q rb rc ro L') : (∀ w1, Lat a w1 → Calls Try.prog 18 #[.pointer (some ⟨p, 0, none⟩)] w1 fun e w2 => e = .returned (.int .i64 (L'.length : Int)) ∧ w2 = w1) ∧ (∀ w1, Lat a w1 → Calls Try.prog 23 #[.pointer (some ⟨q, 0, none⟩)] w1 fun e w2 => e = .returned (.int .i64 (L'.length : Int)) ∧ w2 = w1) := by
  obtain ⟨rb', rc', ro', ⟨v, n, m, ln, h1⟩, _⟩ := h
  exact ⟨fun w1 hL => len_any p rb' L' w1 (h1.a.chg (Chg.of_below (F := fun _ => False) hL) (fun _ _ h => h)), fun w1 hL => lenR_any q rc' L' w1 (h1.b.chg (Chg.of_below (F := fun _ => False) hL) (fun _ _ h => h))⟩
theorem lat_cell {w w1 : World} {b o : Nat} {x : Value} (h : w.cell? ⟨b, o, none⟩ = some x) (hL : Lat w w1) : w1.cell? ⟨b, o, none⟩ = some x := by
  rw [hL.cell (p := ⟨b, o, none⟩) (World.block_lt_of_cell? w _ h)]
  exact h

set_option maxRecDepth 100000 in
set_option maxHeartbeats 4000000 in
theorem step_any (pp p q : Nat) (rb rc ro : Option Nat) (L : List Bool) (kd on nn : Int) (V : Nat) (w : World) (h : PS w pp p q rb rc ro L) (hL : L.length ≤ 1099511627776) (hV : V < 18446744073709551616) :
    Calls Try.prog 9 #[.pointer (some ⟨pp, 0, none⟩), .agg #[.int .i64 kd, .int .i64 on, .int .u64 (V : Int), .int .i64 nn]] w fun e w' => e = .returned (.bool true) ∧ ∃ L', L'.length ≤ L.length + 64 ∧ PC w w' pp p q rb rc ro L' := by
  have HP := hidden h
  clear h
  go_enter Try.func9, Try.ntmps9
  go_upto_region 1 with (first
    | (refine wpList_box_blk rfl 35 (.tmp 1) rfl [.int .i64 kd, .int .i64 on, .int .u64 (V : Int), .int .i64 nn] rfl ?_; intro w0 B0 bl0 hzz; clear hzz))
  obtain ⟨ob, hob⟩ : ∃ ob, w.heap.size = ob := ⟨_, rfl⟩
  rw [hob] at B0 ⊢
  have hlt : ∀ i, FP pp p q rb rc ro i → i < ob := fun i hi => by rw [← hob]; exact HP.out.lt i hi
  have hP0 := HP.out.chg (Chg.of_below (F := fun _ => False) bl0) (fun _ _ h => h)
  have HBL := hidden bl0
  have HLT := hidden hlt
  obtain ⟨v, n, m, ln, hP0⟩ := hP0
  have HP0 := hidden hP0
  have HB0 := hidden B0
  clear hlt hP0 bl0 hob B0
  have HZ : Hid (∀ L' wx, RZ w0 pp p q rb rc ro L' v n m ln wx → PC w wx pp p q rb rc ro L') := fun L' wx ⟨rb', rc', h1, h2, h3, h4⟩ => ⟨rb', rc', ro, ⟨v, n, m, ln, h1⟩, (Chg.of_below HBL.out).trans h2 (fun _ _ h => h), Moved.trans (a := w) (b := w0) (.inl rfl) h3 HBL.out.size, Moved.trans (a := w) (b := w0) (.inl rfl) h4 HBL.out.size, .inl rfl⟩
  have k0 : w0.cell? ⟨ob, 0, none⟩ = some (.int .i64 kd) := HB0.out.cell 0
  by_cases d0 : kd = 0
  · subst d0
    go_wp2_with fail
    refine step_r3 pp p ob V nn _ _ _ _ (by rfl) (by rfl) (by rfl) (fun w1 hl => lat_cell (HP0.out.blk.cell 0) hl) (fun w1 hl => lat_cell (HB0.out.cell 2) hl) (fun w1 hl => lat_cell (HB0.out.cell 3) hl) (callA_put HP0.out HB0.out HLT.out hL V nn hV) ?_
    intro v10 v11 v12 v13 v14 v15 v16 v17 v18 w2 hR
    simp only [Act.put, List.setIfInBounds_toArray, List.set_cons_succ, List.set_cons_zero]
    have HR := hidden hR
    clear hR k0
    go_wp2_with fail
    refine step_r4 pp q ob V nn _ _ _ _ (by rfl) (by rfl) (by rfl) (fun w1 hl => lat_cell (by obtain ⟨_, hQ, _⟩ := HR.out; exact hQ.blk.cell 1) hl) (fun w1 hl => lat_cell (by obtain ⟨_, _, _, _, hB⟩ := HR.out; exact hB.cell 2) hl) (fun w1 hl => lat_cell (by obtain ⟨_, _, _, _, hB⟩ := HR.out; exact hB.cell 3) hl) (callB_put HR.out hL hV) ?_
    intro v19 v20 v21 v22 v23 v24 v25 v26 v27 w3 hR3
    simp only [Act.put, List.setIfInBounds_toArray, List.set_cons_succ, List.set_cons_zero]
    have HPC := hidden (HZ.out _ _ hR3)
    clear hR3 HR
    go_wp2_with fail
    refine step_r16 pp p q _ _ _ _ (by rfl) (by rfl) (fun w1 hl => lat_cell HPC.out.cells.1 hl) (fun w1 hl => lat_cell HPC.out.cells.2 hl) HPC.out.len.1 HPC.out.len.2 ?_
    intro v78 v79 v80 v81 v82 v83 v84 v85 v86 v87 v88 wf hLf
    have HF := hidden (HPC.out.later hLf)
    clear hLf HPC
    simp only [Act.put, List.setIfInBounds_toArray, List.set_cons_succ, List.set_cons_zero]
    go_wp2_with fail
    go_ret
    exact ⟨rfl, _, by rw [List.length_append, low_len]; have := cl_le nn; omega, HF.out⟩
  · by_cases d1 : kd = 1
    · subst d1
      go_wp2_with fail
      refine step_r6 pp p ob nn _ _ _ _ (by rfl) (by rfl) (by rfl) (fun w1 hl => lat_cell (HP0.out.blk.cell 0) hl) (fun w1 hl => lat_cell (HB0.out.cell 3) hl) (callA_cut HP0.out HB0.out HLT.out hL nn) ?_
      intro v30 v31 v32 v33 v34 v35 v36 w2 hR
      simp only [Act.put, List.setIfInBounds_toArray, List.set_cons_succ, List.set_cons_zero]
      have HR := hidden hR
      clear hR k0
      go_wp2_with fail
      refine step_r7 pp q ob nn _ _ _ _ (by rfl) (by rfl) (by rfl) (fun w1 hl => lat_cell (by obtain ⟨_, hQ, _⟩ := HR.out; exact hQ.blk.cell 1) hl) (fun w1 hl => lat_cell (by obtain ⟨_, _, _, _, hB⟩ := HR.out; exact hB.cell 3) hl) (callB_cut HR.out hL) ?_
      intro v37 v38 v39 v40 v41 v42 v43 w3 hR3
      simp only [Act.put, List.setIfInBounds_toArray, List.set_cons_succ, List.set_cons_zero]
      have HPC := hidden (HZ.out _ _ hR3)
      clear hR3 HR
      go_wp2_with fail
      refine step_r16 pp p q _ _ _ _ (by rfl) (by rfl) (fun w1 hl => lat_cell HPC.out.cells.1 hl) (fun w1 hl => lat_cell HPC.out.cells.2 hl) HPC.out.len.1 HPC.out.len.2 ?_
      intro v78 v79 v80 v81 v82 v83 v84 v85 v86 v87 v88 wf hLf
      have HF := hidden (HPC.out.later hLf)
      clear hLf HPC
      simp only [Act.put, List.setIfInBounds_toArray, List.set_cons_succ, List.set_cons_zero]
      go_wp2_with fail
      go_ret
      exact ⟨rfl, _, by rw [List.length_take]; omega, HF.out⟩
    · by_cases d2 : kd = 2
      · subst d2
        go_wp2_with fail
        refine step_r9 pp p ln _ _ _ _ (by rfl) (by rfl) (fun w1 hl => lat_cell (HP0.out.blk.cell 0) hl) (fun w1 hl => lat_cell (HP0.out.blk.cell 4) hl) (callA_cut HP0.out HB0.out HLT.out hL ln) ?_
        intro v46 v47 v48 v49 v50 v51 v52 v53 v54 w2 hR
        simp only [Act.put, List.setIfInBounds_toArray, List.set_cons_succ, List.set_cons_zero]
        have HR := hidden hR
        clear hR k0
        go_wp2_with fail
        refine step_r10 pp q ln _ _ _ _ (by rfl) (by rfl) (fun w1 hl => lat_cell (by obtain ⟨_, hQ, _⟩ := HR.out; exact hQ.blk.cell 1) hl) (fun w1 hl => lat_cell (by obtain ⟨_, hQ, _⟩ := HR.out; exact hQ.blk.cell 4) hl) (callB_cut HR.out hL) ?_
        intro v55 v56 v57 v58 v59 v60 v61 v62 v63 w3 hR3
        simp only [Act.put, List.setIfInBounds_toArray, List.set_cons_succ, List.set_cons_zero]
        obtain ⟨rb', rc', hP3, hC3, hM3, hN3⟩ := hR3
        have y1 : w3.cell? ⟨pp, 1, none⟩ = some (.pointer (some ⟨q, 0, none⟩)) := hP3.blk.cell 1
        have HP3 := hidden hP3
        have HC3 := hidden hC3
        have HM3 := hidden hM3
        have HN3 := hidden hN3
        clear hP3 hC3 hM3 hN3 HR
        go_wp2_with fail
        refine (lenR_any q rc' _ w3 HP3.out.b).mono ?_
        rintro e w' ⟨rfl, hw⟩
        obtain rfl := hw.symm
        clear hw
        have y4 : w3.cell? ⟨pp, 4, none⟩ = some (.int .i64 ln) := HP3.out.blk.cell 4
        have f4 := HP3.out.blk.frozen 4
        obtain ⟨l3, hl3⟩ : ∃ l3, (L.take ln.toNat).length = l3 := ⟨_, rfl⟩
        rw [hl3]
        obtain ⟨s1, s2⟩ := HP3.out.setLen (l3 : Int)
        have hPC : PC w (w3.setCell ⟨pp, 4, none⟩ (.int .i64 (l3 : Int))) pp p q rb rc ro (L.take ln.toNat) :=
          ⟨rb', rc', ro, ⟨v, n, m, _, s1⟩, ((Chg.of_below HBL.out).trans HC3.out (fun _ _ h => h)).trans s2 (fun i hi h => FP_moved HM3.out HN3.out (.inl rfl) i (Nat.lt_of_lt_of_le hi HBL.out.size) h), Moved.trans (a := w) (b := w0) (.inl rfl) HM3.out HBL.out.size, Moved.trans (a := w) (b := w0) (.inl rfl) HN3.out HBL.out.size, .inl rfl⟩
        have HPC := hidden hPC
        clear hPC s1 s2 HP3 HC3 hl3
        go_wp2_with fail
        refine step_r16 pp p q _ _ _ _ (by rfl) (by rfl) (fun w1 hl => lat_cell HPC.out.cells.1 hl) (fun w1 hl => lat_cell HPC.out.cells.2 hl) HPC.out.len.1 HPC.out.len.2 ?_
        intro v78 v79 v80 v81 v82 v83 v84 v85 v86 v87 v88 wf hLf
        have HF := hidden (HPC.out.later hLf)
        clear hLf HPC
        simp only [Act.put, List.setIfInBounds_toArray, List.set_cons_succ, List.set_cons_zero]
        go_wp2_with fail
        go_ret
        exact ⟨rfl, _, by rw [List.length_take]; omega, HF.out⟩
      · by_cases d3 : kd = 3
        · subst d3
          have hPS := HP.out.chg (Chg.of_below (F := fun _ => False) HBL.out) (fun _ _ h => h)
          have HPS := hidden hPS
          clear hPS
          go_wp2_with fail
          refine (pbytes_any pp p q rb rc ro L w0 HPS.out hL).mono ?_
          rintro e w2 ⟨rfl, hPC⟩
          have hPC2 : PC w w2 pp p q rb rc ro L := PC.trans (Chg.of_below HBL.out) (.inl rfl) (.inl rfl) (.inl rfl) hPC
          have HPC := hidden hPC2
          clear hPC hPC2 k0
          go_wp2_with fail
          refine step_r16 pp p q _ _ _ _ (by rfl) (by rfl) (fun w1 hl => lat_cell HPC.out.cells.1 hl) (fun w1 hl => lat_cell HPC.out.cells.2 hl) HPC.out.len.1 HPC.out.len.2 ?_
          intro v78 v79 v80 v81 v82 v83 v84 v85 v86 v87 v88 wf hLf
          have HF := hidden (HPC.out.later hLf)
          clear hLf HPC
          simp only [Act.put, List.setIfInBounds_toArray, List.set_cons_succ, List.set_cons_zero]
          go_wp2_with fail
          go_ret
          exact ⟨rfl, _, by omega, HF.out⟩
        · have hPC : PC w w0 pp p q rb rc ro L := ⟨rb, rc, ro, HP.out.chg (Chg.of_below (F := fun _ => False) HBL.out) (fun _ _ h => h), Chg.of_below HBL.out, .inl rfl, .inl rfl, .inl rfl⟩
          have HPC := hidden hPC
          clear hPC
          have b0 : (kd == 0) = false := by simpa using d0
          have b1 : (kd == 1) = false := by simpa using d1
          have b2 : (kd == 2) = false := by simpa using d2
          have b3 : (kd == 3) = false := by simpa using d3
          go_wp2_with fail
          refine step_r16 pp p q _ _ _ _ (by rfl) (by rfl) (fun w1 hl => lat_cell HPC.out.cells.1 hl) (fun w1 hl => lat_cell HPC.out.cells.2 hl) HPC.out.len.1 HPC.out.len.2 ?_
          intro v78 v79 v80 v81 v82 v83 v84 v85 v86 v87 v88 wf hLf
          have HF := hidden (HPC.out.later hLf)
          clear hLf HPC
          simp only [Act.put, List.setIfInBounds_toArray, List.set_cons_succ, List.set_cons_zero]
          go_wp2_with fail
          go_ret
          exact ⟨rfl, _, by omega, HF.out⟩

end Go.Proofs.Ythfapajpmcmfeaa
