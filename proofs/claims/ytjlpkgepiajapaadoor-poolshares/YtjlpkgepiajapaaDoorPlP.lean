/-
  PoolShares: the walk.
-/
import Derived.Test.YtjlpkgepiajapaaDoorPlS
import Derived.BigQuiet
import Derived.Deep.CutBlock
namespace Go.Proofs.YtjlpkgepiajapaaDoor
open Go.RowKit
set_option linter.unusedVariables false
set_option linter.unusedSimpArgs false

theorem inf3 : ∃ i0, Tryd.prog.info? 3 = some i0 ∧ i0.zero = some (.int .i64 0) ∧ i0.size = 1 ∧ i0.bytes = 8 := by
  have h : (Tryd.prog.info? 3).map (fun i => (i.zero, i.size, i.bytes)) = some (some (.int .i64 0), 1, 8) := by kernel_rfl
  cases e : Tryd.prog.info? 3 with
  | none => rw [e] at h; cases h
  | some i =>
    rw [e] at h
    simp at h
    exact ⟨i, rfl, h.1, h.2.1, h.2.2⟩

set_option maxRecDepth 100000 in
set_option maxHeartbeats 16000000 in
theorem shares_any (x : Int) (hx : -9223372036854775808 ≤ x ∧ x ≤ 9223372036854775807) (ad : Option Addr) (len cap : Nat) (l : List Int) (w : World) (hl : l.length = len) (hs : Mi w ad l) (hlen : len ≤ 9223372036854775807) (hG : Gv w) (hw : 0 < w.heap.size) :
    Calls Tryd.prog 4 #[.int .i64 x, .slice ad len cap] w fun e w' => e = .returned (.bool true) ∧ Below w.heap.size w w' := by
  have HG := hidden hG
  have HL := hidden hl
  have HT := hidden hs
  have HW := hidden hw
  clear hG hl hs hw
  go_enter Tryd.func4, Tryd.ntmps4
  go_wp2_with fail
  refine (shownP w HG.out HW.out).mono ?_
  rintro e w1 ⟨rfl, b1⟩
  have B1 := hidden b1
  clear b1
  go_wp2_with fail
  refine (pickP x 40 (by omega) (by omega) hx w1).mono ?_
  rintro e w1' ⟨⟨r, hr, rfl⟩, rfl⟩
  clear hx
  go_wp2_with fail
  obtain ⟨n, hn⟩ : ∃ n : Nat, 1 + (r : Int) = (n : Int) := ⟨r + 1, by omega⟩
  have hn1 : 1 ≤ n ∧ n ≤ 40 := by omega
  rw [hn]
  clear hn hr
  refine (newB n (by omega) (by omega) w1' (Nat.lt_of_lt_of_le HW.out B1.out.size)).mono ?_
  rintro e w2 ⟨p, rfl, h2, b2⟩
  have B2 := hidden (B1.out.trans (b2.mono B1.out.size))
  have H2 := hidden (SI.new (h2.base B1.out.size HW.out) (HG.out.later B2.out) B2.out)
  clear h2 b2
  have hmA : ∀ w : World, (Instr.makeSlice 31 (.int .i64 3) (.int .i64 3)).run Tryd.prog w = .ok (.slice (some ⟨w.heap.size, 0, none⟩) 3 3) (w.alloc (.cells (madeCells #[.slice none 0 0] 3) 22)) := fun w => run_make_row' (P := Tryd.prog) 31 22 (.slice none 0 0) 24 Tryd.underlying31 info22 rfl .i64 .i64 3 (by omega) (by omega) w
  have hmB := run_make_row' (P := Tryd.prog) 40 5 (.int .u8 0) 1 Tryd.underlying40 info5 rfl .i64 .i64 n (by omega) (by omega)
  have hmC := run_make_row' (P := Tryd.prog) 53 4 (.bool false) 1 Tryd.underlying53 info4 rfl .i64 .i64 n (by omega) (by omega)
  go_wp2_with fail
  generalize hW3 : (((w2.alloc (Obj.cells #[Value.string { data := #[] }, Value.string { data := #[97] }, Value.string { data := #[98] }] 9)).alloc (.cells (madeCells #[.slice none 0 0] 3) 22)).alloc (.cells (madeCells #[.int .u8 0] n) 5)) = w3 at H2 ⊢
  clear hW3 hmA hmB
  generalize w2.heap.size + 2 = wb at *
  generalize w2.heap.size + 1 = hb at *
  generalize w2.heap.size = ob at *
  go_loopw [12] (fun v12 wx => ∃ (i : Nat) (st : Sx) (V : Nat → Value) (H : Nat → List Int) (W : Nat → Int), v12 = .int .i64 (i : Int) ∧ i ≤ len ∧ Hid (SI w wx p hb ob wb n st V H W) ∧ Hid (WB W)) (fun v12 _ => len - (intOf v12).toNat)
  case atStart => exact ⟨0, _, _, _, fun _ => 0, rfl, by omega, H2, hidden (show WB (fun _ => 0) from fun _ => ⟨by simp, by simp⟩)⟩
  case round =>
    obtain ⟨i, st, V, H, W, rfl, hi, hI, hWB⟩ := hrel
    clear H2
    by_cases hlt : i < len ∧ i < 300
    · obtain ⟨hlt, h300⟩ := hlt
      obtain ⟨y, hz⟩ : ∃ z, l[i]? = some z := ⟨l[i]'(by have := HL.out; omega), by simp⟩
      obtain ⟨bb, off, rfl, hbb, hcell⟩ := HT.out.at' (by rintro rfl; simp at hz)
      have hc := hcell i _ hz
      have hy := HT.out.ok _ (List.mem_of_getElem? hz)
      rw [← hI.out.bel.cell (p := ⟨bb, _, none⟩) hbb] at hc
      clear hcell hz hbb
      go_wp2_with fail
      refine (pickP y 1048576 (by omega) (by omega) hy _).mono ?_
      rintro e w4 ⟨⟨m, hm, rfl⟩, rfl⟩
      obtain ⟨o, ho⟩ : ∃ o : Nat, (m : Int).tmod 3 = (o : Int) := ⟨m % 3, (Int.ofNat_tmod m 3).symm⟩
      obtain ⟨q, hq⟩ : ∃ q : Nat, (m : Int) / 3 % 4 = (q : Int) := ⟨m / 3 % 4, by omega⟩
      have ho3 : o < 3 := by have := Int.tmod_lt_of_pos (m : Int) (show (0 : Int) < 3 by omega); omega
      have hq4 : q < 4 := by omega
      go_upto_block 2 with fail
      try rw [hq]
      have HLT := hidden hlt
      have HC := hidden hmC
      clear hc hy hlt hi hmC
      go_cut [] from 71 to 248 (fun wx => ∃ (st : Sx) (V : Nat → Value) (H : Nat → List Int) (W : Nat → Int), Hid (SI w wx p hb ob wb n st V H W) ∧ Hid (WB W))
      case first =>
        rcases (show q = 0 ∨ q = 1 ∨ q = 2 ∨ q = 3 by omega) with hqq | hqq | hqq | hqq
        · as_aux_lemma =>
            have bq0 : ((q : Int) == 0) = true := by rw [hqq]; rfl
            have dq0 : decide ((q : Int) = 0) = true := by rw [hqq]; rfl
            have bq1 : ((q : Int) == 1) = false := by rw [hqq]; rfl
            have dq1 : decide ((q : Int) = 1) = false := by rw [hqq]; rfl
            have bq2 : ((q : Int) == 2) = false := by rw [hqq]; rfl
            have dq2 : decide ((q : Int) = 2) = false := by rw [hqq]; rfl
            have bq3 : ((q : Int) == 3) = false := by rw [hqq]; rfl
            have dq3 : decide ((q : Int) = 3) = false := by rw [hqq]; rfl
            clear hqq hq hq4
            obtain ⟨a0, a1, a2, c0, c1, c2, hcc⟩ := hI.out.cells3
            have hsum := hI.out.iv.sum
            have hnm := hI.out.hv.name ho3
            obtain ⟨L0, hL0⟩ : ∃ L, (H 0).length = L := ⟨_, rfl⟩
            obtain ⟨L1, hL1⟩ : ∃ L, (H 1).length = L := ⟨_, rfl⟩
            obtain ⟨L2, hL2⟩ : ∃ L, (H 2).length = L := ⟨_, rfl⟩
            simp only [hL0, hL1, hL2] at hcc hsum
            have HCC := hidden hcc
            clear hcc hL0 hL1 hL2
            clear hm ho
            cases hf : fst1 st n with
            | none =>
              have hS3 : (L0 : Int) + (L1 : Int) + (L2 : Int) = (n : Int) := by have := full_len hf; omega
              have hS1 : L0 + L1 + L2 ≤ 40 := by omega
              have HS1 := hidden hS1
              have HS3 := hidden hS3
              clear hsum hS1 hS3
              go_wp2_with fail
              refine (take_is (Own o) _ p n st st (.tuple #[.int .i64 0, .int .i64 110]) w4 hI.out.pb hI.out.gv (by unfold takeV; rw [hf]) (by unfold takeS; rw [hf])).mono ?_
              rintro e w5 ⟨rfl, hp, k⟩
              have J5 := hidden (hI.out.sj.call hp k)
              obtain ⟨d0, d1, d2⟩ := HCC.out w5 J5.out.hv
              clear hp k hnm HCC
              have hS1 := HS1.out
              have hS3 := HS3.out
              go_wp2_with fail
              go_quiet (fail)
              clear d0 d1 d2
              go_wp2_with fail
              refine ⟨⟨i + 1, st, V, H, W, by simp, HLT.out, hidden ((J5.out.later (below_drewN (Below.refl _ _) _)).si hI.out.iv), hWB⟩, ?_⟩
              have := HLT.out
              show len - ((i : Int) + 1).toNat < len - (i : Int).toNat
              omega
            | some j =>
              obtain ⟨hj, hsj⟩ := fst_spec hf
              have hS1 : L0 + L1 + L2 ≤ 40 := by have := room_len hf; omega
              have hS3 : ¬ (L0 : Int) + (L1 : Int) + (L2 : Int) = (n : Int) := by have := room_len hf; omega
              have hS4 : decide ((L0 : Int) + (L1 : Int) + (L2 : Int) = (n : Int)) = false := by simp only [decide_eq_false_iff_not]; exact hS3
              have hS5 : ((L0 : Int) + (L1 : Int) + (L2 : Int) == (n : Int)) = false := by simp only [beq_eq_false_iff_ne, ne_eq]; exact hS3
              have HS1 := hidden hS1
              have HS3 := hidden (And.intro hS3 (And.intro hS4 hS5))
              clear hsum hS1 hS3 hS4 hS5
              have HJ := hidden hj
              clear hj
              go_wp2_with fail
              refine (take_is (Own o) _ p n st (upS st j (some (Own o, emp))) (.tuple #[.int .i64 (j : Int), .int .i64 0]) w4 hI.out.pb hI.out.gv (by unfold takeV; rw [hf]) (by unfold takeS; rw [hf])).mono ?_
              rintro e w5 ⟨rfl, hp, k⟩
              have J5 := hidden (hI.out.sj.call hp k)
              obtain ⟨d0, d1, d2⟩ := HCC.out w5 J5.out.hv
              clear hp k hnm HCC
              have J6 : Hid (∀ m, SJ w (w5.drewN m) p hb ob wb n (upS st j (some (Own o, emp))) V H W) := hidden (fun m => J5.out.later (below_drewN (Below.refl _ _) m))
              clear J5
              have hS1 := HS1.out
              obtain ⟨hS3, hS4, hS5⟩ := HS3.out
              go_wp2_with fail
              go_quiet (fail)
              clear d0 d1 d2
              have hj := HJ.out
              go_wp2_with fail
              refine (get_is (j : Int) j (Own o) emp 0 _ p n _ _ (J6.out _).pb (atS_at hj (upS_at _ _ _)) rfl).mono ?_
              rintro e w7 ⟨ga, ca, rfl, -, b7⟩
              have J7 := hidden ((J6.out _).later b7)
              clear b7 J6 hS3 hS4 hS5
              have hc7 := J7.out.hv.wrote hj
              have hf7 := J7.out.hv.wr.frozen j
              obtain ⟨b, hb8, hb0, hb1⟩ : ∃ b : Int, IntKind.u8.wrap (i : Int) = b ∧ 0 ≤ b ∧ b ≤ 255 := ⟨_, rfl, by unfold IntKind.wrap; simp [IntKind.bits, IntKind.signed]; omega, by unfold IntKind.wrap; simp [IntKind.bits, IntKind.signed]; omega⟩
              have J8 := hidden (J7.out.write j b)
              clear J7
              go_wp2_with fail
              clear hc7 hf7
              have b9 := (Below.refl (w7.setCell ⟨wb, j, none⟩ (.int .u8 b)).heap.size (w7.setCell ⟨wb, j, none⟩ (.int .u8 b))).alloc (Nat.le_refl _) (.cells #[.int .u8 b, .int .u8 7] 5)
              refine (put_is j (Own o) emp _ 2 2 [b, 7] _ p n _ _ (J8.out.later b9).pb hj (upS_at _ _ _) (sl_lit _ [b, 7] (by intro x hx; simp at hx; omega) 5 _ 2 rfl _ rfl _ (by simp)) (by omega)).mono ?_
              rw [upS_twice]
              rintro e wa ⟨rfl, hp, k⟩
              have JA := hidden ((J8.out.later b9).call hp k)
              clear hp k b9 J8
              obtain ⟨av, cv, ev, -⟩ := hI.out.slice ho3
              obtain ⟨Lo, hLo⟩ : ∃ L, (H o).length = L := ⟨_, rfl⟩
              have hcv := JA.out.hv.cell ho3
              have hrow := JA.out.hv.row o ho3
              have hLn : Lo ≤ 40 := by have := hI.out.lens; rcases three ho3 with rfl | rfl | rfl <;> omega
              rw [ev, hLo] at hcv hrow
              have HR := hidden hrow
              clear hrow
              obtain ⟨i0, hi0, hz0, hz1, hz2⟩ := inf3
              have HI0 := hidden hi0
              clear hi0
              have HQ : Hid (∀ (g9 c9 : Nat) (w9 : World), w9.ownsRow w.heap.size 3 1 (.slice (some ⟨g9, 0, none⟩) (Lo + 1) c9) (Lo + 1) ((H o).map encZ ++ [.int .i64 (j : Int)]) → Pushed (wa.alloc (.cells #[.int .i64 (j : Int)] 3)) w9 (.slice av Lo cv) g9 →
                  w9.cell? ⟨hb, o, none⟩ = some (.slice av Lo cv) ∧ w9.frozen? ⟨hb, o, none⟩ = false ∧
                  ∃ V' H' W', SI w (w9.setCell ⟨hb, o, none⟩ (.slice (some ⟨g9, 0, none⟩) (Lo + 1) c9)) p hb ob wb n (upS st j (some (Own o, strOfNums [b, 7]))) V' H' W' ∧ WB W') := hidden (by
                intro g9 c9 w9 h1 h2
                subst hLo
                have hk := h2.chg.1
                have hB := hk.blk JA.out.hv.blk (fun e => (owns_tg HR.out hb e).ne JA.out.hv.blk.tg (by decide) rfl)
                refine ⟨?_, hB.frozen o, _, _, _, ((JA.out.push ho3 (x := (j : Int)) (by rw [ev]; exact h2) h1).si (hI.out.iv.take ho3 hf b)), hWB.out.up j b hb0 hb1⟩
                rw [hB.cell]
                rw [← ev]
                rcases three ho3 with rfl | rfl | rfl <;> rfl)
              have HSZ := hidden JA.out.bel.size
              clear JA
              go_wp2_with (refine wpList_push _ rfl (.tmp 153) (.tmp 155) 22 rfl 3 i0 (.int .i64 0) 8 Tryd.underlying22 HI0.out hz0 hz1 hz2 rfl w.heap.size (.slice av Lo cv) Lo ((H o).map encZ) rfl (HR.out.alloc _) ⟨wa.heap.size, 0, none⟩ (.int .i64 (j : Int)) rfl (by simp) rfl (by unfold maxLen; omega) (by omega) (by have := HSZ.out; simp; omega) ?_; intro g9 c9 w9 h1 h2; obtain ⟨d5, d6, d7⟩ := HQ.out g9 c9 w9 h1 h2; have D7 := hidden d7; clear h1 h2 d7)
              obtain ⟨V', H', W', d8, d9⟩ := D7.out
              go_meet
              exact ⟨_, V', H', W', hidden d8, hidden d9⟩
        · as_aux_lemma =>
            have bq0 : ((q : Int) == 0) = false := by rw [hqq]; rfl
            have dq0 : decide ((q : Int) = 0) = false := by rw [hqq]; rfl
            have bq1 : ((q : Int) == 1) = true := by rw [hqq]; rfl
            have dq1 : decide ((q : Int) = 1) = true := by rw [hqq]; rfl
            have bq2 : ((q : Int) == 2) = false := by rw [hqq]; rfl
            have dq2 : decide ((q : Int) = 2) = false := by rw [hqq]; rfl
            have bq3 : ((q : Int) == 3) = false := by rw [hqq]; rfl
            have dq3 : decide ((q : Int) = 3) = false := by rw [hqq]; rfl
            clear hqq hq hq4
            obtain ⟨a0, a1, a2, c0, c1, c2, hcc⟩ := hI.out.cells3
            have hsum := hI.out.iv.sum
            have hnm := hI.out.hv.name ho3
            obtain ⟨L0, hL0⟩ : ∃ L, (H 0).length = L := ⟨_, rfl⟩
            obtain ⟨L1, hL1⟩ : ∃ L, (H 1).length = L := ⟨_, rfl⟩
            obtain ⟨L2, hL2⟩ : ∃ L, (H 2).length = L := ⟨_, rfl⟩
            simp only [hL0, hL1, hL2] at hcc hsum
            have HCC := hidden hcc
            clear hcc hL0 hL1 hL2
            clear hm ho
            cases hf : fst1 st n with
            | none =>
              have hS3 : (L0 : Int) + (L1 : Int) + (L2 : Int) = (n : Int) := by have := full_len hf; omega
              have hS1 : L0 + L1 + L2 ≤ 40 := by omega
              have HS1 := hidden hS1
              have HS3 := hidden hS3
              clear hsum hS1 hS3
              go_wp2_with fail
              refine (take_is (Own o) _ p n st st (.tuple #[.int .i64 0, .int .i64 110]) w4 hI.out.pb hI.out.gv (by unfold takeV; rw [hf]) (by unfold takeS; rw [hf])).mono ?_
              rintro e w5 ⟨rfl, hp, k⟩
              have J5 := hidden (hI.out.sj.call hp k)
              obtain ⟨d0, d1, d2⟩ := HCC.out w5 J5.out.hv
              clear hp k hnm HCC
              have hS1 := HS1.out
              have hS3 := HS3.out
              go_wp2_with fail
              go_quiet (fail)
              clear d0 d1 d2
              go_wp2_with fail
              refine ⟨⟨i + 1, st, V, H, W, by simp, HLT.out, hidden ((J5.out.later (below_drewN (Below.refl _ _) _)).si hI.out.iv), hWB⟩, ?_⟩
              have := HLT.out
              show len - ((i : Int) + 1).toNat < len - (i : Int).toNat
              omega
            | some j =>
              obtain ⟨hj, hsj⟩ := fst_spec hf
              have hS1 : L0 + L1 + L2 ≤ 40 := by have := room_len hf; omega
              have hS3 : ¬ (L0 : Int) + (L1 : Int) + (L2 : Int) = (n : Int) := by have := room_len hf; omega
              have hS4 : decide ((L0 : Int) + (L1 : Int) + (L2 : Int) = (n : Int)) = false := by simp only [decide_eq_false_iff_not]; exact hS3
              have hS5 : ((L0 : Int) + (L1 : Int) + (L2 : Int) == (n : Int)) = false := by simp only [beq_eq_false_iff_ne, ne_eq]; exact hS3
              have HS1 := hidden hS1
              have HS3 := hidden (And.intro hS3 (And.intro hS4 hS5))
              clear hsum hS1 hS3 hS4 hS5
              have HJ := hidden hj
              clear hj
              go_wp2_with fail
              refine (take_is (Own o) _ p n st (upS st j (some (Own o, emp))) (.tuple #[.int .i64 (j : Int), .int .i64 0]) w4 hI.out.pb hI.out.gv (by unfold takeV; rw [hf]) (by unfold takeS; rw [hf])).mono ?_
              rintro e w5 ⟨rfl, hp, k⟩
              have J5 := hidden (hI.out.sj.call hp k)
              obtain ⟨d0, d1, d2⟩ := HCC.out w5 J5.out.hv
              clear hp k hnm HCC
              have J6 : Hid (∀ m, SJ w (w5.drewN m) p hb ob wb n (upS st j (some (Own o, emp))) V H W) := hidden (fun m => J5.out.later (below_drewN (Below.refl _ _) m))
              clear J5
              have hS1 := HS1.out
              obtain ⟨hS3, hS4, hS5⟩ := HS3.out
              go_wp2_with fail
              go_quiet (fail)
              clear d0 d1 d2
              have hj := HJ.out
              go_wp2_with fail
              refine (get_is (j : Int) j (Own o) emp 0 _ p n _ _ (J6.out _).pb (atS_at hj (upS_at _ _ _)) rfl).mono ?_
              rintro e w7 ⟨ga, ca, rfl, -, b7⟩
              have J7 := hidden ((J6.out _).later b7)
              clear b7 J6 hS3 hS4 hS5
              have hc7 := J7.out.hv.wrote hj
              have hf7 := J7.out.hv.wr.frozen j
              obtain ⟨b, hb8, hb0, hb1⟩ : ∃ b : Int, IntKind.u8.wrap (i : Int) = b ∧ 0 ≤ b ∧ b ≤ 255 := ⟨_, rfl, by unfold IntKind.wrap; simp [IntKind.bits, IntKind.signed]; omega, by unfold IntKind.wrap; simp [IntKind.bits, IntKind.signed]; omega⟩
              have J8 := hidden (J7.out.write j b)
              clear J7
              go_wp2_with fail
              clear hc7 hf7
              have b9 := (Below.refl (w7.setCell ⟨wb, j, none⟩ (.int .u8 b)).heap.size (w7.setCell ⟨wb, j, none⟩ (.int .u8 b))).alloc (Nat.le_refl _) (.cells #[.int .u8 b, .int .u8 7] 5)
              refine (put_is j (Own o) emp _ 2 2 [b, 7] _ p n _ _ (J8.out.later b9).pb hj (upS_at _ _ _) (sl_lit _ [b, 7] (by intro x hx; simp at hx; omega) 5 _ 2 rfl _ rfl _ (by simp)) (by omega)).mono ?_
              rw [upS_twice]
              rintro e wa ⟨rfl, hp, k⟩
              have JA := hidden ((J8.out.later b9).call hp k)
              clear hp k b9 J8
              obtain ⟨av, cv, ev, -⟩ := hI.out.slice ho3
              obtain ⟨Lo, hLo⟩ : ∃ L, (H o).length = L := ⟨_, rfl⟩
              have hcv := JA.out.hv.cell ho3
              have hrow := JA.out.hv.row o ho3
              have hLn : Lo ≤ 40 := by have := hI.out.lens; rcases three ho3 with rfl | rfl | rfl <;> omega
              rw [ev, hLo] at hcv hrow
              have HR := hidden hrow
              clear hrow
              obtain ⟨i0, hi0, hz0, hz1, hz2⟩ := inf3
              have HI0 := hidden hi0
              clear hi0
              have HQ : Hid (∀ (g9 c9 : Nat) (w9 : World), w9.ownsRow w.heap.size 3 1 (.slice (some ⟨g9, 0, none⟩) (Lo + 1) c9) (Lo + 1) ((H o).map encZ ++ [.int .i64 (j : Int)]) → Pushed (wa.alloc (.cells #[.int .i64 (j : Int)] 3)) w9 (.slice av Lo cv) g9 →
                  w9.cell? ⟨hb, o, none⟩ = some (.slice av Lo cv) ∧ w9.frozen? ⟨hb, o, none⟩ = false ∧
                  ∃ V' H' W', SI w (w9.setCell ⟨hb, o, none⟩ (.slice (some ⟨g9, 0, none⟩) (Lo + 1) c9)) p hb ob wb n (upS st j (some (Own o, strOfNums [b, 7]))) V' H' W' ∧ WB W') := hidden (by
                intro g9 c9 w9 h1 h2
                subst hLo
                have hk := h2.chg.1
                have hB := hk.blk JA.out.hv.blk (fun e => (owns_tg HR.out hb e).ne JA.out.hv.blk.tg (by decide) rfl)
                refine ⟨?_, hB.frozen o, _, _, _, ((JA.out.push ho3 (x := (j : Int)) (by rw [ev]; exact h2) h1).si (hI.out.iv.take ho3 hf b)), hWB.out.up j b hb0 hb1⟩
                rw [hB.cell]
                rw [← ev]
                rcases three ho3 with rfl | rfl | rfl <;> rfl)
              have HSZ := hidden JA.out.bel.size
              clear JA
              go_wp2_with (refine wpList_push _ rfl (.tmp 153) (.tmp 155) 22 rfl 3 i0 (.int .i64 0) 8 Tryd.underlying22 HI0.out hz0 hz1 hz2 rfl w.heap.size (.slice av Lo cv) Lo ((H o).map encZ) rfl (HR.out.alloc _) ⟨wa.heap.size, 0, none⟩ (.int .i64 (j : Int)) rfl (by simp) rfl (by unfold maxLen; omega) (by omega) (by have := HSZ.out; simp; omega) ?_; intro g9 c9 w9 h1 h2; obtain ⟨d5, d6, d7⟩ := HQ.out g9 c9 w9 h1 h2; have D7 := hidden d7; clear h1 h2 d7)
              obtain ⟨V', H', W', d8, d9⟩ := D7.out
              go_meet
              exact ⟨_, V', H', W', hidden d8, hidden d9⟩
        · as_aux_lemma =>
            have bq0 : ((q : Int) == 0) = false := by rw [hqq]; rfl
            have dq0 : decide ((q : Int) = 0) = false := by rw [hqq]; rfl
            have bq1 : ((q : Int) == 1) = false := by rw [hqq]; rfl
            have dq1 : decide ((q : Int) = 1) = false := by rw [hqq]; rfl
            have bq2 : ((q : Int) == 2) = true := by rw [hqq]; rfl
            have dq2 : decide ((q : Int) = 2) = true := by rw [hqq]; rfl
            have bq3 : ((q : Int) == 3) = false := by rw [hqq]; rfl
            have dq3 : decide ((q : Int) = 3) = false := by rw [hqq]; rfl
            clear hqq hq hq4
            obtain ⟨ad, c, eV, hcells⟩ := hI.out.slice ho3
            have hLn : (H o).length ≤ 40 := by have := hI.out.lens; rcases three ho3 with rfl | rfl | rfl <;> omega
            obtain ⟨L, hL⟩ : ∃ L, (H o).length = L := ⟨_, rfl⟩
            rw [hL] at hcells hLn eV
            have hc := hI.out.hv.cell ho3
            rw [eV] at hc
            by_cases h0 : 0 < L
            · obtain ⟨g, rfl, hat⟩ := hcells (by omega)
              have hdz : (m : Int) / 12 = ((m / 12 : Nat) : Int) := by omega
              obtain ⟨k, hk⟩ : ∃ k : Nat, ((m : Int) / 12).tmod (L : Int) = (k : Int) := ⟨m / 12 % L, by rw [hdz]; exact (Int.ofNat_tmod (m / 12) L).symm⟩
              have hkL : k < L := by
                have h1 := Int.tmod_lt_of_pos ((m : Int) / 12) (show (0 : Int) < (L : Int) by omega)
                omega
              have hk2 : (m : Int) / 12 % (L : Int) = (k : Int) := by rw [← hk]; exact (Int.tmod_eq_emod_of_nonneg (by omega)).symm
              clear hdz
              obtain ⟨M, hM⟩ : ∃ M, L = M + 1 := ⟨L - 1, by omega⟩
              have hx : (H o)[k]? = some ((H o)[k]'(by omega)) := by simp
              have hy : (H o)[M]? = some ((H o)[M]'(by omega)) := by simp
              generalize (H o)[k]'(by omega) = x at hx
              generalize (H o)[M]'(by omega) = y at hy
              obtain ⟨j, rfl, hj, hst⟩ := hI.out.iv.at ho3 (List.mem_of_getElem? hx)
              have cx := hat k _ hx
              have hL0 : ¬ (L : Int) = 0 := by omega
              have hL1 : ¬ (L : Int) = -1 := by omega
              have hM1 : (L : Int) - 1 = (M : Int) := by omega
              have HM := hidden hM
              have HM1 := hidden hM1
              have HH := hidden (And.intro hx (And.intro hy hL))
              have HJ := hidden (And.intro hj hst)
              have HEV := hidden eV
              have HLN := hidden hLn
              clear hM hM1 hat hcells hx hy hL hj hst eV ho
              go_upto_region 33 with fail
              try first | rw [hk] | rw [hk2]
              clear hk hk2 hm
              go_wp2_with fail
              refine (give_is j (Own o) _ _ p n st w4 hI.out.pb HJ.out.1 HJ.out.2).mono ?_
              rintro e w5 ⟨rfl, hp, k5⟩
              have J5 := hidden (hI.out.sj.call hp k5)
              have hc5 := J5.out.hv.cell ho3
              rw [HEV.out] at hc5
              have cx5 := owns_at (J5.out.hv.row o ho3) HEV.out HH.out.1
              clear hp k5 hc cx
              go_wp2_with fail
              refine (give_no j _ p n _ w5 J5.out.pb (upS_at _ _ _)).mono ?_
              rintro e w6 ⟨rfl, hp, k6⟩
              have J6 := hidden (J5.out.call hp k6)
              have hc6 := J6.out.hv.cell ho3
              rw [HEV.out] at hc6
              have hLc : M ≤ c := by
                have h9 := J6.out.hv.row o ho3
                rw [HEV.out] at h9
                have := owns_cap h9
                have := HM.out
                omega
              have hM1 := HM1.out
              have hLM := HM.out
              have hlen9 := HH.out.2.2
              have hwM : IntKind.i64.wrap (M : Int) = (M : Int) := i64_id _ (by have := HLN.out; omega) (by have := HLN.out; omega)
              have HY := hidden (And.intro hM1 (And.intro hLM (And.intro hwM (And.intro hLc hlen9))))
              clear hM1 hLM hwM hLc hlen9
              clear hp k6 hc5 cx5 J5
              have HKL := hidden hkL
              clear hkL
              go_wp2_with (first
                | (refine sh_r35 hb o g L c M k y _ _ _ rfl rfl rfl rfl (by omega) (by omega) HLN.out HY.out.1 HY.out.2.2.1 (fun w1 h1 => by rw [(J6.out.later h1).hv.cell ho3, HEV.out]) (by have := HY.out.2.1; omega) (by omega) (by have := HKL.out; omega) (by omega) (fun w1 h1 => owns_at ((J6.out.later h1).hv.row o ho3) HEV.out HH.out.2.1) (.int .i64 (j : Int)) (fun w1 h1 => owns_at ((J6.out.later h1).hv.row o ho3) HEV.out HH.out.1) (fun w1 h1 => owns_fz ((J6.out.later h1).hv.row o ho3) HEV.out k) ?_; intro v196 v197 v198 v199 v200 v201 v202 v203 v204 v205 v206 v207 v208 v209 v210 v211 v212 v213 w7 h7; have J7 := hidden ((J6.out.later h7).set1 ho3 HEV.out k y); clear h7; simp only [Act.put, List.setIfInBounds_toArray, List.set_cons_succ, List.set_cons_zero]; generalize w7.setCell ⟨g, k, none⟩ (.int .i64 y) = w8 at *)
                | (refine sh_r36 hb o g L c M _ _ _ rfl rfl rfl (by omega) (by omega) HLN.out HY.out.1 HY.out.2.2.1 (fun w1 h1 => by rw [(J7.out.later h1).hv.cell ho3, HEV.out]) (by omega) (by have := HY.out.2.2.2.1; omega) HY.out.2.2.2.1 (.slice (some ⟨g, 0, none⟩) L c) (fun w1 h1 => by rw [(J7.out.later h1).hv.cell ho3, HEV.out]) (fun w1 h1 => (J7.out.later h1).hv.blk.frozen o) ?_; intro v214 v215 v216 v217 v218 v219 v220 v221 v222 v223 v224 v225 v226 v227 w9 h9; have J9 := hidden ((J7.out.later h9).cut2 (M := M) ho3 HEV.out (by rw [upH_at, List.length_set]; have := HY.out; omega)); clear h9; simp only [Act.put, List.setIfInBounds_toArray, List.set_cons_succ, List.set_cons_zero]))
              go_meet
              rw [upH_twice, upH_at] at J9
              have hiv := hI.out.iv.give (y := y) ho3 HH.out.1 (by have h8 := HY.out; rw [show (H o).length - 1 = M by omega]; exact HH.out.2.1)
              rw [show (H o).length - 1 = M by have h8 := HY.out; omega] at hiv
              exact ⟨_, _, _, _, hidden (J9.out.si hiv), hWB⟩
            · have h1 : L = 0 := by omega
              have h2 : ¬ (L : Int) > 0 := by omega
              clear hcells hm ho h0
              go_wp2_with fail
              go_meet
              exact ⟨st, V, H, W, hI, hWB⟩
        · as_aux_lemma =>
            have bq0 : ((q : Int) == 0) = false := by rw [hqq]; rfl
            have dq0 : decide ((q : Int) = 0) = false := by rw [hqq]; rfl
            have bq1 : ((q : Int) == 1) = false := by rw [hqq]; rfl
            have dq1 : decide ((q : Int) = 1) = false := by rw [hqq]; rfl
            have bq2 : ((q : Int) == 2) = false := by rw [hqq]; rfl
            have dq2 : decide ((q : Int) = 2) = false := by rw [hqq]; rfl
            have bq3 : ((q : Int) == 3) = true := by rw [hqq]; rfl
            have dq3 : decide ((q : Int) = 3) = true := by rw [hqq]; rfl
            clear hqq hq hq4
            obtain ⟨ad, c, eV, -⟩ := hI.out.slice ho3
            obtain ⟨L, hL⟩ : ∃ L, (H o).length = L := ⟨_, rfl⟩
            have hset : (setL st n (Own o)).length = L := by rw [← hL, ← hI.out.iv.len ho3]
            rw [hL] at eV
            obtain ⟨z, hz⟩ : ∃ z : Nat, (m : Int) / 12 % 6 = (z : Int) := ⟨m / 12 % 6, by omega⟩
            clear ho hL
            have HEV := hidden eV
            have HST := hidden hset
            clear eV hset
            by_cases hz0 : z = 0
            · have hz1 : decide ((z : Int) = 0) = true := by rw [hz0]; rfl
              have hz2 : ((z : Int) == 0) = true := by rw [hz0]; rfl
              clear hz0
              go_upto_if 233 with fail
              rw [hz]
              clear hz hm
              go_wp2_with (refine sh_r39 p ob hb o L c ad (Own o) (fun wx => SJ w wx p hb ob wb n st V H W) (fun wx => SJ w wx p hb ob wb n (drpS st (Own o)) V H W) _ _ _ rfl rfl rfl rfl rfl (hI.out.sj.later (Lat.draw _)) (by omega) (by omega) (by rintro w1 (h1 | h1) <;> exact ⟨h1.hv.name ho3, by rw [h1.hv.cell ho3, HEV.out]⟩) (fun w1 h1 => (dropB (Own o) _ p n st w1 h1.pb).mono (fun e w' h2 => ⟨by rw [h2.1, HST.out], h1.call h2.2.1 h2.2.2⟩)) ?_; intro v234 v235 v236 v237 v238 v239 v240 v241 v242 v243 v244 v245 w5 h5 hv5; subst hv5; have H5 := hidden h5; have hc5 := h5.hv.cell ho3; have hf5 := h5.hv.blk.frozen o; clear h5; rw [HEV.out] at hc5; simp only [Act.put, List.setIfInBounds_toArray, List.set_cons_succ, List.set_cons_zero])
              go_meet
              exact ⟨_, _, _, _, hidden ((H5.out.nil ho3).si (hI.out.iv.drop ho3)), hWB⟩
            · have hz1 : decide ((z : Int) = 0) = false := by simp; omega
              have hz2 : ((z : Int) == 0) = false := by simp; omega
              clear hz0
              go_upto_if 233 with fail
              rw [hz]
              clear hz hm
              go_wp2_with fail
              go_meet
              exact ⟨st, V, H, W, hI, hWB⟩
      as_aux_lemma =>
        obtain ⟨st, V, H, W, hI, hWB⟩ := hcut
        have hmC := HC.out
        clear HC ho hm
        have h1 := SN.new hI.out
        have HN := hidden h1.1
        have HI1 := hidden h1.2
        obtain ⟨a0, a1, a2, c0, c1, c2, hcc⟩ := hI.out.cells3
        have hsum := hI.out.iv.sum
        obtain ⟨L0, hL0⟩ : ∃ L, (H 0).length = L := ⟨_, rfl⟩
        obtain ⟨L1, hL1⟩ : ∃ L, (H 1).length = L := ⟨_, rfl⟩
        obtain ⟨L2, hL2⟩ : ∃ L, (H 2).length = L := ⟨_, rfl⟩
        simp only [hL0, hL1, hL2] at hcc hsum
        have HCC := hidden hcc
        have HSUM := hidden hsum
        have HIV := hidden hI.out.iv
        clear hcc hL0 hL1 hL2 hsum h1 hI hq hq4
        go_upto_block 3 with fail
        clear hmC
        generalize (wc.alloc (.cells (madeCells #[.bool false] n) 4)) = wd at *
        generalize wc.heap.size = sb at *
        go_cut [] from 251 to 335 (fun wx => Hid (SI w wx p hb ob wb n st V H W))
        case first =>
          as_aux_lemma =>
          go_wp2_with fail
          go_loopw [23] (fun v23 wx => ∃ (k : Nat) (S : Nat → Bool), v23 = .int .i64 (k : Int) ∧ k ≤ 3 ∧ Hid (SI w wx p hb ob wb n st V H W) ∧ Hid (SN w wx sb n S) ∧ Hid (Sn H S k 0)) (fun v23 _ => 3 - (intOf v23).toNat)
          case atStart => exact ⟨0, _, rfl, by omega, HI1, HN, hidden (Sn.new H)⟩
          case round =>
            obtain ⟨k, S, rfl, hk, hI, hN, hS⟩ := hrel
            clear HI1 HN
            by_cases hk3 : k < 3
            · obtain ⟨ad, c, eV, -⟩ := hI.out.slice hk3
              obtain ⟨L, hL⟩ : ∃ L, (H k).length = L := ⟨_, rfl⟩
              have hset : (setL st n (Own k)).length = L := by rw [← hL, ← HIV.out.len hk3]
              have hLn : L ≤ 40 := by have := hI.out.lens; rcases three hk3 with rfl | rfl | rfl <;> omega
              rw [hL] at eV
              have HEV := hidden eV
              have HST := hidden hset
              have HL9 := hidden hL
              have HK3 := hidden hk3
              have HLN := hidden hLn
              clear eV hset hL hLn
              go_wp2_with (refine sh_r46 p ob hb k L c ad (Own k) _ _ _ rfl rfl rfl rfl rfl (by omega) (by omega) (fun w1 h1 => (hI.out.hv.later h1).name HK3.out) (fun w1 h1 => by rw [(hI.out.hv.later h1).cell HK3.out, HEV.out]) (fun w1 h1 => (usedB (Own k) _ p n st w1 (hI.out.pb.later h1)).mono (fun e w' h2 => ⟨by rw [h2.1, HST.out], h2.2 ▸ Lat.refl _⟩)) (fun w1 h1 => by have := slotsL (Own k) _ p n st w1 (hI.out.pb.later h1); rw [HST.out] at this; exact this) ?_; intro v255 v256 v257 v258 v259 v260 v261 v262 v263 v264 v265 v266 v267 v268 v269 v270 v271 v272 v273 v274 v275 v276 v277 v278 v279 v280 v281 w5 h5 hv5; subst hv5; have H5 := hidden (hI.out.later h5); have N5 := hidden (hN.out.later h5); clear h5; simp only [Act.put, List.setIfInBounds_toArray, List.set_cons_succ, List.set_cons_zero])
              clear hI hN
              rw [show decide ((k : Int) < 3) = true from by simp; omega]
              go_loopw [24] (fun v24 wx => ∃ (j : Nat) (S : Nat → Bool), v24 = .int .i64 (j : Int) ∧ j ≤ L ∧ Hid (SI w wx p hb ob wb n st V H W) ∧ Hid (SN w wx sb n S) ∧ Hid (Sn H S k j)) (fun v24 _ => L - (intOf v24).toNat)
              case atStart => exact ⟨0, _, rfl, by omega, H5, N5, hS⟩
              case round =>
                obtain ⟨j, S1, rfl, hj, hI, hN, hS1⟩ := hrel
                clear H5 N5 hS
                have hc := hI.out.hv.cell HK3.out
                rw [HEV.out] at hc
                by_cases hjL : j < L
                · have hx : (H k)[j]? = some ((H k)[j]'(by have := HL9.out; omega)) := by simp
                  generalize (H k)[j]'(by have := HL9.out; omega) = x0 at hx
                  obtain ⟨z, rfl, hz, hst⟩ := HIV.out.at HK3.out (List.mem_of_getElem? hx)
                  obtain ⟨g, rfl⟩ : ∃ g, ad = some ⟨g, 0, none⟩ := by
                    obtain ⟨ad9, c9, e9, h9⟩ := hI.out.slice HK3.out
                    obtain ⟨g, hg, _⟩ := h9 (by have := HL9.out; omega)
                    rw [HEV.out] at e9
                    simp only [Value.slice.injEq] at e9
                    exact ⟨g, by rw [e9.1, hg]⟩
                  have cx := owns_at (hI.out.hv.row k HK3.out) HEV.out hx
                  have HX := hidden hx
                  have HZ := hidden hst
                  have HZN := hidden hz
                  clear hx hst
                  go_wp2_with fail
                  refine (get_is (z : Int) z (Own k) (strOfNums [W z, 7]) 2 _ p n st _ hI.out.pb (atS_at HZN.out HZ.out) rfl).mono ?_
                  rintro e w7 ⟨ga, ca, rfl, s7, b7⟩
                  obtain ⟨g0, g1⟩ := s7.at2 (hWB.out z) ⟨by omega, by omega⟩
                  have I7 := hidden (hI.out.later b7)
                  have N7 := hidden (hN.out.later b7)
                  have cs := N7.out.cell HZN.out (hS1.out.not HIV.out HK3.out HX.out)
                  have fs := N7.out.blk.frozen z
                  have cw := I7.out.hv.wrote HZN.out
                  clear hI hN s7 b7 hc cx
                  go_wp2_with fail
                  go_quiet (fail)
                  clear g0 g1 cw
                  have hL40 := HLN.out
                  go_wp2_with fail
                  have hM8 := (N7.out.later (below_drewN (Below.refl _ _) nq)).mark (I7.out.later (below_drewN (Below.refl _ _) nq)) z
                  refine ⟨⟨j + 1, upB S1 z, by first | rfl | simp, by omega, hidden hM8.2, hidden hM8.1, hidden (hS1.out.mark HX.out)⟩, ?_⟩
                  show L - ((j : Int) + 1).toNat < L - (j : Int).toNat
                  omega
                · have HJL := hidden hjL
                  go_wp2_with fail
                  have e9 : j = (H k).length := by have := HL9.out; have := HJL.out; omega
                  have hSn : Sn H S1 (k + 1) 0 := Sn.next (by rw [← e9]; exact hS1.out)
                  refine ⟨⟨k + 1, S1, by first | rfl | simp, by have := HK3.out; omega, hI, hN, hidden hSn⟩, ?_⟩
                  show 3 - ((k : Int) + 1).toNat < 3 - (k : Int).toNat
                  have := HK3.out
                  omega
            · have hk9 : k = 3 := by omega
              go_wp2_with fail
              go_meet
              exact hI
        case rest =>
          as_aux_lemma =>
          clear HI1 HN
          obtain ⟨d0, d1, d2⟩ := HCC.out wc hcut.out.hv
          have hs0 := HSUM.out
          have hs1 := tkL_len st n
          obtain ⟨R, hR⟩ : ∃ R, n - (tkL st n).length = R := ⟨_, rfl⟩
          have hleft : Hid (∀ m, Calls Tryd.prog 18 #[.pointer (some ⟨p, 0, none⟩)] (wc.drewN m) fun e w' => e = .returned (.int .i64 (R : Int)) ∧ ∃ m', w' = (wc.drewN m).drewN m') := hidden (fun m => by
            have := leftQ _ p n st (wc.drewN m) (hcut.out.pb.later (below_drewN (Below.refl _ _) m))
            rw [hR] at this
            exact this)
          have hR2 : (n : Int) - (L0 : Int) - (L1 : Int) - (L2 : Int) = (R : Int) := by omega
          have hR3 : L0 + L1 + L2 ≤ 40 := by omega
          clear hs0 hs1 hR
          go_wp2_with fail
          go_quiet (exact Calls.quiet_of (hleft.out _))
          clear d0 d1 d2
          go_wp2_with fail
          refine ⟨⟨i + 1, st, V, H, W, by first | rfl | simp, HLT.out, hidden (hcut.out.later (below_drewN (Below.refl _ _) _)), hWB⟩, ?_⟩
          have := HLT.out
          show len - ((i : Int) + 1).toNat < len - (i : Int).toNat
          omega
    · go_wp2_with fail
      all_goals
        go_ret
        exact ⟨rfl, hI.out.bel⟩

end Go.Proofs.YtjlpkgepiajapaaDoor
