import Derived.Test.YtalmpmhnkilalaaGreatDoorTcA
import Derived.Deep.CutRange
/-
  TopCodecs: are two requests, two responses one? beyond. By gentcb20.py.
-/
namespace Go.Proofs.YtalmpmhnkilalaaGreatDoor
open Go Go.RowKit
set_option linter.unusedVariables false
set_option linter.unusedSimpArgs false

set_option maxHeartbeats 8000000 in
set_option maxRecDepth 100000 in
theorem sameReqT (k : Int) (fm1 fm2 : Nat → FM) (w : World) (hk : ∀ i, i < 12 → (fm1 i).fv.kd = kdQ i) (hf : ∀ i, i < 12 → (fm1 i).fv = (fm2 i).fv) (hm1 : ∀ i, i < 12 → (fm1 i).mem w) (hm2 : ∀ i, i < 12 → (fm2 i).mem w) :
    Calls Tryz.prog 52 #[.agg (cQ k fm1).toArray, .agg (cQ k fm2).toArray] w (YesP w) := by
  obtain ⟨t0, e0, f0⟩ := tx_pair (hk 0 (by omega)) (hf 0 (by omega))
  have g0 := hm1 0 (by omega)
  have h0 := hm2 0 (by omega)
  rw [e0] at g0
  rw [f0] at h0
  obtain ⟨a1, n1, c1, b1, p1, d1, l1, e1, f1⟩ := tk_pair (hk 1 (by omega)) (hf 1 (by omega))
  have g1 := hm1 1 (by omega)
  have h1 := hm2 1 (by omega)
  rw [e1] at g1
  rw [f1] at h1
  obtain ⟨a2, c2, l2, b2, d2, y2, e2, f2, q2⟩ := ws_pair (hk 2 (by omega)) (hf 2 (by omega))
  have g2 := hm1 2 (by omega)
  have h2 := hm2 2 (by omega)
  rw [e2] at g2
  rw [f2] at h2
  obtain ⟨a3, c3, b3, d3, l3, e3, f3⟩ := ms_pair (hk 3 (by omega)) (hf 3 (by omega))
  have g3 := hm1 3 (by omega)
  have h3 := hm2 3 (by omega)
  rw [e3] at g3
  rw [f3] at h3
  obtain ⟨m4, e4, f4⟩ := tm_pair (hk 4 (by omega)) (hf 4 (by omega))
  have g4 := hm1 4 (by omega)
  have h4 := hm2 4 (by omega)
  rw [e4] at g4
  rw [f4] at h4
  obtain ⟨m5, e5, f5⟩ := tm_pair (hk 5 (by omega)) (hf 5 (by omega))
  have g5 := hm1 5 (by omega)
  have h5 := hm2 5 (by omega)
  rw [e5] at g5
  rw [f5] at h5
  obtain ⟨t6, e6, f6⟩ := qu_pair (hk 6 (by omega)) (hf 6 (by omega))
  have g6 := hm1 6 (by omega)
  have h6 := hm2 6 (by omega)
  rw [e6] at g6
  rw [f6] at h6
  obtain ⟨t7, e7, f7⟩ := tx_pair (hk 7 (by omega)) (hf 7 (by omega))
  have g7 := hm1 7 (by omega)
  have h7 := hm2 7 (by omega)
  rw [e7] at g7
  rw [f7] at h7
  obtain ⟨m8, e8, f8⟩ := am_pair (hk 8 (by omega)) (hf 8 (by omega))
  have g8 := hm1 8 (by omega)
  have h8 := hm2 8 (by omega)
  rw [e8] at g8
  rw [f8] at h8
  obtain ⟨m9, e9, f9⟩ := am_pair (hk 9 (by omega)) (hf 9 (by omega))
  have g9 := hm1 9 (by omega)
  have h9 := hm2 9 (by omega)
  rw [e9] at g9
  rw [f9] at h9
  obtain ⟨m10, e10, f10⟩ := am_pair (hk 10 (by omega)) (hf 10 (by omega))
  have g10 := hm1 10 (by omega)
  have h10 := hm2 10 (by omega)
  rw [e10] at g10
  rw [f10] at h10
  obtain ⟨a11, n11, c11, b11, p11, d11, l11, e11, f11⟩ := tk_pair (hk 11 (by omega)) (hf 11 (by omega))
  have g11 := hm1 11 (by omega)
  have h11 := hm2 11 (by omega)
  rw [e11] at g11
  rw [f11] at h11
  obtain ⟨w2, hw2, B1, B2, bl, hz⟩ := two_new w 26 26 (cQ k fm1) (cQ k fm2)
  have u0 : w2.cell? ⟨w.heap.size, 0, none⟩ = some (.int .i64 k) := B1.cell 0
  have v0 : w2.cell? ⟨w.heap.size + 1, 0, none⟩ = some (.int .i64 k) := B2.cell 0
  have u1 : w2.cell? ⟨w.heap.size, 1, none⟩ = some (fm1 0).val := by rw [B1.cell]; exact cQ_at k fm1 0 (by omega)
  have v1 : w2.cell? ⟨w.heap.size + 1, 1, none⟩ = some (fm2 0).val := by rw [B2.cell]; exact cQ_at k fm2 0 (by omega)
  rw [e0] at u1
  rw [f0] at v1
  simp only [FM.val] at u1 v1
  have u2 : w2.cell? ⟨w.heap.size, 2, none⟩ = some (fm1 1).val := by rw [B1.cell]; exact cQ_at k fm1 1 (by omega)
  have v2 : w2.cell? ⟨w.heap.size + 1, 2, none⟩ = some (fm2 1).val := by rw [B2.cell]; exact cQ_at k fm2 1 (by omega)
  rw [e1] at u2
  rw [f1] at v2
  simp only [FM.val] at u2 v2
  have u3 : w2.cell? ⟨w.heap.size, 3, none⟩ = some (fm1 2).val := by rw [B1.cell]; exact cQ_at k fm1 2 (by omega)
  have v3 : w2.cell? ⟨w.heap.size + 1, 3, none⟩ = some (fm2 2).val := by rw [B2.cell]; exact cQ_at k fm2 2 (by omega)
  rw [e2] at u3
  rw [f2] at v3
  simp only [FM.val] at u3 v3
  have u4 : w2.cell? ⟨w.heap.size, 4, none⟩ = some (fm1 3).val := by rw [B1.cell]; exact cQ_at k fm1 3 (by omega)
  have v4 : w2.cell? ⟨w.heap.size + 1, 4, none⟩ = some (fm2 3).val := by rw [B2.cell]; exact cQ_at k fm2 3 (by omega)
  rw [e3] at u4
  rw [f3] at v4
  simp only [FM.val] at u4 v4
  have u5 : w2.cell? ⟨w.heap.size, 5, none⟩ = some (fm1 4).val := by rw [B1.cell]; exact cQ_at k fm1 4 (by omega)
  have v5 : w2.cell? ⟨w.heap.size + 1, 5, none⟩ = some (fm2 4).val := by rw [B2.cell]; exact cQ_at k fm2 4 (by omega)
  rw [e4] at u5
  rw [f4] at v5
  simp only [FM.val] at u5 v5
  have u6 : w2.cell? ⟨w.heap.size, 6, none⟩ = some (fm1 5).val := by rw [B1.cell]; exact cQ_at k fm1 5 (by omega)
  have v6 : w2.cell? ⟨w.heap.size + 1, 6, none⟩ = some (fm2 5).val := by rw [B2.cell]; exact cQ_at k fm2 5 (by omega)
  rw [e5] at u6
  rw [f5] at v6
  simp only [FM.val] at u6 v6
  have u7 : w2.cell? ⟨w.heap.size, 7, none⟩ = some (fm1 6).val := by rw [B1.cell]; exact cQ_at k fm1 6 (by omega)
  have v7 : w2.cell? ⟨w.heap.size + 1, 7, none⟩ = some (fm2 6).val := by rw [B2.cell]; exact cQ_at k fm2 6 (by omega)
  rw [e6] at u7
  rw [f6] at v7
  simp only [FM.val] at u7 v7
  have u8 : w2.cell? ⟨w.heap.size, 8, none⟩ = some (fm1 7).val := by rw [B1.cell]; exact cQ_at k fm1 7 (by omega)
  have v8 : w2.cell? ⟨w.heap.size + 1, 8, none⟩ = some (fm2 7).val := by rw [B2.cell]; exact cQ_at k fm2 7 (by omega)
  rw [e7] at u8
  rw [f7] at v8
  simp only [FM.val] at u8 v8
  have u9 : w2.cell? ⟨w.heap.size, 9, none⟩ = some (fm1 8).val := by rw [B1.cell]; exact cQ_at k fm1 8 (by omega)
  have v9 : w2.cell? ⟨w.heap.size + 1, 9, none⟩ = some (fm2 8).val := by rw [B2.cell]; exact cQ_at k fm2 8 (by omega)
  rw [e8] at u9
  rw [f8] at v9
  simp only [FM.val] at u9 v9
  have u10 : w2.cell? ⟨w.heap.size, 10, none⟩ = some (fm1 9).val := by rw [B1.cell]; exact cQ_at k fm1 9 (by omega)
  have v10 : w2.cell? ⟨w.heap.size + 1, 10, none⟩ = some (fm2 9).val := by rw [B2.cell]; exact cQ_at k fm2 9 (by omega)
  rw [e9] at u10
  rw [f9] at v10
  simp only [FM.val] at u10 v10
  have u11 : w2.cell? ⟨w.heap.size, 11, none⟩ = some (fm1 10).val := by rw [B1.cell]; exact cQ_at k fm1 10 (by omega)
  have v11 : w2.cell? ⟨w.heap.size + 1, 11, none⟩ = some (fm2 10).val := by rw [B2.cell]; exact cQ_at k fm2 10 (by omega)
  rw [e10] at u11
  rw [f10] at v11
  simp only [FM.val] at u11 v11
  have u12 : w2.cell? ⟨w.heap.size, 12, none⟩ = some (fm1 11).val := by rw [B1.cell]; exact cQ_at k fm1 11 (by omega)
  have v12 : w2.cell? ⟨w.heap.size + 1, 12, none⟩ = some (fm2 11).val := by rw [B2.cell]; exact cQ_at k fm2 11 (by omega)
  rw [e11] at u12
  rw [f11] at v12
  simp only [FM.val] at u12 v12
  have s1 := run_string_of (P := Tryz.prog) 22 5 9 Tryz.underlying22 Tryz.underlying5 Tryz.underlying9 (cap := c1) ((Chg.of_below (F := fun _ => False) bl).sl g1.1 (fun _ _ _ e => e))
  have z1 := run_string_of (P := Tryz.prog) 22 5 9 Tryz.underlying22 Tryz.underlying5 Tryz.underlying9 (cap := d1) ((Chg.of_below (F := fun _ => False) bl).sl h1.1 (fun _ _ _ e => e))
  have hlen2 : y2.length = l2.length := by have := congrArg List.length q2; simpa using this.symm
  rw [hlen2] at v3
  have HC2 : Hid (∀ wx, Below w.heap.size w wx → Calls Tryz.prog 83 #[.slice a2 l2.length c2, .slice b2 l2.length d2] wx (YesP wx)) := hidden (fun wx hb => sameSeriesT a2 b2 _ c2 d2 l2 y2 wx (g2.2.1.later hb) (h2.2.1.later hb) (fun x hx => (g2.2.2 x hx).later hb) (fun x hx => (h2.2.2 x hx).later hb) q2 rfl g2.1)
  have HC3 : Hid (∀ wx, Below w.heap.size w wx → Calls Tryz.prog 82 #[.slice a3 l3.length c3, .slice b3 l3.length d3] wx (YesP wx)) := hidden (fun wx hb => sameMatchersT a3 b3 _ c3 d3 l3 wx (g3.2.1.later hb) (h3.2.1.later hb) rfl g3.1)
  have s11 := run_string_of (P := Tryz.prog) 22 5 9 Tryz.underlying22 Tryz.underlying5 Tryz.underlying9 (cap := c11) ((Chg.of_below (F := fun _ => False) bl).sl g11.1 (fun _ _ _ e => e))
  have z11 := run_string_of (P := Tryz.prog) 22 5 9 Tryz.underlying22 Tryz.underlying5 Tryz.underlying9 (cap := d11) ((Chg.of_below (F := fun _ => False) bl).sl h11.1 (fun _ _ _ e => e))
  obtain ⟨N2, hN2⟩ : ∃ N, l2.length = N := ⟨_, rfl⟩
  rw [hN2] at HC2 u3 v3
  obtain ⟨N3, hN3⟩ : ∃ N, l3.length = N := ⟨_, rfl⟩
  rw [hN3] at HC3 u4 v4
  have HBL := hidden bl
  have HALL := hidden (And.intro u0 (And.intro u1 (And.intro u2 (And.intro u3 (And.intro u4 (And.intro u5 (And.intro u6 (And.intro u7 (And.intro u8 (And.intro u9 (And.intro u10 (And.intro u11 (And.intro u12 (And.intro v0 (And.intro v1 (And.intro v2 (And.intro v3 (And.intro v4 (And.intro v5 (And.intro v6 (And.intro v7 (And.intro v8 (And.intro v9 (And.intro v10 (And.intro v11 (v12))))))))))))))))))))))))))
  have HSL1 := hidden (And.intro ((Chg.of_below (F := fun _ => False) bl).sl g1.1 (fun _ _ _ e => e)) ((Chg.of_below (F := fun _ => False) bl).sl h1.1 (fun _ _ _ e => e)))
  have HSL11 := hidden (And.intro ((Chg.of_below (F := fun _ => False) bl).sl g11.1 (fun _ _ _ e => e)) ((Chg.of_below (F := fun _ => False) bl).sl h11.1 (fun _ _ _ e => e)))
  clear g0 h0 e0 f0 g1 h1 e1 f1 g2 h2 e2 f2 g3 h3 e3 f3 g4 h4 e4 f4 g5 h5 e5 f5 g6 h6 e6 f6 g7 h7 e7 f7 g8 h8 e8 f8 g9 h9 e9 f9 g10 h10 e10 f10 g11 h11 e11 f11 B1 B2 hk hf hm1 hm2 hlen2 hN2 hN3 s1 z1 s11 z11 u0 u1 u2 u3 u4 u5 u6 u7 u8 u9 u10 u11 u12 v0 v1 v2 v3 v4 v5 v6 v7 v8 v9 v10 v11 v12
  obtain ⟨u0, u1, u2, u3, u4, u5, u6, u7, u8, u9, u10, u11, u12, v0, v1, v2, v3, v4, v5, v6, v7, v8, v9, v10, v11, v12⟩ := HALL.out
  go_enter Tryz.func52, Tryz.ntmps52
  go_wp2_with fail
  try rw [hw2]
  refine (HC3.out _ HBL.out).mono ?_
  rintro en x0 ⟨rfl, bb0⟩
  have BB0 : Hid (Below w.heap.size w x0) := hidden (HBL.out.trans (bb0.mono HBL.out.size))
  have BX0 : Hid (Below w2.heap.size w2 x0) := hidden (bb0)
  clear u0 u1 u2 u3 u4 u5 u6 u7 u8 u9 u10 u11 u12 v0 v1 v2 v3 v4 v5 v6 v7 v8 v9 v10 v11 v12 bb0
  obtain ⟨u0, u1, u2, u3, u4, u5, u6, u7, u8, u9, u10, u11, u12, v0, v1, v2, v3, v4, v5, v6, v7, v8, v9, v10, v11, v12⟩ := HALL.out
  replace u0 := lat_cell BX0.out u0
  replace u1 := lat_cell BX0.out u1
  replace u2 := lat_cell BX0.out u2
  replace u3 := lat_cell BX0.out u3
  replace u4 := lat_cell BX0.out u4
  replace u5 := lat_cell BX0.out u5
  replace u6 := lat_cell BX0.out u6
  replace u7 := lat_cell BX0.out u7
  replace u8 := lat_cell BX0.out u8
  replace u9 := lat_cell BX0.out u9
  replace u10 := lat_cell BX0.out u10
  replace u11 := lat_cell BX0.out u11
  replace u12 := lat_cell BX0.out u12
  replace v0 := lat_cell BX0.out v0
  replace v1 := lat_cell BX0.out v1
  replace v2 := lat_cell BX0.out v2
  replace v3 := lat_cell BX0.out v3
  replace v4 := lat_cell BX0.out v4
  replace v5 := lat_cell BX0.out v5
  replace v6 := lat_cell BX0.out v6
  replace v7 := lat_cell BX0.out v7
  replace v8 := lat_cell BX0.out v8
  replace v9 := lat_cell BX0.out v9
  replace v10 := lat_cell BX0.out v10
  replace v11 := lat_cell BX0.out v11
  replace v12 := lat_cell BX0.out v12
  go_wp2_with fail
  refine (HC2.out _ BB0.out).mono ?_
  rintro en x1 ⟨rfl, bb1⟩
  have BB1 : Hid (Below w.heap.size w x1) := hidden (BB0.out.trans (bb1.mono BB0.out.size))
  have BX1 : Hid (Below w2.heap.size w2 x1) := hidden (BX0.out.trans (bb1.mono BX0.out.size))
  clear u0 u1 u2 u3 u4 u5 u6 u7 u8 u9 u10 u11 u12 v0 v1 v2 v3 v4 v5 v6 v7 v8 v9 v10 v11 v12 bb1
  obtain ⟨u0, u1, u2, u3, u4, u5, u6, u7, u8, u9, u10, u11, u12, v0, v1, v2, v3, v4, v5, v6, v7, v8, v9, v10, v11, v12⟩ := HALL.out
  replace u0 := lat_cell BX1.out u0
  replace u1 := lat_cell BX1.out u1
  replace u2 := lat_cell BX1.out u2
  replace u3 := lat_cell BX1.out u3
  replace u4 := lat_cell BX1.out u4
  replace u5 := lat_cell BX1.out u5
  replace u6 := lat_cell BX1.out u6
  replace u7 := lat_cell BX1.out u7
  replace u8 := lat_cell BX1.out u8
  replace u9 := lat_cell BX1.out u9
  replace u10 := lat_cell BX1.out u10
  replace u11 := lat_cell BX1.out u11
  replace u12 := lat_cell BX1.out u12
  replace v0 := lat_cell BX1.out v0
  replace v1 := lat_cell BX1.out v1
  replace v2 := lat_cell BX1.out v2
  replace v3 := lat_cell BX1.out v3
  replace v4 := lat_cell BX1.out v4
  replace v5 := lat_cell BX1.out v5
  replace v6 := lat_cell BX1.out v6
  replace v7 := lat_cell BX1.out v7
  replace v8 := lat_cell BX1.out v8
  replace v9 := lat_cell BX1.out v9
  replace v10 := lat_cell BX1.out v10
  replace v11 := lat_cell BX1.out v11
  replace v12 := lat_cell BX1.out v12
  have s1 := run_string_of (P := Tryz.prog) 22 5 9 Tryz.underlying22 Tryz.underlying5 Tryz.underlying9 (cap := c1) ((Chg.of_below (F := fun _ => False) BX1.out).sl HSL1.out.1 (fun _ _ _ e => e))
  have z1 := run_string_of (P := Tryz.prog) 22 5 9 Tryz.underlying22 Tryz.underlying5 Tryz.underlying9 (cap := d1) ((Chg.of_below (F := fun _ => False) BX1.out).sl HSL1.out.2 (fun _ _ _ e => e))
  have s11 := run_string_of (P := Tryz.prog) 22 5 9 Tryz.underlying22 Tryz.underlying5 Tryz.underlying9 (cap := c11) ((Chg.of_below (F := fun _ => False) BX1.out).sl HSL11.out.1 (fun _ _ _ e => e))
  have z11 := run_string_of (P := Tryz.prog) 22 5 9 Tryz.underlying22 Tryz.underlying5 Tryz.underlying9 (cap := d11) ((Chg.of_below (F := fun _ => False) BX1.out).sl HSL11.out.2 (fun _ _ _ e => e))
  go_wp2_with fail
  go_ret
  exact ⟨by first | rfl | simp, BB1.out⟩

set_option maxHeartbeats 2000000 in
theorem beyondP (ad : Option Addr) (N c : Nat) (l : List Ser) (w : World) (hE : Es w ad 2 (l.map Ser.cells)) (hN : l.length = N) (hN9 : N ≤ 9223372036854775807) :
    Calls Tryz.prog 24 #[.slice ad N c] w fun e w' => ∃ z : Bool, e = .returned (.bool z) ∧ Below w.heap.size w w' := by
  have HE := hidden hE
  have HN := hidden hN
  clear hE hN
  go_enter Tryz.func24, Tryz.ntmps24
  go_wp2_with fail
  go_loopw [3, 4] (fun v3 v4 wx => ∃ i : Nat, ∃ z : Int, v4 = .int .i64 (i : Int) ∧ v3 = .int .i64 z ∧ i ≤ N ∧ Hid (Below w.heap.size w wx)) (fun _ v4 _ => N - (intOf v4).toNat)
  case atStart => exact ⟨0, _, rfl, rfl, by omega, hidden (Below.refl _ _)⟩
  case round =>
    obtain ⟨i, z, rfl, rfl, hi, hI⟩ := hrel
    by_cases hin : i < N
    · by_cases hz : z ≤ 2147483647
      · obtain ⟨x, hx⟩ : ∃ x, l[i]? = some x := ⟨l[i]'(by have := HN.out; omega), by simp⟩
        have hxm : (l.map Ser.cells)[i]? = some [.slice x.la x.ln x.lc, .slice x.sa x.sn x.sc] := by rw [List.getElem?_map, hx]; rfl
        obtain ⟨b1, o1, rfl, hb1, hcell1⟩ := (HE.out.later hI.out) (by intro h0; rw [h0] at hxm; simp at hxm)
        have c0 := hcell1 i _ hxm 0 _ rfl
        have c1 := hcell1 i _ hxm 1 _ rfl
        rw [Nat.add_zero] at c0
        have hin' : (i : Int) < (N : Int) := by omega
        clear hcell1 hx hb1 hxm
        generalize x.ln = ln at *
        generalize x.sn = sn at *
        obtain ⟨z2, hz2⟩ : ∃ z2, wrap64 (wrap64 (z + (ln : Int)) + (sn : Int)) = z2 := ⟨_, rfl⟩
        go_wp2_with fail
        go_quiet (fail)
        rw [hz2]
        go_wp2_with fail
        refine ⟨⟨i + 1, z2, by first | rfl | simp, rfl, by omega, hidden (below_drewN hI.out nq)⟩, ?_⟩
        show N - ((i : Int) + 1).toNat < N - (i : Int).toNat
        omega
      · have hin' : (i : Int) < (N : Int) := by omega
        go_wp2_with fail
        go_ret
        first | exact ⟨_, rfl, hI.out⟩ | exact ⟨.inr rfl, hI.out⟩ | exact ⟨.inl rfl, hI.out⟩
    · obtain rfl : i = N := by omega
      go_wp2_with fail
      go_ret
      first | exact ⟨_, rfl, hI.out⟩ | exact ⟨.inr rfl, hI.out⟩ | exact ⟨.inl rfl, hI.out⟩

end Go.Proofs.YtalmpmhnkilalaaGreatDoor

/-
  TopCodecs: are two responses one? By gentcb20.py.
-/
namespace Go.Proofs.YtalmpmhnkilalaaGreatDoor
open Go Go.RowKit
set_option linter.unusedVariables false
set_option linter.unusedSimpArgs false

set_option maxHeartbeats 8000000 in
set_option maxRecDepth 100000 in
theorem sameRspT (e k : Int) (fm1 fm2 : Nat → FM) (w : World) (hk : ∀ i, i < 4 → (fm1 i).fv.kd = kdA i) (hf : ∀ i, i < 4 → (fm1 i).fv = (fm2 i).fv) (hm1 : ∀ i, i < 4 → (fm1 i).mem w) (hm2 : ∀ i, i < 4 → (fm2 i).mem w) :
    Calls Tryz.prog 54 #[.agg (cA e k fm1).toArray, .agg (cA e k fm2).toArray] w (YesP w) := by
  obtain ⟨a0, c0, l0, b0, d0, y0, e0, f0, q0⟩ := se_pair (hk 0 (by omega)) (hf 0 (by omega))
  have g0 := hm1 0 (by omega)
  have h0 := hm2 0 (by omega)
  rw [e0] at g0
  rw [f0] at h0
  obtain ⟨a1, c1, l1, b1, d1, y1, e1, f1, q1⟩ := ro_pair (hk 1 (by omega)) (hf 1 (by omega))
  have g1 := hm1 1 (by omega)
  have h1 := hm2 1 (by omega)
  rw [e1] at g1
  rw [f1] at h1
  obtain ⟨m2, e2, f2⟩ := nu_pair (hk 2 (by omega)) (hf 2 (by omega))
  have g2 := hm1 2 (by omega)
  have h2 := hm2 2 (by omega)
  rw [e2] at g2
  rw [f2] at h2
  obtain ⟨a3, c3, b3, d3, l3, e3, f3⟩ := ts_pair (hk 3 (by omega)) (hf 3 (by omega))
  have g3 := hm1 3 (by omega)
  have h3 := hm2 3 (by omega)
  rw [e3] at g3
  rw [f3] at h3
  obtain ⟨w2, hw2, B1, B2, bl, hz⟩ := two_new w 57 57 (cA e k fm1) (cA e k fm2)
  have u0 : w2.cell? ⟨w.heap.size, 0, none⟩ = some (.int .i64 e) := B1.cell 0
  have v0 : w2.cell? ⟨w.heap.size + 1, 0, none⟩ = some (.int .i64 e) := B2.cell 0
  have u1 : w2.cell? ⟨w.heap.size, 1, none⟩ = some (.int .i64 k) := B1.cell 1
  have v1 : w2.cell? ⟨w.heap.size + 1, 1, none⟩ = some (.int .i64 k) := B2.cell 1
  have u2 : w2.cell? ⟨w.heap.size, 2, none⟩ = some (fm1 0).val := by rw [B1.cell]; exact cA_at e k fm1 0 (by omega)
  have v2 : w2.cell? ⟨w.heap.size + 1, 2, none⟩ = some (fm2 0).val := by rw [B2.cell]; exact cA_at e k fm2 0 (by omega)
  rw [e0] at u2
  rw [f0] at v2
  simp only [FM.val] at u2 v2
  have u3 : w2.cell? ⟨w.heap.size, 3, none⟩ = some (fm1 1).val := by rw [B1.cell]; exact cA_at e k fm1 1 (by omega)
  have v3 : w2.cell? ⟨w.heap.size + 1, 3, none⟩ = some (fm2 1).val := by rw [B2.cell]; exact cA_at e k fm2 1 (by omega)
  rw [e1] at u3
  rw [f1] at v3
  simp only [FM.val] at u3 v3
  have u4 : w2.cell? ⟨w.heap.size, 4, none⟩ = some (fm1 2).val := by rw [B1.cell]; exact cA_at e k fm1 2 (by omega)
  have v4 : w2.cell? ⟨w.heap.size + 1, 4, none⟩ = some (fm2 2).val := by rw [B2.cell]; exact cA_at e k fm2 2 (by omega)
  rw [e2] at u4
  rw [f2] at v4
  simp only [FM.val] at u4 v4
  have u5 : w2.cell? ⟨w.heap.size, 5, none⟩ = some (fm1 3).val := by rw [B1.cell]; exact cA_at e k fm1 3 (by omega)
  have v5 : w2.cell? ⟨w.heap.size + 1, 5, none⟩ = some (fm2 3).val := by rw [B2.cell]; exact cA_at e k fm2 3 (by omega)
  rw [e3] at u5
  rw [f3] at v5
  simp only [FM.val] at u5 v5
  have hlen0 : y0.length = l0.length := by have := congrArg List.length q0; simpa using this.symm
  rw [hlen0] at v2
  have HC0 : Hid (∀ wx, Below w.heap.size w wx → Calls Tryz.prog 83 #[.slice a0 l0.length c0, .slice b0 l0.length d0] wx (YesP wx)) := hidden (fun wx hb => sameSeriesT a0 b0 _ c0 d0 l0 y0 wx (g0.2.1.later hb) (h0.2.1.later hb) (fun x hx => (g0.2.2 x hx).later hb) (fun x hx => (h0.2.2 x hx).later hb) q0 rfl g0.1)
  have hlen1 : y1.length = l1.length := by have := congrArg List.length q1; simpa using this.symm
  rw [hlen1] at v3
  obtain ⟨N0, hN0⟩ : ∃ N, l0.length = N := ⟨_, rfl⟩
  rw [hN0] at HC0 u2 v2
  obtain ⟨N1, hN1⟩ : ∃ N, l1.length = N := ⟨_, rfl⟩
  rw [hN1] at u3 v3
  obtain ⟨N3, hN3⟩ : ∃ N, l3.length = N := ⟨_, rfl⟩
  rw [hN3] at u5 v5
  have HBL := hidden bl
  have HALL := hidden (And.intro u0 (And.intro u1 (And.intro u2 (And.intro u3 (And.intro u4 (And.intro u5 (And.intro v0 (And.intro v1 (And.intro v2 (And.intro v3 (And.intro v4 (v5))))))))))))
  have HG1 := hidden g1
  have HH1 := hidden h1
  have HG3 := hidden g3
  have HH3 := hidden h3
  have HQ1 := hidden q1
  have HNN1 := hidden hN1
  have HNN3 := hidden hN3
  have hR9 : N1 ≤ 9223372036854775807 := by rw [← hN1]; exact g1.1
  have hT9 : N3 ≤ 9223372036854775807 := by rw [← hN3]; exact g3.1
  clear g0 h0 e0 f0 g1 h1 e1 f1 g2 h2 e2 f2 g3 h3 e3 f3 B1 B2 hk hf hm1 hm2 hlen0 hlen1 hN0 hN1 hN3 q0 q1 u0 u1 u2 u3 u4 u5 v0 v1 v2 v3 v4 v5
  obtain ⟨u0, u1, u2, u3, u4, u5, v0, v1, v2, v3, v4, v5⟩ := HALL.out
  go_enter Tryz.func54, Tryz.ntmps54
  go_wp2_with fail
  try rw [hw2]
  refine (HC0.out _ HBL.out).mono ?_
  rintro en x0 ⟨rfl, bb0⟩
  have BX0 : Hid (Below w2.heap.size w2 x0) := hidden bb0
  clear u0 u1 u2 u3 u4 u5 v0 v1 v2 v3 v4 v5 bb0
  obtain ⟨u0, u1, u2, u3, u4, u5, v0, v1, v2, v3, v4, v5⟩ := HALL.out
  replace u0 := lat_cell BX0.out u0
  replace u1 := lat_cell BX0.out u1
  replace u2 := lat_cell BX0.out u2
  replace u3 := lat_cell BX0.out u3
  replace u4 := lat_cell BX0.out u4
  replace u5 := lat_cell BX0.out u5
  replace v0 := lat_cell BX0.out v0
  replace v1 := lat_cell BX0.out v1
  replace v2 := lat_cell BX0.out v2
  replace v3 := lat_cell BX0.out v3
  replace v4 := lat_cell BX0.out v4
  replace v5 := lat_cell BX0.out v5
  go_wp2_with fail
  clear u0 u1 u2 u3 u4 u5 v0 v1 v2 v3 v4 v5
  go_loopw [6, 7] (fun v6 v7 wx => ∃ i : Nat, v6 = .int .i64 (i : Int) ∧ i ≤ N1 ∧ Hid (Below w2.heap.size w2 wx)) (fun v6 _ _ => N1 - (intOf v6).toNat)
  case atStart => exact ⟨0, rfl, by omega, BX0⟩
  case round =>
    obtain ⟨i, rfl, hi, hI⟩ := hrel
    have HCEL : Hid (∀ wx, Below wr.heap.size wr wx → wx.cell? ⟨w.heap.size, 3, none⟩ = some (.slice a1 N1 c1) ∧ wx.cell? ⟨w.heap.size + 1, 3, none⟩ = some (.slice b1 N1 d1)) := hidden (fun wx hb => by
      obtain ⟨u0, u1, u2, u3, u4, u5, v0, v1, v2, v3, v4, v5⟩ := HALL.out
      have hb2 := hI.out.trans (hb.mono hI.out.size)
      exact ⟨lat_cell hb2 u3, lat_cell hb2 v3⟩)
    have HW : Hid (Below w.heap.size w wr) := hidden (HBL.out.trans (hI.out.mono HBL.out.size))
    by_cases hin : i < N1
    · obtain ⟨x, hx⟩ : ∃ x, l1[i]? = some x := ⟨l1[i]'(by have := HNN1.out; omega), by simp⟩
      obtain ⟨y, hy, hxy⟩ := map_at HQ1.out hx
      have hxm : (l1.map Ror.cells)[i]? = some [.slice x.la x.ln x.lc, .int .u64 (x.n : Int)] := by rw [List.getElem?_map, hx]; rfl
      have hym : (y1.map Ror.cells)[i]? = some [.slice y.la y.ln y.lc, .int .u64 (y.n : Int)] := by rw [List.getElem?_map, hy]; rfl
      obtain ⟨r1, o1, rfl, hb1, hcell1⟩ := (HG1.out.2.1.later HW.out) (by intro h0; rw [h0] at hxm; simp at hxm)
      obtain ⟨r2, o2, rfl, hb2, hcell2⟩ := (HH1.out.2.1.later HW.out) (by intro h0; rw [h0] at hym; simp at hym)
      have hin' : (i : Int) < (N1 : Int) := by omega
      have hmx := (HG1.out.2.2 x (List.mem_of_getElem? hx)).later HW.out
      have hmy := (HH1.out.2.2 y (List.mem_of_getElem? hy)).later HW.out
      have hL : x.L = y.L := (congrArg Prod.fst hxy).symm
      have hn : y.n = x.n := congrArg Prod.snd hxy
      have hln : y.ln = x.ln := by rw [← hmy.2.1, ← hmx.2.1, hL]
      have HCL : Hid (∀ wx, Below wr.heap.size wr wx → Calls Tryz.prog 85 #[.agg #[.slice x.la x.ln x.lc, .slice none 0 0], .agg #[.slice y.la x.ln y.lc, .slice none 0 0]] wx (YesP wx)) := hidden (fun wx hb => alikeY x.la y.la none none x.ln x.lc y.lc 0 0 0 x.L [] wx ((hmx.later hb).1) (by rw [hL]; exact (hmy.later hb).1) (fun h => absurd rfl h) (fun h => absurd rfl h) hmx.2.1 hmx.2.2.1 rfl (by omega))
      have HCE2 : Hid (∀ wx, Below wr.heap.size wr wx → wx.cell? ⟨r1, o1 + i * 2, none⟩ = some (.slice x.la x.ln x.lc) ∧ wx.cell? ⟨r1, o1 + i * 2 + 1, none⟩ = some (.int .u64 (x.n : Int)) ∧ wx.cell? ⟨r2, o2 + i * 2, none⟩ = some (.slice y.la x.ln y.lc) ∧ wx.cell? ⟨r2, o2 + i * 2 + 1, none⟩ = some (.int .u64 (x.n : Int))) := hidden (fun wx hb => by
        have e0 := hcell1 i _ hxm 0 _ rfl
        have e1 := hcell1 i _ hxm 1 _ rfl
        have e2 := hcell2 i _ hym 0 _ rfl
        have e3 := hcell2 i _ hym 1 _ rfl
        rw [hln] at e2
        rw [hn] at e3
        rw [Nat.add_zero] at e0 e2
        exact ⟨lat_cell hb e0, lat_cell hb e1, lat_cell hb e2, lat_cell hb e3⟩)
      generalize x.la = xla at *
      generalize x.ln = xln at *
      generalize x.lc = xlc at *
      generalize x.n = xn at *
      generalize y.la = yla at *
      generalize y.lc = ylc at *
      clear hcell1 hcell2 hx hy hb1 hb2 hxm hym hmx hmy hL hn hln hxy
      obtain ⟨g0, g1, g2, g3⟩ := HCE2.out wr.drew ((Below.refl _ _).drew)
      obtain ⟨k0, k1, k2, k3⟩ := HCE2.out wr (Below.refl _ _)
      obtain ⟨p0, p1⟩ := HCEL.out wr.drew ((Below.refl _ _).drew)
      obtain ⟨s0, s1⟩ := HCEL.out wr (Below.refl _ _)
      go_wp2_with fail
      go_cut [7] from 55 to 93 (fun s7 wx => s7 = .bool true ∧ Hid (Below wr.heap.size wr wx))
      case first =>
        go_region_with (refine (HCL.out _ (by first | exact Below.refl _ _ | exact (Below.refl _ _).drew)).mono ?_; rintro e w1 ⟨rfl, bb1⟩; have HB1 := hidden (((Below.refl _ wr).drew).trans bb1); clear bb1)
        all_goals
          go_wp2_with fail
          go_meet
          exact ⟨rfl, HB1⟩
      case rest =>
        obtain ⟨rfl, hB1⟩ := hcut
        clear g0 g1 g2 g3 k0 k1 k2 k3 p0 p1 s0 s1
        obtain ⟨k0, k1, k2, k3⟩ := HCE2.out wc hB1.out
        obtain ⟨s0, s1⟩ := HCEL.out wc hB1.out
        go_wp2_with fail
        go_quiet (fail)
        go_wp2_with fail
        refine ⟨⟨i + 1, by first | rfl | simp, by omega, hidden (below_drewN (hI.out.trans (hB1.out.mono hI.out.size)) nq)⟩, ?_⟩
        show N1 - ((i : Int) + 1).toNat < N1 - (i : Int).toNat
        omega
    · obtain rfl : i = N1 := by omega
      clear hin hi
      obtain ⟨s0, s1⟩ := HCEL.out wr (Below.refl _ _)
      go_wp2_with fail
      have HI := hI
      clear hI HW s0 s1 HCEL
      obtain ⟨wq, hwq⟩ : ∃ wq, wr = wq := ⟨_, rfl⟩
      rw [hwq] at HI
      rw [hwq]
      clear hwq
      go_loopw [8] (fun v8 wx => ∃ j : Nat, v8 = .int .i64 (j : Int) ∧ j ≤ N3 ∧ Hid (Below w2.heap.size w2 wx)) (fun v8 _ => N3 - (intOf v8).toNat)
      case atStart => exact ⟨0, rfl, by omega, HI⟩
      case round =>
        obtain ⟨j, rfl, hj, hJ⟩ := hrel
        obtain ⟨u0, u1, u2, u3, u4, u5, v0, v1, v2, v3, v4, v5⟩ := HALL.out
        replace u5 := lat_cell hJ.out u5
        replace v5 := lat_cell hJ.out v5
        clear u0 u1 u2 u3 u4 v0 v1 v2 v3 v4
        have HW := hidden (HBL.out.trans (hJ.out.mono HBL.out.size))
        by_cases hjn : j < N3
        · obtain ⟨x, hx⟩ : ∃ x, l3[j]? = some x := ⟨l3[j]'(by have := HNN3.out; omega), by simp⟩
          have hxm : (l3.map (fun d => [Value.string d]))[j]? = some [.string x] := by rw [List.getElem?_map, hx]; rfl
          obtain ⟨r1, o1, rfl, hb1, hcell1⟩ := (HG3.out.2.later HW.out) (by intro h0; rw [h0] at hxm; simp at hxm)
          obtain ⟨r2, o2, rfl, hb2, hcell2⟩ := (HH3.out.2.later HW.out) (by intro h0; rw [h0] at hxm; simp at hxm)
          have hjn' : (j : Int) < (N3 : Int) := by omega
          have c0 := hcell1 j _ hxm 0 _ rfl
          have d0 := hcell2 j _ hxm 0 _ rfl
          rw [Nat.add_zero, Nat.mul_one] at c0 d0
          clear hcell1 hcell2 hx hb1 hb2 hxm
          go_wp2_with fail
          go_quiet (fail)
          go_wp2_with fail
          refine ⟨⟨j + 1, by first | rfl | simp, by omega, hidden (below_drewN hJ.out nq)⟩, ?_⟩
          show N3 - ((j : Int) + 1).toNat < N3 - (j : Int).toNat
          omega
        · obtain rfl : j = N3 := by omega
          go_wp2_with fail
          go_ret
          exact ⟨rfl, HW.out⟩

end Go.Proofs.YtalmpmhnkilalaaGreatDoor
