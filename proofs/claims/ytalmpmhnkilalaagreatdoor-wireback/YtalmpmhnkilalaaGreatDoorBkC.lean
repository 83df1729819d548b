/-
  WireBack: are two requests, two responses one? heavy. By genbkc19.py.
-/
import Derived.Test.YtalmpmhnkilalaaGreatDoorBkB
namespace Go.Proofs.YtalmpmhnkilalaaGreatDoor
open Go Go.RowKit
set_option linter.unusedVariables false
set_option linter.unusedSimpArgs false

theorem tx_pair {m1 m2 : FM} (hk : m1.fv.kd = .tx) (h : m1.fv = m2.fv) : ∃ d, m1 = .tx d ∧ m2 = .tx d := by
  cases m1 <;> first | (cases hk; done) | (cases m2 <;> first | (cases h; done) | (injection h with h; subst h; exact ⟨_, rfl, rfl⟩))
theorem qu_pair {m1 m2 : FM} (hk : m1.fv.kd = .qu) (h : m1.fv = m2.fv) : ∃ d, m1 = .qu d ∧ m2 = .qu d := by
  cases m1 <;> first | (cases hk; done) | (cases m2 <;> first | (cases h; done) | (injection h with h; subst h; exact ⟨_, rfl, rfl⟩))
theorem tm_pair {m1 m2 : FM} (hk : m1.fv.kd = .tm) (h : m1.fv = m2.fv) : ∃ d, m1 = .tm d ∧ m2 = .tm d := by
  cases m1 <;> first | (cases hk; done) | (cases m2 <;> first | (cases h; done) | (injection h with h; subst h; exact ⟨_, rfl, rfl⟩))
theorem am_pair {m1 m2 : FM} (hk : m1.fv.kd = .am) (h : m1.fv = m2.fv) : ∃ d, m1 = .am d ∧ m2 = .am d := by
  cases m1 <;> first | (cases hk; done) | (cases m2 <;> first | (cases h; done) | (injection h with h; subst h; exact ⟨_, rfl, rfl⟩))
theorem nu_pair {m1 m2 : FM} (hk : m1.fv.kd = .nu) (h : m1.fv = m2.fv) : ∃ d, m1 = .nu d ∧ m2 = .nu d := by
  cases m1 <;> first | (cases hk; done) | (cases m2 <;> first | (cases h; done) | (injection h with h; subst h; exact ⟨_, rfl, rfl⟩))
theorem tk_pair {m1 m2 : FM} (hk : m1.fv.kd = .tk) (h : m1.fv = m2.fv) : ∃ a n c a' n' c' l, m1 = .tk a n c l ∧ m2 = .tk a' n' c' l := by
  cases m1 <;> first | (cases hk; done) | (cases m2 <;> first | (cases h; done) | (injection h with h; subst h; exact ⟨_, _, _, _, _, _, _, rfl, rfl⟩))
theorem ms_pair {m1 m2 : FM} (hk : m1.fv.kd = .ms) (h : m1.fv = m2.fv) : ∃ a c a' c' l, m1 = .ms a c l ∧ m2 = .ms a' c' l := by
  cases m1 <;> first | (cases hk; done) | (cases m2 <;> first | (cases h; done) | (injection h with h; subst h; exact ⟨_, _, _, _, _, rfl, rfl⟩))
theorem ts_pair {m1 m2 : FM} (hk : m1.fv.kd = .ts) (h : m1.fv = m2.fv) : ∃ a c a' c' l, m1 = .ts a c l ∧ m2 = .ts a' c' l := by
  cases m1 <;> first | (cases hk; done) | (cases m2 <;> first | (cases h; done) | (injection h with h; subst h; exact ⟨_, _, _, _, _, rfl, rfl⟩))
theorem ws_pair {m1 m2 : FM} (hk : m1.fv.kd = .ws) (h : m1.fv = m2.fv) : ∃ a c xs a' c' ys, m1 = .ws a c xs ∧ m2 = .ws a' c' ys ∧ xs.map prS = ys.map prS := by
  cases m1 <;> first | (cases hk; done) | (cases m2 <;> first | (cases h; done) | (injection h with h; exact ⟨_, _, _, _, _, _, rfl, rfl, h⟩))
theorem se_pair {m1 m2 : FM} (hk : m1.fv.kd = .se) (h : m1.fv = m2.fv) : ∃ a c xs a' c' ys, m1 = .se a c xs ∧ m2 = .se a' c' ys ∧ xs.map prS = ys.map prS := by
  cases m1 <;> first | (cases hk; done) | (cases m2 <;> first | (cases h; done) | (injection h with h; exact ⟨_, _, _, _, _, _, rfl, rfl, h⟩))
theorem ro_pair {m1 m2 : FM} (hk : m1.fv.kd = .ro) (h : m1.fv = m2.fv) : ∃ a c xs a' c' ys, m1 = .ro a c xs ∧ m2 = .ro a' c' ys ∧ xs.map prR = ys.map prR := by
  cases m1 <;> first | (cases hk; done) | (cases m2 <;> first | (cases h; done) | (injection h with h; exact ⟨_, _, _, _, _, _, rfl, rfl, h⟩))

set_option maxHeartbeats 8000000 in
set_option maxRecDepth 100000 in
theorem sameReqY (k : Int) (fm1 fm2 : Nat → FM) (w : World) (hk : ∀ i, i < 12 → (fm1 i).fv.kd = kdQ i) (hf : ∀ i, i < 12 → (fm1 i).fv = (fm2 i).fv) (hm1 : ∀ i, i < 12 → (fm1 i).mem w) (hm2 : ∀ i, i < 12 → (fm2 i).mem w) :
    Calls Tryz.prog 17 #[.agg (cQ k fm1).toArray, .agg (cQ k fm2).toArray] w (YesP w) := by
  obtain ⟨t0, e0, f0⟩ := tx_pair (hk 0 (by omega)) (hf 0 (by omega))
  have g0 := hm1 0 (by omega)
  have h0 := hm2 0 (by omega)
  rw [e0] at g0
  rw [f0] at h0
  obtain ⟨a1, n1, c1, b1, p1, d1, l1, e1, f1⟩ := tk_pair (hk 1 (by omega)) (hf 1 (by omega))
  have g1 := hm1 1 (by omega)
  have h1 := hm2 1 (by omega)
  rw [e1] at g1
  rw [f1] at h1
  obtain ⟨a2, c2, l2, b2, d2, y2, e2, f2, q2⟩ := ws_pair (hk 2 (by omega)) (hf 2 (by omega))
  have g2 := hm1 2 (by omega)
  have h2 := hm2 2 (by omega)
  rw [e2] at g2
  rw [f2] at h2
  obtain ⟨a3, c3, b3, d3, l3, e3, f3⟩ := ms_pair (hk 3 (by omega)) (hf 3 (by omega))
  have g3 := hm1 3 (by omega)
  have h3 := hm2 3 (by omega)
  rw [e3] at g3
  rw [f3] at h3
  obtain ⟨m4, e4, f4⟩ := tm_pair (hk 4 (by omega)) (hf 4 (by omega))
  have g4 := hm1 4 (by omega)
  have h4 := hm2 4 (by omega)
  rw [e4] at g4
  rw [f4] at h4
  obtain ⟨m5, e5, f5⟩ := tm_pair (hk 5 (by omega)) (hf 5 (by omega))
  have g5 := hm1 5 (by omega)
  have h5 := hm2 5 (by omega)
  rw [e5] at g5
  rw [f5] at h5
  obtain ⟨t6, e6, f6⟩ := qu_pair (hk 6 (by omega)) (hf 6 (by omega))
  have g6 := hm1 6 (by omega)
  have h6 := hm2 6 (by omega)
  rw [e6] at g6
  rw [f6] at h6
  obtain ⟨t7, e7, f7⟩ := tx_pair (hk 7 (by omega)) (hf 7 (by omega))
  have g7 := hm1 7 (by omega)
  have h7 := hm2 7 (by omega)
  rw [e7] at g7
  rw [f7] at h7
  obtain ⟨m8, e8, f8⟩ := am_pair (hk 8 (by omega)) (hf 8 (by omega))
  have g8 := hm1 8 (by omega)
  have h8 := hm2 8 (by omega)
  rw [e8] at g8
  rw [f8] at h8
  obtain ⟨m9, e9, f9⟩ := am_pair (hk 9 (by omega)) (hf 9 (by omega))
  have g9 := hm1 9 (by omega)
  have h9 := hm2 9 (by omega)
  rw [e9] at g9
  rw [f9] at h9
  obtain ⟨m10, e10, f10⟩ := am_pair (hk 10 (by omega)) (hf 10 (by omega))
  have g10 := hm1 10 (by omega)
  have h10 := hm2 10 (by omega)
  rw [e10] at g10
  rw [f10] at h10
  obtain ⟨a11, n11, c11, b11, p11, d11, l11, e11, f11⟩ := tk_pair (hk 11 (by omega)) (hf 11 (by omega))
  have g11 := hm1 11 (by omega)
  have h11 := hm2 11 (by omega)
  rw [e11] at g11
  rw [f11] at h11
  obtain ⟨w2, hw2, B1, B2, bl, hz⟩ := two_new w 26 26 (cQ k fm1) (cQ k fm2)
  have u0 : w2.cell? ⟨w.heap.size, 0, none⟩ = some (.int .i64 k) := B1.cell 0
  have v0 : w2.cell? ⟨w.heap.size + 1, 0, none⟩ = some (.int .i64 k) := B2.cell 0
  have u1 : w2.cell? ⟨w.heap.size, 1, none⟩ = some (fm1 0).val := by rw [B1.cell]; exact cQ_at k fm1 0 (by omega)
  have v1 : w2.cell? ⟨w.heap.size + 1, 1, none⟩ = some (fm2 0).val := by rw [B2.cell]; exact cQ_at k fm2 0 (by omega)
  rw [e0] at u1
  rw [f0] at v1
  simp only [FM.val] at u1 v1
  have u2 : w2.cell? ⟨w.heap.size, 2, none⟩ = some (fm1 1).val := by rw [B1.cell]; exact cQ_at k fm1 1 (by omega)
  have v2 : w2.cell? ⟨w.heap.size + 1, 2, none⟩ = some (fm2 1).val := by rw [B2.cell]; exact cQ_at k fm2 1 (by omega)
  rw [e1] at u2
  rw [f1] at v2
  simp only [FM.val] at u2 v2
  have u3 : w2.cell? ⟨w.heap.size, 3, none⟩ = some (fm1 2).val := by rw [B1.cell]; exact cQ_at k fm1 2 (by omega)
  have v3 : w2.cell? ⟨w.heap.size + 1, 3, none⟩ = some (fm2 2).val := by rw [B2.cell]; exact cQ_at k fm2 2 (by omega)
  rw [e2] at u3
  rw [f2] at v3
  simp only [FM.val] at u3 v3
  have u4 : w2.cell? ⟨w.heap.size, 4, none⟩ = some (fm1 3).val := by rw [B1.cell]; exact cQ_at k fm1 3 (by omega)
  have v4 : w2.cell? ⟨w.heap.size + 1, 4, none⟩ = some (fm2 3).val := by rw [B2.cell]; exact cQ_at k fm2 3 (by omega)
  rw [e3] at u4
  rw [f3] at v4
  simp only [FM.val] at u4 v4
  have u5 : w2.cell? ⟨w.heap.size, 5, none⟩ = some (fm1 4).val := by rw [B1.cell]; exact cQ_at k fm1 4 (by omega)
  have v5 : w2.cell? ⟨w.heap.size + 1, 5, none⟩ = some (fm2 4).val := by rw [B2.cell]; exact cQ_at k fm2 4 (by omega)
  rw [e4] at u5
  rw [f4] at v5
  simp only [FM.val] at u5 v5
  have u6 : w2.cell? ⟨w.heap.size, 6, none⟩ = some (fm1 5).val := by rw [B1.cell]; exact cQ_at k fm1 5 (by omega)
  have v6 : w2.cell? ⟨w.heap.size + 1, 6, none⟩ = some (fm2 5).val := by rw [B2.cell]; exact cQ_at k fm2 5 (by omega)
  rw [e5] at u6
  rw [f5] at v6
  simp only [FM.val] at u6 v6
  have u7 : w2.cell? ⟨w.heap.size, 7, none⟩ = some (fm1 6).val := by rw [B1.cell]; exact cQ_at k fm1 6 (by omega)
  have v7 : w2.cell? ⟨w.heap.size + 1, 7, none⟩ = some (fm2 6).val := by rw [B2.cell]; exact cQ_at k fm2 6 (by omega)
  rw [e6] at u7
  rw [f6] at v7
  simp only [FM.val] at u7 v7
  have u8 : w2.cell? ⟨w.heap.size, 8, none⟩ = some (fm1 7).val := by rw [B1.cell]; exact cQ_at k fm1 7 (by omega)
  have v8 : w2.cell? ⟨w.heap.size + 1, 8, none⟩ = some (fm2 7).val := by rw [B2.cell]; exact cQ_at k fm2 7 (by omega)
  rw [e7] at u8
  rw [f7] at v8
  simp only [FM.val] at u8 v8
  have u9 : w2.cell? ⟨w.heap.size, 9, none⟩ = some (fm1 8).val := by rw [B1.cell]; exact cQ_at k fm1 8 (by omega)
  have v9 : w2.cell? ⟨w.heap.size + 1, 9, none⟩ = some (fm2 8).val := by rw [B2.cell]; exact cQ_at k fm2 8 (by omega)
  rw [e8] at u9
  rw [f8] at v9
  simp only [FM.val] at u9 v9
  have u10 : w2.cell? ⟨w.heap.size, 10, none⟩ = some (fm1 9).val := by rw [B1.cell]; exact cQ_at k fm1 9 (by omega)
  have v10 : w2.cell? ⟨w.heap.size + 1, 10, none⟩ = some (fm2 9).val := by rw [B2.cell]; exact cQ_at k fm2 9 (by omega)
  rw [e9] at u10
  rw [f9] at v10
  simp only [FM.val] at u10 v10
  have u11 : w2.cell? ⟨w.heap.size, 11, none⟩ = some (fm1 10).val := by rw [B1.cell]; exact cQ_at k fm1 10 (by omega)
  have v11 : w2.cell? ⟨w.heap.size + 1, 11, none⟩ = some (fm2 10).val := by rw [B2.cell]; exact cQ_at k fm2 10 (by omega)
  rw [e10] at u11
  rw [f10] at v11
  simp only [FM.val] at u11 v11
  have u12 : w2.cell? ⟨w.heap.size, 12, none⟩ = some (fm1 11).val := by rw [B1.cell]; exact cQ_at k fm1 11 (by omega)
  have v12 : w2.cell? ⟨w.heap.size + 1, 12, none⟩ = some (fm2 11).val := by rw [B2.cell]; exact cQ_at k fm2 11 (by omega)
  rw [e11] at u12
  rw [f11] at v12
  simp only [FM.val] at u12 v12
  have s1 := run_string_of (P := Tryz.prog) 22 5 9 Tryz.underlying22 Tryz.underlying5 Tryz.underlying9 (cap := c1) ((Chg.of_below (F := fun _ => False) bl).sl g1.1 (fun _ _ _ e => e))
  have z1 := run_string_of (P := Tryz.prog) 22 5 9 Tryz.underlying22 Tryz.underlying5 Tryz.underlying9 (cap := d1) ((Chg.of_below (F := fun _ => False) bl).sl h1.1 (fun _ _ _ e => e))
  have hlen2 : y2.length = l2.length := by have := congrArg List.length q2; simpa using this.symm
  rw [hlen2] at v3
  have HC2 : Hid (∀ wx, Below w.heap.size w wx → Calls Tryz.prog 32 #[.slice a2 l2.length c2, .slice b2 l2.length d2] wx (YesP wx)) := hidden (fun wx hb => sameSeriesY a2 b2 _ c2 d2 l2 y2 wx (g2.2.1.later hb) (h2.2.1.later hb) (fun x hx => (g2.2.2 x hx).later hb) (fun x hx => (h2.2.2 x hx).later hb) q2 rfl g2.1)
  have HC3 : Hid (∀ wx, Below w.heap.size w wx → Calls Tryz.prog 39 #[.slice a3 l3.length c3, .slice b3 l3.length d3] wx (YesP wx)) := hidden (fun wx hb => sameMatchersY a3 b3 _ c3 d3 l3 wx (g3.2.1.later hb) (h3.2.1.later hb) rfl g3.1)
  have s11 := run_string_of (P := Tryz.prog) 22 5 9 Tryz.underlying22 Tryz.underlying5 Tryz.underlying9 (cap := c11) ((Chg.of_below (F := fun _ => False) bl).sl g11.1 (fun _ _ _ e => e))
  have z11 := run_string_of (P := Tryz.prog) 22 5 9 Tryz.underlying22 Tryz.underlying5 Tryz.underlying9 (cap := d11) ((Chg.of_below (F := fun _ => False) bl).sl h11.1 (fun _ _ _ e => e))
  obtain ⟨N2, hN2⟩ : ∃ N, l2.length = N := ⟨_, rfl⟩
  rw [hN2] at HC2 u3 v3
  obtain ⟨N3, hN3⟩ : ∃ N, l3.length = N := ⟨_, rfl⟩
  rw [hN3] at HC3 u4 v4
  have HBL := hidden bl
  have HALL := hidden (And.intro u0 (And.intro u1 (And.intro u2 (And.intro u3 (And.intro u4 (And.intro u5 (And.intro u6 (And.intro u7 (And.intro u8 (And.intro u9 (And.intro u10 (And.intro u11 (And.intro u12 (And.intro v0 (And.intro v1 (And.intro v2 (And.intro v3 (And.intro v4 (And.intro v5 (And.intro v6 (And.intro v7 (And.intro v8 (And.intro v9 (And.intro v10 (And.intro v11 (v12))))))))))))))))))))))))))
  have HSL1 := hidden (And.intro ((Chg.of_below (F := fun _ => False) bl).sl g1.1 (fun _ _ _ e => e)) ((Chg.of_below (F := fun _ => False) bl).sl h1.1 (fun _ _ _ e => e)))
  have HSL11 := hidden (And.intro ((Chg.of_below (F := fun _ => False) bl).sl g11.1 (fun _ _ _ e => e)) ((Chg.of_below (F := fun _ => False) bl).sl h11.1 (fun _ _ _ e => e)))
  clear g0 h0 e0 f0 g1 h1 e1 f1 g2 h2 e2 f2 g3 h3 e3 f3 g4 h4 e4 f4 g5 h5 e5 f5 g6 h6 e6 f6 g7 h7 e7 f7 g8 h8 e8 f8 g9 h9 e9 f9 g10 h10 e10 f10 g11 h11 e11 f11 B1 B2 hk hf hm1 hm2 hlen2 hN2 hN3 s1 z1 s11 z11 u0 u1 u2 u3 u4 u5 u6 u7 u8 u9 u10 u11 u12 v0 v1 v2 v3 v4 v5 v6 v7 v8 v9 v10 v11 v12
  obtain ⟨u0, u1, u2, u3, u4, u5, u6, u7, u8, u9, u10, u11, u12, v0, v1, v2, v3, v4, v5, v6, v7, v8, v9, v10, v11, v12⟩ := HALL.out
  go_enter Tryz.func17, Tryz.ntmps17
  go_wp2_with fail
  try rw [hw2]
  refine (HC2.out _ HBL.out).mono ?_
  rintro en x0 ⟨rfl, bb0⟩
  have BB0 : Hid (Below w.heap.size w x0) := hidden (HBL.out.trans (bb0.mono HBL.out.size))
  have BX0 : Hid (Below w2.heap.size w2 x0) := hidden (bb0)
  clear u0 u1 u2 u3 u4 u5 u6 u7 u8 u9 u10 u11 u12 v0 v1 v2 v3 v4 v5 v6 v7 v8 v9 v10 v11 v12 bb0
  obtain ⟨u0, u1, u2, u3, u4, u5, u6, u7, u8, u9, u10, u11, u12, v0, v1, v2, v3, v4, v5, v6, v7, v8, v9, v10, v11, v12⟩ := HALL.out
  replace u0 := lat_cell BX0.out u0
  replace u1 := lat_cell BX0.out u1
  replace u2 := lat_cell BX0.out u2
  replace u3 := lat_cell BX0.out u3
  replace u4 := lat_cell BX0.out u4
  replace u5 := lat_cell BX0.out u5
  replace u6 := lat_cell BX0.out u6
  replace u7 := lat_cell BX0.out u7
  replace u8 := lat_cell BX0.out u8
  replace u9 := lat_cell BX0.out u9
  replace u10 := lat_cell BX0.out u10
  replace u11 := lat_cell BX0.out u11
  replace u12 := lat_cell BX0.out u12
  replace v0 := lat_cell BX0.out v0
  replace v1 := lat_cell BX0.out v1
  replace v2 := lat_cell BX0.out v2
  replace v3 := lat_cell BX0.out v3
  replace v4 := lat_cell BX0.out v4
  replace v5 := lat_cell BX0.out v5
  replace v6 := lat_cell BX0.out v6
  replace v7 := lat_cell BX0.out v7
  replace v8 := lat_cell BX0.out v8
  replace v9 := lat_cell BX0.out v9
  replace v10 := lat_cell BX0.out v10
  replace v11 := lat_cell BX0.out v11
  replace v12 := lat_cell BX0.out v12
  go_wp2_with fail
  refine (HC3.out _ BB0.out).mono ?_
  rintro en x1 ⟨rfl, bb1⟩
  have BB1 : Hid (Below w.heap.size w x1) := hidden (BB0.out.trans (bb1.mono BB0.out.size))
  have BX1 : Hid (Below w2.heap.size w2 x1) := hidden (BX0.out.trans (bb1.mono BX0.out.size))
  clear u0 u1 u2 u3 u4 u5 u6 u7 u8 u9 u10 u11 u12 v0 v1 v2 v3 v4 v5 v6 v7 v8 v9 v10 v11 v12 bb1
  obtain ⟨u0, u1, u2, u3, u4, u5, u6, u7, u8, u9, u10, u11, u12, v0, v1, v2, v3, v4, v5, v6, v7, v8, v9, v10, v11, v12⟩ := HALL.out
  replace u0 := lat_cell BX1.out u0
  replace u1 := lat_cell BX1.out u1
  replace u2 := lat_cell BX1.out u2
  replace u3 := lat_cell BX1.out u3
  replace u4 := lat_cell BX1.out u4
  replace u5 := lat_cell BX1.out u5
  replace u6 := lat_cell BX1.out u6
  replace u7 := lat_cell BX1.out u7
  replace u8 := lat_cell BX1.out u8
  replace u9 := lat_cell BX1.out u9
  replace u10 := lat_cell BX1.out u10
  replace u11 := lat_cell BX1.out u11
  replace u12 := lat_cell BX1.out u12
  replace v0 := lat_cell BX1.out v0
  replace v1 := lat_cell BX1.out v1
  replace v2 := lat_cell BX1.out v2
  replace v3 := lat_cell BX1.out v3
  replace v4 := lat_cell BX1.out v4
  replace v5 := lat_cell BX1.out v5
  replace v6 := lat_cell BX1.out v6
  replace v7 := lat_cell BX1.out v7
  replace v8 := lat_cell BX1.out v8
  replace v9 := lat_cell BX1.out v9
  replace v10 := lat_cell BX1.out v10
  replace v11 := lat_cell BX1.out v11
  replace v12 := lat_cell BX1.out v12
  have s1 := run_string_of (P := Tryz.prog) 22 5 9 Tryz.underlying22 Tryz.underlying5 Tryz.underlying9 (cap := c1) ((Chg.of_below (F := fun _ => False) BX1.out).sl HSL1.out.1 (fun _ _ _ e => e))
  have z1 := run_string_of (P := Tryz.prog) 22 5 9 Tryz.underlying22 Tryz.underlying5 Tryz.underlying9 (cap := d1) ((Chg.of_below (F := fun _ => False) BX1.out).sl HSL1.out.2 (fun _ _ _ e => e))
  have s11 := run_string_of (P := Tryz.prog) 22 5 9 Tryz.underlying22 Tryz.underlying5 Tryz.underlying9 (cap := c11) ((Chg.of_below (F := fun _ => False) BX1.out).sl HSL11.out.1 (fun _ _ _ e => e))
  have z11 := run_string_of (P := Tryz.prog) 22 5 9 Tryz.underlying22 Tryz.underlying5 Tryz.underlying9 (cap := d11) ((Chg.of_below (F := fun _ => False) BX1.out).sl HSL11.out.2 (fun _ _ _ e => e))
  go_wp2_with fail
  go_ret
  exact ⟨by first | rfl | simp, BB1.out⟩

set_option maxHeartbeats 8000000 in
set_option maxRecDepth 100000 in
theorem sameRspY (e k : Int) (fm1 fm2 : Nat → FM) (w : World) (hk : ∀ i, i < 4 → (fm1 i).fv.kd = kdA i) (hf : ∀ i, i < 4 → (fm1 i).fv = (fm2 i).fv) (hm1 : ∀ i, i < 4 → (fm1 i).mem w) (hm2 : ∀ i, i < 4 → (fm2 i).mem w) :
    Calls Tryz.prog 22 #[.agg (cA e k fm1).toArray, .agg (cA e k fm2).toArray] w (YesP w) := by
  obtain ⟨a0, c0, l0, b0, d0, y0, e0, f0, q0⟩ := se_pair (hk 0 (by omega)) (hf 0 (by omega))
  have g0 := hm1 0 (by omega)
  have h0 := hm2 0 (by omega)
  rw [e0] at g0
  rw [f0] at h0
  obtain ⟨a1, c1, l1, b1, d1, y1, e1, f1, q1⟩ := ro_pair (hk 1 (by omega)) (hf 1 (by omega))
  have g1 := hm1 1 (by omega)
  have h1 := hm2 1 (by omega)
  rw [e1] at g1
  rw [f1] at h1
  obtain ⟨m2, e2, f2⟩ := nu_pair (hk 2 (by omega)) (hf 2 (by omega))
  have g2 := hm1 2 (by omega)
  have h2 := hm2 2 (by omega)
  rw [e2] at g2
  rw [f2] at h2
  obtain ⟨a3, c3, b3, d3, l3, e3, f3⟩ := ts_pair (hk 3 (by omega)) (hf 3 (by omega))
  have g3 := hm1 3 (by omega)
  have h3 := hm2 3 (by omega)
  rw [e3] at g3
  rw [f3] at h3
  obtain ⟨w2, hw2, B1, B2, bl, hz⟩ := two_new w 57 57 (cA e k fm1) (cA e k fm2)
  have u0 : w2.cell? ⟨w.heap.size, 0, none⟩ = some (.int .i64 e) := B1.cell 0
  have v0 : w2.cell? ⟨w.heap.size + 1, 0, none⟩ = some (.int .i64 e) := B2.cell 0
  have u1 : w2.cell? ⟨w.heap.size, 1, none⟩ = some (.int .i64 k) := B1.cell 1
  have v1 : w2.cell? ⟨w.heap.size + 1, 1, none⟩ = some (.int .i64 k) := B2.cell 1
  have u2 : w2.cell? ⟨w.heap.size, 2, none⟩ = some (fm1 0).val := by rw [B1.cell]; exact cA_at e k fm1 0 (by omega)
  have v2 : w2.cell? ⟨w.heap.size + 1, 2, none⟩ = some (fm2 0).val := by rw [B2.cell]; exact cA_at e k fm2 0 (by omega)
  rw [e0] at u2
  rw [f0] at v2
  simp only [FM.val] at u2 v2
  have u3 : w2.cell? ⟨w.heap.size, 3, none⟩ = some (fm1 1).val := by rw [B1.cell]; exact cA_at e k fm1 1 (by omega)
  have v3 : w2.cell? ⟨w.heap.size + 1, 3, none⟩ = some (fm2 1).val := by rw [B2.cell]; exact cA_at e k fm2 1 (by omega)
  rw [e1] at u3
  rw [f1] at v3
  simp only [FM.val] at u3 v3
  have u4 : w2.cell? ⟨w.heap.size, 4, none⟩ = some (fm1 2).val := by rw [B1.cell]; exact cA_at e k fm1 2 (by omega)
  have v4 : w2.cell? ⟨w.heap.size + 1, 4, none⟩ = some (fm2 2).val := by rw [B2.cell]; exact cA_at e k fm2 2 (by omega)
  rw [e2] at u4
  rw [f2] at v4
  simp only [FM.val] at u4 v4
  have u5 : w2.cell? ⟨w.heap.size, 5, none⟩ = some (fm1 3).val := by rw [B1.cell]; exact cA_at e k fm1 3 (by omega)
  have v5 : w2.cell? ⟨w.heap.size + 1, 5, none⟩ = some (fm2 3).val := by rw [B2.cell]; exact cA_at e k fm2 3 (by omega)
  rw [e3] at u5
  rw [f3] at v5
  simp only [FM.val] at u5 v5
  have hlen0 : y0.length = l0.length := by have := congrArg List.length q0; simpa using this.symm
  rw [hlen0] at v2
  have HC0 : Hid (∀ wx, Below w.heap.size w wx → Calls Tryz.prog 32 #[.slice a0 l0.length c0, .slice b0 l0.length d0] wx (YesP wx)) := hidden (fun wx hb => sameSeriesY a0 b0 _ c0 d0 l0 y0 wx (g0.2.1.later hb) (h0.2.1.later hb) (fun x hx => (g0.2.2 x hx).later hb) (fun x hx => (h0.2.2 x hx).later hb) q0 rfl g0.1)
  have hlen1 : y1.length = l1.length := by have := congrArg List.length q1; simpa using this.symm
  rw [hlen1] at v3
  have HC1 : Hid (∀ wx, Below w.heap.size w wx → Calls Tryz.prog 50 #[.slice a1 l1.length c1, .slice b1 l1.length d1] wx (YesP wx)) := hidden (fun wx hb => sameRowsY a1 b1 _ c1 d1 l1 y1 wx (g1.2.1.later hb) (h1.2.1.later hb) (fun x hx => (g1.2.2 x hx).later hb) (fun x hx => (h1.2.2 x hx).later hb) q1 rfl g1.1)
  have HC3 : Hid (∀ wx, Below w.heap.size w wx → Calls Tryz.prog 51 #[.slice a3 l3.length c3, .slice b3 l3.length d3] wx (YesP wx)) := hidden (fun wx hb => sameTextsY a3 b3 _ c3 d3 l3 wx (g3.2.later hb) (h3.2.later hb) rfl g3.1)
  obtain ⟨N0, hN0⟩ : ∃ N, l0.length = N := ⟨_, rfl⟩
  rw [hN0] at HC0 u2 v2
  obtain ⟨N1, hN1⟩ : ∃ N, l1.length = N := ⟨_, rfl⟩
  rw [hN1] at HC1 u3 v3
  obtain ⟨N3, hN3⟩ : ∃ N, l3.length = N := ⟨_, rfl⟩
  rw [hN3] at HC3 u5 v5
  have HBL := hidden bl
  have HALL := hidden (And.intro u0 (And.intro u1 (And.intro u2 (And.intro u3 (And.intro u4 (And.intro u5 (And.intro v0 (And.intro v1 (And.intro v2 (And.intro v3 (And.intro v4 (v5))))))))))))
  clear g0 h0 e0 f0 g1 h1 e1 f1 g2 h2 e2 f2 g3 h3 e3 f3 B1 B2 hk hf hm1 hm2 hlen0 hlen1 hN0 hN1 hN3 u0 u1 u2 u3 u4 u5 v0 v1 v2 v3 v4 v5
  obtain ⟨u0, u1, u2, u3, u4, u5, v0, v1, v2, v3, v4, v5⟩ := HALL.out
  go_enter Tryz.func22, Tryz.ntmps22
  go_wp2_with fail
  try rw [hw2]
  refine (HC0.out _ HBL.out).mono ?_
  rintro en x0 ⟨rfl, bb0⟩
  have BB0 : Hid (Below w.heap.size w x0) := hidden (HBL.out.trans (bb0.mono HBL.out.size))
  have BX0 : Hid (Below w2.heap.size w2 x0) := hidden (bb0)
  clear u0 u1 u2 u3 u4 u5 v0 v1 v2 v3 v4 v5 bb0
  obtain ⟨u0, u1, u2, u3, u4, u5, v0, v1, v2, v3, v4, v5⟩ := HALL.out
  replace u0 := lat_cell BX0.out u0
  replace u1 := lat_cell BX0.out u1
  replace u2 := lat_cell BX0.out u2
  replace u3 := lat_cell BX0.out u3
  replace u4 := lat_cell BX0.out u4
  replace u5 := lat_cell BX0.out u5
  replace v0 := lat_cell BX0.out v0
  replace v1 := lat_cell BX0.out v1
  replace v2 := lat_cell BX0.out v2
  replace v3 := lat_cell BX0.out v3
  replace v4 := lat_cell BX0.out v4
  replace v5 := lat_cell BX0.out v5
  go_wp2_with fail
  refine (HC1.out _ BB0.out).mono ?_
  rintro en x1 ⟨rfl, bb1⟩
  have BB1 : Hid (Below w.heap.size w x1) := hidden (BB0.out.trans (bb1.mono BB0.out.size))
  have BX1 : Hid (Below w2.heap.size w2 x1) := hidden (BX0.out.trans (bb1.mono BX0.out.size))
  clear u0 u1 u2 u3 u4 u5 v0 v1 v2 v3 v4 v5 bb1
  obtain ⟨u0, u1, u2, u3, u4, u5, v0, v1, v2, v3, v4, v5⟩ := HALL.out
  replace u0 := lat_cell BX1.out u0
  replace u1 := lat_cell BX1.out u1
  replace u2 := lat_cell BX1.out u2
  replace u3 := lat_cell BX1.out u3
  replace u4 := lat_cell BX1.out u4
  replace u5 := lat_cell BX1.out u5
  replace v0 := lat_cell BX1.out v0
  replace v1 := lat_cell BX1.out v1
  replace v2 := lat_cell BX1.out v2
  replace v3 := lat_cell BX1.out v3
  replace v4 := lat_cell BX1.out v4
  replace v5 := lat_cell BX1.out v5
  go_wp2_with fail
  refine (HC3.out _ BB1.out).mono ?_
  rintro en x2 ⟨rfl, bb2⟩
  have BB2 : Hid (Below w.heap.size w x2) := hidden (BB1.out.trans (bb2.mono BB1.out.size))
  have BX2 : Hid (Below w2.heap.size w2 x2) := hidden (BX1.out.trans (bb2.mono BX1.out.size))
  clear u0 u1 u2 u3 u4 u5 v0 v1 v2 v3 v4 v5 bb2
  obtain ⟨u0, u1, u2, u3, u4, u5, v0, v1, v2, v3, v4, v5⟩ := HALL.out
  replace u0 := lat_cell BX2.out u0
  replace u1 := lat_cell BX2.out u1
  replace u2 := lat_cell BX2.out u2
  replace u3 := lat_cell BX2.out u3
  replace u4 := lat_cell BX2.out u4
  replace u5 := lat_cell BX2.out u5
  replace v0 := lat_cell BX2.out v0
  replace v1 := lat_cell BX2.out v1
  replace v2 := lat_cell BX2.out v2
  replace v3 := lat_cell BX2.out v3
  replace v4 := lat_cell BX2.out v4
  replace v5 := lat_cell BX2.out v5
  go_wp2_with fail
  go_ret
  exact ⟨by first | rfl | simp, BB2.out⟩

theorem heavyP (ad : Option Addr) (N c : Nat) (most : Int) (l : List Ser) (w : World) (hE : Es w ad 2 (l.map Ser.cells)) (hN : l.length = N) (hN9 : N ≤ 9223372036854775807) :
    Calls Tryz.prog 10 #[.slice ad N c, .int .i64 most] w fun e w' => ∃ z : Bool, e = .returned (.bool z) ∧ Below w.heap.size w w' := by
  have HE := hidden hE
  have HN := hidden hN
  clear hE hN
  by_cases hm : (N : Int) > most
  · go_enter Tryz.func10, Tryz.ntmps10
    go_wp2_with fail
    go_ret
    exact ⟨_, rfl, Below.refl _ _⟩
  go_enter Tryz.func10, Tryz.ntmps10
  go_wp2_with fail
  go_loopw [5, 6] (fun v5 v6 wx => ∃ i : Nat, ∃ z : Int, v6 = .int .i64 (i : Int) ∧ v5 = .int .i64 z ∧ i ≤ N ∧ Hid (Below w.heap.size w wx)) (fun _ v6 _ => N - (intOf v6).toNat)
  case atStart => exact ⟨0, 0, rfl, rfl, by omega, hidden (Below.refl _ _)⟩
  case round =>
    obtain ⟨i, z, rfl, rfl, hi, hI⟩ := hrel
    by_cases hin : i < N
    · obtain ⟨x, hx⟩ : ∃ x, l[i]? = some x := ⟨l[i]'(by have := HN.out; omega), by simp⟩
      have hxm : (l.map Ser.cells)[i]? = some [.slice x.la x.ln x.lc, .slice x.sa x.sn x.sc] := by rw [List.getElem?_map, hx]; rfl
      obtain ⟨b1, o1, rfl, hb1, hcell1⟩ := (HE.out.later hI.out) (by intro h0; rw [h0] at hxm; simp at hxm)
      have c0 := hcell1 i _ hxm 0 _ rfl
      have c1 := hcell1 i _ hxm 1 _ rfl
      rw [Nat.add_zero] at c0
      have hin' : (i : Int) < (N : Int) := by omega
      clear hcell1 hx hb1 hxm
      generalize x.ln = ln at *
      generalize x.sn = sn at *
      obtain ⟨z2, hz2⟩ : ∃ z2, wrap64 (wrap64 (z + (ln : Int)) + (sn : Int)) = z2 := ⟨_, rfl⟩
      go_wp2_with fail
      go_quiet (fail)
      rw [hz2]
      by_cases hbig : z2 > 100000
      · go_wp2_with fail
        go_ret
        exact ⟨_, rfl, below_drewN hI.out nq⟩
      · go_wp2_with fail
        refine ⟨⟨i + 1, z2, by first | rfl | simp, rfl, by omega, hidden (below_drewN hI.out nq)⟩, ?_⟩
        show N - ((i : Int) + 1).toNat < N - (i : Int).toNat
        omega
    · obtain rfl : i = N := by omega
      go_wp2_with fail
      go_ret
      exact ⟨_, rfl, hI.out⟩

end Go.Proofs.YtalmpmhnkilalaaGreatDoor
