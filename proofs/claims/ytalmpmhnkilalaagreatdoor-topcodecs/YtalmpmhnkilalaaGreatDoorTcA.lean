/-
  TopCodecs: pick; are two lists one? By gentca20.py.
-/
import Derived.Test.YtalmpmhnkilalaaGreatDoorBkB
namespace Go.Proofs.YtalmpmhnkilalaaGreatDoor
open Go Go.RowKit
set_option linter.unusedVariables false
set_option linter.unusedSimpArgs false

theorem pickP (x k : Int) (hk : 0 < k) (hk2 : k ≤ 9223372036854775807) (hx : -9223372036854775808 ≤ x ∧ x ≤ 9223372036854775807) (w : World) :
    Calls Tryz.prog 84 #[.int .i64 x, .int .i64 k] w fun e w' => (∃ r : Nat, (r : Int) < k ∧ e = .returned (.int .i64 (r : Int))) ∧ w' = w := by
  have hk0 : ¬ k = 0 := by omega
  have hkn : ¬ k = -1 := by omega
  by_cases h : x < 0
  · have e : Int.tmod (-(x + 1)) k = (-(x + 1)) % k := Int.tmod_eq_emod_of_nonneg (by omega)
    have h1 := Int.emod_nonneg (-(x + 1)) hk0
    have h2 := Int.emod_lt_of_pos (-(x + 1)) hk
    obtain ⟨r, hr⟩ : ∃ r : Nat, (-(x + 1)).tmod k = (r : Int) := ⟨((-(x + 1)) % k).toNat, by omega⟩
    have HR : Hid ((r : Int) < k) := hidden (by omega)
    clear e h1 h2
    go_enter Tryz.func84, Tryz.ntmps84
    go_wp2_with fail
    go_ret
    exact ⟨⟨r, HR.out, by first | rfl | rw [hr]⟩, rfl⟩
  · have e : Int.tmod x k = x % k := Int.tmod_eq_emod_of_nonneg (by omega)
    have h1 := Int.emod_nonneg x hk0
    have h2 := Int.emod_lt_of_pos x hk
    obtain ⟨r, hr⟩ : ∃ r : Nat, x.tmod k = (r : Int) := ⟨(x % k).toNat, by omega⟩
    have HR : Hid ((r : Int) < k) := hidden (by omega)
    clear e h1 h2
    go_enter Tryz.func84, Tryz.ntmps84
    go_wp2_with fail
    go_ret
    exact ⟨⟨r, HR.out, by first | rfl | rw [hr]⟩, rfl⟩

set_option maxHeartbeats 2000000 in
set_option maxRecDepth 8000 in
theorem sameMatchersT (a1 a2 : Option Addr) (N c1 c2 : Nat) (l : List Ma) (w : World) (h1 : Es w a1 3 (l.map Ma.cells)) (h2 : Es w a2 3 (l.map Ma.cells)) (hN : l.length = N) (hN9 : N ≤ 9223372036854775807) :
    Calls Tryz.prog 82 #[.slice a1 N c1, .slice a2 N c2] w (YesP w) := by
  have H1 := hidden h1
  have H2 := hidden h2
  have HN := hidden hN
  clear h1 h2 hN
  go_enter Tryz.func82, Tryz.ntmps82
  go_wp2_with fail
  go_loopw [5] (fun v5 wx => ∃ i : Nat, v5 = .int .i64 (i : Int) ∧ i ≤ N ∧ Hid (Below w.heap.size w wx)) (fun v5 _ => N - (intOf v5).toNat)
  case atStart => exact ⟨0, rfl, by omega, hidden (Below.refl _ _)⟩
  case round =>
    obtain ⟨i, rfl, hi, hI⟩ := hrel
    by_cases hin : i < N
    · obtain ⟨x, hx⟩ : ∃ x, l[i]? = some x := ⟨l[i]'(by have := HN.out; omega), by simp⟩
      have hxm : (l.map Ma.cells)[i]? = some [.string x.n, .int .i64 x.op, .string x.t] := by rw [List.getElem?_map, hx]; rfl
      obtain ⟨b1, o1, rfl, hb1, hcell1⟩ := (H1.out.later hI.out) (by intro h0; rw [h0] at hxm; simp at hxm)
      obtain ⟨b2, o2, rfl, hb2, hcell2⟩ := (H2.out.later hI.out) (by intro h0; rw [h0] at hxm; simp at hxm)
      have hin' : (i : Int) < (N : Int) := by omega
      have c0 := hcell1 i _ hxm 0 _ rfl
      have d0 := hcell2 i _ hxm 0 _ rfl
      have c1 := hcell1 i _ hxm 1 _ rfl
      have d1 := hcell2 i _ hxm 1 _ rfl
      have c2 := hcell1 i _ hxm 2 _ rfl
      have d2 := hcell2 i _ hxm 2 _ rfl
      rw [Nat.add_zero] at c0 d0
      clear hcell1 hcell2 hx hb1 hb2 hxm
      go_wp2_with fail
      go_quiet (fail)
      go_wp2_with fail
      refine ⟨⟨i + 1, by first | rfl | simp, by omega, hidden (below_drewN hI.out nq)⟩, ?_⟩
      show N - ((i : Int) + 1).toNat < N - (i : Int).toNat
      omega
    · obtain rfl : i = N := by omega
      go_wp2_with fail
      go_ret
      exact ⟨rfl, hI.out⟩

set_option maxHeartbeats 4000000 in
set_option maxRecDepth 20000 in
theorem alikeY (la lb sa sb : Option Addr) (ln lc ld sn sc sd : Nat) (L : List La) (M : List Sm) (w : World) (h1 : Es w la 2 (L.map La.cells)) (h2 : Es w lb 2 (L.map La.cells)) (h3 : Es w sa 2 (M.map encS)) (h4 : Es w sb 2 (M.map encS)) (hL : L.length = ln) (hL9 : ln ≤ 9223372036854775807) (hM : M.length = sn) (hM9 : sn ≤ 9223372036854775807) :
    Calls Tryz.prog 85 #[.agg #[.slice la ln lc, .slice sa sn sc], .agg #[.slice lb ln ld, .slice sb sn sd]] w (YesP w) := by
  have H1 := hidden h1
  have H2 := hidden h2
  have H3 := hidden h3
  have H4 := hidden h4
  have HL := hidden hL
  have HM := hidden hM
  obtain ⟨w2, hw2, B1, B2, bl, hz⟩ := two_new w 45 45 [.slice la ln lc, .slice sa sn sc] [.slice lb ln ld, .slice sb sn sd]
  have HCEL : Hid (∀ wx, Below w2.heap.size w2 wx → wx.cell? ⟨w.heap.size, 0, none⟩ = some (.slice la ln lc) ∧ wx.cell? ⟨w.heap.size, 1, none⟩ = some (.slice sa sn sc) ∧ wx.cell? ⟨w.heap.size + 1, 0, none⟩ = some (.slice lb ln ld) ∧ wx.cell? ⟨w.heap.size + 1, 1, none⟩ = some (.slice sb sn sd)) := hidden (fun wx hb => ⟨lat_cell hb (B1.cell 0), lat_cell hb (B1.cell 1), lat_cell hb (B2.cell 0), lat_cell hb (B2.cell 1)⟩)
  have HBL := hidden bl
  obtain ⟨k0, k1, k2, k3⟩ := HCEL.out w2 (Below.refl _ _)
  clear h1 h2 h3 h4 hL hM B1 B2 bl
  go_enter Tryz.func85, Tryz.ntmps85
  go_wp2_with fail
  try rw [hw2]
  go_wp2_with fail
  clear k0 k1 k2 k3
  go_loopw [5] (fun v5 wx => ∃ i : Nat, v5 = .int .i64 (i : Int) ∧ i ≤ ln ∧ Hid (Below w2.heap.size w2 wx)) (fun v5 _ => ln - (intOf v5).toNat)
  case atStart => exact ⟨0, rfl, by omega, hidden (Below.refl _ _)⟩
  case round =>
    obtain ⟨i, rfl, hi, hI⟩ := hrel
    obtain ⟨k0, k1, k2, k3⟩ := HCEL.out wr hI.out
    have HW : Hid (Below w.heap.size w wr) := hidden (HBL.out.trans (hI.out.mono HBL.out.size))
    by_cases hin : i < ln
    · obtain ⟨x, hx⟩ : ∃ x, L[i]? = some x := ⟨L[i]'(by have := HL.out; omega), by simp⟩
      have hxm : (L.map La.cells)[i]? = some [.string x.n, .string x.v] := by rw [List.getElem?_map, hx]; rfl
      obtain ⟨b1, o1, rfl, hb1, hcell1⟩ := (H1.out.later HW.out) (by intro h0; rw [h0] at hxm; simp at hxm)
      obtain ⟨b2, o2, rfl, hb2, hcell2⟩ := (H2.out.later HW.out) (by intro h0; rw [h0] at hxm; simp at hxm)
      have hin' : (i : Int) < (ln : Int) := by omega
      have c0 := hcell1 i _ hxm 0 _ rfl
      have d0 := hcell2 i _ hxm 0 _ rfl
      have c1 := hcell1 i _ hxm 1 _ rfl
      have d1 := hcell2 i _ hxm 1 _ rfl
      rw [Nat.add_zero] at c0 d0
      clear hcell1 hcell2 hx hb1 hb2 hxm
      go_wp2_with fail
      go_quiet (fail)
      go_wp2_with fail
      refine ⟨⟨i + 1, by first | rfl | simp, by omega, hidden (below_drewN hI.out nq)⟩, ?_⟩
      show ln - ((i : Int) + 1).toNat < ln - (i : Int).toNat
      omega
    · obtain rfl : i = ln := by omega
      clear hin hi
      go_wp2_with fail
      have HI := hI
      clear hI k0 k1 k2 k3 HW
      obtain ⟨wq, hwq⟩ : ∃ wq, wr = wq := ⟨_, rfl⟩
      rw [hwq] at HI
      rw [hwq]
      clear hwq
      go_loopw [6] (fun v6 wx => ∃ j : Nat, v6 = .int .i64 (j : Int) ∧ j ≤ sn ∧ Hid (Below w2.heap.size w2 wx)) (fun v6 _ => sn - (intOf v6).toNat)
      case atStart => exact ⟨0, rfl, by omega, HI⟩
      case round =>
        obtain ⟨j, rfl, hj, hJ⟩ := hrel
        obtain ⟨k0, k1, k2, k3⟩ := HCEL.out _ hJ.out
        have HW := hidden (HBL.out.trans (hJ.out.mono HBL.out.size))
        by_cases hjn : j < sn
        · obtain ⟨x, hx⟩ : ∃ x, M[j]? = some x := ⟨M[j]'(by have := HM.out; omega), by simp⟩
          have hxm : (M.map encS)[j]? = some [.int .i64 x.t, .int .u64 (x.v : Int)] := by rw [List.getElem?_map, hx]; rfl
          obtain ⟨b1, o1, rfl, hb1, hcell1⟩ := (H3.out.later HW.out) (by intro h0; rw [h0] at hxm; simp at hxm)
          obtain ⟨b2, o2, rfl, hb2, hcell2⟩ := (H4.out.later HW.out) (by intro h0; rw [h0] at hxm; simp at hxm)
          have hjn' : (j : Int) < (sn : Int) := by omega
          have c0 := hcell1 j _ hxm 0 _ rfl
          have d0 := hcell2 j _ hxm 0 _ rfl
          have c1 := hcell1 j _ hxm 1 _ rfl
          have d1 := hcell2 j _ hxm 1 _ rfl
          rw [Nat.add_zero] at c0 d0
          clear hcell1 hcell2 hx hb1 hb2 hxm
          go_wp2_with fail
          go_quiet (fail)
          go_wp2_with fail
          refine ⟨⟨j + 1, by first | rfl | simp, by omega, hidden (below_drewN hJ.out nq)⟩, ?_⟩
          show sn - ((j : Int) + 1).toNat < sn - (j : Int).toNat
          omega
        · obtain rfl : j = sn := by omega
          go_wp2_with fail
          go_ret
          exact ⟨rfl, HW.out⟩

set_option maxHeartbeats 4000000 in
set_option maxRecDepth 20000 in
theorem sameSeriesT (a1 a2 : Option Addr) (N c1 c2 : Nat) (xs ys : List Ser) (w : World) (h1 : Es w a1 2 (xs.map Ser.cells)) (h2 : Es w a2 2 (ys.map Ser.cells)) (m1 : ∀ x ∈ xs, SerN w x) (m2 : ∀ x ∈ ys, SerN w x) (he : xs.map prS = ys.map prS) (hN : xs.length = N) (hN9 : N ≤ 9223372036854775807) :
    Calls Tryz.prog 83 #[.slice a1 N c1, .slice a2 N c2] w (YesP w) := by
  have H1 := hidden h1
  have H2 := hidden h2
  have HN := hidden hN
  have M1 := hidden m1
  have M2 := hidden m2
  have HE := hidden he
  clear h1 h2 hN m1 m2 he
  go_enter Tryz.func83, Tryz.ntmps83
  go_wp2_with fail
  go_loopw [5, 6] (fun v5 v6 wx => ∃ i : Nat, v5 = .int .i64 (i : Int) ∧ i ≤ N ∧ Hid (Below w.heap.size w wx)) (fun v5 _ _ => N - (intOf v5).toNat)
  case atStart => exact ⟨0, rfl, by omega, hidden (Below.refl _ _)⟩
  case round =>
    obtain ⟨i, rfl, hi, hI⟩ := hrel
    by_cases hin : i < N
    · obtain ⟨x, hx⟩ : ∃ x, xs[i]? = some x := ⟨xs[i]'(by have := HN.out; omega), by simp⟩
      obtain ⟨y, hy, hxy⟩ := map_at HE.out hx
      have hxm : (xs.map Ser.cells)[i]? = some [.slice x.la x.ln x.lc, .slice x.sa x.sn x.sc] := by rw [List.getElem?_map, hx]; rfl
      have hym : (ys.map Ser.cells)[i]? = some [.slice y.la y.ln y.lc, .slice y.sa y.sn y.sc] := by rw [List.getElem?_map, hy]; rfl
      obtain ⟨b1, o1, rfl, hb1, hcell1⟩ := (H1.out.later hI.out) (by intro h0; rw [h0] at hxm; simp at hxm)
      obtain ⟨b2, o2, rfl, hb2, hcell2⟩ := (H2.out.later hI.out) (by intro h0; rw [h0] at hym; simp at hym)
      have hin' : (i : Int) < (N : Int) := by omega
      have hmx := (M1.out x (List.mem_of_getElem? hx)).later hI.out
      have hmy := (M2.out y (List.mem_of_getElem? hy)).later hI.out
      have hL : x.L = y.L := (congrArg Prod.fst hxy).symm
      have hS : x.S = y.S := (congrArg Prod.snd hxy).symm
      have hln : y.ln = x.ln := by rw [← hmy.2.1, ← hmx.2.1, hL]
      have hsn : y.sn = x.sn := by rw [← hmy.2.2.2.2.1, ← hmx.2.2.2.2.1, hS]
      have HCL : Hid (∀ wx, Below wr.heap.size wr wx → Calls Tryz.prog 85 #[.agg #[.slice x.la x.ln x.lc, .slice x.sa x.sn x.sc], .agg #[.slice y.la x.ln y.lc, .slice y.sa x.sn y.sc]] wx (YesP wx)) := hidden (fun wx hb => alikeY x.la y.la x.sa y.sa x.ln x.lc y.lc x.sn x.sc y.sc x.L x.S wx ((hmx.later hb).1) (by rw [hL]; exact (hmy.later hb).1) (ss_es (hmx.later hb).2.2.2.1) (by rw [hS]; exact ss_es (hmy.later hb).2.2.2.1) hmx.2.1 hmx.2.2.1 hmx.2.2.2.2.1 (by have := hmx.2.2.2.2.2; omega))
      have HCEL : Hid (∀ wx, Below wr.heap.size wr wx → wx.cell? ⟨b1, o1 + i * 2, none⟩ = some (.slice x.la x.ln x.lc) ∧ wx.cell? ⟨b1, o1 + i * 2 + 1, none⟩ = some (.slice x.sa x.sn x.sc) ∧ wx.cell? ⟨b2, o2 + i * 2, none⟩ = some (.slice y.la x.ln y.lc) ∧ wx.cell? ⟨b2, o2 + i * 2 + 1, none⟩ = some (.slice y.sa x.sn y.sc)) := hidden (fun wx hb => by
        have e0 := hcell1 i _ hxm 0 _ rfl
        have e1 := hcell1 i _ hxm 1 _ rfl
        have e2 := hcell2 i _ hym 0 _ rfl
        have e3 := hcell2 i _ hym 1 _ rfl
        rw [hln] at e2
        rw [hsn] at e3
        rw [Nat.add_zero] at e0 e2
        exact ⟨lat_cell hb e0, lat_cell hb e1, lat_cell hb e2, lat_cell hb e3⟩)
      generalize x.la = xla at *
      generalize x.ln = xln at *
      generalize x.lc = xlc at *
      generalize x.sa = xsa at *
      generalize x.sn = xsn at *
      generalize x.sc = xsc at *
      generalize y.la = yla at *
      generalize y.lc = ylc at *
      generalize y.sa = ysa at *
      generalize y.sc = ysc at *
      clear hcell1 hcell2 hx hy hb1 hb2 hxm hym hmx hmy hL hS hln hsn hxy
      obtain ⟨g0, g1, g2, g3⟩ := HCEL.out wr.drew ((Below.refl _ _).drew)
      obtain ⟨k0, k1, k2, k3⟩ := HCEL.out wr (Below.refl _ _)
      go_wp2_with fail
      go_cut [6] from 12 to 28 (fun s6 wx => s6 = .bool true ∧ Hid (Below wr.heap.size wr wx))
      case first =>
        go_region_with (refine (HCL.out _ (by first | exact Below.refl _ _ | exact (Below.refl _ _).drew)).mono ?_; rintro e w1 ⟨rfl, b1⟩; have HB1 := hidden (((Below.refl _ wr).drew).trans b1); clear b1)
        all_goals
          go_wp2_with fail
          go_meet
          exact ⟨rfl, HB1⟩
      case rest =>
        obtain ⟨rfl, hB1⟩ := hcut
        clear g0 g1 g2 g3 k0 k1 k2 k3
        go_wp2_with fail
        refine ⟨⟨i + 1, by first | rfl | simp, by omega, hidden (hI.out.trans (hB1.out.mono hI.out.size))⟩, ?_⟩
        show N - ((i : Int) + 1).toNat < N - (i : Int).toNat
        omega
    · obtain rfl : i = N := by omega
      go_wp2_with fail
      go_ret
      exact ⟨rfl, hI.out⟩

end Go.Proofs.YtalmpmhnkilalaaGreatDoor
