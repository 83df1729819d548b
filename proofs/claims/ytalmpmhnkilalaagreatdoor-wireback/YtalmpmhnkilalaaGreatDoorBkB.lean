/-
  WireBack: are two lists of series, of rows, one?
-/
import Derived.Test.YtalmpmhnkilalaaGreatDoorRqO
import Derived.Deep.CutRange
namespace Go.Proofs.YtalmpmhnkilalaaGreatDoor
open Go Go.RowKit
set_option linter.unusedVariables false
set_option linter.unusedSimpArgs false

theorem ss_es {w : World} {ad : Option Addr} {l : List Sm} (h : Ss w ad l) : Es w ad 2 (l.map encS) := by
  intro h0
  have h1 : l ≠ [] := fun e => h0 (by rw [e]; rfl)
  obtain ⟨b, off, e, hlt, hc⟩ := h.at' h1
  refine ⟨b, off, e, hlt, fun i x hx j v hv => ?_⟩
  rw [List.getElem?_map] at hx
  cases hxi : l[i]? with
  | none => rw [hxi] at hx; cases hx
  | some y =>
    rw [hxi] at hx
    simp at hx
    subst hx
    have hk := hc i y hxi
    match j, hv with
    | 0, hv => simp [encS] at hv; subst hv; exact hk.1
    | 1, hv => simp [encS] at hv; subst hv; exact hk.2
    | j + 2, hv => simp [encS] at hv
theorem map_at {α β : Type} {pr : α → β} {xs ys : List α} (h : xs.map pr = ys.map pr) {i : Nat} {x : α} (hx : xs[i]? = some x) : ∃ y, ys[i]? = some y ∧ pr y = pr x := by
  have h2 := congrArg (fun l => l[i]?) h
  simp only [List.getElem?_map, hx, Option.map_some] at h2
  cases hy : ys[i]? with
  | none => rw [hy] at h2; cases h2
  | some y => rw [hy] at h2; simp at h2; exact ⟨y, rfl, h2.symm⟩

set_option maxHeartbeats 2000000 in
set_option maxRecDepth 8000 in
theorem sameSeriesY (a1 a2 : Option Addr) (N c1 c2 : Nat) (xs ys : List Ser) (w : World) (h1 : Es w a1 2 (xs.map Ser.cells)) (h2 : Es w a2 2 (ys.map Ser.cells)) (m1 : ∀ x ∈ xs, SerN w x) (m2 : ∀ x ∈ ys, SerN w x) (he : xs.map prS = ys.map prS) (hN : xs.length = N) (hN9 : N ≤ 9223372036854775807) :
    Calls Tryz.prog 32 #[.slice a1 N c1, .slice a2 N c2] w (YesP w) := by
  have H1 := hidden h1
  have H2 := hidden h2
  have HN := hidden hN
  have M1 := hidden m1
  have M2 := hidden m2
  have HE := hidden he
  clear h1 h2 hN m1 m2 he
  go_enter Tryz.func32, Tryz.ntmps32
  go_wp2_with fail
  go_loopw [5, 6, 7] (fun v5 v6 v7 wx => ∃ i : Nat, v5 = .int .i64 (i : Int) ∧ i ≤ N ∧ Hid (Below w.heap.size w wx)) (fun v5 _ _ _ => N - (intOf v5).toNat)
  case atStart => exact ⟨0, rfl, by omega, hidden (Below.refl _ _)⟩
  case round =>
    obtain ⟨i, rfl, hi, hI⟩ := hrel
    by_cases hin : i < N
    · obtain ⟨x, hx⟩ : ∃ x, xs[i]? = some x := ⟨xs[i]'(by have := HN.out; omega), by simp⟩
      obtain ⟨y, hy, hxy⟩ := map_at HE.out hx
      have hxm : (xs.map Ser.cells)[i]? = some [.slice x.la x.ln x.lc, .slice x.sa x.sn x.sc] := by rw [List.getElem?_map, hx]; rfl
      have hym : (ys.map Ser.cells)[i]? = some [.slice y.la y.ln y.lc, .slice y.sa y.sn y.sc] := by rw [List.getElem?_map, hy]; rfl
      obtain ⟨b1, o1, rfl, hb1, hcell1⟩ := (H1.out.later hI.out) (by intro h0; rw [h0] at hxm; simp at hxm)
      obtain ⟨b2, o2, rfl, hb2, hcell2⟩ := (H2.out.later hI.out) (by intro h0; rw [h0] at hym; simp at hym)
      have hin' : (i : Int) < (N : Int) := by omega
      have hmx := (M1.out x (List.mem_of_getElem? hx)).later hI.out
      have hmy := (M2.out y (List.mem_of_getElem? hy)).later hI.out
      have hL : x.L = y.L := (congrArg Prod.fst hxy).symm
      have hS : x.S = y.S := (congrArg Prod.snd hxy).symm
      have hln : y.ln = x.ln := by rw [← hmy.2.1, ← hmx.2.1, hL]
      have hsn : y.sn = x.sn := by rw [← hmy.2.2.2.2.1, ← hmx.2.2.2.2.1, hS]
      have HCL : Hid (∀ wx, Below wr.heap.size wr wx → Calls Tryz.prog 65 #[.slice x.la x.ln x.lc, .slice y.la x.ln y.lc] wx (YesP wx)) := hidden (fun wx hb => sameLabelsY x.la y.la x.ln x.lc y.lc x.L wx ((hmx.later hb).1) (by rw [hL]; exact (hmy.later hb).1) hmx.2.1 hmx.2.2.1)
      have HCS : Hid (∀ wx, Below wr.heap.size wr wx → Calls Tryz.prog 66 #[.slice x.sa x.sn x.sc, .slice y.sa x.sn y.sc] wx (YesP wx)) := hidden (fun wx hb => sameSamplesY x.sa y.sa x.sn x.sc y.sc x.S wx (ss_es (hmx.later hb).2.2.2.1) (by rw [hS]; exact ss_es (hmy.later hb).2.2.2.1) hmx.2.2.2.2.1 (by have := hmx.2.2.2.2.2; omega))
      have HCEL : Hid (∀ wx, Below wr.heap.size wr wx → wx.cell? ⟨b1, o1 + i * 2, none⟩ = some (.slice x.la x.ln x.lc) ∧ wx.cell? ⟨b1, o1 + i * 2 + 1, none⟩ = some (.slice x.sa x.sn x.sc) ∧ wx.cell? ⟨b2, o2 + i * 2, none⟩ = some (.slice y.la x.ln y.lc) ∧ wx.cell? ⟨b2, o2 + i * 2 + 1, none⟩ = some (.slice y.sa x.sn y.sc)) := hidden (fun wx hb => by
        have e0 := hcell1 i _ hxm 0 _ rfl
        have e1 := hcell1 i _ hxm 1 _ rfl
        have e2 := hcell2 i _ hym 0 _ rfl
        have e3 := hcell2 i _ hym 1 _ rfl
        rw [hln] at e2
        rw [hsn] at e3
        rw [Nat.add_zero] at e0 e2
        exact ⟨lat_cell hb e0, lat_cell hb e1, lat_cell hb e2, lat_cell hb e3⟩)
      generalize x.la = xla at *
      generalize x.ln = xln at *
      generalize x.lc = xlc at *
      generalize x.sa = xsa at *
      generalize x.sn = xsn at *
      generalize x.sc = xsc at *
      generalize y.la = yla at *
      generalize y.lc = ylc at *
      generalize y.sa = ysa at *
      generalize y.sc = ysc at *
      clear hcell1 hcell2 hx hy hb1 hb2 hxm hym hmx hmy hL hS hln hsn hxy
      obtain ⟨g0, g1, g2, g3⟩ := HCEL.out wr.drew ((Below.refl _ _).drew)
      obtain ⟨k0, k1, k2, k3⟩ := HCEL.out wr (Below.refl _ _)
      go_wp2_with fail
      go_cut [6] from 13 to 46 (fun s6 wx => s6 = .bool true ∧ Hid (Below wr.heap.size wr wx))
      case first =>
        go_region_with (refine (HCL.out _ (by first | exact Below.refl _ _ | exact (Below.refl _ _).drew)).mono ?_; rintro e w1 ⟨rfl, b1⟩; have HB1 := hidden (((Below.refl _ wr).drew).trans b1); clear b1)
        all_goals
          go_wp2_with fail
          go_meet
          exact ⟨rfl, HB1⟩
      case rest =>
        obtain ⟨rfl, hB1⟩ := hcut
        clear g0 g1 g2 g3 k0 k1 k2 k3
        obtain ⟨g0, g1, g2, g3⟩ := HCEL.out wc.drew (hB1.out.trans (((Below.refl _ _).drew).mono hB1.out.size))
        obtain ⟨k0, k1, k2, k3⟩ := HCEL.out wc hB1.out
        go_wp2_with fail
        go_cut [7] from 13 to 46 (fun s7 wx => s7 = .bool true ∧ Hid (Below wr.heap.size wr wx))
        case first =>
          go_region_with (refine (HCS.out _ (by first | exact hB1.out | exact hB1.out.trans (((Below.refl _ _).drew).mono hB1.out.size))).mono ?_; rintro e w1 ⟨rfl, b1⟩; have HB2 := hidden ((hB1.out.trans (((Below.refl _ wc).drew).mono hB1.out.size)).trans (b1.mono hB1.out.size)); clear b1)
          all_goals
            go_wp2_with fail
            go_meet
            exact ⟨rfl, HB2⟩
        case rest =>
          obtain ⟨rfl, hB2⟩ := hcut
          clear g0 g1 g2 g3 k0 k1 k2 k3
          go_wp2_with fail
          refine ⟨⟨i + 1, by first | rfl | simp, by omega, hidden (hI.out.trans (hB2.out.mono hI.out.size))⟩, ?_⟩
          show N - ((i : Int) + 1).toNat < N - (i : Int).toNat
          omega
    · obtain rfl : i = N := by omega
      go_wp2_with fail
      go_ret
      exact ⟨rfl, hI.out⟩

set_option maxHeartbeats 2000000 in
set_option maxRecDepth 8000 in
theorem sameRowsY (a1 a2 : Option Addr) (N c1 c2 : Nat) (xs ys : List Ror) (w : World) (h1 : Es w a1 2 (xs.map Ror.cells)) (h2 : Es w a2 2 (ys.map Ror.cells)) (m1 : ∀ x ∈ xs, RorM w x) (m2 : ∀ x ∈ ys, RorM w x) (he : xs.map prR = ys.map prR) (hN : xs.length = N) (hN9 : N ≤ 9223372036854775807) :
    Calls Tryz.prog 50 #[.slice a1 N c1, .slice a2 N c2] w (YesP w) := by
  have H1 := hidden h1
  have H2 := hidden h2
  have HN := hidden hN
  have M1 := hidden m1
  have M2 := hidden m2
  have HE := hidden he
  clear h1 h2 hN m1 m2 he
  go_enter Tryz.func50, Tryz.ntmps50
  go_wp2_with fail
  go_loopw [5, 6] (fun v5 v6 wx => ∃ i : Nat, v5 = .int .i64 (i : Int) ∧ i ≤ N ∧ Hid (Below w.heap.size w wx)) (fun v5 _ _ => N - (intOf v5).toNat)
  case atStart => exact ⟨0, rfl, by omega, hidden (Below.refl _ _)⟩
  case round =>
    obtain ⟨i, rfl, hi, hI⟩ := hrel
    by_cases hin : i < N
    · obtain ⟨x, hx⟩ : ∃ x, xs[i]? = some x := ⟨xs[i]'(by have := HN.out; omega), by simp⟩
      obtain ⟨y, hy, hxy⟩ := map_at HE.out hx
      have hxm : (xs.map Ror.cells)[i]? = some [.slice x.la x.ln x.lc, .int .u64 (x.n : Int)] := by rw [List.getElem?_map, hx]; rfl
      have hym : (ys.map Ror.cells)[i]? = some [.slice y.la y.ln y.lc, .int .u64 (y.n : Int)] := by rw [List.getElem?_map, hy]; rfl
      obtain ⟨b1, o1, rfl, hb1, hcell1⟩ := (H1.out.later hI.out) (by intro h0; rw [h0] at hxm; simp at hxm)
      obtain ⟨b2, o2, rfl, hb2, hcell2⟩ := (H2.out.later hI.out) (by intro h0; rw [h0] at hym; simp at hym)
      have hin' : (i : Int) < (N : Int) := by omega
      have hmx := (M1.out x (List.mem_of_getElem? hx)).later hI.out
      have hmy := (M2.out y (List.mem_of_getElem? hy)).later hI.out
      have hL : x.L = y.L := (congrArg Prod.fst hxy).symm
      have hn : y.n = x.n := congrArg Prod.snd hxy
      have hln : y.ln = x.ln := by rw [← hmy.2.1, ← hmx.2.1, hL]
      have HCL : Hid (∀ wx, Below wr.heap.size wr wx → Calls Tryz.prog 65 #[.slice x.la x.ln x.lc, .slice y.la x.ln y.lc] wx (YesP wx)) := hidden (fun wx hb => sameLabelsY x.la y.la x.ln x.lc y.lc x.L wx ((hmx.later hb).1) (by rw [hL]; exact (hmy.later hb).1) hmx.2.1 hmx.2.2.1)
      have HCEL : Hid (∀ wx, Below wr.heap.size wr wx → wx.cell? ⟨b1, o1 + i * 2, none⟩ = some (.slice x.la x.ln x.lc) ∧ wx.cell? ⟨b1, o1 + i * 2 + 1, none⟩ = some (.int .u64 (x.n : Int)) ∧ wx.cell? ⟨b2, o2 + i * 2, none⟩ = some (.slice y.la x.ln y.lc) ∧ wx.cell? ⟨b2, o2 + i * 2 + 1, none⟩ = some (.int .u64 (x.n : Int))) := hidden (fun wx hb => by
        have e0 := hcell1 i _ hxm 0 _ rfl
        have e1 := hcell1 i _ hxm 1 _ rfl
        have e2 := hcell2 i _ hym 0 _ rfl
        have e3 := hcell2 i _ hym 1 _ rfl
        rw [hln] at e2
        rw [hn] at e3
        rw [Nat.add_zero] at e0 e2
        exact ⟨lat_cell hb e0, lat_cell hb e1, lat_cell hb e2, lat_cell hb e3⟩)
      generalize x.la = xla at *
      generalize x.ln = xln at *
      generalize x.lc = xlc at *
      generalize x.n = xn at *
      generalize y.la = yla at *
      generalize y.lc = ylc at *
      clear hcell1 hcell2 hx hy hb1 hb2 hxm hym hmx hmy hL hn hln hxy
      obtain ⟨g0, g1, g2, g3⟩ := HCEL.out wr.drew ((Below.refl _ _).drew)
      obtain ⟨k0, k1, k2, k3⟩ := HCEL.out wr (Below.refl _ _)
      go_wp2_with fail
      go_cut [6] from 12 to 43 (fun s6 wx => s6 = .bool true ∧ Hid (Below wr.heap.size wr wx))
      case first =>
        go_region_with (refine (HCL.out _ (by first | exact Below.refl _ _ | exact (Below.refl _ _).drew)).mono ?_; rintro e w1 ⟨rfl, b1⟩; have HB1 := hidden (((Below.refl _ wr).drew).trans b1); clear b1)
        all_goals
          go_wp2_with fail
          go_meet
          exact ⟨rfl, HB1⟩
      case rest =>
        obtain ⟨rfl, hB1⟩ := hcut
        clear g0 g1 g2 g3 k0 k1 k2 k3
        obtain ⟨k0, k1, k2, k3⟩ := HCEL.out wc hB1.out
        go_wp2_with fail
        go_quiet (fail)
        go_wp2_with fail
        refine ⟨⟨i + 1, by first | rfl | simp, by omega, hidden (below_drewN (hI.out.trans (hB1.out.mono hI.out.size)) nq)⟩, ?_⟩
        show N - ((i : Int) + 1).toNat < N - (i : Int).toNat
        omega
    · obtain rfl : i = N := by omega
      go_wp2_with fail
      go_ret
      exact ⟨rfl, hI.out⟩

end Go.Proofs.YtalmpmhnkilalaaGreatDoor
