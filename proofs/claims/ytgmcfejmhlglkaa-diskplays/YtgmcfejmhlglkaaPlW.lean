/-
  DiskPlays' walk.
-/
import Derived.Test.YtgmcfejmhlglkaaStI
import Derived.Test.YtgmcfejmhlglkaaPlM
import Derived.Test.YtgmcfejmhlglkaaPlR
import Derived.Test.YtgmcfejmhlglkaaKpA
import Derived.Deep.CutRange
import Derived.Deep.CutBlock
namespace Go.Proofs.Ytgmcfejmhlglkaa
open Go.RowKit
set_option linter.unusedVariables false
set_option linter.unusedSimpArgs false

theorem made_pv (n : Int) (w : World) : Calls Try.prog 6 #[.int .i64 n] w fun e w' => ∃ pa F, e = .returned (.tuple #[.pointer pa, .bool true]) ∧ PV w' (.pointer pa) F (fun _ => False) 0 ∧ (∀ k, F k → w.heap.size ≤ k) ∧ Below w.heap.size w w' ∧ (1 ≤ n → n ≤ 8 → ∃ pp, pa = some ⟨pp, 0, none⟩) := by
  by_cases h : 1 ≤ n ∧ n ≤ 8
  · refine (made_any n w h.1 h.2).mono ?_
    rintro e w' ⟨m, t, rfl, h1, h2, h3, h4⟩
    exact ⟨_, _, rfl, .inr ⟨m, t, [], [], rfl, h1, rfl, ⟨by rw [h2]; exact Nat.le_refl _, fun i s hs => by simp at hs⟩, Nat.le_refl _, Nat.le_refl _⟩, h3, h4, fun _ _ => ⟨_, rfl⟩⟩
  · refine (made_none n w (by omega)).mono ?_
    rintro e w' ⟨rfl, h1⟩
    exact ⟨none, fun _ => False, rfl, .inl ⟨rfl, fun _ h => h, fun _ h => h⟩, fun _ h => h.elim, by first | exact h1 | (subst h1; exact Below.refl _ _) | (obtain ⟨h1, _⟩ := h1; exact h1), fun h1 h2 => absurd ⟨h1, h2⟩ h⟩

set_option maxRecDepth 100000 in
set_option maxHeartbeats 4000000 in
theorem plays_any (files : Int) (sa : Option Addr) (ns cs : Nat) (SS : Nat → Stp) (W : World) (hns : ns ≤ 9223372036854775807) (hscr : 0 < ns → ∃ b off, sa = some ⟨b, off, none⟩ ∧ Scr W b off ns SS) :
    Calls Try.prog 3 #[.int .i64 files, .slice sa ns cs] W fun e w' => e = .returned (.bool true) ∧ Below W.heap.size W w' := by
  have HSCR := hidden hscr
  clear hscr
  go_enter Try.func3, Try.ntmps3
  go_wp2_with fail
  refine (shown_any W).mono ?_
  rintro e w1 ⟨rfl, hb1⟩
  have HB1 := hidden hb1
  clear hb1
  go_wp2_with fail
  refine (made_pv files w1).mono ?_
  rintro e w2 ⟨pa, F1, rfl, hv1, hn1, hb2, _⟩
  have HV1 := hidden hv1
  have HN1 := hidden hn1
  have HB2 := hidden (HB1.out.trans (hb2.mono HB1.out.size))
  clear hv1 hn1 hb2
  go_wp2_with fail
  refine (made_pv 3 w2).mono ?_
  rintro e w3 ⟨pa2, F2, rfl, hv2, hn2, hb3, hp2⟩
  obtain ⟨qq, rfl⟩ := hp2 (by decide) (by decide)
  have HT : Hid (Tw W w3 (.pointer pa) (.pointer (some ⟨qq, 0, none⟩)) F1 (fun _ => False) F2 (fun _ => False) 0) := by
    have hl1 := HV1.out.lt.1
    exact ⟨HV1.out.later hb3, hv2, fun k h1 h2 => by have := hl1 k h1; have := hn2 k h2; omega, fun k _ h => h, fun k h _ => h, ⟨fun k hk => Nat.le_trans HB1.out.size (HN1.out k hk), fun k hk => Nat.le_trans HB2.out.size (hn2 k hk)⟩, HB2.out.trans (hb3.mono HB2.out.size)⟩
  clear hv2 hn2 hb3 hp2 HV1 HN1 HB1 HB2
  go_upto_block 0 with fail
  go_cut [] from 44 to 103 (fun wx => ∃ (i : Nat) (F1 Z1 F2 Z2 : Nat → Prop), i ≤ 300 ∧ Tw W wx (.pointer pa) (.pointer (some ⟨qq, 0, none⟩)) F1 Z1 F2 Z2 i)
  case first =>
    go_wp2_with fail
    go_loopw [10, 11] (fun rv iv wr => ∃ (i : Nat) (room : Int) (F1 Z1 F2 Z2 : Nat → Prop), i ≤ ns ∧ i ≤ 300 ∧ iv = .int .i64 (i : Int) ∧ rv = .int .i64 room ∧ 0 ≤ room ∧ room ≤ 2147483647 ∧ Tw W wr (.pointer pa) (.pointer (some ⟨qq, 0, none⟩)) F1 Z1 F2 Z2 i) (fun _ iv _ => 300 - (intOf iv).toNat)
    case atStart => exact ⟨0, 2147483647, F1, _, F2, _, Nat.zero_le _, by omega, rfl, rfl, by omega, by omega, HT.out⟩
    case round =>
      obtain ⟨i, room, F1, Z1, F2, Z2, hin, hi3, rfl, rfl, hr0, hr1, hT⟩ := hrel
      have HT2 := hidden hT
      clear hT
      by_cases h1 : i < ns
      · by_cases h2 : (i : Int) < 300
        · obtain ⟨b, off, hsa, hS⟩ := HSCR.out (by omega)
          subst hsa
          obtain ⟨hcell, hok⟩ := hS i h1
          have hbel := HT2.out.bel
          have hc : ∀ q u, (SS i).cells[q]? = some u → wr.cell? ⟨b, off + i * 7 + q, none⟩ = some u := fun q u hu => by
            have h3 := hcell q u hu
            rw [hbel.cell (p := ⟨b, off + i * 7 + q, none⟩) (World.block_lt_of_cell? W _ h3)]
            exact h3
          have hsl := hok.sl.later hbel
          have hsn := (Chg.of_below (F := fun _ => False) hbel).sn hok.sn (fun _ _ _ e => e)
          have hblo : ∀ x, (SS i).ba = some x → 0 < (SS i).bn → x.block < W.heap.size := hok.sl.lt
          have hklo : ∀ x, (SS i).ka = some x → 0 < (SS i).kn → x.block < W.heap.size := hok.sn.lt
          have hbb := hok.bl
          have hkb := hok.kl'
          have HOK : Hid (I64 (SS i).dd ∧ I64 (SS i).a ∧ I64 (SS i).n ∧ ((SS i).ba = none → (SS i).bn = 0 ∧ (SS i).bc = 0) ∧ ((SS i).ka = none → (SS i).kn = 0 ∧ (SS i).kc = 0)) := ⟨hok.dd, hok.a, hok.n, hok.non, hok.kone⟩
          clear hS hcell hok hbel
          generalize SS i = sp at *
          obtain ⟨kd, dd, f, a, n, ba, bn, bc, bs, ka, kn, kc, kl⟩ := sp
          dsimp only [Stp.cells] at hc hsl hsn hblo hklo hbb hkb HOK
          have k0 : wr.cell? ⟨b, off + i * 7, none⟩ = some (.int .i64 kd) := hc 0 _ rfl
          have k1 := hc 1 _ rfl
          have k2 := hc 2 _ rfl
          have k3 := hc 3 _ rfl
          have k4 := hc 4 _ rfl
          have k5 := hc 5 _ rfl
          have k6 := hc 6 _ rfl
          have HSLB := hidden hsl
          have HSNK := hidden hsn
          have HBLO := hidden hblo
          have HKLO := hidden hklo
          have HCC := hidden hc
          clear hc hsl hsn hblo hklo
          obtain ⟨r1, hr1'⟩ : ∃ r1, room - (bn : Int) = r1 := ⟨_, rfl⟩
          obtain ⟨r2, hr2'⟩ : ∃ r2, r1 - (kn : Int) = r2 := ⟨_, rfl⟩
          have hw1 : IntKind.i64.wrap r1 = r1 := by rw [IntKind.wrap_i64]; omega
          have hw2 : IntKind.i64.wrap r2 = r2 := by rw [IntKind.wrap_i64]; omega
          have HR : Hid (room - (bn : Int) = r1 ∧ r1 - (kn : Int) = r2) := ⟨hr1', hr2'⟩
          have h1i : (i : Int) < (ns : Int) := by omega
          go_upto_region 10 with fail
          go_quiet (fail)
          have hlq : Lat wr (wr.drewN nq) := below_drewN (Below.refl _ _) nq
          have HT3 := hidden (HT2.out.later hlq)
          have HSLB3 := hidden (HSLB.out.later hlq)
          have HSNK3 := hidden ((Chg.of_below (F := fun _ => False) hlq).sn HSNK.out (fun _ _ _ e => e))
          have hc3 : ∀ q u, (Stp.mk kd dd f a n ba bn bc bs ka kn kc kl).cells[q]? = some u → (wr.drewN nq).cell? ⟨b, off + i * 7 + q, none⟩ = some u := fun q u hu => by
            have h3 := HCC.out q u hu
            rw [hlq.cell (p := ⟨b, off + i * 7 + q, none⟩) (World.block_lt_of_cell? wr _ h3)]
            exact h3
          clear hlq k0 k1 k2 k3 k4 k5 k6
          generalize wr.drewN nq = wd at *
          have k0 : wd.cell? ⟨b, off + i * 7, none⟩ = some (.int .i64 kd) := hc3 0 _ rfl
          have k1 : wd.cell? ⟨b, off + i * 7 + 1, none⟩ = some (.int .i64 dd) := hc3 1 _ rfl
          have k2 : wd.cell? ⟨b, off + i * 7 + 2, none⟩ = some (.int .i64 f) := hc3 2 _ rfl
          have k3 : wd.cell? ⟨b, off + i * 7 + 3, none⟩ = some (.int .i64 a) := hc3 3 _ rfl
          have k4 : wd.cell? ⟨b, off + i * 7 + 4, none⟩ = some (.int .i64 n) := hc3 4 _ rfl
          have k5 : wd.cell? ⟨b, off + i * 7 + 5, none⟩ = some (.slice ba bn bc) := hc3 5 _ rfl
          have k6 : wd.cell? ⟨b, off + i * 7 + 6, none⟩ = some (.slice ka kn kc) := hc3 6 _ rfl
          clear hc3 HT2 HSLB HSNK HCC
          go_upto_region 12 with fail
          go_cut [80] from 44 to 103 (fun s80 wx => ∃ bb : Bool, s80 = .bool bb ∧ (bb = false → ∃ x, pa = some x) ∧ wx = wd)
          case first =>
            obtain ⟨z, hz⟩ : ∃ z, bits .and .i64 dd 1 = z := ⟨_, rfl⟩
            by_cases hz1 : z = 1
            · subst hz1
              go_wp2_with fail
              go_meet
              case rel => exact ⟨true, rfl, (fun h => by cases h), rfl⟩
            · have hz2 : (z == 1) = false := by simp [hz1]
              cases pa with
              | none =>
                go_wp2_with fail
                go_meet
                case rel => exact ⟨true, rfl, (fun h => by cases h), rfl⟩
              | some x =>
                go_wp2_with fail
                go_meet
                case rel => exact ⟨false, rfl, fun _ => ⟨x, rfl⟩, rfl⟩
          case rest =>
            obtain ⟨bb, rfl, hpa, hwc⟩ := hcut
            obtain rfl := hwc.symm
            clear hwc
            have HPA := hidden hpa
            clear hpa
            go_upto_if 80 with fail
            go_cut [12] from 44 to 103 (fun s12 wx => ∃ x, s12 = .pointer (some x) ∧ (pa = some x ∨ x = ⟨qq, 0, none⟩) ∧ wx = wd)
            case first =>
              cases bb with
              | true =>
                go_wp2_with fail
                go_meet
                case rel => exact ⟨_, rfl, .inr rfl, rfl⟩
              | false =>
                obtain ⟨x, rfl⟩ := HPA.out rfl
                go_wp2_with fail
                go_meet
                case rel => exact ⟨x, rfl, .inl rfl, rfl⟩
            case rest =>
              obtain ⟨x, rfl, hx, hwc⟩ := hcut
              obtain rfl := hwc.symm
              clear hwc HPA
              obtain ⟨vo, Fa, Za, Fo, Zo, hTa, hback⟩ : ∃ vo Fa Za Fo Zo, Tw W wd (.pointer (some x)) vo Fa Za Fo Zo i ∧ (∀ w' F' Z', Tw W w' (.pointer (some x)) vo F' Z' Fo Zo (i + 1) → ∃ F1 Z1 F2 Z2, Tw W w' (.pointer pa) (.pointer (some ⟨qq, 0, none⟩)) F1 Z1 F2 Z2 (i + 1)) := by
                rcases hx with rfl | rfl
                · exact ⟨_, _, _, _, _, HT3.out, fun w' F' Z' h => ⟨_, _, _, _, h⟩⟩
                · exact ⟨_, _, _, _, _, HT3.out.swap, fun w' F' Z' h => ⟨_, _, _, _, h.swap⟩⟩
              have HTA := hidden hTa
              have HBK := hidden hback
              clear hTa hback
              by_cases hrm : r2 < 0
              · go_wp2_with fail
                go_meet
                case rel => exact ⟨i, F1, Z1, F2, Z2, hi3, HT3.out⟩
              · rcases HTA.out.a with ⟨h0, _⟩ | ⟨m, t, st, ks, hv, hPS, hF, hFb, hks, hst⟩
                · cases h0
                · have hxm : x = ⟨m.pp, 0, none⟩ := by
                    injection hv with hv
                    exact Option.some.inj hv
                  subst hxm
                  subst hF
                  have HPS := hidden hPS
                  have HFB := hidden hFb
                  have hbn2 : bn ≤ 2147483648 := by have := HR.out; omega
                  have hkn2 : kn ≤ 2147483648 := by have := HR.out; omega
                  clear hPS hFb hv
                  go_wp2_with fail
                  refine (step_any wd m t st ks Za (2 * i) HPS.out HFB.out (by omega) kd dd f a n ba bn bc ka kn kc HOK.out.2.1 HOK.out.2.2.1 (by omega) (by omega) bs HSLB3.out HOK.out.2.2.2.1 hbn2 (fun x hx hp => ⟨Nat.lt_of_lt_of_le (HBLO.out x hx hp) HTA.out.bel.size, fun e => by have := HTA.out.new.1 _ e; have := HBLO.out x hx hp; omega⟩) kl HSNK3.out HOK.out.2.2.2.2 hkn2 (fun x hx hp => ⟨Nat.lt_of_lt_of_le (HKLO.out x hx hp) HTA.out.bel.size, fun e => by have := HTA.out.new.1 _ e; have := HKLO.out x hx hp; omega⟩)).mono ?_
                  rintro e w2 ⟨rfl, hX⟩
                  obtain ⟨F', Z', hPV, hC, hF', hZ'⟩ := pv_px hX hks hst
                  have HTB := hidden (HTA.out.step hPV hC hF' hZ')
                  rcases hPV with ⟨h0, _⟩ | ⟨m2, t2, st2, ks2, hv2, hPS2, hFF2, hFb2, hks2, hst2⟩
                  · cases h0
                  have hmp : m2.pp = m.pp := by
                    injection hv2 with hv2
                    have := Option.some.inj hv2
                    injection this with this
                    exact this.symm
                  obtain ⟨la, lc, hlv⟩ := owns_form hPS2.1.lv
                  rw [List.length_map] at hlv
                  obtain ⟨NK, hNK⟩ : ∃ NK, ks2.length = NK := ⟨_, rfl⟩
                  rw [hNK] at hlv hks2
                  have c4 : w2.cell? ⟨m.pp, 4, none⟩ = some (.slice la NK lc) := by
                    have := hPS2.1.blk.cell 4
                    rw [hmp] at this
                    rw [this, ← hlv]
                    rfl
                  have HPS2 := hidden hPS2
                  have HMP := hidden hmp
                  have HNK := hidden hNK
                  clear hX hC hF' hZ' hv2 hPS2 hFF2 hFb2 hst2 hlv hmp hNK k0 k1 k2 k3 k4 k5 k6
                  go_wp2_with fail
                  have hlk := looks_any w2 m2 t2 st2 ks2 Z' HPS2.out ((NK : Int) - 40) (by omega) (by rw [HNK.out]; omega)
                  rw [HMP.out] at hlk
                  refine hlk.mono ?_
                  rintro e w3 ⟨rfl, q3, rfl⟩
                  have HTC := hidden (HTB.out.later (below_drewN (Below.refl _ _) q3))
                  clear hlk
                  generalize w2.drewN q3 = w3 at *
                  go_wp2_with fail
                  go_roundw
                  case rel =>
                    obtain ⟨G1, Y1, G2, Y2, hh⟩ := HBK.out _ _ _ HTC.out
                    exact ⟨i + 1, r2, G1, Y1, G2, Y2, by omega, by omega, by go_num, rfl, by omega, by have := HR.out; omega, hh⟩
                  case measure => simp [intOf]; omega
        · go_wp2_with fail
          go_meet
          case rel => exact ⟨i, F1, Z1, F2, Z2, hi3, HT2.out⟩
      · go_wp2_with fail
        go_meet
        case rel => exact ⟨i, F1, Z1, F2, Z2, hi3, HT2.out⟩
  case rest =>
    obtain ⟨i, F1, Z1, F2, Z2, hi3, hT⟩ := hcut
    rename World => wc
    obtain ⟨gl, hgl⟩ : ∃ gl, wc.heap.size = gl := ⟨_, rfl⟩
    have hal := (Below.refl wc.heap.size wc).alloc (Nat.le_refl _) (.cells #[.pointer pa, .pointer (some ⟨qq, 0, none⟩)] 24)
    have HT2 := hidden (hT.later hal)
    have HG : Hid (Blk (wc.alloc (.cells #[.pointer pa, .pointer (some ⟨qq, 0, none⟩)] 24)) gl 24 [.pointer pa, .pointer (some ⟨qq, 0, none⟩)]) := by
      show Blk _ _ _ _
      rw [← hgl]
      exact Blk.new wc 24 [.pointer pa, .pointer (some ⟨qq, 0, none⟩)]
    have HGW : Hid (W.heap.size ≤ gl) := by rw [← hgl]; exact hT.bel.size
    clear hal hT
    go_wp2_with fail
    generalize wc.alloc (.cells #[.pointer pa, .pointer (some ⟨qq, 0, none⟩)] 24) = w5 at *
    go_loopw [16] (fun jv wr => ∃ j : Nat, j ≤ 2 ∧ jv = .int .i64 (j : Int) ∧ Blk wr gl 24 [.pointer pa, .pointer (some ⟨qq, 0, none⟩)] ∧ Below W.heap.size W wr ∧
      (j ≤ 1 → ∃ po F Z, ([.pointer pa, .pointer (some ⟨qq, 0, none⟩)] : List Value)[j]? = some (.pointer po) ∧ PV wr (.pointer po) F Z i ∧ (∀ k, F k → W.heap.size ≤ k) ∧
        (j = 0 → ∃ F2 Z2, PV wr (.pointer (some ⟨qq, 0, none⟩)) F2 Z2 i ∧ (∀ k, F k → ¬ F2 k) ∧ (∀ k, F k → ¬ Z2 k) ∧ ∀ k, F2 k → W.heap.size ≤ k))) (fun jv _ => 2 - (intOf jv).toNat)
    case atStart => exact ⟨0, by omega, rfl, HG.out, HT2.out.bel, fun _ => ⟨pa, F1, Z1, rfl, HT2.out.a, HT2.out.new.1, fun _ => ⟨F2, Z2, HT2.out.b, HT2.out.ff, HT2.out.fz, HT2.out.new.2⟩⟩⟩
    case round =>
      obtain ⟨j, hj2, rfl, hG, hbel, hst⟩ := hrel
      by_cases hj : j < 2
      · obtain ⟨po, F, Z, hcv, hPV, hFW, hot⟩ := hst (by omega)
        have HGJ := hidden hG
        have HBEL := hidden hbel
        have HOT := hidden hot
        have HFW := hidden hFW
        have HCV := hidden hcv
        have cj : wr.cell? ⟨gl, j, none⟩ = some (.pointer po) := (hG.cell j).trans hcv
        -- what is left for the next one
        have hnext : ∀ w', Chg F wr w' → Blk w' gl 24 [.pointer pa, .pointer (some ⟨qq, 0, none⟩)] → ∃ j' : Nat, j' ≤ 2 ∧ (Value.int .i64 ((j : Int) + 1)) = .int .i64 (j' : Int) ∧ Blk w' gl 24 [.pointer pa, .pointer (some ⟨qq, 0, none⟩)] ∧ Below W.heap.size W w' ∧
            (j' ≤ 1 → ∃ po F Z, ([.pointer pa, .pointer (some ⟨qq, 0, none⟩)] : List Value)[j']? = some (.pointer po) ∧ PV w' (.pointer po) F Z i ∧ (∀ k, F k → W.heap.size ≤ k) ∧
              (j' = 0 → ∃ F2 Z2, PV w' (.pointer (some ⟨qq, 0, none⟩)) F2 Z2 i ∧ (∀ k, F k → ¬ F2 k) ∧ (∀ k, F k → ¬ Z2 k) ∧ ∀ k, F2 k → W.heap.size ≤ k)) := fun w' hc hb => by
          refine ⟨j + 1, by omega, by simp, hb, HBEL.out.trans (hc.below HBEL.out.size HFW.out), fun hle => ?_⟩
          obtain ⟨G2, Y2, p1, p2, p3, p4⟩ := HOT.out (by omega)
          have : j = 0 := by omega
          subst this
          exact ⟨_, G2, Y2, rfl, p1.chg hc (fun k hk e => p2 k e hk) (fun k hk e => p3 k e hk), p4, fun h => by omega⟩
        have HNX := hidden hnext
        clear hot hFW hcv hbel hnext hst
        have hj2' : (j : Int) < 2 := by omega
        cases po with
        | none =>
          go_wp2_with fail
          go_loopw [17] (fun kv w' => kv = .int .i64 0 ∧ w' = wr) (fun _ _ => 0)
          case atStart => exact ⟨rfl, rfl⟩
          case round =>
            obtain ⟨rfl, rfl⟩ := hrel
            go_wp2_with fail
            go_roundw
            case rel => exact HNX.out _ (Chg.refl _ _) HGJ.out
            case measure => simp [intOf]; omega
        | some x =>
          rcases hPV with ⟨h0, _⟩ | ⟨m, t, st, ks, hv, hPS, hF, hFb, hks, hst⟩
          · cases h0
          have hxm : x = ⟨m.pp, 0, none⟩ := by
            injection hv with hv
            exact Option.some.inj hv
          subst hxm
          subst hF
          obtain ⟨N, hN⟩ : ∃ N, st.length = N := ⟨_, rfl⟩
          have HN := hidden hN
          rw [hN] at hst
          have hQ0 := hPS.q
          have HGN : Hid (¬ m.F gl) := fun e => by
            obtain ⟨ty, h1, h2⟩ := hPS.1.tgm gl e
            have := h1.one HGJ.out.tg
            subst this
            rcases h2 with h2 | h2 | h2 | h2 | ⟨h2, _⟩ <;> exact absurd h2 (by decide)
          have HQ0 := hidden hQ0
          obtain ⟨pp, hpp⟩ : ∃ pp, m.pp = pp := ⟨_, rfl⟩
          rw [hpp] at cj
          have HPP := hidden hpp
          clear hv hPS hFb hN hQ0 hpp
          rename World => wj
          go_wp2_with fail
          go_loopw [17] (fun kv w' => ∃ (k : Nat) (m' : PM) (t' : It) (ks' : List Kp) (Z' : Nat → Prop), kv = .int .i64 (k : Int) ∧ k ≤ N + 1 ∧ m'.pp = pp ∧ Q.PS w' m' t' st ks' Z' ∧ ks'.length ≤ 60 * i + 40 * k ∧ Chg m.F wj w' ∧ (∀ y, m'.F y → m.F y ∨ wj.heap.size ≤ y)) (fun kv _ => N + 1 - (intOf kv).toNat)
          case atStart => exact ⟨0, m, t, ks, Z, rfl, Nat.zero_le _, HPP.out, HQ0.out, by omega, Chg.refl _ _, fun y hy => .inl hy⟩
          case round =>
            obtain ⟨k, m', t', ks', Z', rfl, hkN, hmp, hQ, hks', hC, hnew⟩ := hrel
            obtain ⟨da, dc, hdv⟩ := owns_form hQ.1.dv
            rw [HN.out] at hdv
            have HQ := hidden hQ
            have HC := hidden hC
            have HNW := hidden hnew
            have HMP := hidden hmp
            have HGK := hidden (hC.blk HGJ.out HGN.out)
            have cg : wr.cell? ⟨gl, j, none⟩ = some (.pointer (some ⟨pp, 0, none⟩)) := by
              have h3 := (HGK.out.cell j).trans HCV.out
              rw [HPP.out] at h3
              exact h3
            have c2 : wr.cell? ⟨pp, 2, none⟩ = some (.slice da N dc) := by
              have h3 := hQ.1.blk.cell 2
              rw [hmp] at h3
              rw [h3, ← hdv]
              rfl
            clear hQ hC hnew hmp cj hdv
            by_cases hkn : k ≤ N
            · have hkn1 : (k : Int) ≤ (N : Int) := by omega
              go_wp2_with fail
              have hall := Q.all_any wr m' t' st ks' Z' HQ.out (by omega)
              rw [HMP.out] at hall
              refine hall.mono ?_
              rintro e w2 ⟨rfl, m2, ks2, Z2, hmp2, hQ2, hks2, hC2, hn2, _, hz2⟩
              clear hall
              have hC02 : Chg m.F wj w2 := HC.out.trans hC2 (fun y hy e => by
                rcases HNW.out y e with q | q
                · exact q
                · omega)
              have hnw2 : ∀ y, m2.F y → m.F y ∨ wj.heap.size ≤ y := fun y hy => by
                rcases hn2 y hy with q | q
                · exact HNW.out y q
                · exact .inr (Nat.le_trans HC.out.size q)
              have hmp2' : m2.pp = pp := hmp2.trans HMP.out
              have HG2 := hidden (hC02.blk HGJ.out HGN.out)
              have cg2 : w2.cell? ⟨gl, j, none⟩ = some (.pointer (some ⟨pp, 0, none⟩)) := by
                have h3 := (HG2.out.cell j).trans HCV.out
                rw [HPP.out] at h3
                exact h3
              obtain ⟨da2, dc2, hdv2⟩ := owns_form hQ2.1.dv
              rw [HN.out] at hdv2
              have c22 : w2.cell? ⟨pp, 2, none⟩ = some (.slice da2 N dc2) := by
                have h3 := hQ2.1.blk.cell 2
                rw [hmp2'] at h3
                rw [h3, ← hdv2]
                rfl
              have HQ2 := hidden hQ2
              have HC02 := hidden hC02
              have HNW2 := hidden hnw2
              have HMP2 := hidden hmp2'
              have HDV2 := hidden hdv2
              clear hQ2 hC2 hn2 hz2 hC02 hnw2 hmp2' hmp2 cg c2 hdv2
              by_cases hlt : k < N
              · obtain ⟨s, hs⟩ : ∃ s, st[k]? = some s := ⟨_, List.getElem?_eq_getElem (by rw [HN.out]; exact hlt)⟩
                have hlt1 : (k : Int) < (N : Int) := by omega
                obtain ⟨rb, rc, hdv, _, _, _⟩ := owns_some HQ2.out.1.dv (by rw [HN.out]; omega)
                obtain ⟨xb, xc, hxv, _, _, _⟩ := owns_some HQ2.out.1.xv (by rw [HN.out]; omega)
                have hod := HQ2.out.1.dv
                have hox := HQ2.out.1.xv
                rw [hdv, HN.out] at hod
                rw [hxv, HN.out] at hox
                rw [HN.out] at hdv hxv
                have hbl := HQ2.out.1.blk
                rw [hdv, hxv, HMP2.out] at hbl
                have d2 : w2.cell? ⟨rb, k, none⟩ = some (.pointer (some ⟨s.p, 0, none⟩)) := owns_cell hod k _ (by rw [List.getElem?_map, hs]; rfl)
                have hpx : xb ≠ pp := fun e => absurd ((owns_tg hox xb rfl).one (e ▸ hbl.tg)) (by decide)
                have hgp : gl ≠ pp := fun e => HGN.out (.inl (by rw [HPP.out]; exact e))
                have e22 : w2.cell? ⟨pp, 2, none⟩ = some (.slice (some ⟨rb, 0, none⟩) N rc) := hbl.cell 2
                have HS := hidden hs
                have HOX := hidden hox
                have HBK := hidden hbl
                have HXV := hidden hxv
                have HDV := hidden hdv
                have HNE : Hid (xb ≠ pp ∧ gl ≠ pp) := ⟨hpx, hgp⟩
                rw [HDV2.out] at hdv
                obtain ⟨rfl, rfl⟩ : da2 = some ⟨rb, 0, none⟩ ∧ dc2 = rc := by
                  injection hdv with h1 h2 h3
                  exact ⟨h1, h3⟩
                clear hs hod hox hbl hdv hxv hpx hgp e22
                go_wp2_with fail
                refine plays_r30 gl pp rb N dc2 j k s.p _ _ _ (by rfl) (by rfl) (by rfl) (by rfl) hj2' hj (fun v hl => lat_cell7 cg2 hl) (fun v hl => lat_cell7 c22 hl) hlt1 hlt (fun v hl => lat_cell7 d2 hl) _ (fun v hl => lat_cell7 (HBK.out.cell 0) hl) (fun v hl => (HBK.out.later hl).frozen 0) ?_
                intro v147 v148 v149 v150 v151 v152 v153 v154 v155 v156 v157 v158 v159 v160 v161 v162 w3 hl3
                simp only [Act.put, List.setIfInBounds_toArray, List.set_cons_succ, List.set_cons_zero]
                obtain ⟨wa, hwa⟩ : ∃ wa, w3.setCell ⟨pp, 0, none⟩ (.pointer (some ⟨s.p, 0, none⟩)) = wa := ⟨_, rfl⟩
                rw [hwa]
                have hca : Chg (fun i => i = pp) w2 wa := by rw [← hwa]; exact (Chg.of_below hl3).trans (Chg.set ⟨pp, 0, none⟩ _ w3) (fun _ _ e => e)
                have HBKa : Hid (Blk wa pp 39 [.pointer (some ⟨s.p, 0, none⟩), .pointer (some ⟨t'.q, 0, none⟩), .slice (some ⟨rb, 0, none⟩) N dc2, .slice (some ⟨xb, 0, none⟩) N xc, m2.lv, m2.mv]) := by
                  show Blk _ _ _ _
                  rw [← hwa]
                  exact (HBK.out.later hl3).set 0 (.pointer (some ⟨s.p, 0, none⟩))
                have hoxa := hca.owns HOX.out (fun b hb e => HNE.out.1 (by have e1 : xb = b := Option.some.inj hb; have e2 : b = pp := e; omega))
                have d3 : wa.cell? ⟨xb, k, none⟩ = some (.pointer (some ⟨s.q, 0, none⟩)) := owns_cell hoxa k _ (by rw [List.getElem?_map, HS.out]; rfl)
                have c3 : wa.cell? ⟨pp, 3, none⟩ = some (.slice (some ⟨xb, 0, none⟩) N xc) := HBKa.out.cell 3
                have cga : wa.cell? ⟨gl, j, none⟩ = some (.pointer (some ⟨pp, 0, none⟩)) := by
                  have h3 := ((hca.blk HG2.out HNE.out.2).cell j).trans HCV.out
                  rw [HPP.out] at h3
                  exact h3
                have HCA := hidden hca
                clear hca hwa hl3 hoxa cg2 c22 d2
                go_wp2_with fail
                refine plays_r31 gl pp xb N xc j k s.q _ _ _ (by rfl) (by rfl) (by rfl) (by rfl) hj2' hj (fun v hl => lat_cell7 cga hl) (fun v hl => lat_cell7 c3 hl) hlt1 hlt (fun v hl => lat_cell7 d3 hl) _ (fun v hl => lat_cell7 (HBKa.out.cell 1) hl) (fun v hl => (HBKa.out.later hl).frozen 1) ?_
                intro v163 v164 v165 v166 v167 v168 v169 v170 v171 v172 v173 v174 v175 v176 v177 v178 w4 hl4
                simp only [Act.put, List.setIfInBounds_toArray, List.set_cons_succ, List.set_cons_zero]
                obtain ⟨wb, hwb⟩ : ∃ wb, w4.setCell ⟨pp, 1, none⟩ (.pointer (some ⟨s.q, 0, none⟩)) = wb := ⟨_, rfl⟩
                rw [hwb]
                have hcb : Chg (fun i => i = pp) w2 wb := HCA.out.trans (by rw [← hwb]; exact (Chg.of_below hl4).trans (Chg.set ⟨pp, 1, none⟩ _ w4) (fun _ _ e => e)) (fun _ _ e => e)
                have HBKb : Hid (Blk wb pp 39 [.pointer (some ⟨s.p, 0, none⟩), .pointer (some ⟨s.q, 0, none⟩), .slice (some ⟨rb, 0, none⟩) N dc2, .slice (some ⟨xb, 0, none⟩) N xc, m2.lv, m2.mv]) := by
                  show Blk _ _ _ _
                  rw [← hwb]
                  exact (HBKa.out.later hl4).set 1 (.pointer (some ⟨s.q, 0, none⟩))
                have HQB : Hid (Q.PS wb m2 s st ks2 Z2) := HQ2.out.take HS.out (by rw [HMP2.out]; exact hcb) (by rw [HMP2.out, HDV.out, HXV.out]; exact HBKb.out)
                have HCB : Hid (Chg m.F wj wb) := HC02.out.trans hcb (fun y _ e => .inl (by rw [HPP.out]; exact e))
                clear hcb hwb hl4 cga c3 d3
                go_wp2_with fail
                go_roundw
                case rel => exact ⟨k + 1, m2, s, ks2, Z2, by go_num, by omega, HMP2.out, HQB.out, by omega, HCB.out, HNW2.out⟩
                case measure => simp [intOf]; omega
              · have hlt1 : ¬ (k : Int) < (N : Int) := by omega
                go_wp2_with fail
                go_roundw
                case rel => exact ⟨k + 1, m2, t', ks2, Z2, by go_num, by omega, HMP2.out, HQ2.out, by omega, HC02.out, HNW2.out⟩
                case measure => simp [intOf]; omega
            · have hkn1 : ¬ (k : Int) ≤ (N : Int) := by omega
              go_wp2_with fail
              have hlk := Q.looks_any wr m' t' st ks' Z' HQ.out 0 (by omega) (by omega)
              rw [HMP.out] at hlk
              refine hlk.mono ?_
              rintro e w3 ⟨rfl, q3, rfl⟩
              have hl3 : Lat wr (wr.drewN q3) := below_drewN (Below.refl _ _) q3
              have HC3 := hidden (HC.out.trans (Chg.of_below (F := fun _ => False) hl3) (fun _ _ e => e.elim))
              have HG3 := hidden (HGK.out.later hl3)
              clear hlk hl3
              generalize wr.drewN q3 = w3 at *
              go_wp2_with fail
              go_roundw
              case rel => exact HNX.out _ (HC3.out.mono (fun _ _ e => .inl e)) HG3.out
              case measure => simp [intOf]; omega
      · obtain rfl : j = 2 := by omega
        go_wp2_with fail
        go_ret
        exact ⟨rfl, hbel⟩

end Go.Proofs.Ytgmcfejmhlglkaa
