/-
  owned.
-/
import Derived.Test.YtpdffdoogobhfaaDoorLwL
namespace Go.Proofs.YtpdffdoogobhfaaDoor
open Go.RowKit
set_option linter.unusedVariables false
set_option linter.unusedSimpArgs false

theorem info22 : (Tryd.prog.info? 22).map (fun i => (i.zero, i.size, i.bytes)) = some (some (.slice none 0 0), 1, 24) := by kernel_rfl

theorem OW.form {r : R3} {B h i k : Nat} {w0 wx : World} (o : OW r B h i k w0 wx) (j : Nat) (hj : j < 3) : ∀ x, r.a j = some x → x.off = 0 ∧ x.spot = none := by
  obtain ⟨L, h1, _⟩ := o.row j hj
  obtain ⟨ad, c', e, _, hs, _⟩ := owns_formL h1
  simp only [R3.V, Value.slice.injEq] at e
  intro x hx
  exact hs x (e.1 ▸ hx)
theorem OW.cell {r : R3} {B h i k : Nat} {w0 wx : World} (o : OW r B h i k w0 wx) (j : Nat) (hj : j < 3) : wx.cell? ⟨h, j, none⟩ = some (.slice (r.a j) (r.n j) (r.c j)) := by
  rw [o.blk.cell]
  rcases (show j = 0 ∨ j = 1 ∨ j = 2 by omega) with rfl | rfl | rfl <;> rfl
theorem O2.cell {r : R3} {B h H i : Nat} {p cc : Nat → Nat} {al : Option Addr} {cl : Nat} {w0 wx : World} (o : O2 r B h H i p cc al cl w0 wx) (j : Nat) (hj : j < 3) : wx.cell? ⟨h, j, none⟩ = some (.slice (r.a j) (r.n j) (r.c j)) := by
  rw [o.blk.cell]
  rcases (show j = 0 ∨ j = 1 ∨ j = 2 by omega) with rfl | rfl | rfl <;> rfl
theorem O2.lcell {r : R3} {B h H i : Nat} {p cc : Nat → Nat} {g cl : Nat} {w0 wx : World} (o : O2 r B h H i p cc (some ⟨g, 0, none⟩) cl w0 wx) (j : Nat) (hj : j < i) : wx.cell? ⟨g, j, none⟩ = some (.slice (some ⟨p j, 0, none⟩) (r.n j + 20) (cc j)) := by
  have := o.lng.cells (g := g) (by simp [Value.ownBlock]) j (.slice (some ⟨p j, 0, none⟩) (r.n j + 20) (cc j)) (by simp [hj])
  rwa [Addr.add_lit, Nat.zero_add] at this

set_option maxRecDepth 100000 in
set_option maxHeartbeats 8000000 in
theorem ownedP (r : R3) (B h : Nat) (w : World) (hrow : ∀ j < 3, ∃ L, w.ownsRow B 35 2 (r.V j) (r.n j) (cL L)) (ap : r.Ap h) (hblk : Blk w h 22 r.all) (hB : B ≤ w.heap.size) (hn : ∀ j < 3, r.n j ≤ 1000000) :
    Calls Tryd.prog 13 #[.slice (some ⟨h, 0, none⟩) 3 3] w fun e w' => e = .returned (.bool true) ∧ Chg r.F w w' := by
  have HO0 : Hid (OW r B h 0 0 w w) := hidden ⟨hblk, fun j hj => by
    obtain ⟨L, h1⟩ := hrow j hj
    exact ⟨L, h1, fun e => absurd e (by omega), fun _ => by simp⟩, Chg.refl _ _, hB⟩
  have HV := hidden (fun j hj => HO0.out.form j hj)
  have AP := hidden ap
  have HNN := hidden hn
  obtain ⟨i0, hi0, hz0, hz1, hz2⟩ := info_parts info35
  obtain ⟨j0, hj0, hy0, hy1, hy2⟩ := info_parts info22
  have HI := hidden hi0
  have HJ := hidden hj0
  clear hrow ap hblk hn hi0 hj0 hB
  have kM : ∀ n : Nat, n ≤ 25 → ∀ w1, Calls Tryd.prog 26 #[.int .i64 (n : Int)] w1 fun e w' => e = .returned (.agg #[.string (mkL n).n, .string (mkL n).v]) ∧ Below w1.heap.size w1 w' := fun n hn w1 => markP n hn w1
  have KM := hidden kM
  clear kM
  go_enter Tryd.func13, Tryd.ntmps13
  go_wp2
  go_loopw [3] (fun s0 wx => ∃ i : Nat, s0 = .int .i64 (i : Int) ∧ i ≤ 3 ∧ Hid (OW r B h i 0 w wx)) (fun s0 _ => 3 - (intOf s0).toNat)
  case atStart => exact ⟨0, rfl, by omega, HO0⟩
  case round =>
    rename World => wr
    obtain ⟨i, rfl, hi3, ho⟩ := hrel
    by_cases hlt : i < 3
    · have hltz : (i : Int) < 3 := by omega
      have hni := HNN.out i hlt
      obtain ⟨n, hn⟩ : ∃ n, r.n i = n := ⟨_, rfl⟩
      obtain ⟨c, hc⟩ : ∃ c, r.c i = c := ⟨_, rfl⟩
      obtain ⟨a, ha⟩ : ∃ a, r.a i = a := ⟨_, rfl⟩
      rw [hn] at hni
      have HN := hidden hn
      have HC := hidden hc
      have HA := hidden ha
      clear hn hc ha
      go_wp2
      go_loopw [4] (fun s1 wx => ∃ k : Nat, s1 = .int .i64 (k : Int) ∧ k ≤ n ∧ Hid (OW r B h i k w wx)) (fun s1 _ => n - (intOf s1).toNat)
      case atStart => exact ⟨0, rfl, by omega, ho⟩
      case round =>
        rename World => ws
        obtain ⟨k, rfl, hkn, hk⟩ := hrel
        have ch := hk.out.cell i hlt
        rw [HN.out, HC.out, HA.out] at ch
        by_cases hkl : k < n
        · have hkz : (k : Int) < (n : Int) := by omega
          obtain ⟨g, e1, hg, hgB, hsp, ⟨u, hu⟩, ⟨v, hv⟩, f0, f1⟩ := hk.out.spot hlt (by rw [HN.out]; exact hkl)
          clear hsp hgB
          have e2 := e1
          rw [HA.out] at e2
          subst e2
          have HG := hidden hg
          have HE1 := hidden e1
          clear e1 hg
          go_upto_region 7 with fail
          refine owned_r7 h g n c i k (mkL i) ws _ _ ?z0 ?z1 ?z2 ?z3 hltz hlt hkz hkl (fun w1 hl => (hl.cell (p := ⟨h, i, none⟩) (hk.out.blk.lt)).trans ch) (fun w1 _ => KM.out i (by omega) w1) u v (fun w1 hl => (hl.cell (p := ⟨g, k * 2, none⟩) HG.out).trans hu) (fun w1 hl => (hl.cell (p := ⟨g, k * 2 + 1, none⟩) HG.out).trans hv) ?f0 ?f1 ?_
          case z0 => rfl
          case z1 => rfl
          case z2 => rfl
          case z3 => rfl
          case f0 => exact fun w1 hl => (hl.frozen (p := ⟨g, k * 2, none⟩) HG.out).trans f0
          case f1 => exact fun w1 hl => (hl.frozen (p := ⟨g, k * 2 + 1, none⟩) HG.out).trans f1
          intros
          rename_i w7 hl7
          simp only [Act.put, List.setIfInBounds_toArray, List.set_cons_succ, List.set_cons_zero]
          have H7 := hidden ((hk.out.chg hl7).step AP.out hlt (by rw [HN.out]; exact hkl) HE1.out)
          clear hl7 hu hv f0 f1 ch
          go_wp2
          refine ⟨⟨k + 1, by first | rfl | simp, by omega, H7⟩, ?_⟩
          simp [intOf]
          omega
        · have hkz : ¬ (k : Int) < (n : Int) := by omega
          obtain rfl : k = n := by omega
          have H7 : Hid (OW r B h (i + 1) 0 w ws) := hidden (by
            have := hk.out
            rw [← HN.out] at this
            exact this.next)
          go_wp2
          refine ⟨⟨i + 1, by first | rfl | simp, by omega, H7⟩, ?_⟩
          simp [intOf]
          omega
    · have hltz : ¬ (i : Int) < 3 := by omega
      obtain rfl : i = 3 := by omega
      have h2 := ho.out.two
      obtain ⟨H, hH⟩ : ∃ H, wr.heap.size = H := ⟨_, rfl⟩
      rw [hH] at h2
      have H2 := hidden h2
      clear h2 ho HO0 hH
      go_wp2
      go_loopw [5, 6] (fun s5 s6 wx => ∃ (i : Nat) (al : Option Addr) (cl : Nat), s5 = .slice al i cl ∧ s6 = .int .i64 (i : Int) ∧ i ≤ 3 ∧ Hid (∃ p cc, O2 r B h H i p cc al cl w wx)) (fun _ s6 _ => 3 - (intOf s6).toNat)
      case atStart => exact ⟨0, none, 0, rfl, rfl, by omega, hidden ⟨_, _, H2.out⟩⟩
      case round =>
        rename World => wi
        obtain ⟨i, al, cl, rfl, rfl, hi3, hox⟩ := hrel
        obtain ⟨p, cc, ho⟩ := hox.out
        have HO := hidden ho
        clear ho hox H2
        by_cases hlt : i < 3
        · have hltz : (i : Int) < 3 := by omega
          have ch := HO.out.cell i hlt
          have hni := HNN.out i hlt
          have HST := hidden (HO.out.start hlt)
          obtain ⟨n, hn⟩ : ∃ n, r.n i = n := ⟨_, rfl⟩
          obtain ⟨c, hc⟩ : ∃ c, r.c i = c := ⟨_, rfl⟩
          obtain ⟨a, ha⟩ : ∃ a, r.a i = a := ⟨_, rfl⟩
          rw [hn] at hni ch
          rw [hc, ha] at ch HST
          have HN := hidden hn
          have HBA : Hid (∀ g, r.a i = some g → g.off = 0 ∧ g.spot = none) := hidden (HV.out i hlt)
          clear hn hc ha
          go_wp2
          clear ch
          go_loopw [7, 8] (fun s7 s8 wx => ∃ (k : Nat) (ag : Option Addr) (cg : Nat), s7 = .slice ag (n + k) cg ∧ s8 = .int .i64 (k : Int) ∧ k ≤ 20 ∧ Hid (O3 r B i k ag cg wi wx)) (fun _ s8 _ => 20 - (intOf s8).toNat)
          case atStart => exact ⟨0, a, c, rfl, rfl, by omega, HST⟩
          case round =>
            rename World => wx
            obtain ⟨k, ag, cg, rfl, rfl, hk20, hk⟩ := hrel
            clear HST
            have HBW : Hid (B ≤ wx.heap.size) := hidden (Nat.le_trans HO.out.szb (Nat.le_trans HO.out.bel.size hk.out.chg.size))
            by_cases hkl : k < 20
            · have hkz : (k : Int) < 20 := by omega
              have kA := KM.out i (by omega) wx
              have cellN : Hid (∀ (w8 : World) jj u, [Value.string (mkL i).n, Value.string (mkL i).v][jj]? = some u → (w8.alloc (.cells #[.string (mkL i).n, .string (mkL i).v] 35)).cell? ((⟨w8.heap.size, 0, none⟩ : Addr).add jj) = some u) := hidden (fun w8 jj u hu => by
                rw [Addr.add_lit, Nat.zero_add]
                have := (Blk.new w8 35 [.string (mkL i).n, .string (mkL i).v]).cell jj
                rw [hu] at this
                exact this)
              have hPU : Hid (∀ (w8 w9 : World) (g' c' : Nat) (ob : Obj), Lat wx w8 → w9.ownsRow B 35 2 (.slice (some ⟨g', 0, none⟩) (n + k + 1) c') (n + k + 1) (cL (List.replicate (n + k) (mkL i)) ++ [.string (mkL i).n, .string (mkL i).v]) → Pushed (w8.alloc ob) w9 (.slice ag (n + k) cg) g' → O3 r B i (k + 1) (some ⟨g', 0, none⟩) c' wi w9) := hidden (fun w8 w9 g' c' ob hl h1 h2 => by
                rw [← HN.out] at h1 h2
                exact (hk.out.lat hl).push HBA.out h1 h2)
              have hOW : Hid (∀ w8, Lat wx w8 → w8.ownsRow B 35 2 (.slice ag (n + k) cg) (n + k) (cL (List.replicate (n + k) (mkL i)))) := hidden (fun w8 hl => by
                have := (hk.out.lat hl).own
                rw [HN.out] at this
                exact this)
              obtain ⟨x, hx⟩ : ∃ x, mkL i = x := ⟨_, rfl⟩
              obtain ⟨R, hR⟩ : ∃ R, cL (List.replicate (n + k) (mkL i)) = R := ⟨_, rfl⟩
              rw [hR] at hPU hOW
              rw [hx] at kA cellN hPU
              clear hx hR
              go_wp2_with (first
                | (go_at_call 26; refine kA.mono ?_; rintro e w8 ⟨rfl, hb8⟩; have HB8 := hidden hb8; clear kA hb8)
                | (refine wpList_push2 _ rfl (.tmp 48) (.tmp 51) 22 rfl 35 i0 (.agg #[.string ⟨#[]⟩, .string ⟨#[]⟩]) 32 Tryd.underlying22 HI.out hz0 hz1 hz2 rfl B (.slice ag (n + k) cg) (n + k) R rfl ((hOW.out _ HB8.out).alloc _) ⟨w8.heap.size, 0, none⟩ [.string x.n, .string x.v] rfl rfl (cellN.out w8) (by intro u hu; simp at hu; rcases hu with rfl | rfl <;> rfl) (by unfold maxLen; omega) (by omega) (by have := HBW.out; have := HB8.out.size; simp; omega) ?_; intro g9 c9 w9 ho9 hp9))
              have H9 := hidden (hPU.out _ _ _ _ _ HB8.out ho9 hp9)
              refine ⟨⟨k + 1, some ⟨g9, 0, none⟩, c9, by first | rfl | simp, by first | rfl | simp, by omega, H9⟩, ?_⟩
              simp [intOf]
              omega
            · have hkz : ¬ (k : Int) < 20 := by omega
              obtain rfl : k = 20 := by omega
              obtain ⟨pg, hpg⟩ : ∃ pg, ag = some ⟨pg, 0, none⟩ := by
                obtain ⟨ad, c', e, hno, hs, _⟩ := owns_formL hk.out.own
                simp only [Value.slice.injEq] at e
                obtain ⟨e1, _, _⟩ := e
                cases hA : ag with
                | none => rw [hA] at e1; exact absurd (hno e1.symm).1 (by omega)
                | some y =>
                  rw [hA] at e1
                  obtain ⟨g, off, sp⟩ := y
                  obtain ⟨h4, h5⟩ := hs _ e1.symm
                  simp only at h4 h5
                  subst h4 h5
                  exact ⟨g, rfl⟩
              subst hpg
              have hLX : Hid (wx.ownsRow H 22 1 (.slice al i cl) i ((List.range i).map fun j => Value.slice (some ⟨p j, 0, none⟩) (r.n j + 20) (cc j))) := hidden (hk.out.chg.owns HO.out.lng (fun g hg hv => by
                have := (HO.out.lng.lt g hg).1
                have := HO.out.low i hlt g hv
                omega))
              have hNX : Hid (∀ (w9 : World) (gl cl' : Nat) (ob : Obj), w9.ownsRow H 22 1 (.slice (some ⟨gl, 0, none⟩) (i + 1) cl') (i + 1) (((List.range i).map fun j => Value.slice (some ⟨p j, 0, none⟩) (r.n j + 20) (cc j)) ++ [.slice (some ⟨pg, 0, none⟩) (n + 20) cg]) → Pushed (wx.alloc ob) w9 (.slice al i cl) gl → ∃ p cc, O2 r B h H (i + 1) p cc (some ⟨gl, 0, none⟩) cl' w w9) := hidden (fun w9 gl cl' ob h1 h2 => by
                rw [← HN.out] at h1
                exact ⟨_, _, HO.out.next AP.out HV.out hlt hk.out h1 h2⟩)
              have HSX : Hid (H ≤ wx.heap.size) := hidden (Nat.le_trans HO.out.szh hk.out.chg.size)
              obtain ⟨R, hR⟩ : ∃ R, ((List.range i).map fun j => Value.slice (some ⟨p j, 0, none⟩) (r.n j + 20) (cc j)) = R := ⟨_, rfl⟩
              rw [hR] at hLX hNX
              have cellL : Hid ((wx.alloc (.cells #[.slice (some ⟨pg, 0, none⟩) (n + 20) cg] 22)).cell? ⟨wx.heap.size, 0, none⟩ = some (.slice (some ⟨pg, 0, none⟩) (n + 20) cg)) := hidden ((Blk.new wx 22 [.slice (some ⟨pg, 0, none⟩) (n + 20) cg]).cell 0)
              clear hR
              go_wp2_with (refine wpList_push _ rfl (.tmp 53) (.tmp 55) 30 rfl 22 j0 (.slice none 0 0) 24 Tryd.underlying30 HJ.out hy0 hy1 hy2 rfl H (.slice al i cl) i R rfl (hLX.out.alloc _) ⟨wx.heap.size, 0, none⟩ (.slice (some ⟨pg, 0, none⟩) (n + 20) cg) rfl cellL.out rfl (by unfold maxLen; omega) (by omega) (by have := HSX.out; simp; omega) ?_; intro g9 c9 w9 ho9 hp9)
              have H9 := hidden (hNX.out _ _ _ _ ho9 hp9)
              refine ⟨⟨i + 1, some ⟨g9, 0, none⟩, c9, by first | rfl | simp, by first | rfl | simp, by omega, H9⟩, ?_⟩
              simp [intOf]
              omega
        · have hltz : ¬ (i : Int) < 3 := by omega
          obtain rfl : i = 3 := by omega
          obtain ⟨q, hq⟩ : ∃ q, al = some ⟨q, 0, none⟩ := by
            obtain ⟨ad, c', e, hno, hs, _⟩ := owns_formL HO.out.lng
            simp only [Value.slice.injEq] at e
            obtain ⟨e1, _, _⟩ := e
            cases hA : al with
            | none => rw [hA] at e1; exact absurd (hno e1.symm).1 (by omega)
            | some y =>
              rw [hA] at e1
              obtain ⟨g, off, sp⟩ := y
              obtain ⟨h4, h5⟩ := hs _ e1.symm
              simp only at h4 h5
              subst h4 h5
              exact ⟨g, rfl⟩
          subst hq
          have HQ : Hid (q < wi.heap.size) := hidden (owns_lt HO.out.lng q (by simp [Value.ownBlock]))
          go_wp2
          go_loopw [9] (fun s9 wx => ∃ i : Nat, s9 = .int .i64 (i : Int) ∧ i ≤ 3 ∧ Hid (Lat wi wx)) (fun s9 _ => 3 - (intOf s9).toNat)
          case atStart => exact ⟨0, rfl, by omega, hidden (Below.refl _ _)⟩
          case round =>
            rename World => wj
            obtain ⟨i, rfl, hi3', hbj⟩ := hrel
            by_cases hlt' : i < 3
            · have hltz' : (i : Int) < 3 := by omega
              have HL := hidden (HO.out.lat hbj.out)
              go_wp2
              go_loopw [10] (fun s10 wx => ∃ k : Nat, s10 = .int .i64 (k : Int) ∧ k ≤ r.n i + 20 ∧ Hid (Lat wi wx)) (fun s10 _ => r.n i + 20 - (intOf s10).toNat)
              case atStart => exact ⟨0, rfl, by omega, hbj⟩
              case round =>
                rename World => wk
                obtain ⟨k, rfl, hk', hbk⟩ := hrel
                have HK := hidden (HO.out.lat hbk.out)
                have c1 := HK.out.lcell i hlt'
                have c2 := HK.out.cell i hlt'
                have hls := (HK.out.old i hlt').1
                have hhe := HK.out.here i hlt'
                have hni := HNN.out i hlt'
                obtain ⟨n, hn⟩ : ∃ n, r.n i = n := ⟨_, rfl⟩
                obtain ⟨c, hc⟩ : ∃ c, r.c i = c := ⟨_, rfl⟩
                obtain ⟨a, ha⟩ : ∃ a, r.a i = a := ⟨_, rfl⟩
                obtain ⟨g2, hg2⟩ : ∃ g2, p i = g2 := ⟨_, rfl⟩
                obtain ⟨c2', hc2'⟩ : ∃ c2, cc i = c2 := ⟨_, rfl⟩
                rw [hn] at c1 c2 hls hhe hni hk' ⊢
                rw [hg2] at c1 hls
                rw [hc2'] at c1
                rw [hc, ha] at c2
                rw [ha] at hhe
                have HAO := hidden (HV.out i hlt')
                rw [ha] at HAO
                clear hn hc ha hg2 hc2'
                have HQK : Hid (q < wk.heap.size) := hidden (Nat.lt_of_lt_of_le HQ.out hbk.out.size)
                have HHK : Hid (h < wk.heap.size) := hidden HK.out.blk.lt
                by_cases hkl : k < n + 20
                · have hkz : (k : Int) < ((n + 20 : Nat) : Int) := by omega
                  obtain ⟨b, off, x, eb, hb, hx, hx', d0, d1, _, _⟩ := hls.get (i := k) (by simpa using hkl)
                  injection eb with eb
                  injection eb with eb1 eb2
                  subst eb1 eb2
                  have hxe : x = mkL i := by
                    rw [← hx']; simp
                  subst hxe
                  rw [Nat.zero_add] at d0 d1
                  have hq := fun w => neq35 (mkL i) (mkL i) w
                  rw [decide_eq_true rfl] at hq
                  clear hx hx'
                  by_cases hin : k < n
                  · have hinz : (k : Int) < (n : Int) := by omega
                    obtain ⟨b3, off3, x3, eb3, hb3, hx3, hx3', d3, d4, _, _⟩ := hhe.get (i := k) (by simpa using hin)
                    obtain ⟨z3, _⟩ := HAO.out _ eb3
                    simp only at z3
                    subst z3 eb3
                    have hxe3 : x3 = mkL i := by rw [← hx3']; simp
                    subst hxe3
                    rw [Nat.zero_add] at d3 d4
                    clear hx3 hx3'
                    go_upto_region 24 with fail
                    refine owned_in h q cl b3 g2 (n + 20) c2' n c i k none (mkL i) wk _ _ (by rfl) (by rfl) (by rfl) (by rfl) (by rfl) hltz' hlt' hkz hkl hinz hin (fun w1 hl => (hl.cell (p := ⟨b3, k * 2, none⟩) hb3).trans d3) (fun w1 hl => (hl.cell (p := ⟨b3, k * 2 + 1, none⟩) hb3).trans d4) (fun w1 hl => (hl.cell (p := ⟨q, i, none⟩) HQK.out).trans c1) (fun w1 hl => (hl.cell (p := ⟨g2, k * 2, none⟩) hb).trans d0) (fun w1 hl => (hl.cell (p := ⟨g2, k * 2 + 1, none⟩) hb).trans d1) (fun w1 hl => (hl.cell (p := ⟨h, i, none⟩) HHK.out).trans c2) hq (fun w1 _ => KM.out i (by omega) w1) ?_
                    intros
                    rename_i w7 hl7
                    simp only [Act.put, List.setIfInBounds_toArray, List.set_cons_succ, List.set_cons_zero]
                    have H7 := hidden (Lat.trans _ _ _ hbk.out hl7)
                    clear hl7 c1 c2 d0 d1 d3 d4 hq
                    go_wp2
                    refine ⟨⟨k + 1, by first | rfl | simp, by omega, H7⟩, ?_⟩
                    simp [intOf]
                    omega
                  · have hinz : ¬ (k : Int) < (n : Int) := by omega
                    go_upto_region 24 with fail
                    refine owned_out h q cl 0 g2 (n + 20) c2' n c i k a (mkL i) wk _ _ (by rfl) (by rfl) (by rfl) (by rfl) (by rfl) hltz' hlt' hkz hkl hinz (fun w1 hl => (hl.cell (p := ⟨q, i, none⟩) HQK.out).trans c1) (fun w1 hl => (hl.cell (p := ⟨g2, k * 2, none⟩) hb).trans d0) (fun w1 hl => (hl.cell (p := ⟨g2, k * 2 + 1, none⟩) hb).trans d1) (fun w1 hl => (hl.cell (p := ⟨h, i, none⟩) HHK.out).trans c2) hq (fun w1 _ => KM.out i (by omega) w1) ?_
                    intros
                    rename_i w7 hl7
                    simp only [Act.put, List.setIfInBounds_toArray, List.set_cons_succ, List.set_cons_zero]
                    have H7 := hidden (Lat.trans _ _ _ hbk.out hl7)
                    clear hl7 c1 c2 d0 d1 hq
                    go_wp2
                    refine ⟨⟨k + 1, by first | rfl | simp, by omega, H7⟩, ?_⟩
                    simp [intOf]
                    omega
                · have hkz : ¬ (k : Int) < ((n + 20 : Nat) : Int) := by omega
                  go_wp2
                  refine ⟨⟨i + 1, by first | rfl | simp, by omega, hbk⟩, ?_⟩
                  simp [intOf]
                  omega
            · have hltz' : ¬ (i : Int) < 3 := by omega
              have HBE : Hid (Chg r.F w wj) := hidden (HO.out.lat hbj.out).bel
              go_wp2
              go_ret
              exact ⟨rfl, HBE.out⟩

end Go.Proofs.YtpdffdoogobhfaaDoor
