/-
  The document's Parse of matchers.
-/
import Derived.Test.YtanlgplgplncdaaGreatDoorTxF
namespace Go.Proofs.YtanlgplgplncdaaGreatDoor.L
open Go.RowKit
set_option linter.unusedVariables false
set_option linter.unusedSimpArgs false

set_option maxRecDepth 100000 in
set_option maxHeartbeats 0 in
theorem rparseP (B : Nat) (s : ByteArray) (w : World) (hs : s.size ≤ 140737488355328) (hT : Tb B w) :
    Calls Tryz.prog 19 #[.string s] w fun e w' => ∃ v p k, e = .returned (.tuple #[v, .int .i64 p, .int .i64 k]) ∧ PeR w s w' v p k ∧ Below w.heap.size w w' := by
  have HT := hidden hT
  clear hT
  have hal : Below w.heap.size w (w.alloc (.cells #[.string s, .int .i64 0, .int .i64 (-1)] 89)) := (Below.refl _ _).alloc (Nat.le_refl _) _
  have P0 : Hid (PI w (w.alloc (.cells #[.string s, .int .i64 0, .int .i64 (-1)] 89)) s 0 (-1) none 0 []) := hidden ⟨Blk.new w 89 [.string s, .int .i64 0, .int .i64 (-1)], World.ownsRow_nil _ _ _ _, (fun x hx => by cases hx), hal, by simp, Nat.zero_le _⟩
  clear hal
  have KB : Hid (∀ (wx : World) (a : Nat) (z : Int), Re wx w.heap.size s a z → a ≤ s.size → Calls Tryz.prog 32 #[.pointer (some ⟨w.heap.size, 0, none⟩)] wx fun e w' => e = .returned (.tuple #[]) ∧ Re w' w.heap.size s (skZ (bts s) a z) z ∧ Chg (fun i => i = w.heap.size) wx w') := hidden (fun wx a z h1 h2 => rblanksP _ s a z wx h1 h2 hs)
  have KT : Hid (∀ (wx : World) (a : Nat) (z : Int) (c : UInt8), 0 < c.toNat → Re wx w.heap.size s a z → a ≤ s.size → Calls Tryz.prog 33 #[.pointer (some ⟨w.heap.size, 0, none⟩), .int .u8 (c.toNat : Int)] wx fun e w' => e = .returned (.tuple #[]) ∧ Re w' w.heap.size s (tkA (bts s) a z c) (tkZ (bts s) a z c) ∧ Chg (fun i => i = w.heap.size) wx w') := hidden (fun wx a z c h0 h1 h2 => rtakeP _ s a z c wx h1 h2 hs h0)
  have KP : Hid (∀ (wx : World) (a : Nat) (z : Int), Re wx w.heap.size s a z → Calls Tryz.prog 34 #[.pointer (some ⟨w.heap.size, 0, none⟩)] wx fun e w' => e = .returned (.int .u8 (pkC (pk (bts s) a z) : Int)) ∧ ∃ n, w' = wx.drewN n) := hidden (fun wx a z h1 => rpeekP _ s a z wx h1 hs)
  obtain ⟨a0, ha0⟩ : ∃ a0, skZ (bts s) 0 (-1) = a0 := ⟨_, rfl⟩
  obtain ⟨a1, ha1⟩ : ∃ a1, tkA (bts s) a0 (-1) 123 = a1 := ⟨_, rfl⟩
  obtain ⟨z1, hz1⟩ : ∃ z1, tkZ (bts s) a0 (-1) 123 = z1 := ⟨_, rfl⟩
  obtain ⟨a2, ha2⟩ : ∃ a2, skZ (bts s) a1 z1 = a2 := ⟨_, rfl⟩
  have HST := hidden (start_pure ha0 ha1 hz1 ha2)
  have hl0 : a0 ≤ (bts s).length := by rw [← ha0]; exact skZ_le (Nat.zero_le _) _
  have hl1 : a1 ≤ (bts s).length := by rw [← ha1]; exact tkA_le hl0 _ _
  have hl2 : a2 ≤ (bts s).length := by rw [← ha2]; exact skZ_le hl1 _
  have hm : (((pkC (pk (bts s) a2 z1) : Nat) : Int) != 125) = !decide (pk (bts s) a2 z1 = some 125) := congrArg (!·) (pkC_beq (pk (bts s) a2 z1) 125 (by omega) (by omega))
  obtain ⟨m0, hm0⟩ : ∃ m0, (!decide (pk (bts s) a2 z1 = some 125)) = m0 := ⟨_, rfl⟩
  rw [hm0] at hm HST
  have k1 := KB.out _ 0 (-1) P0.out.re (Nat.zero_le _)
  rw [ha0] at k1
  have k2 : Hid (∀ wx, PI w wx s a0 (-1) none 0 [] → Calls Tryz.prog 33 #[.pointer (some ⟨w.heap.size, 0, none⟩), .int .u8 123] wx fun e w' => e = .returned (.tuple #[]) ∧ Re w' w.heap.size s a1 z1 ∧ Chg (fun i => i = w.heap.size) wx w') := hidden (fun wx h => by
    have := KT.out wx a0 (-1) 123 (by decide) h.re h.le
    rw [ha1, hz1] at this
    exact this)
  have K3 : Hid (∀ wx, PI w wx s a1 z1 none 0 [] → Calls Tryz.prog 32 #[.pointer (some ⟨w.heap.size, 0, none⟩)] wx fun e w' => e = .returned (.tuple #[]) ∧ Re w' w.heap.size s a2 z1 ∧ Chg (fun i => i = w.heap.size) wx w') := hidden (fun wx h => by
    have := KB.out wx a1 z1 h.re h.le
    rw [ha2] at this
    exact this)
  have HL0 := hidden hl0
  have HL1 := hidden hl1
  have HL2 := hidden hl2
  clear ha0 ha1 hz1 ha2 hl0 hl1 hl2 hm0
  go_enter Tryz.func19, Tryz.ntmps19
  go_wp2_with (go_at_call 32; refine k1.mono ?_; rintro e w1 ⟨rfl, h1, hc1⟩; clear k1)
  have P1 := hidden (P0.out.moved h1 hc1 HL0.out)
  clear h1 hc1 P0
  have k2' := k2.out _ P1.out
  clear k2
  go_wp2_with (go_at_call 33; refine k2'.mono ?_; rintro e w2 ⟨rfl, h2, hc2⟩; clear k2')
  have P2 := hidden (P1.out.moved h2 hc2 HL1.out)
  clear h2 hc2 P1
  have k3 := K3.out _ P2.out
  clear K3
  go_wp2_with (go_at_call 32; refine k3.mono ?_; rintro e w3 ⟨rfl, h3, hc3⟩; clear k3)
  have P3 := hidden (P2.out.moved h3 hc3 HL2.out)
  clear h3 hc3 P2
  have k4 := KP.out _ a2 z1 P3.out.re
  generalize ((pkC (pk (bts s) a2 z1) : Nat) : Int) = X0 at *
  go_wp2_with (go_at_call 34; refine k4.mono ?_; rintro e w4 ⟨rfl, n4, rfl⟩; clear k4)
  have P4 := hidden (P3.out.lat (below_drewN (Below.refl _ _) n4))
  clear P3
  go_loopw [6, 7, 8] (fun s6 s7 s8 wx => ∃ (a : Nat) (z : Int) (al : Option Addr) (cl n : Nat) (l : List Mt) (pl : Int) (m : Bool), s6 = .slice al n cl ∧ s7 = .int .i64 pl ∧ s8 = .bool m ∧ n ≤ 8 ∧ Hid (l.length = n) ∧ Hid (PI w wx s a z al cl l) ∧ Hid (LI (bts s) a z m l pl)) (fun _ _ _ wx => rdM s.size w.heap.size wx)
  case atStart => exact ⟨a2, z1, none, 0, 0, [], -1, m0, rfl, rfl, by first | rfl | rw [hm], by omega, hidden rfl, P4, HST⟩
  case round =>
    rename World => wr
    obtain ⟨a, z, al, cl, n, l, pl, m, rfl, rfl, rfl, hn8, hn, hPI, hLI⟩ := hrel
    clear P4 HST hm
    have c2 : wr.cell? ⟨w.heap.size, 2, none⟩ = some (.int .i64 z) := hPI.out.re.cell 2
    rcases hLI.out with ⟨kk, hz, hrun⟩ | ⟨hz, ⟨hm, h32, J, hJ, hrun⟩ | ⟨hm, hen⟩⟩
    · -- a fault stands
      have hz1 : ¬ z < 0 := by omega
      have hz0 : (0 : Int) ≤ z := by omega
      have HRUN := hidden (end_fault hrun)
      have e1 : tkA (bts s) a z 125 = a := by rw [tkA, if_neg (by rw [pk, if_neg hz1]; simp)]
      have e2 : tkZ (bts s) a z 125 = z := by rw [tkZ, if_neg (by rw [pk, if_neg hz1]; simp), failZ, if_neg hz1]
      have e3 : skZ (bts s) a z = a := by rw [skZ, if_neg hz1]
      have q1 := KT.out wr a z 125 (by decide) hPI.out.re hPI.out.le
      rw [e1, e2] at q1
      have q1' : Calls Tryz.prog 33 #[.pointer (some ⟨w.heap.size, 0, none⟩), .int .u8 125] wr fun e w' => e = .returned (.tuple #[]) ∧ Re w' w.heap.size s a z ∧ Chg (fun i => i = w.heap.size) wr w' := q1
      have q2 : Hid (∀ wx, PI w wx s a z al cl l → Calls Tryz.prog 32 #[.pointer (some ⟨w.heap.size, 0, none⟩)] wx fun e w' => e = .returned (.tuple #[]) ∧ Re w' w.heap.size s a z ∧ Chg (fun i => i = w.heap.size) wx w') := hidden (fun wx h => by
        have := KB.out wx a z h.re h.le
        rw [e3] at this
        exact this)
      have HZ := hidden hz
      clear q1 e1 e2 e3 hz hrun hLI
      cases m
      all_goals
        go_wp2_with (first
          | (go_at_call 33; refine q1'.mono ?_; rintro e w5 ⟨rfl, h5, hc5⟩; have P5 := hidden (hPI.out.moved h5 hc5 hPI.out.ble); have q3 := q2.out _ P5.out; clear h5 hc5 q1')
          | (go_at_call 32; refine q3.mono ?_; rintro e w6 ⟨rfl, h6, hc6⟩; have P6 := hidden (P5.out.moved h6 hc6 P5.out.ble); have d2 : w6.cell? ⟨w.heap.size, 2, none⟩ = some (.int .i64 z) := P6.out.re.cell 2; clear h6 hc6 q3))
        go_quiet (fail)
        go_wp2
        go_ret3
        exact ⟨_, _, _, rfl, Or.inl ⟨kk, HRUN.out, rfl, HZ.out, rfl⟩, below_drewN P6.out.bel _⟩
    · -- a matcher
      subst hz hm
      clear hLI
      have HJ := hidden hJ
      have HRUN := hidden hrun
      have H32 := hidden h32
      clear hJ hrun h32
      have c1 : wr.cell? ⟨w.heap.size, 1, none⟩ = some (.int .i64 (a : Int)) := hPI.out.re.cell 1
      have KW : Hid (∀ wx, Re wx w.heap.size s a (-1) → Calls Tryz.prog 35 #[.pointer (some ⟨w.heap.size, 0, none⟩)] wx fun e w' => e = .returned (.string (oft (((bts s).drop a).take (wnZ (bts s) a (-1) true)))) ∧ Re w' w.heap.size s (a + wnZ (bts s) a (-1) true) (wdZ (wnZ (bts s) a (-1) true) a (-1)) ∧ Chg (fun i => i = w.heap.size) wx w') := hidden (fun wx h => rwordP w.heap.size s a (-1) wx h hPI.out.le hs)
      obtain ⟨n1, hn1⟩ : ∃ n1, wnZ (bts s) a (-1) true = n1 := ⟨_, rfl⟩
      obtain ⟨z1, hz1⟩ : ∃ z1, wdZ n1 a (-1) = z1 := ⟨_, rfl⟩
      obtain ⟨b2, hb2⟩ : ∃ b2, skZ (bts s) (a + n1) z1 = b2 := ⟨_, rfl⟩
      obtain ⟨nm, hnm⟩ : ∃ nm, oft (((bts s).drop a).take n1) = nm := ⟨_, rfl⟩
      rw [hn1, hz1, hnm] at KW
      have hl1 : a + n1 ≤ (bts s).length := by rw [← hn1]; exact wn_le hPI.out.ble _ _
      have hl2 : b2 ≤ (bts s).length := by rw [← hb2]; exact skZ_le hl1 _
      have HIT : Hid (∀ o b3 z3 v b5 z5, OpE (bts s) b2 z1 o b3 z3 → Qe (bts s) (skZ (bts s) b3 z3) z3 v b5 z5 → It (bts s) a (((bts s).drop a).take n1) o v (skZ (bts s) b5 z5) z5) := hidden (fun o b3 z3 v b5 z5 ho hq => iter_pure hPI.out.ble H32.out hn1 hz1 hb2 ho rfl hq)
      have H232 : Hid (z1 < 0 → (bts s)[b2]? ≠ some 32) := hidden (fun h => by rw [← hb2, skZ, if_pos h]; exact sk_next _ _)
      have q2 : Hid (∀ wx, Re wx w.heap.size s (a + n1) z1 → Calls Tryz.prog 32 #[.pointer (some ⟨w.heap.size, 0, none⟩)] wx fun e w' => e = .returned (.tuple #[]) ∧ Re w' w.heap.size s b2 z1 ∧ Chg (fun i => i = w.heap.size) wx w') := hidden (fun wx h => by
        have := KB.out wx _ z1 h (by rw [size_bts]; exact hl1)
        rw [hb2] at this
        exact this)
      have HNM : Hid (oft (((bts s).drop a).take n1) = nm ∧ nm.size ≤ 140737488355328) := hidden ⟨hnm, by rw [← hnm]; exact Nat.le_trans (oft_sz _ s.size (by rw [List.length_take, List.length_drop, ← size_bts]; omega)) hs⟩
      have HL1 := hidden hl1
      have HL2 := hidden hl2
      clear hn1 hz1 hb2 hnm hl1 hl2
      go_upto_region 11 with (refine wpList_alloc_blk rfl 58 rfl 10 rfl (mC zM) info31z ?_; intro w5 B5 bl5 hz5; have M0 := hidden (hPI.out.fresh bl5 B5); clear B5 bl5 hz5)
      generalize wr.heap.size = gm at *
      have k5 := KW.out _ M0.out.p.re
      go_wp2_with (go_at_call 35; refine k5.mono ?_; rintro e w6 ⟨rfl, h6, hc6⟩; have M1 := hidden (M0.out.moved h6 hc6 HL1.out); have g0 : w6.cell? ⟨gm, 0, none⟩ = some (.string ⟨#[]⟩) := M1.out.mb.cell 0; have f0 := M1.out.mb.frozen 0; clear k5 h6 hc6 M0)
      have M2 := hidden (M1.out.set (m' := ⟨nm, 0, ⟨#[]⟩⟩) 0 (.string nm) rfl)
      clear M1 g0 f0
      generalize w6.setCell ⟨gm, 0, none⟩ (.string nm) = w7 at *
      have k6 := q2.out _ M2.out.p.re
      go_wp2_with (go_at_call 32; refine k6.mono ?_; rintro e w8 ⟨rfl, h8, hc8⟩; have M3 := hidden (M2.out.moved h8 hc8 HL2.out); clear k6 h8 hc8 M2)
      have k7 := ropP w.heap.size s b2 z1 w8 M3.out.p.re M3.out.p.le hs H232.out
      go_wp2_with (go_at_call 36; refine k7.mono ?_; rintro e w9 ⟨o, b3, z3, rfl, hO, h9, hc9⟩; have HO := hidden hO; have M4 := hidden (M3.out.moved h9 hc9 hO.2.1); have g0 : w9.cell? ⟨gm, 1, none⟩ = some (.int .i64 0) := M4.out.mb.cell 1; have f0 := M4.out.mb.frozen 1; clear k7 h9 hc9 hO M3)
      have M5 := hidden (M4.out.set (m' := ⟨nm, o, ⟨#[]⟩⟩) 1 (.int .i64 o) rfl)
      clear M4 g0 f0
      generalize w9.setCell ⟨gm, 1, none⟩ (.int .i64 o) = w10 at *
      have k8 := KB.out _ b3 z3 M5.out.p.re M5.out.p.le
      have HL4 : Hid (skZ (bts s) b3 z3 ≤ (bts s).length) := hidden (skZ_le HO.out.2.1 _)
      have H432 : Hid (z3 < 0 → (bts s)[skZ (bts s) b3 z3]? ≠ some 32) := hidden (fun h => by rw [skZ, if_pos h]; exact sk_next _ _)
      replace HIT := hidden (fun v b5 z5 => HIT.out o b3 z3 v b5 z5 HO.out)
      generalize skZ (bts s) b3 z3 = b4 at *
      go_wp2_with (go_at_call 32; refine k8.mono ?_; rintro e w11 ⟨rfl, h11, hc11⟩; have M6 := hidden (M5.out.moved h11 hc11 HL4.out); clear k8 h11 hc11 M5)
      have k9 := rquotedP w.heap.size s b4 z3 w11 M6.out.p.re M6.out.p.le hs H432.out
      clear H432
      go_wp2_with (go_at_call 37; refine k9.mono ?_; rintro e w12 ⟨v, b5, z5, rfl, hQe, h12, hc12⟩; have HQe := hidden hQe; have M7 := hidden (M6.out.moved h12 hc12 hQe.2.1); have g0 : w12.cell? ⟨gm, 2, none⟩ = some (.string ⟨#[]⟩) := M7.out.mb.cell 2; have f0 := M7.out.mb.frozen 2; clear k9 h12 hc12 hQe M6)
      have M8 := hidden (M7.out.set (m' := ⟨nm, o, v⟩) 2 (.string v) rfl)
      clear M7 g0 f0
      generalize w12.setCell ⟨gm, 2, none⟩ (.string v) = w13 at *
      have hIt := HIT.out v b5 z5 HQe.out
      have HVS : Hid (v.size ≤ 200) := hidden HQe.out.2.2.1
      have HB5 : Hid (b5 ≤ (bts s).length) := hidden HQe.out.2.1
      have k10 := KB.out _ b5 z5 M8.out.p.re M8.out.p.le
      obtain ⟨b6, hb6⟩ : ∃ b6, skZ (bts s) b5 z5 = b6 := ⟨_, rfl⟩
      have hl6 : Hid (b6 ≤ (bts s).length) := hidden (by rw [← hb6]; exact skZ_le HB5.out _)
      rw [hb6] at k10 hIt
      have HIt := hidden hIt
      have HOK : Hid (OkM ⟨nm, o, v⟩) := hidden ⟨by have := HNM.out.2; show nm.size ≤ _; omega, by have := HVS.out; show v.size ≤ _; omega, by have := HO.out.2.2.1.1; show _ ≤ o; omega, by have := HO.out.2.2.1.2; show o ≤ _; omega⟩
      clear hb6 hIt HIT HQe
      go_wp2_with (go_at_call 32; refine k10.mono ?_; rintro e w14 ⟨rfl, h14, hc14⟩; have M9 := hidden (M8.out.moved h14 hc14 hl6.out); have g0 : w14.cell? ⟨gm, 0, none⟩ = some (.string nm) := M9.out.mb.cell 0; have g1 : w14.cell? ⟨gm, 1, none⟩ = some (.int .i64 o) := M9.out.mb.cell 1; have g2 : w14.cell? ⟨gm, 2, none⟩ = some (.string v) := M9.out.mb.cell 2; clear k10 h14 hc14 M8)
      have k11 := rmayP B ⟨nm, o, v⟩ w14 HOK.out (by have := HVS.out; show v.size ≤ _; omega) (HT.out.later M9.out.p.bel)
      obtain ⟨bb, hbb⟩ : ∃ bb, Mt.may ⟨nm, o, v⟩ = bb := ⟨_, rfl⟩
      rw [hbb] at k11
      have HBB := hidden hbb
      have k11' : Calls Tryz.prog 38 #[.agg #[.string nm, .int .i64 o, .string v]] w14 fun e w' => e = .returned (.bool bb) ∧ Below w14.heap.size w14 w' := k11
      clear hbb k11
      go_upto_region 18 with (go_at_call 38; refine k11'.mono ?_; rintro e w15 ⟨rfl, hb15⟩; have M10 := hidden (M9.out.lat hb15); clear k11' g0 g1 g2 M9 hb15)
      obtain ⟨wb, hwb⟩ : ∃ wb, wrongM l ⟨nm, o, v⟩ = wb := ⟨_, rfl⟩
      have hwb2 : wb = (!bb || decide (8 ≤ n)) := by
        rw [← hwb, wrongM, HBB.out, hn.out]
        congr 1
        by_cases h : n = 8
        · rw [decide_eq_true h, decide_eq_true (by omega)]
        · rw [decide_eq_false h, decide_eq_false (by omega)]
      have HWB := hidden hwb
      obtain ⟨pn, hpn⟩ : ∃ pn, plN wb pl a = pn := ⟨_, rfl⟩
      have HPN := hidden hpn
      clear hwb hpn
      go_cut [63] from 24 to 84 (fun s9 wx => s9 = .bool (wb && decide (pl < 0)) ∧ wx = w15)
      case first =>
        have hp9 : pl < 0 → decide (pl < 0) = true := fun h => decide_eq_true h
        have hp8 : ¬ pl < 0 → decide (pl < 0) = false := fun h => decide_eq_false h
        have HWB2 := hidden hwb2
        clear hwb2
        cases bb with
        | false =>
          by_cases hp : pl < 0
          · go_wp2
            go_meet
            case rel => exact ⟨by rw [HWB2.out, hp9 hp]; rfl, rfl⟩
          · have hp' := hp8 hp
            go_wp2
            go_meet
            case rel => exact ⟨by rw [HWB2.out, hp']; rfl, rfl⟩
        | true =>
          by_cases h8 : 8 ≤ n
          · have h8z : (8 : Int) ≤ (n : Int) := by omega
            have h8f : Hid (decide (8 ≤ n) = true) := hidden (decide_eq_true h8)
            by_cases hp : pl < 0
            · go_wp2
              go_meet
              case rel => exact ⟨by rw [HWB2.out, hp9 hp, h8f.out]; rfl, rfl⟩
            · have hp' := hp8 hp
              go_wp2
              go_meet
              case rel => exact ⟨by rw [HWB2.out, hp', h8f.out]; rfl, rfl⟩
          · have h8z : ¬ (8 : Int) ≤ (n : Int) := by omega
            have h8d : decide ((8 : Int) ≤ (n : Int)) = false := decide_eq_false h8z
            have h8e : decide (8 ≤ n) = false := decide_eq_false h8
            have h8f := hidden h8e
            go_wp2
            go_meet
            case rel => exact ⟨by rw [HWB2.out, h8f.out]; rfl, rfl⟩
      case rest =>
       obtain ⟨rfl, hwc⟩ := hcut
       obtain rfl := hwc.symm
       clear hwc hwb2
       go_upto_if 63 with fail
       go_cut [7] from 24 to 84 (fun s7 wx => s7 = .int .i64 pn ∧ wx = w15)
       case first =>
        by_cases h0 : wb = true ∧ pl < 0
        · have e : plN wb pl a = (a : Int) := by rw [plN, if_pos h0]
          rw [show (wb && decide (pl < 0)) = true by rw [h0.1, decide_eq_true h0.2]; rfl]
          clear h0
          go_wp2
          go_meet
          case rel => exact ⟨by rw [← HPN.out, e], rfl⟩
        · have e : plN wb pl a = pl := by rw [plN, if_neg h0]
          have e2 : (wb && decide (pl < 0)) = false := by
            cases wb
            · rfl
            · simp only [Bool.true_and, decide_eq_false_iff_not]; exact fun h => h0 ⟨rfl, h⟩
          rw [e2]
          clear h0 e2
          go_wp2
          go_meet
          case rel => exact ⟨by rw [← HPN.out, e], rfl⟩
       case rest =>
        obtain ⟨rfl, hwc⟩ := hcut
        obtain rfl := hwc.symm
        clear hwc
        have g0 : w15.cell? ⟨gm, 0, none⟩ = some (.string nm) := M10.out.mb.cell 0
        have g1 : w15.cell? ⟨gm, 1, none⟩ = some (.int .i64 o) := M10.out.mb.cell 1
        have g2 : w15.cell? ⟨gm, 2, none⟩ = some (.string v) := M10.out.mb.cell 2
        have k12 : Hid (∀ wx al' cl', PI w wx s b6 z5 al' cl' (lN l ⟨nm, o, v⟩) → Calls Tryz.prog 34 #[.pointer (some ⟨w.heap.size, 0, none⟩)] wx fun e w' => e = .returned (.int .u8 (pkC (pk (bts s) b6 z5) : Int)) ∧ ∃ n, w' = wx.drewN n) := hidden (fun wx al' cl' h => KP.out wx b6 z5 h.re)
        have HNO : Hid (pk (bts s) b6 z5 ≠ some 44 → LI (bts s) b6 z5 false (lN l ⟨nm, o, v⟩) pn ∧ rdM s.size w.heap.size wr > 2 * (s.size - b6) + (if z5 < 0 then 1 else 0)) := hidden (fun h => by
          refine ⟨?_, ?_⟩
          · have := next_no HJ.out hPI.out.len8 HRUN.out HIt.out h
            rw [HNM.out.1, HWB.out, HPN.out] at this
            exact this
          · rw [Re.m hPI.out.re, if_pos (by omega)]
            obtain ⟨q1, q2, q3⟩ := HIt.out
            rw [← size_bts] at q2
            rcases q3 with ⟨kk, e, _⟩ | ⟨e, hlt, _⟩
            · rw [if_neg (by omega)]; omega
            · rw [if_pos (by omega)]; omega)
        have HYE : Hid (pk (bts s) b6 z5 = some 44 → z5 = -1 ∧ LI (bts s) (skZ (bts s) (b6 + 1) (-1)) (-1) true (lN l ⟨nm, o, v⟩) pn ∧ rdM s.size w.heap.size wr > 2 * (s.size - skZ (bts s) (b6 + 1) (-1)) + 1 ∧ b6 + 1 ≤ (bts s).length) := hidden (fun h => by
          have := next_yes HJ.out hPI.out.len8 HRUN.out HIt.out h
          rw [HNM.out.1, HWB.out, HPN.out] at this
          refine ⟨this.1, this.2.2, ?_, (pk_lt h).1⟩
          rw [Re.m hPI.out.re, if_pos (by omega)]
          have h1 := this.2.1
          have h2 := skZ_ge (bts s) (b6 + 1) (-1)
          have h3 := (pk_lt h).1
          rw [← size_bts] at h3
          omega)
        clear HIt HRUN HJ
        by_cases hn7 : n < 8
        · have hn7z : (n : Int) < 8 := by omega
          have hPU : Hid (∀ w12 g c', w12.ownsRow (w.heap.size + 1) 58 3 (.slice (some ⟨g, 0, none⟩) (n + 1) c') (n + 1) (cM l ++ mC ⟨nm, o, v⟩) → Chg (fun i => (Value.slice al n cl).ownBlock = some i) w15 w12 → PI w w12 s b6 z5 (some ⟨g, 0, none⟩) c' (lN l ⟨nm, o, v⟩)) := hidden (fun w12 g c' h1 h2 => by
            rw [← hn.out] at h1 h2
            exact M10.out.push (by rw [hn.out]; exact hn7) HOK.out h1 h2)
          have hlen : Hid ((lN l ⟨nm, o, v⟩).length = n + 1) := hidden (by rw [lN, if_pos (by rw [hn.out]; exact hn7), List.length_append, hn.out]; rfl)
          have hrowL : Hid (w15.ownsRow (w.heap.size + 1) 58 3 (.slice al n cl) n (cM l)) := hidden (by have := M10.out.p.row; rw [hn.out] at this; exact this)
          have HSW : Hid (w.heap.size + 1 ≤ w15.heap.size) := hidden (by have := Blk.lt M10.out.p.re; omega)
          go_wp2_with (refine wpList_pushM _ rfl (.tmp 68) (.tmp 70) rfl (w.heap.size + 1) (.slice al n cl) n (cM l) rfl w15 hrowL.out ⟨nm, o, v⟩ rfl rfl (by omega) HSW.out ?_; intro g16 c16 w16 ho16 hc16 _; have P13 := hidden (hPU.out _ _ _ ho16 hc16); clear ho16 hc16 hPU g0 g1 g2)
          have k13 := k12.out _ _ _ P13.out
          obtain ⟨oo, hoo⟩ : ∃ oo, pk (bts s) b6 z5 = oo := ⟨_, rfl⟩
          have e44 : (((pkC oo : Nat) : Int) == 44) = decide (oo = some 44) := pkC_beq oo 44 (by omega) (by omega)
          rw [hoo] at k13 HNO HYE
          by_cases h44 : oo = some 44
          · rw [decide_eq_true h44] at e44
            obtain ⟨y1, y2, y5, y6⟩ := HYE.out h44
            subst y1
            have HY2 := hidden y2
            have HY5 := hidden y5
            have HY6 := hidden y6
            have HST9 : Hid (∀ m, PI w ((w16.drewN m).setCell ⟨w.heap.size, 1, none⟩ (.int .i64 ((b6 : Int) + 1))) s (b6 + 1) (-1) (some ⟨g16, 0, none⟩) c16 (lN l ⟨nm, o, v⟩)) := hidden (fun m => by
              have h9 := P13.out.lat (below_drewN (Below.refl _ _) m)
              refine h9.moved ?_ (Chg.set ⟨w.heap.size, 1, none⟩ _ _) HY6.out
              have := h9.re.set (b6 + 1)
              simpa using this)
            have d1 : ∀ m, (w16.drewN m).cell? ⟨w.heap.size, 1, none⟩ = some (.int .i64 (b6 : Int)) := fun m => (P13.out.re.drewN m).cell 1
            have f1 : ∀ m, (w16.drewN m).frozen? ⟨w.heap.size, 1, none⟩ = false := fun m => (P13.out.re.drewN m).frozen 1
            have hb6z : (b6 : Int) + 1 ≤ 9223372036854775807 := by have := HY6.out; rw [← size_bts] at this; omega
            generalize ((pkC oo : Nat) : Int) = X4 at *
            clear y2 y5 y6 HNO HYE hoo h44
            go_wp2_with (first
              | (go_at_call 34; refine k13.mono ?_; rintro e w17 ⟨rfl, n17, rfl⟩; have P14 := hidden (HST9.out n17); have k16 := KB.out _ (b6 + 1) (-1) P14.out.re P14.out.le; have d3 := d1 n17; have f3 := f1 n17; clear k13 d1 f1 HST9)
              | (go_at_call 32; refine k16.mono ?_; rintro e w18 ⟨rfl, h18, hc18⟩; have P15 := hidden (P14.out.moved h18 hc18 (skZ_le HY6.out _)); clear k16 h18 hc18 P14))
            refine ⟨⟨_, -1, some ⟨g16, 0, none⟩, c16, n + 1, lN l ⟨nm, o, v⟩, pn, true, by first | rfl | simp, by first | rfl | simp, by first | rfl | simp, by omega, hlen, P15, HY2⟩, ?_⟩
            rw [Re.m P15.out.re]
            exact HY5.out
          · rw [decide_eq_false h44] at e44
            obtain ⟨y1, y2⟩ := HNO.out h44
            have HY1 := hidden y1
            have HY2 := hidden y2
            generalize ((pkC oo : Nat) : Int) = X4 at *
            clear y1 y2 HNO HYE hoo h44
            go_wp2_with (go_at_call 34; refine k13.mono ?_; rintro e w17 ⟨rfl, n17, rfl⟩; have P14 := hidden (P13.out.lat (below_drewN (Below.refl _ _) n17)); clear k13 P13)
            refine ⟨⟨b6, z5, some ⟨g16, 0, none⟩, c16, n + 1, lN l ⟨nm, o, v⟩, pn, false, by first | rfl | simp, by first | rfl | simp, by first | rfl | simp, by omega, hlen, P14, HY1⟩, ?_⟩
            rw [Re.m P14.out.re]
            exact HY2.out
        · have hn7z : ¬ (n : Int) < 8 := by omega
          have e8 : Hid (lN l ⟨nm, o, v⟩ = l) := hidden (by rw [lN, if_neg (by rw [hn.out]; exact hn7)])
          have P13 : Hid (PI w w15 s b6 z5 al cl (lN l ⟨nm, o, v⟩)) := hidden (by rw [e8.out]; exact M10.out.p)
          have hlen : Hid ((lN l ⟨nm, o, v⟩).length = n) := hidden (by rw [e8.out]; exact hn.out)
          clear g0 g1 g2
          have k13 := k12.out _ _ _ P13.out
          obtain ⟨oo, hoo⟩ : ∃ oo, pk (bts s) b6 z5 = oo := ⟨_, rfl⟩
          have e44 : (((pkC oo : Nat) : Int) == 44) = decide (oo = some 44) := pkC_beq oo 44 (by omega) (by omega)
          rw [hoo] at k13 HNO HYE
          by_cases h44 : oo = some 44
          · rw [decide_eq_true h44] at e44
            obtain ⟨y1, y2, y5, y6⟩ := HYE.out h44
            subst y1
            have HY2 := hidden y2
            have HY5 := hidden y5
            have HY6 := hidden y6
            have HST9 : Hid (∀ m, PI w ((w15.drewN m).setCell ⟨w.heap.size, 1, none⟩ (.int .i64 ((b6 : Int) + 1))) s (b6 + 1) (-1) (al) cl (lN l ⟨nm, o, v⟩)) := hidden (fun m => by
              have h9 := P13.out.lat (below_drewN (Below.refl _ _) m)
              refine h9.moved ?_ (Chg.set ⟨w.heap.size, 1, none⟩ _ _) HY6.out
              have := h9.re.set (b6 + 1)
              simpa using this)
            have d1 : ∀ m, (w15.drewN m).cell? ⟨w.heap.size, 1, none⟩ = some (.int .i64 (b6 : Int)) := fun m => (P13.out.re.drewN m).cell 1
            have f1 : ∀ m, (w15.drewN m).frozen? ⟨w.heap.size, 1, none⟩ = false := fun m => (P13.out.re.drewN m).frozen 1
            have hb6z : (b6 : Int) + 1 ≤ 9223372036854775807 := by have := HY6.out; rw [← size_bts] at this; omega
            generalize ((pkC oo : Nat) : Int) = X4 at *
            clear y2 y5 y6 HNO HYE hoo h44
            go_wp2_with (first
              | (go_at_call 34; refine k13.mono ?_; rintro e w17 ⟨rfl, n17, rfl⟩; have P14 := hidden (HST9.out n17); have k16 := KB.out _ (b6 + 1) (-1) P14.out.re P14.out.le; have d3 := d1 n17; have f3 := f1 n17; clear k13 d1 f1 HST9)
              | (go_at_call 32; refine k16.mono ?_; rintro e w18 ⟨rfl, h18, hc18⟩; have P15 := hidden (P14.out.moved h18 hc18 (skZ_le HY6.out _)); clear k16 h18 hc18 P14))
            refine ⟨⟨_, -1, al, cl, n, lN l ⟨nm, o, v⟩, pn, true, by first | rfl | simp, by first | rfl | simp, by first | rfl | simp, by omega, hlen, P15, HY2⟩, ?_⟩
            rw [Re.m P15.out.re]
            exact HY5.out
          · rw [decide_eq_false h44] at e44
            obtain ⟨y1, y2⟩ := HNO.out h44
            have HY1 := hidden y1
            have HY2 := hidden y2
            generalize ((pkC oo : Nat) : Int) = X4 at *
            clear y1 y2 HNO HYE hoo h44
            go_wp2_with (go_at_call 34; refine k13.mono ?_; rintro e w17 ⟨rfl, n17, rfl⟩; have P14 := hidden (P13.out.lat (below_drewN (Below.refl _ _) n17)); clear k13 P13)
            refine ⟨⟨b6, z5, al, cl, n, lN l ⟨nm, o, v⟩, pn, false, by first | rfl | simp, by first | rfl | simp, by first | rfl | simp, by omega, hlen, P14, HY1⟩, ?_⟩
            rw [Re.m P14.out.re]
            exact HY2.out
    · -- no more of them
      subst hz hm
      clear hLI
      have HEN := hidden hen
      clear hen
      by_cases h125 : (bts s)[a]? = some 125
      · obtain ⟨J, hJ, hrun⟩ := HEN.out.1 h125
        have hp : pk (bts s) a (-1) = some 125 := by rw [pk_neg]; exact h125
        have hla : a + 1 ≤ (bts s).length := get_lt h125
        have q1 := KT.out wr a (-1) 125 (by decide) hPI.out.re hPI.out.le
        rw [tkA, if_pos hp, tkZ, if_pos hp] at q1
        have q1' : Calls Tryz.prog 33 #[.pointer (some ⟨w.heap.size, 0, none⟩), .int .u8 125] wr fun e w' => e = .returned (.tuple #[]) ∧ Re w' w.heap.size s (a + 1) (-1) ∧ Chg (fun i => i = w.heap.size) wr w' := q1
        obtain ⟨b, hb⟩ : ∃ b, sk (bts s) (a + 1) = b := ⟨_, rfl⟩
        have q2 : Hid (∀ wx, PI w wx s (a + 1) (-1) al cl l → Calls Tryz.prog 32 #[.pointer (some ⟨w.heap.size, 0, none⟩)] wx fun e w' => e = .returned (.tuple #[]) ∧ Re w' w.heap.size s b (-1) ∧ Chg (fun i => i = w.heap.size) wx w') := hidden (fun wx h => by
          have := KB.out wx (a + 1) (-1) h.re h.le
          rw [skZ, if_pos (by omega), hb] at this
          exact this)
        have hlb : b ≤ (bts s).length := by rw [← hb]; exact sk_le hla
        have HLA := hidden hla
        have HLB := hidden hlb
        by_cases hlt : b < s.size
        · have hltz : (b : Int) < (s.size : Int) := by omega
          have HE := hidden (end_more hla hrun (by rw [hb, ← size_bts]; exact hlt))
          rw [hb] at HE
          have kF : Hid (∀ wx, Re wx w.heap.size s b (-1) → Calls Tryz.prog 39 #[.pointer (some ⟨w.heap.size, 0, none⟩)] wx fun e w' => e = .returned (.tuple #[]) ∧ Re w' w.heap.size s b (b : Int) ∧ Chg (fun i => i = w.heap.size) wx w') := hidden (fun wx h => by
            have := rfailP w.heap.size s b (-1) wx h
            rw [failZ, if_pos (by omega)] at this
            exact this)
          clear q1 hp h125 hrun hJ hb hla hlb HEN
          go_wp2_with (first
            | (go_at_call 33; refine q1'.mono ?_; rintro e w5 ⟨rfl, h5, hc5⟩; have P5 := hidden (hPI.out.moved h5 hc5 HLA.out); have q3 := q2.out _ P5.out; clear h5 hc5 q1')
            | (go_at_call 32; refine q3.mono ?_; rintro e w6 ⟨rfl, h6, hc6⟩; have P6 := hidden (P5.out.moved h6 hc6 HLB.out); have d2 : w6.cell? ⟨w.heap.size, 2, none⟩ = some (.int .i64 (-1)) := P6.out.re.cell 2; have d1 : w6.cell? ⟨w.heap.size, 1, none⟩ = some (.int .i64 (b : Int)) := P6.out.re.cell 1; have kG := kF.out _ P6.out.re; clear h6 hc6 q3)
            | (go_at_call 39; refine kG.mono ?_; rintro e w7 ⟨rfl, h7, hc7⟩; have P7 := hidden (P6.out.moved h7 hc7 HLB.out); have f2 : w7.cell? ⟨w.heap.size, 2, none⟩ = some (.int .i64 (b : Int)) := P7.out.re.cell 2; clear h7 hc7 kG d1 d2))
          go_quiet (fail)
          go_wp2
          go_ret3
          exact ⟨_, _, _, rfl, Or.inl ⟨b, HE.out, rfl, rfl, rfl⟩, below_drewN P7.out.bel _⟩
        · have hltz : ¬ (b : Int) < (s.size : Int) := by omega
          have hltd : decide ((b : Int) < (s.size : Int)) = false := decide_eq_false hltz
          have hlte : decide (b < s.size) = false := decide_eq_false hlt
          have HE := hidden (end_done hla hrun (by rw [hb, ← size_bts]; exact hlt) hJ)
          clear q1 hp h125 hrun hJ hb hla hlb HEN
          by_cases hpl : pl < 0
          · have hpl0 : ¬ (0 : Int) ≤ pl := by omega
            have hpld : decide ((0 : Int) ≤ pl) = false := decide_eq_false hpl0
            go_wp2_with (first
              | (go_at_call 33; refine q1'.mono ?_; rintro e w5 ⟨rfl, h5, hc5⟩; have P5 := hidden (hPI.out.moved h5 hc5 HLA.out); have q3 := q2.out _ P5.out; clear h5 hc5 q1')
              | (go_at_call 32; refine q3.mono ?_; rintro e w6 ⟨rfl, h6, hc6⟩; have P6 := hidden (P5.out.moved h6 hc6 HLB.out); have d2 : w6.cell? ⟨w.heap.size, 2, none⟩ = some (.int .i64 (-1)) := P6.out.re.cell 2; have d1 : w6.cell? ⟨w.heap.size, 1, none⟩ = some (.int .i64 (b : Int)) := P6.out.re.cell 1; clear h6 hc6 q3))
            go_ret3
            refine ⟨_, _, _, rfl, Or.inr ⟨l, HE.out.2 hpl, rfl, rfl, ?_, P6.out.ok⟩, P6.out.bel⟩
            have := P6.out.row
            rw [hn.out] at this
            rw [hn.out]
            exact owns_low this (by omega)
          · have hpl0 : (0 : Int) ≤ pl := by omega
            go_wp2_with (first
              | (go_at_call 33; refine q1'.mono ?_; rintro e w5 ⟨rfl, h5, hc5⟩; have P5 := hidden (hPI.out.moved h5 hc5 HLA.out); have q3 := q2.out _ P5.out; clear h5 hc5 q1')
              | (go_at_call 32; refine q3.mono ?_; rintro e w6 ⟨rfl, h6, hc6⟩; have P6 := hidden (P5.out.moved h6 hc6 HLB.out); have d2 : w6.cell? ⟨w.heap.size, 2, none⟩ = some (.int .i64 (-1)) := P6.out.re.cell 2; have d1 : w6.cell? ⟨w.heap.size, 1, none⟩ = some (.int .i64 (b : Int)) := P6.out.re.cell 1; clear h6 hc6 q3))
            go_ret3
            exact ⟨_, _, _, rfl, Or.inl ⟨pl.toNat, HE.out.1 hpl0, rfl, by rw [Int.toNat_of_nonneg hpl0], rfl⟩, P6.out.bel⟩
      · have hrun := HEN.out.2 h125
        have HE := hidden (end_fault hrun)
        have hp : pk (bts s) a (-1) ≠ some 125 := by rw [pk_neg]; exact h125
        have q1 := KT.out wr a (-1) 125 (by decide) hPI.out.re hPI.out.le
        rw [tkA, if_neg hp, tkZ, if_neg hp, failZ, if_pos (by omega)] at q1
        have q1' : Calls Tryz.prog 33 #[.pointer (some ⟨w.heap.size, 0, none⟩), .int .u8 125] wr fun e w' => e = .returned (.tuple #[]) ∧ Re w' w.heap.size s a (a : Int) ∧ Chg (fun i => i = w.heap.size) wr w' := q1
        have q2 : Hid (∀ wx, PI w wx s a (a : Int) al cl l → Calls Tryz.prog 32 #[.pointer (some ⟨w.heap.size, 0, none⟩)] wx fun e w' => e = .returned (.tuple #[]) ∧ Re w' w.heap.size s a (a : Int) ∧ Chg (fun i => i = w.heap.size) wx w') := hidden (fun wx h => by
          have := KB.out wx a (a : Int) h.re h.le
          rw [skZ, if_neg (by omega)] at this
          exact this)
        clear q1 hp h125 hrun HEN
        go_wp2_with (first
          | (go_at_call 33; refine q1'.mono ?_; rintro e w5 ⟨rfl, h5, hc5⟩; have P5 := hidden (hPI.out.moved h5 hc5 hPI.out.ble); have q3 := q2.out _ P5.out; clear h5 hc5 q1')
          | (go_at_call 32; refine q3.mono ?_; rintro e w6 ⟨rfl, h6, hc6⟩; have P6 := hidden (P5.out.moved h6 hc6 P5.out.ble); have d2 : w6.cell? ⟨w.heap.size, 2, none⟩ = some (.int .i64 (a : Int)) := P6.out.re.cell 2; clear h6 hc6 q3))
        go_quiet (fail)
        go_wp2
        go_ret3
        exact ⟨_, _, _, rfl, Or.inl ⟨a, HE.out, rfl, rfl, rfl⟩, below_drewN P6.out.bel _⟩

end Go.Proofs.YtanlgplgplncdaaGreatDoor.L
