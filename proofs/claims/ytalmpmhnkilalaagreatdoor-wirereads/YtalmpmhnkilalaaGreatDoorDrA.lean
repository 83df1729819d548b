import Derived.Test.YtalmpmhnkilalaaGreatDoorDcC
import Derived.BigQuiet
import Derived.Test.YtalmpmhnkilalaaGreatDoorAnyB
import Derived.Test.YtalmpmhnkilalaaGreatDoorBlk
/-
  The document's own reader: get, signed.
-/
namespace Go.Proofs.YtalmpmhnkilalaaGreatDoor
open Go.RowKit
set_option linter.unusedVariables false
set_option linter.unusedSimpArgs false

/-- The document's reader in memory: bytes, where it stands, the bits that are left, whether something was bad. -/
structure YS (w : World) (r : Nat) (ad : Option Addr) (c : Nat) (l : List Int) (B : List Bool) (bad : Bool) : Prop where
  blk : ∃ t : Nat, t ≤ 8 * l.length ∧ Blk w r 176 [.slice ad l.length c, .int .i64 (t : Int), .bool bad] ∧ B = (ub l).drop t
  sl : Sl w ad l.length l
  ne : ∀ z, ad = some z → 0 < l.length → z.block ≠ r
  len : l.length ≤ 100000000
theorem YS.chg {F : Nat → Prop} {w w' : World} {r c : Nat} {ad : Option Addr} {l : List Int} {B : List Bool} {bad : Bool} (h : YS w r ad c l B bad) (hc : Chg F w w') (hr : ¬ F r) (ha : ∀ z, ad = some z → 0 < l.length → ¬ F z.block) : YS w' r ad c l B bad := by
  obtain ⟨t, h1, h2, h3⟩ := h.blk
  exact ⟨⟨t, h1, hc.blk h2 hr, h3⟩, hc.sl h.sl ha, h.ne, h.len⟩
theorem YS.later {w w' : World} {r c : Nat} {ad : Option Addr} {l : List Int} {B : List Bool} {bad : Bool} (h : YS w r ad c l B bad) (hb : Below w.heap.size w w') : YS w' r ad c l B bad := h.chg (Chg.of_below (F := fun _ => False) hb) (fun e => e) (fun _ _ _ e => e)
theorem ub_drop {l : List Int} {t : Nat} (h : t < 8 * l.length) : (ub l).drop t = bt l t :: (ub l).drop (t + 1) := by
  have hl : t < (ub l).length := by rw [ub_len]; exact h
  rw [List.drop_eq_getElem_cons hl]
  congr 1
  have := ub_at l t
  rw [List.getD_eq_getElem?_getD, List.getElem?_eq_getElem hl] at this
  exact this
/-- The bit, as it is reckoned. -/
theorem bt_val (l : List Int) (hb : Byte l) (t : Nat) : (l.getD (t / 8) 0) / 2 ^ (7 - t % 8) % 2 = ((bt l t).toNat : Int) := by
  have h := hb.at (t / 8)
  unfold bt
  rw [Nat.toNat_testBit]
  generalize l.getD (t / 8) 0 = y at *
  obtain ⟨z, rfl⟩ : ∃ z : Nat, y = (z : Int) := ⟨y.toNat, by omega⟩
  rw [Int.toNat_natCast, Int.natCast_emod, Int.natCast_ediv, Int.natCast_pow]
  rfl

theorem u8_and1 (c : Int) (h0 : 0 ≤ c) (h1 : c ≤ 255) : bits .and .u8 c 1 = c % 2 :=
  bits_mask .u8 8 (by decide) wraps_u8 1 (by decide) c h0 (by omega)
theorem shr_bd {y : Int} {sh : Nat} (h : 0 ≤ y ∧ y ≤ 255) (hs : sh ≤ 7) : 0 ≤ y / 2 ^ sh ∧ y / 2 ^ sh ≤ 255 := by
  rcases (show sh = 0 ∨ sh = 1 ∨ sh = 2 ∨ sh = 3 ∨ sh = 4 ∨ sh = 5 ∨ sh = 6 ∨ sh = 7 by omega) with rfl | rfl | rfl | rfl | rfl | rfl | rfl | rfl <;> simp <;> omega
theorem vl_take {B : List Bool} {i : Nat} {b : Bool} {t : List Bool} (h : B.drop i = b :: t) : vl (B.take (i + 1)) = 2 * vl (B.take i) + b.toNat ∧ B.drop (i + 1) = t ∧ i < B.length := by
  have hl : i < B.length := by
    rcases Nat.lt_or_ge i B.length with h1 | h1
    · exact h1
    · rw [List.drop_of_length_le h1] at h; cases h
  rw [List.drop_eq_getElem_cons hl] at h
  injection h with h1 h2
  refine ⟨?_, h2, hl⟩
  rw [List.take_add_one, List.getElem?_eq_getElem hl, h1]
  exact vl_snoc _ _

set_option maxRecDepth 100000 in
set_option maxHeartbeats 8000000 in
theorem getD (w : World) (r c n : Nat) (ad : Option Addr) (l : List Int) (B : List Bool) (bad : Bool) (h : YS w r ad c l B bad) (hn : n ≤ 64) :
    Calls Tryz.prog 175 #[.pointer (some ⟨r, 0, none⟩), .int .i64 (n : Int)] w fun e w' => e = .returned (.int .u64 (tkV n B : Int)) ∧ (∃ B' bad', YS w' r ad c l B' bad' ∧ (n ≤ B.length → B' = B.drop n ∧ bad' = bad) ∧ (¬ n ≤ B.length → bad' = true)) ∧ Chg (fun i => i = r) w w' := by
  have HY := hidden h
  clear h
  go_enter Tryz.func175, Tryz.ntmps175
  go_wp2_with fail
  go_loopw [5, 6] (fun v5 v6 wx => ∃ i : Nat, i ≤ n ∧ i ≤ B.length ∧ v6 = .int .i64 (i : Int) ∧ v5 = .int .u64 ((vl (B.take i) : Nat) : Int) ∧ Hid (YS wx r ad c l (B.drop i) bad) ∧ Hid (Chg (fun i => i = r) w wx)) (fun _ v6 _ => n - (intOf v6).toNat)
  case atStart => exact ⟨0, by omega, by omega, rfl, rfl, by simpa using HY, hidden (Chg.refl _ _)⟩
  case round =>
    rename World => wx
    obtain ⟨i, hi, hiB, rfl, rfl, hY, hC⟩ := hrel
    clear HY
    obtain ⟨t, ht, hB, hD⟩ := hY.out.blk
    have hll := hY.out.len
    have c0 := hB.cell 0
    have c1 := hB.cell 1
    simp at c0 c1
    have f1 := hB.frozen 1
    have f2 := hB.frozen 2
    have c2 := hB.cell 2
    simp at c2
    have HB := hidden hB
    have HDD := hidden hD
    clear hB hD
    obtain ⟨N, hN⟩ : ∃ N, l.length = N := ⟨_, rfl⟩
    rw [hN] at c0 ht hll
    have HNN := hidden hN
    clear hN
    by_cases hlt : i < n
    · have hltz : (i : Int) < (n : Int) := by omega
      by_cases htn : t < 8 * N
      · have htz : ¬ 8 * (N : Int) ≤ (t : Int) := by omega
        have hd2 := HDD.out
        rw [ub_drop (by rw [HNN.out]; exact htn)] at hd2
        obtain ⟨hv, hdr, hil⟩ := vl_take hd2
        have hbv := bt_val l hY.out.sl.byte t
        obtain ⟨q, hq⟩ : ∃ q, t / 8 = q := ⟨_, rfl⟩
        obtain ⟨sh, hsh⟩ : ∃ sh, 7 - t % 8 = sh := ⟨_, rfl⟩
        have hyb := hY.out.sl.byte.at q
        have hqN : q < N := by omega
        obtain ⟨g, off, rfl, hgl, hcell⟩ := hY.out.sl.at (by rw [HNN.out]; omega)
        have cq := hcell q (by rw [HNN.out]; exact hqN)
        clear hcell
        rw [hq, hsh] at hbv
        have hqi : (t : Int) / 8 = (q : Int) := by omega
        have hri : 7 - (t : Int) % 8 = (sh : Int) := by omega
        have hsh7 : sh ≤ 7 := by omega
        have hvl := vl_lt (B.take i)
        have hti : (B.take i).length = i := by rw [List.length_take]; omega
        rw [hti] at hvl
        have hp63 : 2 ^ i ≤ 2 ^ 63 := Nat.pow_le_pow_right (by omega) (by omega)
        have hvb : vl (B.take i) < 9223372036854775808 := by omega
        obtain ⟨y, hy⟩ : ∃ y, l.getD q 0 = y := ⟨_, rfl⟩
        rw [hy] at cq hyb hbv
        have hbit : bits BinOp.and IntKind.u8 (y / 2 ^ sh) 1 = ((bt l t).toNat : Int) := by
          rw [← hbv]
          exact u8_and1 _ (shr_bd hyb hsh7).1 (shr_bd hyb hsh7).2
        have hb1 : (bt l t).toNat ≤ 1 := by cases bt l t <;> simp
        have HV := hidden hv
        have HDR := hidden hdr
        clear hv hdr hd2 hvl hp63 hbv hy
        generalize vl (B.take i) = V at *
        generalize (bt l t).toNat = bb at *
        have YN : Hid (∀ k, YS ((wx.drewN k).setCell ⟨r, 1, none⟩ (.int .i64 ((t : Int) + 1))) r (some ⟨g, off, none⟩) c l (B.drop (i + 1)) bad) := hidden (fun k => by
          have hc := chg_set (wx.drewN k) r 1 (.int .i64 ((t : Int) + 1))
          have hY' := hY.out.later (below_drewN (Below.refl _ _) k)
          refine ⟨⟨t + 1, by rw [HNN.out]; omega, ?_, HDR.out⟩, hc.sl hY'.sl (fun z hz h0 e => hY.out.ne z hz h0 e), hY.out.ne, hY.out.len⟩
          have := (HB.out.drewN k).set 1 (.int .i64 ((t : Int) + 1))
          simpa using this)
        have CN : Hid (∀ k, Chg (fun i => i = r) w ((wx.drewN k).setCell ⟨r, 1, none⟩ (.int .i64 ((t : Int) + 1)))) := hidden (fun k => (hC.out.trans (Chg.drewN (fun i => i = r) wx k) (fun _ _ e => e)).trans (chg_set (wx.drewN k) r 1 (.int .i64 ((t : Int) + 1))) (fun _ _ e => e))
        go_wp2_with fail
        go_quiet (fail)
        go_wp2_with fail
        go_quiet (fail)
        go_wp2_with fail
        refine ⟨⟨i + 1, by omega, by omega, by rw [Int.natCast_add]; rfl, ?_, hidden (YN.out _), hidden (CN.out _)⟩, by simp [intOf]; omega⟩
        rw [HV.out]
        congr 1
        omega
      · have htz : 8 * (N : Int) ≤ (t : Int) := by omega
        have hBn : B.drop i = [] := by rw [HDD.out, List.drop_of_length_le (by rw [ub_len, HNN.out]; omega)]
        have hnl : ¬ n ≤ B.length := by
          have := congrArg List.length hBn
          rw [List.length_drop] at this
          simp at this
          omega
        have HV : Hid (tkV n B = 0) := hidden (by unfold tkV; rw [if_neg hnl])
        have YN : Hid (∀ k, YS ((wx.drewN k).setCell ⟨r, 2, none⟩ (.bool true)) r ad c l (B.drop i) true) := hidden (fun k => by
          have hc := chg_set (wx.drewN k) r 2 (.bool true)
          have hY' := hY.out.later (below_drewN (Below.refl _ _) k)
          refine ⟨⟨t, by rw [HNN.out]; exact ht, ?_, HDD.out⟩, hc.sl hY'.sl (fun z hz h0 e => hY.out.ne z hz h0 e), hY.out.ne, hY.out.len⟩
          have := (HB.out.drewN k).set 2 (.bool true)
          simpa using this)
        have CN : Hid (∀ k, Chg (fun i => i = r) w ((wx.drewN k).setCell ⟨r, 2, none⟩ (.bool true))) := hidden (fun k => (hC.out.trans (Chg.drewN (fun i => i = r) wx k) (fun _ _ e => e)).trans (chg_set (wx.drewN k) r 2 (.bool true)) (fun _ _ e => e))
        have HNL := hidden hnl
        clear hBn hnl
        go_wp2_with fail
        go_quiet (fail)
        go_wp2_with fail
        first | go_region | skip
        go_wp2
        go_ret
        exact ⟨by rw [HV.out]; rfl, ⟨B.drop i, true, YN.out _, fun h => absurd h HNL.out, fun _ => rfl⟩, CN.out _⟩
    · obtain rfl : i = n := by omega
      have hge : ¬ (i : Int) < (i : Int) := by omega
      have HV : Hid (tkV i B = vl (B.take i)) := hidden (by unfold tkV; rw [if_pos hiB])
      clear c0 c1 c2 f1 f2 hlt
      go_wp2
      go_ret
      first
        | exact ⟨by rw [HV.out]; rfl, ⟨B.drop i, bad, hY.out, fun _ => ⟨rfl, rfl⟩, fun h => absurd hiB h⟩, hC.out⟩
        | exact ⟨by rw [HV.out]; rfl, hY.out, hC.out⟩

end Go.Proofs.YtalmpmhnkilalaaGreatDoor

/-
  The document's own reader: signed, x.
-/
namespace Go.Proofs.YtalmpmhnkilalaaGreatDoor
open Go.RowKit
set_option linter.unusedVariables false
set_option linter.unusedSimpArgs false

set_option maxRecDepth 100000 in
set_option maxHeartbeats 2000000 in
theorem signedD (v w : Nat) (w0 : World) (hv : v < 18446744073709551616) (hw : w = 0 ∨ w = 7 ∨ w = 9 ∨ w = 12 ∨ w = 64) :
    Calls Tryz.prog 188 #[.int .u64 (v : Int), .int .i64 (w : Int)] w0 fun e w' => e = .returned (.int .i64 (sg v w)) ∧ w' = w0 := by
  rcases hw with rfl | rfl | rfl | rfl | rfl
  all_goals
    go_enter Tryz.func188, Tryz.ntmps188
    go_wp2
    go_ret
    refine ⟨?_, by first | trivial | rfl⟩
  · exact congrArg (fun z => Ending.returned (.int .i64 z)) (by unfold sg; rw [w64, u64w]; simp)
  · exact congrArg (fun z => Ending.returned (.int .i64 z)) (by unfold sg; rw [w64, u64w]; simp)
  · exact congrArg (fun z => Ending.returned (.int .i64 z)) (by unfold sg; rw [w64, u64w]; simp)
  · exact congrArg (fun z => Ending.returned (.int .i64 z)) (by unfold sg; rw [w64, u64w]; simp)
  · exact congrArg (fun z => Ending.returned (.int .i64 z)) (by unfold sg; rw [w64]; simp; unfold wr; omega)

theorem rdX_inv {c0 c : List Bool} {x0 : Nat} (h : rdX (true :: c0) = some (x0, c)) : 12 ≤ c0.length ∧ fa c0 + fz c0 ≤ 64 ∧ fz c0 ≤ (fc c0).length ∧ fx c0 = x0 ∧ (fc c0).drop (fz c0) = c := by
  by_cases hle : fa c0 + fz c0 ≤ 64
  · obtain ⟨h1, h2, h3⟩ := ((rdX_yes false hle).2 rfl).2 _ _ h
    rw [Bool.or_eq_false_iff] at h3
    have hz : fz c0 ≤ (fc c0).length := by
      rcases Nat.lt_or_ge (fc c0).length (fz c0) with h5 | h5
      · have := h3.1
        unfold tkW at this
        rw [if_neg (by omega)] at this
        cases this
      · exact h5
    have h12 : 12 ≤ c0.length := by
      rcases Nat.lt_or_ge c0.length 12 with h5 | h5
      · have := h3.1
        rw [f_short (by omega), tkW_true] at this
        cases this
      · exact h5
    refine ⟨h12, hle, hz, h1, ?_⟩
    unfold tkB at h2
    rwa [if_pos hz] at h2
  · rw [rdX_no hle] at h; cases h

/-- What one of the document's reads leaves. -/
def XdP {α : Type} (rd : List Bool → Option (α × List Bool)) (w : World) (r c : Nat) (ad : Option Addr) (l : List Int) (B : List Bool) (bad : Bool) (x : α) (w' : World) : Prop :=
  (∃ B' bad', YS w' r ad c l B' bad' ∧ ∀ x0 cc, rd B = some (x0, cc) → x = x0 ∧ B' = cc ∧ bad' = bad) ∧ Chg (fun i => i = r) w w'

set_option maxRecDepth 100000 in
set_option maxHeartbeats 8000000 in
theorem xD (w : World) (r c : Nat) (ad : Option Addr) (l : List Int) (B : List Bool) (bad : Bool) (h : YS w r ad c l B bad) :
    Calls Tryz.prog 177 #[.pointer (some ⟨r, 0, none⟩)] w fun e w' => ∃ x : Nat, e = .returned (.int .u64 (x : Int)) ∧ x < 18446744073709551616 ∧ XdP rdX w r c ad l B bad x w' := by
  have HY := hidden h
  have G1 : Hid (∀ w1 B1 b1, YS w1 r ad c l B1 b1 → Calls Tryz.prog 175 #[.pointer (some ⟨r, 0, none⟩), .int .i64 1] w1 fun e w' => e = .returned (.int .u64 (tkV 1 B1 : Int)) ∧ (∃ B' bad', YS w' r ad c l B' bad' ∧ (1 ≤ B1.length → B' = B1.drop 1 ∧ bad' = b1) ∧ (¬ 1 ≤ B1.length → bad' = true)) ∧ Chg (fun i => i = r) w1 w') := hidden (fun w1 B1 b1 h1 => getD w1 r c 1 ad l B1 b1 h1 (by omega))
  have G6 : Hid (∀ w1 B1 b1, YS w1 r ad c l B1 b1 → Calls Tryz.prog 175 #[.pointer (some ⟨r, 0, none⟩), .int .i64 6] w1 fun e w' => e = .returned (.int .u64 (tkV 6 B1 : Int)) ∧ (∃ B' bad', YS w' r ad c l B' bad' ∧ (6 ≤ B1.length → B' = B1.drop 6 ∧ bad' = b1) ∧ (¬ 6 ≤ B1.length → bad' = true)) ∧ Chg (fun i => i = r) w1 w') := hidden (fun w1 B1 b1 h1 => getD w1 r c 6 ad l B1 b1 h1 (by omega))
  clear h
  go_enter Tryz.func177, Tryz.ntmps177
  go_wp2_with fail
  refine (G1.out w B bad HY.out).mono ?_
  rintro e w1 ⟨rfl, ⟨B1, b1, hY1, hk1, _⟩, hc1⟩
  have Y1 := hidden hY1
  have C1 := hidden hc1
  have K1 := hidden hk1
  clear hY1 hc1 hk1
  by_cases hb : tkV 1 B = 0
  · have HZ : Hid (∀ x0 cc, rdX B = some (x0, cc) → (0 : Nat) = x0 ∧ B1 = cc ∧ b1 = bad) := hidden (fun x0 cc hh => by
      rcases tk1 B with ⟨rfl, _⟩ | ⟨c, rfl, _⟩ | ⟨c, _, h2, _⟩
      · simp [rdX] at hh
      · simp only [rdX] at hh
        injection hh with hh
        injection hh with h5 h6
        obtain ⟨h7, h8⟩ := K1.out (by simp)
        exact ⟨h5, by rw [h7, ← h6]; rfl, h8⟩
      · rw [h2] at hb; exact absurd hb (by omega))
    rw [hb]
    go_wp2
    go_ret
    exact ⟨0, rfl, by omega, ⟨_, _, Y1.out, HZ.out⟩, C1.out⟩
  · obtain ⟨c0, rfl, h2⟩ : ∃ c0, B = true :: c0 ∧ tkV 1 B = 1 := by
      rcases tk1 B with ⟨_, h2, _⟩ | ⟨c, _, h2, _⟩ | ⟨c, h1, h2, _⟩
      · exact absurd h2 hb
      · exact absurd h2 hb
      · exact ⟨c, h1, h2⟩
    obtain ⟨e1, e2⟩ := K1.out (by simp)
    have e1' : B1 = c0 := by rw [e1]; rfl
    subst e1' e2
    rw [h2]
    clear hb h2 K1 e1
    go_wp2_with fail
    refine (G6.out w1 _ _ Y1.out).mono ?_
    rintro e w2 ⟨rfl, ⟨B2, b2, hY2, hk2, _⟩, hc2⟩
    have Y2 := hidden hY2
    have C2 := hidden (C1.out.trans hc2 (fun _ _ e => e))
    have K2 := hidden hk2
    clear hY2 hc2 hk2
    have ha6 := tkV_pow (n := 6) (B := B1)
    go_wp2_with fail
    refine (G6.out w2 _ _ Y2.out).mono ?_
    rintro e w3 ⟨rfl, ⟨B3, b3, hY3, hk3, _⟩, hc3⟩
    have Y3 := hidden hY3
    have C3 := hidden (C2.out.trans hc3 (fun _ _ e => e))
    have K3 := hidden hk3
    clear hY3 hc3 hk3
    have hz6 := tkV_pow (n := 6) (B := B2)
    have INV : Hid (∀ x0 cc, rdX (true :: B1) = some (x0, cc) → fa B1 = tkV 6 B1 ∧ fz B1 = tkV 6 B2 + 1 ∧ fc B1 = B3 ∧ b3 = b1 ∧ fa B1 + fz B1 ≤ 64 ∧ fz B1 ≤ B3.length ∧ fx B1 = x0 ∧ B3.drop (fz B1) = cc) := hidden (fun x0 cc hh => by
      obtain ⟨i1, i2, i3, i4, i5⟩ := rdX_inv hh
      obtain ⟨j1, j2⟩ := K2.out (by omega)
      have hB2 : B2 = tkB 6 B1 := by rw [j1]; unfold tkB; rw [if_pos (by omega)]
      obtain ⟨j3, j4⟩ := K3.out (by rw [j1, List.length_drop]; omega)
      have hB3 : fc B1 = B3 := by rw [j3]; unfold fc; rw [← hB2]; unfold tkB; rw [if_pos (by rw [j1, List.length_drop]; omega)]
      refine ⟨rfl, by unfold fz; rw [← hB2], hB3, by rw [j4, j2], i2, by rw [← hB3]; exact i3, i4, by rw [← hB3]; exact i5⟩)
    clear K2 K3
    obtain ⟨a, ha⟩ : ∃ a, tkV 6 B1 = a := ⟨_, rfl⟩
    obtain ⟨zz, hzz⟩ : ∃ zz, tkV 6 B2 = zz := ⟨_, rfl⟩
    rw [ha] at ha6 INV ⊢
    rw [hzz] at hz6 INV ⊢
    have hzi : (zz : Int) + 1 = ((zz + 1 : Nat) : Int) := by omega
    by_cases hle : a + (zz + 1) ≤ 64
    · have hno : ¬ (64 : Int) < (a : Int) + ((zz : Int) + 1) := by omega
      obtain ⟨bh, hbh⟩ : ∃ bh, 64 - a - (zz + 1) = bh := ⟨_, rfl⟩
      have hbe : (64 : Int) - (a : Int) - ((zz : Int) + 1) = (bh : Int) := by omega
      have hb64 : bh ≤ 63 := by omega
      have HG := hidden (getD w3 r c (zz + 1) ad l B3 b3 Y3.out (by omega))
      have hvp := tkV_pow (n := zz + 1) (B := B3)
      obtain ⟨V, hV⟩ : ∃ V, tkV (zz + 1) B3 = V := ⟨_, rfl⟩
      rw [hV] at HG hvp
      have hxl : V * 2 ^ bh < 18446744073709551616 := by
        have h3 : V * 2 ^ bh < 2 ^ (zz + 1) * 2 ^ bh := Nat.mul_lt_mul_of_pos_right hvp (Nat.two_pow_pos _)
        rw [← Nat.pow_add] at h3
        have h4 : 2 ^ (zz + 1 + bh) ≤ 2 ^ 64 := Nat.pow_le_pow_right (by omega) (by omega)
        omega
      have hsh : IntKind.u64.wrap ((V : Int) * 2 ^ bh) = ((V * 2 ^ bh : Nat) : Int) := by
        rw [u64w]
        have e1 : ((V * 2 ^ bh : Nat) : Int) = (V : Int) * 2 ^ bh := by rw [Int.natCast_mul, Int.natCast_pow]; rfl
        rw [← e1]
        omega
      have HVV := hidden hV
      rw [← hzi] at HG
      clear hV hzi hvp
      have hv64 : V < 18446744073709551616 := by
        have := Nat.two_pow_pos bh
        have h5 : V * 1 ≤ V * 2 ^ bh := Nat.mul_le_mul_left _ this
        omega
      go_wp2_with fail
      refine HG.out.mono ?_
      rintro e w4 ⟨rfl, ⟨B4, b4, hY4, hk4, _⟩, hc4⟩
      have Y4 := hidden hY4
      have C4 := hidden (C3.out.trans hc4 (fun _ _ e => e))
      have FI : Hid (∀ x0 cc, rdX (true :: B1) = some (x0, cc) → V * 2 ^ bh = x0 ∧ B4 = cc ∧ b4 = b1) := hidden (fun x0 cc hh => by
        obtain ⟨i1, i2, i3, i4, i5, i6, i7, i8⟩ := INV.out x0 cc hh
        obtain ⟨j1, j2⟩ := hk4 (by rw [← i2]; exact i6)
        refine ⟨?_, by rw [j1, ← i2]; exact i8, by rw [j2, i4]⟩
        rw [← i7]
        unfold fx
        rw [i3, i2, i1, hbh, HVV.out])
      clear hY4 hc4 hk4 HG
      go_wp2_with (first | simp only [hsh] | fail)
      go_ret
      exact ⟨V * 2 ^ bh, by first | rfl | simp [hsh], hxl, ⟨_, _, Y4.out, FI.out⟩, C4.out⟩
    · have hno : (64 : Int) < (a : Int) + ((zz : Int) + 1) := by omega
      obtain ⟨t, ht, hB, hD⟩ := Y3.out.blk
      have f2 := hB.frozen 2
      have c2 := hB.cell 2
      simp at c2
      have hc := chg_set w3 r 2 (.bool true)
      have Y4 : Hid (YS (w3.setCell ⟨r, 2, none⟩ (.bool true)) r ad c l B3 true) := hidden ⟨⟨t, ht, by have := hB.set 2 (.bool true); simpa using this, hD⟩, hc.sl Y3.out.sl (fun z hz h0 e => Y3.out.ne z hz h0 e), Y3.out.ne, Y3.out.len⟩
      have C4 := hidden (C3.out.trans hc (fun _ _ e => e))
      have FI : Hid (∀ x0 cc, rdX (true :: B1) = some (x0, cc) → (0 : Nat) = x0 ∧ B3 = cc ∧ true = b1) := hidden (fun x0 cc hh => by
        obtain ⟨i1, i2, i3, i4, i5, i6, i7, i8⟩ := INV.out x0 cc hh
        omega)
      clear hB hD hc hzi
      go_wp2_with fail
      first | go_region | skip
      go_wp2
      go_ret
      exact ⟨0, rfl, by omega, ⟨_, _, Y4.out, FI.out⟩, C4.out⟩

end Go.Proofs.YtalmpmhnkilalaaGreatDoor

/-
  A region that draws its order and holds one call that changes memory; all else leaves things as they are, calls too. Nothing of the program.
-/
namespace Go.Proofs.YtalmpmhnkilalaaGreatDoor
open Go.RowKit
set_option linter.unusedVariables false
set_option linter.unusedSimpArgs false

section
variable {P : Program} {ops : Array Oper} {Q : Exit → Act → World → Prop} {T : Nat → Value → World → Prop} {R : World → World → Prop} {I0 I1 : World → Prop} {qA : Nat} {a0 : Act}

/-- A step that leaves things as they are. -/
def ReadOkW (P : Program) (ops : Array Oper) (Q : Exit → Act → World → Prop) (T : Nat → Value → World → Prop) (R : World → World → Prop) (I0 I1 : World → Prop) (a0 : Act) (i : Nat) (o : Oper) : Prop :=
  ∀ (a : Act) (w : World), I0 w ∨ I1 w → Same ops a0 a → (∀ e ∈ o.after, Region.binds .any e = true → ∀ oj, ops[e.on]? = some oj → T e.on (valAt a oj) w) →
    Region.wanted o (yielded ops a.tmps) = true ∧ o.wp P a w (fun a' w' => ∃ v, a' = a.put o.dst v ∧ R w w' ∧ (I0 w → I0 w') ∧ (I1 w → I1 w') ∧ T i (told o a v) w') Q
/-- The call. -/
def CallOkW (P : Program) (ops : Array Oper) (Q : Exit → Act → World → Prop) (T : Nat → Value → World → Prop) (R : World → World → Prop) (I J : World → Prop) (a0 : Act) (i : Nat) (o : Oper) : Prop :=
  ∀ (a : Act) (w : World), I w → Same ops a0 a → (∀ e ∈ o.after, Region.binds .any e = true → ∀ oj, ops[e.on]? = some oj → T e.on (valAt a oj) w) →
    Region.wanted o (yielded ops a.tmps) = true ∧ o.wp P a w (fun a' w' => ∃ v, a' = a.put o.dst v ∧ J w' ∧ R w w' ∧ T i (told o a v) w') Q

theorem wpAny_oneW (hap : placesOk ops = true) (hf : forward ops = true) (hsz : within ops a0.tmps.size = true) (hAs : qA < ops.size)
    (hst : ∀ i v w w', T i v w → R w w' → T i v w')
    (hop : ∀ i o, ops[i]? = some o → i ≠ qA → ReadOkW P ops Q T R I0 I1 a0 i o)
    (hA : ∀ o, ops[qA]? = some o → CallOkW P ops Q T R I0 I1 a0 qA o)
    (hdone : ∀ a w, I1 w → Same ops a0 a → (∀ i o, ops[i]? = some o → T i (valAt a o) w) → Q .normal a w) :
    ∀ (fuel : Nat) (listed : Array Bool) (a : Act) (w : World), listed.size = ops.size → listed.toList.countP id + fuel = ops.size →
      ((listed.getD qA true = true → I1 w) ∧ (listed.getD qA true = false → I0 w)) → Same ops a0 a →
      (∀ i o, ops[i]? = some o → listed.getD i true = true → T i (valAt a o) w ∧ ∀ e ∈ o.after, Region.binds .any e = true → listed.getD e.on false = true) → wpAny P .any ops Q fuel listed a w := by
  intro fuel
  induction fuel with
  | zero =>
    intro listed a w hl hc hph hs hT
    have hall2 : ∀ i, i < ops.size → listed.getD i true = true := by
      intro i hi
      have := List.countP_eq_length.1 (show listed.toList.countP id = listed.toList.length by rw [Array.length_toList]; omega) listed[i] (by simp)
      rw [Array.getD_eq_getD_getElem?]
      simpa [show i < listed.size by omega] using this
    refine ⟨?_, hdone a w (hph.1 (hall2 qA hAs)) hs fun i o hi => (hT i o hi (hall2 i (Array.getElem?_eq_some_iff.1 hi).1)).1⟩
    cases hr : Region.ready .any ops listed with
    | nil => rfl
    | cons j t =>
      exfalso
      have hj : j ∈ Region.ready .any ops listed := by rw [hr]; simp
      rw [mem_ready] at hj
      obtain ⟨h0, o, ho, _⟩ := hj
      rw [hall2 j (Array.getElem?_eq_some_iff.1 ho).1] at h0
      cases h0
  | succ fuel ih =>
    intro listed a w hl hc hph hs hT
    refine ⟨fun hr => hdone a w (hph.1 (not_ready hf hl hr qA hAs)) hs fun i o hi => (hT i o hi (not_ready hf hl hr i (Array.getElem?_eq_some_iff.1 hi).1)).1, fun i hi => ?_⟩
    rw [mem_ready] at hi
    obtain ⟨h0, o, ho, hdeps⟩ := hi
    have hlt := (Array.getElem?_eq_some_iff.1 ho).1
    have hyes : ∀ k ok, ops[k]? = some ok → listed.getD k false = true → listed.getD k true = true := by
      intro k ok hk this
      have hlt2 := (Array.getElem?_eq_some_iff.1 hk).1
      rw [Array.getD_eq_getD_getElem?] at this ⊢
      have hb2 : k < listed.size := by omega
      simpa [hb2] using this
    have hany : I0 w ∨ I1 w := by
      cases ha : listed.getD qA true with
      | true => exact .inr (hph.1 ha)
      | false => exact .inl (hph.2 ha)
    have hdv : ∀ e ∈ o.after, Region.binds .any e = true → ∀ oj, ops[e.on]? = some oj → T e.on (valAt a oj) w := fun e he hb oj hoj => (hT e.on oj hoj (hyes _ _ hoj (hdeps e he hb))).1
    have hkeep : ∀ j, i ≠ j → (listed.setIfInBounds i true).getD j true = listed.getD j true := by
      intro j hij
      rw [Array.getD_eq_getD_getElem?, Array.getElem?_setIfInBounds, if_neg hij, ← Array.getD_eq_getD_getElem?]
    have hself : (listed.setIfInBounds i true).getD i true = true := by
      rw [Array.getD_eq_getD_getElem?, Array.getElem?_setIfInBounds]
      simp [show i < listed.size by omega]
    have next : ∀ v w', R w w' → T i (told o a v) w' → (((listed.setIfInBounds i true).getD qA true = true → I1 w') ∧ ((listed.setIfInBounds i true).getD qA true = false → I0 w')) → wpAny P .any ops Q fuel (listed.setIfInBounds i true) (a.put o.dst v) w' := by
      intro v w' hR hv hph2
      have hback : ∀ j, i ≠ j → (listed.setIfInBounds i true).getD j true = true → listed.getD j true = true := fun j hij hjl => by rw [hkeep j hij] at hjl; exact hjl
      have hon : ∀ k, listed.getD k false = true → (listed.setIfInBounds i true).getD k false = true := by
        intro k hk
        rw [Array.getD_eq_getD_getElem?] at hk ⊢
        rw [Array.getElem?_setIfInBounds]
        by_cases hik : i = k
        · simp [hik, show k < listed.size by omega]
        · rw [if_neg hik]; exact hk
      have hval : ∀ j oj, ops[j]? = some oj → i ≠ j → listed.getD j true = true → valAt (a.put o.dst v) oj = valAt a oj := by
        intro j oj hj hij hjl
        refine valAt_put hj ho (fun d hd hp => ?_)
        obtain ⟨e, he, hb, hon2⟩ := placesOk_spec hap hj ho (fun h => hij h.symm) hd hp
        have := (hT j oj hj hjl).2 e he hb
        rw [hon2] at this
        have h3 := hyes i o ho this
        rw [h3] at h0
        cases h0
      refine ih _ _ _ (by rw [Array.size_setIfInBounds]; exact hl) ?_ hph2 (same_put ho hs) ?_
      · rw [Array.toList_setIfInBounds, List.countP_set (by rw [Array.length_toList]; omega)]
        have hf0 : listed.toList[i]'(by rw [Array.length_toList]; omega) = false := by
          rw [Array.getD_eq_getD_getElem?] at h0
          simpa [show i < listed.size by omega] using h0
        rw [hf0]
        show listed.toList.countP id - 0 + 1 + fuel = ops.size
        omega
      · intro j oj hj hjl
        by_cases hij : i = j
        · subst hij
          rw [ho] at hj
          obtain rfl := Option.some.inj hj
          rw [valAt_put_same (by rw [hs.size]; exact hsz) ho]
          exact ⟨hv, fun e he hb => hon _ (hdeps e he hb)⟩
        · have hjl2 := hback j hij hjl
          rw [hval j oj hj hij hjl2]
          obtain ⟨q1, q3⟩ := hT j oj hj hjl2
          exact ⟨hst _ _ _ _ q1 hR, fun e he hb => hon _ (q3 e he hb)⟩
    by_cases hiA : i = qA
    · subst hiA
      obtain ⟨hwant, step⟩ := hA o ho a w (hph.2 h0) hs hdv
      unfold wpOp
      simp only [ho]
      rw [if_pos hwant]
      left
      refine Oper.wp_mono (fun a' w' h' => ?_) step
      obtain ⟨v, rfl, h1, hR, h2⟩ := h'
      refine next v w' hR h2 ⟨fun _ => h1, fun h => ?_⟩
      rw [hself] at h; cases h
    · obtain ⟨hwant, step⟩ := hop i o ho hiA a w hany hs hdv
      unfold wpOp
      simp only [ho]
      rw [if_pos hwant]
      left
      refine Oper.wp_mono (fun a' w' h' => ?_) step
      obtain ⟨v, rfl, hR, i0, i1, hv⟩ := h'
      refine next v w' hR hv ?_
      rw [hkeep qA hiA]
      exact ⟨fun h => i1 (hph.1 h), fun h => i0 (hph.2 h)⟩

theorem wp_region_oneW (T : Nat → Value → World → Prop) (R : World → World → Prop) (I0 I1 : World → Prop) (qA : Nat) {id : Nat} {a : Act} {w : World} (hm : P.follows .mixedOrders = true)
    (hap : placesOk ops = true) (hf : forward ops = true) (hsz : within ops a.tmps.size = true) (hAs : qA < ops.size)
    (h0 : I0 { w with drawn := w.drawn + 1 })
    (hst : ∀ i v w w', T i v w → R w w' → T i v w')
    (hop : ∀ i o, ops[i]? = some o → i ≠ qA → ReadOkW P ops Q T R I0 I1 a i o)
    (hA : ∀ o, ops[qA]? = some o → CallOkW P ops Q T R I0 I1 a qA o)
    (hdone : ∀ a' w', I1 w' → Same ops a a' → (∀ i o, ops[i]? = some o → T i (valAt a' o) w') → Q .normal a' w') : (Code.region id ops true).wp P Q a w :=
  wp_region_any hm (wpAny_oneW (a0 := a) hap hf hsz hAs hst hop hA hdone ops.size (Array.replicate ops.size false) a _ (by simp) (by simp)
    ⟨fun h => by rw [Array.getD_eq_getD_getElem?] at h; simp [hAs] at h, fun _ => h0⟩ ⟨rfl, rfl, fun _ _ => rfl⟩ (fun i o hi hl => by
    have := (Array.getElem?_eq_some_iff.1 hi).1
    rw [Array.getD_eq_getD_getElem?] at hl
    simp [this] at hl))
end

end Go.Proofs.YtalmpmhnkilalaaGreatDoor

/-
  The document's own reader: d's region that draws its order.
-/
namespace Go.Proofs.YtalmpmhnkilalaaGreatDoor
open Go.RowKit
set_option linter.unusedVariables false
set_option linter.unusedSimpArgs false

theorem wp_callr {P : Program} {o : Oper} {a : Act} {w : World} {K : Act → World → Prop} {Q : Exit → Act → World → Prop} {f : FuncId} {args : Array Value} (h : (execOp a.eval o).run P w = .ok (.enter f args) w) (hc : Calls P f args w fun e w' => ∃ v, e = .returned v ∧ K (a.put o.dst v) w') : o.wp P a w K Q := by
  unfold Oper.wp
  rw [h]
  refine Calls.mono hc ?_
  rintro e w' ⟨v, rfl, hk⟩
  exact hk
theorem wp_valr {P : Program} {Q : Exit → Act → World → Prop} {K : Act → World → Prop} {o : Oper} {a : Act} {w w' : World} (v : Value) (h : (execOp a.eval o).run P w = .ok (.value v) w') (hk : K (a.put o.dst v) w') : o.wp P a w K Q := by
  unfold Oper.wp
  rw [h]
  exact hk

set_option maxRecDepth 100000 in
set_option maxHeartbeats 4000000 in
theorem d_r9 (r gn kk wd v : Nat) (dd : Int) (I0 I1 : World → Prop) (w : World) (a0 : Act) (Q : Exit → Act → World → Prop) (hsz : a0.tmps.size = 30)
    (s0 : a0.tmps.getD 0 undef = .pointer (some ⟨r, 0, none⟩))
    (s3 : a0.tmps.getD 3 undef = .slice (some ⟨gn, 0, none⟩) 4 4)
    (s4 : a0.tmps.getD 4 undef = .int .i64 ((kk : Int) + 1))
    (hw : IntKind.i64.wrap (kk : Int) = (kk : Int)) (hj1 : (kk : Int) < 4) (hj2 : (0 : Int) ≤ (kk : Int))
    (h0 : I0 { w with drawn := w.drawn + 1 })
    (hb : ∀ w1, I0 w1 ∨ I1 w1 → w1.cell? ⟨gn, kk, none⟩ = some (.int .i64 (wd : Int)))
    (hA : ∀ w1, I0 w1 → Calls Tryz.prog 175 #[.pointer (some ⟨r, 0, none⟩), .int .i64 (wd : Int)] w1 fun e w2 => e = .returned (.int .u64 (v : Int)) ∧ I1 w2)
    (hsg : ∀ w1, Calls Tryz.prog 188 #[.int .u64 (v : Int), .int .i64 (wd : Int)] w1 fun e w2 => e = .returned (.int .i64 dd) ∧ w2 = w1)
    (hQ : ∀ (v17 v18 v19 v20 v21 v22 v23 v24 v25 v26 v27 v28 v29 v2 : Value) (w2 : World), I1 w2 → v2 = .int .i64 dd → Q .normal ((((((((((((((a0.put (some 17) v17).put (some 18) v18).put (some 19) v19).put (some 20) v20).put (some 21) v21).put (some 22) v22).put (some 23) v23).put (some 24) v24).put (some 25) v25).put (some 26) v26).put (some 27) v27).put (some 28) v28).put (some 29) v29).put (some 2) v2) w2) :
    Code.wp Tryz.prog ((Tryz.f176.body.bind (findRegion 9)).getD .skip) Q a0 w := by
  conv => arg 2; whnf
  refine wp_region_oneW (TE [Ent.val (.pointer (some ⟨r, 0, none⟩)), Ent.val (.slice (some ⟨gn, 0, none⟩) 4 4), Ent.val (.int .i64 ((kk : Int) + 1)), Ent.val (.int .i64 (kk : Int)), Ent.val (.pointer (some ⟨gn, kk, none⟩)), Ent.val (.int .i64 (wd : Int)), Ent.val (.int .u64 (v : Int)), Ent.val (.slice (some ⟨gn, 0, none⟩) 4 4), Ent.val (.int .i64 ((kk : Int) + 1)), Ent.val (.int .i64 (kk : Int)), Ent.val (.pointer (some ⟨gn, kk, none⟩)), Ent.val (.int .i64 (wd : Int)), Ent.val (.int .i64 dd), Ent.val (.int .i64 dd)]) (fun w w' => I1 w → I1 w') I0 I1 6 (by kernel_rfl) (by kernel_rfl) (by kernel_rfl) (by rw [hsz]; kernel_rfl) (of_decide_eq_true (by kernel_rfl)) h0 (TE_stable _) ?hop ?hcA ?hdone
  case hdone =>
    intro a w1 hI hS hT
    have he := same_puts hS
    rw [he]
    exact hQ (a.tmps.getD 17 undef) (a.tmps.getD 18 undef) (a.tmps.getD 19 undef) (a.tmps.getD 20 undef) (a.tmps.getD 21 undef) (a.tmps.getD 22 undef) (a.tmps.getD 23 undef) (a.tmps.getD 24 undef) (a.tmps.getD 25 undef) (a.tmps.getD 26 undef) (a.tmps.getD 27 undef) (a.tmps.getD 28 undef) (a.tmps.getD 29 undef) (a.tmps.getD 2 undef) w1 hI (hT 13 _ rfl)
  case hcA =>
    intro o ho
    obtain rfl := Option.some.inj ho
    intro a w1 hI hS hD
    have d0 : a.tmps.getD 17 undef = .pointer (some ⟨r, 0, none⟩) := hD ⟨0, .data⟩ (by simp) rfl _ rfl
    have d5 : a.tmps.getD 22 undef = .int .i64 (wd : Int) := hD ⟨5, .data⟩ (by simp) rfl _ rfl
    refine ⟨rfl, ?_⟩
    refine wp_callr (f := 175) (args := #[.pointer (some ⟨r, 0, none⟩), .int .i64 (wd : Int)]) (by simp [execOp, resolve, Act.eval, d0, d5, go_sem]) ?_
    refine (hA w1 hI).mono ?_
    rintro e w2 ⟨rfl, h2⟩
    exact ⟨_, rfl, _, rfl, h2, fun _ => h2, rfl⟩
  case hop =>
    intro i o hi hnA
    have hlt : i < 14 := (Array.getElem?_eq_some_iff.1 hi).1
    rcases (show i = 0 ∨ i = 1 ∨ i = 2 ∨ i = 3 ∨ i = 4 ∨ i = 5 ∨ i = 6 ∨ i = 7 ∨ i = 8 ∨ i = 9 ∨ i = 10 ∨ i = 11 ∨ i = 12 ∨ i = 13 by omega) with rfl | rfl | rfl | rfl | rfl | rfl | rfl | rfl | rfl | rfl | rfl | rfl | rfl | rfl
    · obtain rfl := Option.some.inj hi
      clear hi hlt hnA
      intro a w1 hI hS hD
      have e0 : a.tmps.getD 0 undef = .pointer (some ⟨r, 0, none⟩) := (hS.slot 0 (by kernel_rfl)).trans s0
      refine ⟨rfl, ?_⟩
      exact wp_valr (.pointer (some ⟨r, 0, none⟩)) (by simp [execOp, Act.eval, e0, go_sem]) ⟨_, rfl, id, id, id, rfl⟩
    · obtain rfl := Option.some.inj hi
      clear hi hlt hnA
      intro a w1 hI hS hD
      have e3 : a.tmps.getD 3 undef = .slice (some ⟨gn, 0, none⟩) 4 4 := (hS.slot 3 (by kernel_rfl)).trans s3
      refine ⟨rfl, ?_⟩
      exact wp_valr (.slice (some ⟨gn, 0, none⟩) 4 4) (by simp [execOp, Act.eval, e3, go_sem]) ⟨_, rfl, id, id, id, rfl⟩
    · obtain rfl := Option.some.inj hi
      clear hi hlt hnA
      intro a w1 hI hS hD
      have e4 : a.tmps.getD 4 undef = .int .i64 ((kk : Int) + 1) := (hS.slot 4 (by kernel_rfl)).trans s4
      refine ⟨rfl, ?_⟩
      exact wp_valr (.int .i64 ((kk : Int) + 1)) (by simp [execOp, Act.eval, e4, go_sem]) ⟨_, rfl, id, id, id, rfl⟩
    · obtain rfl := Option.some.inj hi
      clear hi hlt hnA
      intro a w1 hI hS hD
      have d2 : a.tmps.getD 19 undef = .int .i64 ((kk : Int) + 1) := hD ⟨2, .data⟩ (by simp) rfl _ rfl
      refine ⟨rfl, ?_⟩
      exact wp_valr (.int .i64 (kk : Int)) (by simp [execOp, Act.eval, d2, hw, go_sem]) ⟨_, rfl, id, id, id, rfl⟩
    · obtain rfl := Option.some.inj hi
      clear hi hlt hnA
      intro a w1 hI hS hD
      have d1 : a.tmps.getD 18 undef = .slice (some ⟨gn, 0, none⟩) 4 4 := hD ⟨1, .data⟩ (by simp) rfl _ rfl
      have d3 : a.tmps.getD 20 undef = .int .i64 (kk : Int) := hD ⟨3, .data⟩ (by simp) rfl _ rfl
      refine ⟨rfl, ?_⟩
      exact wp_valr (.pointer (some ⟨gn, kk, none⟩)) (by simp [execOp, Act.eval, d1, d3, hj1, hj2, go_sem]) ⟨_, rfl, id, id, id, rfl⟩
    · obtain rfl := Option.some.inj hi
      clear hi hlt hnA
      intro a w1 hI hS hD
      have d4 : a.tmps.getD 21 undef = .pointer (some ⟨gn, kk, none⟩) := hD ⟨4, .data⟩ (by simp) rfl _ rfl
      refine ⟨rfl, ?_⟩
      exact wp_valr (.int .i64 (wd : Int)) (by simp [execOp, Act.eval, d4, (hb w1 hI), go_sem]) ⟨_, rfl, id, id, id, rfl⟩
    · exact absurd rfl hnA
    · obtain rfl := Option.some.inj hi
      clear hi hlt hnA
      intro a w1 hI hS hD
      have e3 : a.tmps.getD 3 undef = .slice (some ⟨gn, 0, none⟩) 4 4 := (hS.slot 3 (by kernel_rfl)).trans s3
      refine ⟨rfl, ?_⟩
      exact wp_valr (.slice (some ⟨gn, 0, none⟩) 4 4) (by simp [execOp, Act.eval, e3, go_sem]) ⟨_, rfl, id, id, id, rfl⟩
    · obtain rfl := Option.some.inj hi
      clear hi hlt hnA
      intro a w1 hI hS hD
      have e4 : a.tmps.getD 4 undef = .int .i64 ((kk : Int) + 1) := (hS.slot 4 (by kernel_rfl)).trans s4
      refine ⟨rfl, ?_⟩
      exact wp_valr (.int .i64 ((kk : Int) + 1)) (by simp [execOp, Act.eval, e4, go_sem]) ⟨_, rfl, id, id, id, rfl⟩
    · obtain rfl := Option.some.inj hi
      clear hi hlt hnA
      intro a w1 hI hS hD
      have d8 : a.tmps.getD 25 undef = .int .i64 ((kk : Int) + 1) := hD ⟨8, .data⟩ (by simp) rfl _ rfl
      refine ⟨rfl, ?_⟩
      exact wp_valr (.int .i64 (kk : Int)) (by simp [execOp, Act.eval, d8, hw, go_sem]) ⟨_, rfl, id, id, id, rfl⟩
    · obtain rfl := Option.some.inj hi
      clear hi hlt hnA
      intro a w1 hI hS hD
      have d7 : a.tmps.getD 24 undef = .slice (some ⟨gn, 0, none⟩) 4 4 := hD ⟨7, .data⟩ (by simp) rfl _ rfl
      have d9 : a.tmps.getD 26 undef = .int .i64 (kk : Int) := hD ⟨9, .data⟩ (by simp) rfl _ rfl
      refine ⟨rfl, ?_⟩
      exact wp_valr (.pointer (some ⟨gn, kk, none⟩)) (by simp [execOp, Act.eval, d7, d9, hj1, hj2, go_sem]) ⟨_, rfl, id, id, id, rfl⟩
    · obtain rfl := Option.some.inj hi
      clear hi hlt hnA
      intro a w1 hI hS hD
      have d10 : a.tmps.getD 27 undef = .pointer (some ⟨gn, kk, none⟩) := hD ⟨10, .data⟩ (by simp) rfl _ rfl
      refine ⟨rfl, ?_⟩
      exact wp_valr (.int .i64 (wd : Int)) (by simp [execOp, Act.eval, d10, (hb w1 hI), go_sem]) ⟨_, rfl, id, id, id, rfl⟩
    · obtain rfl := Option.some.inj hi
      clear hi hlt hnA
      intro a w1 hI hS hD
      have d6 : a.tmps.getD 23 undef = .int .u64 (v : Int) := hD ⟨6, .data⟩ (by simp) rfl _ rfl
      have d11 : a.tmps.getD 28 undef = .int .i64 (wd : Int) := hD ⟨11, .data⟩ (by simp) rfl _ rfl
      refine ⟨rfl, ?_⟩
      refine wp_callr (f := 188) (args := #[.int .u64 (v : Int), .int .i64 (wd : Int)]) (by simp [execOp, resolve, Act.eval, d6, d11, go_sem]) ?_
      refine (hsg w1).mono ?_
      rintro e w2 ⟨rfl, rfl⟩
      exact ⟨_, rfl, _, rfl, id, id, id, rfl⟩
    · obtain rfl := Option.some.inj hi
      clear hi hlt hnA
      intro a w1 hI hS hD
      have d12 : a.tmps.getD 29 undef = .int .i64 dd := hD ⟨12, .data⟩ (by simp) rfl _ rfl
      refine ⟨rfl, ?_⟩
      exact wp_valr (.int .i64 dd) (by simp [execOp, Act.eval, d12, go_sem]) ⟨_, rfl, id, id, id, rfl⟩

end Go.Proofs.YtalmpmhnkilalaaGreatDoor
