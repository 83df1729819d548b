/-
  The document's own reader: get, signed.
-/
import Derived.Test.YtcgjmioncbihhaaDoorDcD
import Derived.BigQuiet
namespace Go.Proofs.YtcgjmioncbihhaaDoor
open Go.RowKit
set_option linter.unusedVariables false
set_option linter.unusedSimpArgs false

/-- The document's reader in memory: bytes, where it stands, the bits that are left, whether something was bad. -/
structure YS (w : World) (r : Nat) (ad : Option Addr) (c : Nat) (l : List Int) (B : List Bool) (bad : Bool) : Prop where
  blk : ∃ t : Nat, t ≤ 8 * l.length ∧ Blk w r 69 [.slice ad l.length c, .int .i64 (t : Int), .bool bad] ∧ B = (ub l).drop t
  sl : Sl w ad l.length l
  ne : ∀ z, ad = some z → 0 < l.length → z.block ≠ r
  len : l.length ≤ 100000000
theorem YS.chg {F : Nat → Prop} {w w' : World} {r c : Nat} {ad : Option Addr} {l : List Int} {B : List Bool} {bad : Bool} (h : YS w r ad c l B bad) (hc : Chg F w w') (hr : ¬ F r) (ha : ∀ z, ad = some z → 0 < l.length → ¬ F z.block) : YS w' r ad c l B bad := by
  obtain ⟨t, h1, h2, h3⟩ := h.blk
  exact ⟨⟨t, h1, hc.blk h2 hr, h3⟩, hc.sl h.sl ha, h.ne, h.len⟩
theorem YS.later {w w' : World} {r c : Nat} {ad : Option Addr} {l : List Int} {B : List Bool} {bad : Bool} (h : YS w r ad c l B bad) (hb : Below w.heap.size w w') : YS w' r ad c l B bad := h.chg (Chg.of_below (F := fun _ => False) hb) (fun e => e) (fun _ _ _ e => e)
theorem ub_drop {l : List Int} {t : Nat} (h : t < 8 * l.length) : (ub l).drop t = bt l t :: (ub l).drop (t + 1) := by
  have hl : t < (ub l).length := by rw [ub_len]; exact h
  rw [List.drop_eq_getElem_cons hl]
  congr 1
  have := ub_at l t
  rw [List.getD_eq_getElem?_getD, List.getElem?_eq_getElem hl] at this
  exact this
/-- The bit, as it is reckoned. -/
theorem bt_val (l : List Int) (hb : Byte l) (t : Nat) : (l.getD (t / 8) 0) / 2 ^ (7 - t % 8) % 2 = ((bt l t).toNat : Int) := by
  have h := hb.at (t / 8)
  unfold bt
  rw [Nat.toNat_testBit]
  generalize l.getD (t / 8) 0 = y at *
  obtain ⟨z, rfl⟩ : ∃ z : Nat, y = (z : Int) := ⟨y.toNat, by omega⟩
  rw [Int.toNat_natCast, Int.natCast_emod, Int.natCast_ediv, Int.natCast_pow]
  rfl

theorem u8_and1 (c : Int) (h0 : 0 ≤ c) (h1 : c ≤ 255) : bits .and .u8 c 1 = c % 2 :=
  bits_mask .u8 8 (by decide) wraps_u8 1 (by decide) c h0 (by omega)
theorem shr_bd {y : Int} {sh : Nat} (h : 0 ≤ y ∧ y ≤ 255) (hs : sh ≤ 7) : 0 ≤ y / 2 ^ sh ∧ y / 2 ^ sh ≤ 255 := by
  rcases (show sh = 0 ∨ sh = 1 ∨ sh = 2 ∨ sh = 3 ∨ sh = 4 ∨ sh = 5 ∨ sh = 6 ∨ sh = 7 by omega) with rfl | rfl | rfl | rfl | rfl | rfl | rfl | rfl <;> simp <;> omega
theorem vl_take {B : List Bool} {i : Nat} {b : Bool} {t : List Bool} (h : B.drop i = b :: t) : vl (B.take (i + 1)) = 2 * vl (B.take i) + b.toNat ∧ B.drop (i + 1) = t ∧ i < B.length := by
  have hl : i < B.length := by
    rcases Nat.lt_or_ge i B.length with h1 | h1
    · exact h1
    · rw [List.drop_of_length_le h1] at h; cases h
  rw [List.drop_eq_getElem_cons hl] at h
  injection h with h1 h2
  refine ⟨?_, h2, hl⟩
  rw [List.take_add_one, List.getElem?_eq_getElem hl, h1]
  exact vl_snoc _ _

set_option maxRecDepth 100000 in
set_option maxHeartbeats 8000000 in
theorem getD (w : World) (r c n : Nat) (ad : Option Addr) (l : List Int) (B : List Bool) (bad : Bool) (h : YS w r ad c l B bad) (hn : n ≤ 64) :
    Calls Tryd.prog 28 #[.pointer (some ⟨r, 0, none⟩), .int .i64 (n : Int)] w fun e w' => e = .returned (.int .u64 (tkV n B : Int)) ∧ (∃ B' bad', YS w' r ad c l B' bad' ∧ (n ≤ B.length → B' = B.drop n ∧ bad' = bad) ∧ (¬ n ≤ B.length → bad' = true)) ∧ Chg (fun i => i = r) w w' := by
  have HY := hidden h
  clear h
  go_enter Tryd.func28, Tryd.ntmps28
  go_wp2_with fail
  go_loopw [5, 6] (fun v5 v6 wx => ∃ i : Nat, i ≤ n ∧ i ≤ B.length ∧ v6 = .int .i64 (i : Int) ∧ v5 = .int .u64 ((vl (B.take i) : Nat) : Int) ∧ Hid (YS wx r ad c l (B.drop i) bad) ∧ Hid (Chg (fun i => i = r) w wx)) (fun _ v6 _ => n - (intOf v6).toNat)
  case atStart => exact ⟨0, by omega, by omega, rfl, rfl, by simpa using HY, hidden (Chg.refl _ _)⟩
  case round =>
    rename World => wx
    obtain ⟨i, hi, hiB, rfl, rfl, hY, hC⟩ := hrel
    clear HY
    obtain ⟨t, ht, hB, hD⟩ := hY.out.blk
    have hll := hY.out.len
    have c0 := hB.cell 0
    have c1 := hB.cell 1
    simp at c0 c1
    have f1 := hB.frozen 1
    have f2 := hB.frozen 2
    have c2 := hB.cell 2
    simp at c2
    have HB := hidden hB
    have HDD := hidden hD
    clear hB hD
    obtain ⟨N, hN⟩ : ∃ N, l.length = N := ⟨_, rfl⟩
    rw [hN] at c0 ht hll
    have HNN := hidden hN
    clear hN
    by_cases hlt : i < n
    · have hltz : (i : Int) < (n : Int) := by omega
      by_cases htn : t < 8 * N
      · have htz : ¬ 8 * (N : Int) ≤ (t : Int) := by omega
        have hd2 := HDD.out
        rw [ub_drop (by rw [HNN.out]; exact htn)] at hd2
        obtain ⟨hv, hdr, hil⟩ := vl_take hd2
        have hbv := bt_val l hY.out.sl.byte t
        obtain ⟨q, hq⟩ : ∃ q, t / 8 = q := ⟨_, rfl⟩
        obtain ⟨sh, hsh⟩ : ∃ sh, 7 - t % 8 = sh := ⟨_, rfl⟩
        have hyb := hY.out.sl.byte.at q
        have hqN : q < N := by omega
        obtain ⟨g, off, rfl, hgl, hcell⟩ := hY.out.sl.at (by rw [HNN.out]; omega)
        have cq := hcell q (by rw [HNN.out]; exact hqN)
        clear hcell
        rw [hq, hsh] at hbv
        have hqi : (t : Int) / 8 = (q : Int) := by omega
        have hri : 7 - (t : Int) % 8 = (sh : Int) := by omega
        have hsh7 : sh ≤ 7 := by omega
        have hvl := vl_lt (B.take i)
        have hti : (B.take i).length = i := by rw [List.length_take]; omega
        rw [hti] at hvl
        have hp63 : 2 ^ i ≤ 2 ^ 63 := Nat.pow_le_pow_right (by omega) (by omega)
        have hvb : vl (B.take i) < 9223372036854775808 := by omega
        obtain ⟨y, hy⟩ : ∃ y, l.getD q 0 = y := ⟨_, rfl⟩
        rw [hy] at cq hyb hbv
        have hbit : bits BinOp.and IntKind.u8 (y / 2 ^ sh) 1 = ((bt l t).toNat : Int) := by
          rw [← hbv]
          exact u8_and1 _ (shr_bd hyb hsh7).1 (shr_bd hyb hsh7).2
        have hb1 : (bt l t).toNat ≤ 1 := by cases bt l t <;> simp
        have HV := hidden hv
        have HDR := hidden hdr
        clear hv hdr hd2 hvl hp63 hbv hy
        generalize vl (B.take i) = V at *
        generalize (bt l t).toNat = bb at *
        have YN : Hid (∀ k, YS ((wx.drewN k).setCell ⟨r, 1, none⟩ (.int .i64 ((t : Int) + 1))) r (some ⟨g, off, none⟩) c l (B.drop (i + 1)) bad) := hidden (fun k => by
          have hc := chg_set (wx.drewN k) r 1 (.int .i64 ((t : Int) + 1))
          have hY' := hY.out.later (below_drewN (Below.refl _ _) k)
          refine ⟨⟨t + 1, by rw [HNN.out]; omega, ?_, HDR.out⟩, hc.sl hY'.sl (fun z hz h0 e => hY.out.ne z hz h0 e), hY.out.ne, hY.out.len⟩
          have := (HB.out.drewN k).set 1 (.int .i64 ((t : Int) + 1))
          simpa using this)
        have CN : Hid (∀ k, Chg (fun i => i = r) w ((wx.drewN k).setCell ⟨r, 1, none⟩ (.int .i64 ((t : Int) + 1)))) := hidden (fun k => (hC.out.trans (Chg.drewN (fun i => i = r) wx k) (fun _ _ e => e)).trans (chg_set (wx.drewN k) r 1 (.int .i64 ((t : Int) + 1))) (fun _ _ e => e))
        go_wp2_with fail
        go_quiet (fail)
        go_wp2_with fail
        go_quiet (fail)
        go_wp2_with fail
        refine ⟨⟨i + 1, by omega, by omega, by rw [Int.natCast_add]; rfl, ?_, hidden (YN.out _), hidden (CN.out _)⟩, by simp [intOf]; omega⟩
        rw [HV.out]
        congr 1
        omega
      · have htz : 8 * (N : Int) ≤ (t : Int) := by omega
        have hBn : B.drop i = [] := by rw [HDD.out, List.drop_of_length_le (by rw [ub_len, HNN.out]; omega)]
        have hnl : ¬ n ≤ B.length := by
          have := congrArg List.length hBn
          rw [List.length_drop] at this
          simp at this
          omega
        have HV : Hid (tkV n B = 0) := hidden (by unfold tkV; rw [if_neg hnl])
        have YN : Hid (∀ k, YS ((wx.drewN k).setCell ⟨r, 2, none⟩ (.bool true)) r ad c l (B.drop i) true) := hidden (fun k => by
          have hc := chg_set (wx.drewN k) r 2 (.bool true)
          have hY' := hY.out.later (below_drewN (Below.refl _ _) k)
          refine ⟨⟨t, by rw [HNN.out]; exact ht, ?_, HDD.out⟩, hc.sl hY'.sl (fun z hz h0 e => hY.out.ne z hz h0 e), hY.out.ne, hY.out.len⟩
          have := (HB.out.drewN k).set 2 (.bool true)
          simpa using this)
        have CN : Hid (∀ k, Chg (fun i => i = r) w ((wx.drewN k).setCell ⟨r, 2, none⟩ (.bool true))) := hidden (fun k => (hC.out.trans (Chg.drewN (fun i => i = r) wx k) (fun _ _ e => e)).trans (chg_set (wx.drewN k) r 2 (.bool true)) (fun _ _ e => e))
        have HNL := hidden hnl
        clear hBn hnl
        go_wp2_with fail
        go_quiet (fail)
        go_wp2_with fail
        first | go_region | skip
        go_wp2
        go_ret
        exact ⟨by rw [HV.out]; rfl, ⟨B.drop i, true, YN.out _, fun h => absurd h HNL.out, fun _ => rfl⟩, CN.out _⟩
    · obtain rfl : i = n := by omega
      have hge : ¬ (i : Int) < (i : Int) := by omega
      have HV : Hid (tkV i B = vl (B.take i)) := hidden (by unfold tkV; rw [if_pos hiB])
      clear c0 c1 c2 f1 f2 hlt
      go_wp2
      go_ret
      first
        | exact ⟨by rw [HV.out]; rfl, ⟨B.drop i, bad, hY.out, fun _ => ⟨rfl, rfl⟩, fun h => absurd hiB h⟩, hC.out⟩
        | exact ⟨by rw [HV.out]; rfl, hY.out, hC.out⟩

end Go.Proofs.YtcgjmioncbihhaaDoor
