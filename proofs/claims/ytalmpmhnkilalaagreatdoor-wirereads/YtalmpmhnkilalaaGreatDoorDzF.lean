import Derived.Test.YtalmpmhnkilalaaGreatDoorDzA
import Derived.Test.YtalmpmhnkilalaaGreatDoorBkD
import Derived.Deep.CutRange
/-
  WireReads: each row is written by its owner.
-/
namespace Go.Proofs.YtalmpmhnkilalaaGreatDoor
open Go.RowKit
set_option linter.unusedVariables false
set_option linter.unusedSimpArgs false

/-- An element of a row is written over. -/
theorem RW.elem {B E g5 : Nat} {k : Int} {fm : Nat → FM} {T : Tw} {wA ws : World} {i : Nat} (h : RW B E g5 k fm T wA i ws) (hE : E ≤ g5) {t q n c : Nat} {ad : Option Addr} (hr : Rww ws B E t q ad n c) (ht : t ≠ 45) (j : Nat) (hj : j < n) :
    ∃ g off, ad = some ⟨g, off, none⟩ ∧ ws.there g (off + j * q) q ∧ ∀ vs, RW B E g5 k fm T wA i (ws.setCells g (off + j * q) vs) := by
  obtain ⟨g, off, h1, h2, h3, h4⟩ := hr.2 (by omega)
  have hq : off + j * q + q ≤ off + n * q := by
    have h9 : (j + 1) * q ≤ n * q := Nat.mul_le_mul_right q hj
    rw [Nat.add_mul, Nat.one_mul] at h9
    omega
  exact ⟨g, off, h1, h4.there _ _ hq, fun vs => h.put hE g _ vs h2 h3 h4 ht⟩
theorem RW.byte {B E g5 : Nat} {k : Int} {fm : Nat → FM} {T : Tw} {wA ws : World} {i : Nat} (h : RW B E g5 k fm T wA i ws) (hE : E ≤ g5) {t n c : Nat} {ad : Option Addr} (hr : Rww ws B E t 1 ad n c) (ht : t ≠ 45) (j : Nat) (hj : j < n) :
    ∃ g off u, ad = some ⟨g, off, none⟩ ∧ ws.cell? ⟨g, off + j, none⟩ = some u ∧ ws.frozen? ⟨g, off + j, none⟩ = false ∧ ∀ v, RW B E g5 k fm T wA i (ws.setCell ⟨g, off + j, none⟩ v) := by
  obtain ⟨g, off, h1, h2, h3⟩ := h.elem hE hr ht j hj
  rw [Nat.mul_one] at h2 h3
  have h4 := h2 0 (by omega)
  rw [Nat.add_zero] at h4
  obtain ⟨u, hu⟩ := Option.isSome_iff_exists.1 h4.1
  exact ⟨g, off, u, h1, hu, h4.2, fun v => h3 [v]⟩
end Go.Proofs.YtalmpmhnkilalaaGreatDoor

/-
  WireReads' walk.
-/
namespace Go.Proofs.YtalmpmhnkilalaaGreatDoor
open Go.RowKit
set_option linter.unusedVariables false
set_option linter.unusedSimpArgs false

theorem size50w : (Tryz.prog.info? 50).map (·.size) = some 2 := by kernel_rfl
theorem over_at (z : List Int) (i : Nat) (h : i < z.length) : (cells8 (List.replicate i 85 ++ z.drop i))[i]? = some (.int .u8 (z.getD i 0)) := by
  unfold cells8
  rw [List.getElem?_map, List.getElem?_append_right (by simp), List.length_replicate, Nat.sub_self, List.getElem?_drop, Nat.add_zero, List.getElem?_eq_getElem h]
  simp [List.getD, h]
theorem over_set (z : List Int) (i : Nat) (h : i < z.length) : (cells8 (List.replicate i 85 ++ z.drop i)).set i (.int .u8 85) = cells8 (List.replicate (i + 1) 85 ++ z.drop (i + 1)) := by
  rw [List.drop_eq_getElem_cons h, List.replicate_succ']
  unfold cells8
  rw [← List.map_set (f := Value.int .u8) (a := 85), List.set_append_right _ _ (by simp), List.length_replicate, Nat.sub_self, List.set_cons_zero]
  simp only [List.append_assoc, List.singleton_append]

set_option maxHeartbeats 16000000 in
set_option maxRecDepth 100000 in
theorem reads_any (bad : Option Addr) (bn bc : Nat) (b0 : List Int) (w : World) (hs0 : Sl w bad bn b0) (hno0 : bad = none → bn = 0 ∧ bc = 0) (hcap0 : bn ≤ bc ∧ bc ≤ 9223372036854775807) (hG : Gv w) :
    Calls Tryz.prog 4 #[.slice bad bn bc] w fun e w' => e = .returned (.bool true) ∧ Below w.heap.size w w' := by
  obtain ⟨i0, hi, hz0, hz1, hz2⟩ := info_parts info5
  obtain ⟨K, hKw, hK0⟩ : ∃ K, K < w.heap.size ∧ ∀ x, bad = some x → 0 < bn → x.block = K ∧ x.spot = none := by
    by_cases h0 : 0 < bn
    · obtain ⟨bb, off, rfl, hlt, _⟩ := hs0.at h0
      exact ⟨bb, hlt, fun x hx _ => (by cases hx; exact ⟨rfl, rfl⟩)⟩
    · have h2w : 2 ≤ w.heap.size := World.block_lt_of_cell? w _ (hG.tab 0 (by omega))
      exact ⟨0, by omega, fun x hx h => absurd h h0⟩
  obtain ⟨m, hm⟩ : ∃ m, min bn 70000 = m := ⟨_, rfl⟩
  obtain ⟨b, hb⟩ : ∃ b, b0.take m = b := ⟨_, rfl⟩
  have HS : Hid (Sl w bad m b) := hidden (by rw [← hb]; exact hs0.take (by omega))
  have HK : Hid (∀ x, bad = some x → 0 < m → x.block = K ∧ x.spot = none) := hidden (fun x hx h => hK0 x hx (by omega))
  have HNO : Hid (bad = none → m = 0 ∧ bc = 0) := hidden (fun e => by obtain ⟨h1, h2⟩ := hno0 e; exact ⟨by omega, h2⟩)
  have hcap : m ≤ bc ∧ bc ≤ 9223372036854775807 := by omega
  have hlen := HS.out.len
  have hm7 : m ≤ 70000 := by omega
  have HG := hidden hG
  have HBY := hidden HS.out.byte
  -- what both tell
  have DEC : Hid (∀ wx (a : Option Addr) (c : Nat), Sl wx a m b → (a = none → m = 0 ∧ c = 0) → Gv wx → Calls Tryz.prog 15 #[.slice a m c] wx fun e w' => Below wx.heap.size wx w' ∧ ∃ fm : Nat → FM, e = .returned (.tuple #[.agg (cQ (rqV (decQ b)).1 fm).toArray, if (decQ b).isSome then .nilIface else errW]) ∧ (∀ j, j < 12 → (fm j).fv = (rqV (decQ b)).2 j ∧ FD wx.heap.size w' (fm j)) ∧ ∃ T, Wto w' wx.heap.size w'.heap.size fm T 0) :=
    hidden (fun wx a c h1 h2 h3 => (decodeP a m c b wx h1 h2 h3).mono (fun e w' h => decP_formW HBY.out h))
  have DOC : Hid (∀ wx, Below w.heap.size w wx → Calls Tryz.prog 16 #[.slice bad m bc] wx fun e w' => Below wx.heap.size wx w' ∧ ∃ fm : Nat → FM, e = .returned (.tuple #[.agg (cQ (rqV (decQ b)).1 fm).toArray, .int .i64 (if (decQ b).isSome then 0 else 180)]) ∧ ∀ j, j < 12 → (fm j).fv = (rqV (decQ b)).2 j ∧ FD wx.heap.size w' (fm j)) :=
    hidden (fun wx hx => (decodeI bad m bc b K wx (HS.out.later hx) HK.out (Nat.lt_of_lt_of_le hKw hx.size) HNO.out hcap).mono (fun e w' h => by rw [docD_eq HBY.out] at h; exact docP_form h))
  have KD := hidden (rqV_kd HBY.out)
  generalize (rqV (decQ b)).1 = k at *
  generalize (rqV (decQ b)).2 = f at *
  generalize (decQ b).isSome = is at *
  have hbn := hcap0.2
  have hbn1 := hcap0.1
  have HM := hidden hm
  clear hs0 hno0 hcap0 hK0 hG hb hm
  go_enter Tryz.func4, Tryz.ntmps4
  go_wp2_with fail
  refine (shownP w HG.out).mono ?_
  rintro e w1 ⟨rfl, b1⟩
  have HB1 := hidden b1
  clear b1
  go_upto_if 22 with fail
  go_cut [0] from 23 to 24 (fun s0 wx => s0 = .slice bad m bc ∧ wx = w1)
  case first =>
    by_cases hbig : 70000 < bn
    · have hbig' : (bn : Int) > 70000 := by omega
      obtain rfl : 70000 = m := by have := HM.out; omega
      go_wp2_with fail
      go_meet
      case rel => exact ⟨rfl, rfl⟩
    · have hbig' : ¬ (bn : Int) > 70000 := by omega
      obtain rfl : bn = m := by have := HM.out; omega
      go_wp2_with fail
      go_meet
      case rel => exact ⟨rfl, rfl⟩
  case rest =>
    obtain ⟨rfl, hwc⟩ := hcut
    obtain rfl := hwc.symm
    clear hwc
    have X1 : (cells8 b).length = Nat.min m (m + 4) := by rw [cells8_length, hlen]; exact (Nat.min_eq_left (by omega)).symm
    have X3 : 0 + (cells8 b).length ≤ (List.replicate (m + 4) (Value.int .u8 0)).length := by rw [cells8_length, hlen]; simp
    have X4 : ∀ v ∈ cells8 b, v.oneCell' = true := by
      intro v hv
      simp only [cells8, List.mem_map] at hv
      obtain ⟨x, _, rfl⟩ := hv
      rfl
    go_wp2_with (first
      | (at_make; refine wpList_make_room _ rfl _ _ 22 rfl 5 i0 (.int .u8 0) Tryz.underlying22 hi hz0 hz1 hz2 rfl _ _ _ _ (m + 4) (m + 4) rfl rfl (by omega) (by omega) (by omega) (by omega) ?_; intro w2 hr2 hs2 hb2; have X2 := Q.copy_src (HS.out.later HB1.out) hb2 (dp := some ⟨w1.heap.size, 0, none⟩) rfl)
      | (refine wpList_copy_splice rfl (.tmp 29) (.tmp 30) 22 22 rfl 5 Tryz.underlying22 Q.size5 (some ⟨w1.heap.size, 0, none⟩) bad (m + 4) (m + 4) m bc rfl rfl w1.heap.size 0 (List.replicate (m + 4) (.int .u8 0)) 5 hr2 (cells8 b) X1 X2 X3 X4 w1.heap.size w1 hb2 (Nat.le_refl _) ?_; intro w3 hr3 hb3))
    have hrow : Blk w3 w1.heap.size 5 (cells8 (b ++ [0, 0, 0, 0])) := by
      have h9 := hr3.out
      unfold Blk
      rw [h9]
      congr 3
      simp only [splice, List.take_zero, List.nil_append, Nat.zero_add, cells8_length, hlen, List.drop_replicate]
      rw [show m + 4 - m = 4 by omega]
      simp [cells8, List.replicate]
    have HBZ : Hid (Byte (b ++ [0, 0, 0, 0])) := hidden (HBY.out.append (byte_of rfl))
    have HLZ : Hid ((b ++ [0, 0, 0, 0]).length = m + 4) := hidden (by simp [hlen])
    have HSL : Hid (∀ wx, Below w3.heap.size w3 wx → Sl wx (some ⟨w1.heap.size, 0, none⟩) m b) := hidden (fun wx hx => by
      have h9 := sl_blk (hrow.later hx) HBZ.out m (by rw [HLZ.out]; omega)
      rw [List.take_append_of_le_length (by omega), List.take_of_length_le (by omega)] at h9
      exact h9)
    have HB3 : Hid (Below w.heap.size w w3) := hidden (HB1.out.trans (hb3.mono HB1.out.size))
    have HROW3 := hidden hrow
    have hlt3 : w1.heap.size < w3.heap.size := hrow.lt
    clear hr2 hs2 hb2 hr3 hb3 hrow X1 X2 X3 X4
    refine (DEC.out w3 _ (m + 4) (HSL.out w3 (Below.refl _ _)) (fun h => by cases h) (HG.out.later HB3.out)).mono ?_
    rintro e w4 ⟨b4, fm1, rfl, hf1, T, hT⟩
    have HF1 := hidden hf1
    have HT := hidden hT
    have HB4 := hidden (HB3.out.trans (b4.mono HB3.out.size))
    have HL4 := hidden b4
    clear hf1 hT b4
    have hl1 : (cQ k fm1).length = 13 := by simp [cQ]
    generalize hev : (if is = true then Value.nilIface else errW) = ev
    go_wp2_with (first
      | (refine wpList_new_var rfl rfl 26 5 (.tmp 38) rfl rfl rfl rfl 13 (by kernel_rfl) (cQ k fm1) hl1 (cQ_one k fm1) (by simp) rfl ?_; intro w5 B5 bl5 hz5; have HV5 := hidden B5; have HL5 := hidden bl5; clear B5 bl5 hz5))
    have HB5 := hidden (HB4.out.trans (HL5.out.mono HB4.out.size))
    refine (DOC.out w5 HB5.out).mono ?_
    rintro e w6 ⟨b6, fm2, rfl, hf2⟩
    have HF2 := hidden hf2
    have HB6 := hidden (HB5.out.trans (b6.mono HB5.out.size))
    have HL6 := hidden b6
    clear hf2 b6
    have hl2 : (cQ k fm2).length = 13 := by simp [cQ]
    generalize hec : (if is = true then (0 : Int) else 180) = ec
    go_wp2_with (first
      | (refine wpList_new_var rfl rfl 26 7 (.tmp 43) rfl rfl rfl rfl 13 (by kernel_rfl) (cQ k fm2) hl2 (cQ_one k fm2) (by simp) rfl ?_; intro w7 B7 bl7 hz7; have HW7 := hidden B7; have HL7 := hidden bl7; clear B7 bl7 hz7))
    have HB7 := hidden (HB6.out.trans (HL7.out.mono HB6.out.size))
    have HL37 : Hid (Below w3.heap.size w3 w7) := hidden (((HL4.out.trans (HL5.out.mono HL4.out.size)).trans (HL6.out.mono (Nat.le_trans HL4.out.size HL5.out.size))).trans (HL7.out.mono (Nat.le_trans (Nat.le_trans HL4.out.size HL5.out.size) HL6.out.size)))
    refine (DEC.out w7 _ (m + 4) (HSL.out w7 HL37.out) (fun h => by cases h) (HG.out.later HB7.out)).mono ?_
    rintro e w8 ⟨b8, fm3, rfl, hf3, _⟩
    have HF3 := hidden hf3
    have HB8 := hidden (HB7.out.trans (b8.mono HB7.out.size))
    have HL8 := hidden b8
    clear hf3 b8
    have hl3 : (cQ k fm3).length = 13 := by simp [cQ]
    rw [hev]
    go_upto_region 9 with (first
      | (refine wpList_new_var rfl rfl 26 9 (.tmp 51) rfl rfl rfl rfl 13 (by kernel_rfl) (cQ k fm3) hl3 (cQ_one k fm3) (by simp) rfl ?_; intro w9 B9 bl9 hz9; have HX9 := hidden B9; have HL9 := hidden bl9; clear B9 bl9 hz9))
    have s4 := HL4.out.size
    have s5 := HV5.out.lt
    have s6 := HL6.out.size
    have s7 := HW7.out.lt
    have s8 := HL8.out.size
    have s9 := HX9.out.lt
    have HB9 := hidden (HB8.out.trans (HL9.out.mono HB8.out.size))
    have HL39 : Hid (Below w3.heap.size w3 w9) := hidden ((HL37.out.trans (HL8.out.mono HL37.out.size)).trans (HL9.out.mono (by omega)))
    have HROW9 := hidden (HROW3.out.later HL39.out)
    have HV9 : Hid (Blk w9 w4.heap.size 26 (cQ k fm1)) := hidden ((((HV5.out.later HL6.out).later HL7.out).later HL8.out).later HL9.out)
    have HW9 : Hid (Blk w9 w6.heap.size 26 (cQ k fm2)) := hidden ((HW7.out.later HL8.out).later HL9.out)
    have HF19 : Hid (∀ j, j < 12 → (fm1 j).fv = f j ∧ FD w3.heap.size w9 (fm1 j)) := hidden (fun j hj => ⟨(HF1.out j hj).1, ((((((HF1.out j hj).2.later HL5.out).later HL6.out).later HL7.out).later HL8.out).later HL9.out)⟩)
    have HF29 : Hid (∀ j, j < 12 → (fm2 j).fv = f j ∧ FD w5.heap.size w9 (fm2 j)) := hidden (fun j hj => ⟨(HF2.out j hj).1, (((HF2.out j hj).2.later HL7.out).later HL8.out).later HL9.out⟩)
    have HF39 : Hid (∀ j, j < 12 → (fm3 j).fv = f j ∧ FD w7.heap.size w9 (fm3 j)) := hidden (fun j hj => ⟨(HF3.out j hj).1, (HF3.out j hj).2.later HL9.out⟩)
    have HT9 : Hid (Wto w9 w3.heap.size w4.heap.size fm1 T 0) := hidden (HT.out.chg (F := fun i => w4.heap.size ≤ i) (chg_far (((((HL5.out.trans (HL6.out.mono HL5.out.size)).trans (HL7.out.mono (by omega))).trans (HL8.out.mono (by omega))).trans (HL9.out.mono (by omega))))) (fun i _ h1 h2 => by omega))
    have hg1 := HB1.out.size
    clear HF1 HF2 HF3 HT HV5 HW7 HL4 HL5 HL6 HL7 HL8 HL9 HL37 HB3 HB4 HB5 HB6 HB7 HB8 HROW3 HSL HL39 DEC DOC
    go_wp2_with fail
    go_loopw [11] (fun v11 wx => ∃ i : Nat, v11 = .int .i64 (i : Int) ∧ i ≤ m + 4 ∧ Hid (Blk wx w1.heap.size 5 (cells8 (List.replicate i 85 ++ (b ++ [0, 0, 0, 0]).drop i))) ∧ Hid (Chg (fun j => w1.heap.size ≤ j ∧ j < w3.heap.size) w9 wx)) (fun v11 _ => m + 4 - (intOf v11).toNat)
    case atStart => exact ⟨0, rfl, by omega, HROW9, hidden (Chg.refl _ _)⟩
    case round =>
      rename World => wx
      obtain ⟨i, rfl, hi9, hR, hC⟩ := hrel
      have hblk : Below w.heap.size w wx := HB9.out.trans (hC.out.below HB9.out.size (fun j hj => by have := hj.1; omega))
      by_cases hend : i < m + 4
      · have hend' : (i : Int) < (m : Int) + 4 := by omega
        have hcl : wx.cell? ⟨w1.heap.size, i, none⟩ = some (.int .u8 ((b ++ [0, 0, 0, 0]).getD i 0)) := by
          rw [hR.out.cell]
          exact over_at _ i (by rw [HLZ.out]; exact hend)
        have hfr := hR.out.frozen i
        have HNX : Hid (∀ nq, Blk (((wx.drewN nq).setCell ⟨w1.heap.size, i, none⟩ (.int .u8 85))) w1.heap.size 5 (cells8 (List.replicate (i + 1) 85 ++ (b ++ [0, 0, 0, 0]).drop (i + 1))) ∧ Chg (fun j => w1.heap.size ≤ j ∧ j < w3.heap.size) w9 ((wx.drewN nq).setCell ⟨w1.heap.size, i, none⟩ (.int .u8 85))) := hidden (fun nq => by
          constructor
          · have h9 := (hR.out.drewN nq).set i (.int .u8 85)
            rw [over_set _ i (by rw [HLZ.out]; exact hend)] at h9
            exact h9
          · exact (hC.out.trans (Chg.drewN (fun _ => False) wx nq) (fun _ _ e => e.elim)).trans (Chg.set ⟨w1.heap.size, i, none⟩ (.int .u8 85) (wx.drewN nq)) (fun j _ e => by have e : j = w1.heap.size := e; omega))
        by_cases hin : i < m
        · have hin' : (i : Int) < (m : Int) := by omega
          have hge' : ¬ (i : Int) ≥ (m : Int) := by omega
          have hge1 : ¬ m ≤ i := by omega
          have hv : (b ++ [0, 0, 0, 0]).getD i 0 = b.getD i 0 := by simp [List.getD, List.getElem?_append, hlen, hin]
          rw [hv] at hcl
          obtain ⟨bb, off, rfl, hbb, hcb⟩ := (HS.out.later hblk).at (by omega)
          have hcb9 := hcb i hin
          generalize b.getD i 0 = x at *
          clear hcb
          go_wp2_with fail
          go_quiet (fail)
          go_wp2_with fail
          refine ⟨⟨i + 1, by first | rfl | simp, by omega, hidden (HNX.out nq).1, hidden (HNX.out nq).2⟩, ?_⟩
          show m + 4 - ((i : Int) + 1).toNat < m + 4 - (i : Int).toNat
          omega
        · have hin' : ¬ (i : Int) < (m : Int) := by omega
          have hge' : (i : Int) ≥ (m : Int) := by omega
          have hv : (b ++ [0, 0, 0, 0]).getD i 0 = 0 := by
            rcases (by omega : i = m ∨ i = m + 1 ∨ i = m + 2 ∨ i = m + 3) with rfl | rfl | rfl | rfl <;> simp [List.getD, List.getElem?_append, hlen]
          rw [hv] at hcl
          go_wp2_with fail
          go_quiet (fail)
          go_wp2_with fail
          refine ⟨⟨i + 1, by first | rfl | simp, by omega, hidden (HNX.out nq).1, hidden (HNX.out nq).2⟩, ?_⟩
          show m + 4 - ((i : Int) + 1).toNat < m + 4 - (i : Int).toNat
          omega
      · obtain rfl : i = m + 4 := by omega
        have hend' : ¬ ((m + 4 : Nat) : Int) < (m : Int) + 4 := by omega
        have hE4 : w3.heap.size ≤ w4.heap.size := s4
        have HVA := hidden (hC.out.blk HV9.out (fun e => by have := e.2; omega))
        have HWA := hidden (hC.out.blk HW9.out (fun e => by have := e.2; omega))
        have HXA := hidden (hC.out.blk HX9.out (fun e => by have := e.2; omega))
        have HF1A : Hid (∀ j, j < 12 → (fm1 j).fv = f j ∧ FD w3.heap.size wx (fm1 j)) := hidden (fun j hj => ⟨(HF19.out j hj).1, (HF19.out j hj).2.behind (by omega) hC.out (by omega)⟩)
        have HF2A : Hid (∀ j, j < 12 → (fm2 j).fv = f j ∧ FD w5.heap.size wx (fm2 j)) := hidden (fun j hj => ⟨(HF29.out j hj).1, (HF29.out j hj).2.behind (B := w1.heap.size) (by omega) (hC.out.mono (fun i _ h => ⟨h.1, by omega⟩)) (by omega)⟩)
        have HF3A : Hid (∀ j, j < 12 → (fm3 j).fv = f j ∧ FD w7.heap.size wx (fm3 j)) := hidden (fun j hj => ⟨(HF39.out j hj).1, (HF39.out j hj).2.behind (B := w1.heap.size) (by omega) (hC.out.mono (fun i _ h => ⟨h.1, by omega⟩)) (by omega)⟩)
        have HTA : Hid (Wto wx w3.heap.size w4.heap.size fm1 T 0) := hidden (HT9.out.chg hC.out (fun i h1 h2 h3 => by have := h3.2; omega))
        have HBA := hidden hblk
        have s10 := hC.out.size
        clear HF19 HF29 HF39 HT9 HV9 HW9 HX9 hC hR HROW9 hblk
        go_wp2_with (first
          | (refine wpList_load_blk rfl 26 (.tmp 5) rfl w4.heap.size HVA.out rfl rfl rfl (by rw [hl1]; exact size26) ?_)
          | (refine wpList_load_blk rfl 26 (.tmp 7) rfl w6.heap.size HWA.out rfl rfl rfl (by rw [hl2]; exact size26) ?_))
        refine (sameReqY k fm1 fm2 wx (fun i hi => by rw [(HF1A.out i hi).1]; exact KD.out i) (fun i hi => by rw [(HF1A.out i hi).1, (HF2A.out i hi).1]) (fun i hi => (HF1A.out i hi).2.mem) (fun i hi => (HF2A.out i hi).2.mem)).mono ?_
        rintro e wS ⟨rfl, bS⟩
        have HBS := hidden bS
        clear bS
        go_upto_region 16 with fail
        go_cut [121] from 93 to 121 (fun s121 wy => s121 = .bool false ∧ wy = wS)
        case first =>
          cases is with
          | true =>
            obtain rfl : Value.nilIface = ev := hev
            obtain rfl : (0 : Int) = ec := hec
            go_wp2_with fail
            go_meet
            case rel => exact ⟨rfl, rfl⟩
          | false =>
            obtain rfl : errW = ev := hev
            obtain rfl : (180 : Int) = ec := hec
            unfold errW
            have q1 := neq180 wS
            go_wp2_with fail
            go_meet
            case rel => exact ⟨rfl, rfl⟩
        case rest =>
          obtain ⟨rfl, hwc⟩ := hcut
          obtain rfl := hwc.symm
          clear hwc
          have HVS := hidden (HVA.out.later HBS.out)
          have HWS := hidden (HWA.out.later HBS.out)
          have HXS := hidden (HXA.out.later HBS.out)
          have HF2S : Hid (∀ j, j < 12 → (fm2 j).fv = f j ∧ FD w5.heap.size wS (fm2 j)) := hidden (fun j hj => ⟨(HF2A.out j hj).1, (HF2A.out j hj).2.later HBS.out⟩)
          have HF3S : Hid (∀ j, j < 12 → (fm3 j).fv = f j ∧ FD w7.heap.size wS (fm3 j)) := hidden (fun j hj => ⟨(HF3A.out j hj).1, (HF3A.out j hj).2.later HBS.out⟩)
          have HTS : Hid (Wto wS w3.heap.size w4.heap.size fm1 T 0) := hidden (HTA.out.chg (chg_far HBS.out) (fun i h1 h2 h3 => by omega))
          have HBW := hidden (HBA.out.trans (HBS.out.mono HBA.out.size))
          have hR0 : RW w3.heap.size w4.heap.size w4.heap.size k fm1 T wS 0 wS := ⟨Chg.refl _ _, HVS.out, HTS.out⟩
          have HR0 := hidden hR0
          have hbw1 := hR0.wt.bw.1
          have hbw2 := hR0.wt.bw.2
          have hrm1 := hR0.wt.rm.1.1
          have hrm2 := hR0.wt.rm.1.2
          have hrt1 := hR0.wt.rt.1.1
          have hrt2 := hR0.wt.rt.1.2
          have hrb1 := hR0.wt.rb.1.1
          have hrb2 := hR0.wt.rb.1.2
          have hsx := HBS.out.size
          clear hR0 HVA HWA HXA HF1A HF2A HF3A HTA HBA HBS HTS HVS
          go_wp2_with fail
          go_loopw [13] (fun v13 wy => ∃ i : Nat, v13 = .int .i64 (i : Int) ∧ i ≤ T.xs.length ∧ Hid (RW w3.heap.size w4.heap.size w4.heap.size k fm1 T wS i wy)) (fun v13 _ => T.xs.length - (intOf v13).toNat)
          case atStart => exact ⟨0, rfl, by omega, HR0⟩
          case round =>
            rename World => wy
            obtain ⟨i, rfl, hiN, hR⟩ := hrel
            have c3 := hR.out.c3
            by_cases hin : i < T.xs.length
            · have hin' : (i : Int) < (T.xs.length : Int) := by omega
              obtain ⟨gw, x, haw, hBg, hgE, _, hxm, hxi, _, _⟩ := hR.out.ser hin
              have HXI := hidden hxi
              have HXM := hidden hxm
              have HAW := hidden haw
              clear hxi hxm
              go_wp2_with fail
              go_loopw [14] (fun v14 wz => ∃ j : Nat, v14 = .int .i64 (j : Int) ∧ j ≤ x.ln ∧ Hid (RW w3.heap.size w4.heap.size w4.heap.size k fm1 T wS i wz)) (fun v14 _ => x.ln - (intOf v14).toNat)
              case atStart => exact ⟨0, rfl, by omega, hR⟩
              case round =>
                rename World => wz
                obtain ⟨j, rfl, hjN, hR2⟩ := hrel
                have d3 := hR2.out.c3
                rw [haw] at d3
                obtain ⟨_, dc0, dc1⟩ := hR2.out.serAt hin HAW.out HXI.out
                rw [Nat.mul_comm] at dc0 dc1
                have hrl1 := (hR2.out.wt.rows x HXM.out).1.1.1
                have hrl2 := (hR2.out.wt.rows x HXM.out).1.1.2
                by_cases hjn : j < x.ln
                · have hjn' : (j : Int) < (x.ln : Int) := by omega
                  obtain ⟨g2, off2, hla, hth, hnx⟩ := hR2.out.elem (Nat.le_refl _) (hR2.out.wt.rows x HXM.out).1 (by decide) j hjn
                  rw [hla] at dc0
                  have HNX := hidden hnx
                  have HTH := hidden hth
                  clear hnx hth
                  go_wp2_with (first
                    | (refine wpList_store_mid rfl 47 (.tmp 148) (.tmp 147) rfl g2 (off2 + j * 2) #[.string ⟨#[103, 111, 110, 101]⟩, .string ⟨#[]⟩] rfl rfl HTH.out size47 (by simp [Value.oneCell']) ?_))
                  refine ⟨⟨j + 1, by first | rfl | simp, by omega, hidden (HNX.out _)⟩, ?_⟩
                  show x.ln - ((j : Int) + 1).toNat < x.ln - (j : Int).toNat
                  omega
                · have hje : j = x.ln := by omega
                  have hjn' : ¬ (j : Int) < (x.ln : Int) := by omega
                  go_wp2_with fail
                  go_loopw [15] (fun v15 wu => ∃ q : Nat, v15 = .int .i64 (q : Int) ∧ q ≤ x.sn ∧ Hid (RW w3.heap.size w4.heap.size w4.heap.size k fm1 T wS i wu)) (fun v15 _ => x.sn - (intOf v15).toNat)
                  case atStart => exact ⟨0, rfl, by omega, hR2⟩
                  case round =>
                    rename World => wu
                    obtain ⟨q, rfl, hqN, hR3⟩ := hrel
                    have e3 := hR3.out.c3
                    rw [haw] at e3
                    obtain ⟨hthS, ec0, ec1⟩ := hR3.out.serAt hin HAW.out HXI.out
                    rw [Nat.mul_comm] at ec0 ec1 hthS
                    have HTHS := hidden hthS
                    clear hthS
                    have hrs1 := (hR3.out.wt.rows x HXM.out).2.1.1
                    have hrs2 := (hR3.out.wt.rows x HXM.out).2.1.2
                    by_cases hqn : q < x.sn
                    · have hqn' : (q : Int) < (x.sn : Int) := by omega
                      obtain ⟨g3, off3, hsa, hth3, hnx3⟩ := hR3.out.elem (Nat.le_refl _) (hR3.out.wt.rows x HXM.out).2 (by decide) q hqn
                      rw [hsa] at ec1
                      have HNX3 := hidden hnx3
                      have HTH3 := hidden hth3
                      clear hnx3 hth3
                      go_wp2_with (first
                        | (refine wpList_store_mid rfl 50 (.tmp 168) (.tmp 167) rfl g3 (off3 + q * 2) #[.int .i64 9, .int .u64 0] rfl rfl HTH3.out size50w (by simp [Value.oneCell']) ?_))
                      refine ⟨⟨q + 1, by first | rfl | simp, by omega, hidden (HNX3.out _)⟩, ?_⟩
                      show x.sn - ((q : Int) + 1).toNat < x.sn - (q : Int).toNat
                      omega
                    · have hqe : q = x.sn := by omega
                      have hqn' : ¬ (q : Int) < (x.sn : Int) := by omega
                      have HNX4 := hidden (hR3.out.next (Nat.le_refl _) (.slice none 0 0) (.slice none 0 0) hin HAW.out)
                      rw [Nat.mul_comm] at HNX4
                      go_wp2_with (first
                        | (refine wpList_store_mid rfl 45 (.tmp 173) (.tmp 172) rfl gw (i * 2) #[.slice none 0 0, .slice none 0 0] rfl rfl HTHS.out size45 (by simp [Value.oneCell']) ?_))
                      refine ⟨⟨i + 1, by first | rfl | simp, by omega, HNX4⟩, ?_⟩
                      show T.xs.length - ((i : Int) + 1).toNat < T.xs.length - (i : Int).toNat
                      omega
            · have hie : i = T.xs.length := by omega
              have hin' : ¬ (i : Int) < (T.xs.length : Int) := by omega
              go_wp2_with fail
              go_loopw [16] (fun v16 wu => ∃ q : Nat, v16 = .int .i64 (q : Int) ∧ q ≤ T.ms.length ∧ Hid (RW w3.heap.size w4.heap.size w4.heap.size k fm1 T wS i wu)) (fun v16 _ => T.ms.length - (intOf v16).toNat)
              case atStart => exact ⟨0, rfl, by omega, hR⟩
              case round =>
                rename World => wu
                obtain ⟨q, rfl, hqN, hR3⟩ := hrel
                have e4 := hR3.out.c4
                by_cases hqn : q < T.ms.length
                · have hqn' : (q : Int) < (T.ms.length : Int) := by omega
                  obtain ⟨g3, off3, hsa, hth3, hnx3⟩ := hR3.out.elem (Nat.le_refl _) hR3.out.wt.rm (by decide) q hqn
                  rw [hsa] at e4
                  have HNX3 := hidden hnx3
                  have HTH3 := hidden hth3
                  clear hnx3 hth3
                  go_wp2_with (first
                    | (refine wpList_store_mid rfl 52 (.tmp 185) (.tmp 184) rfl g3 (off3 + q * 3) #[.string ⟨#[103, 111, 110, 101]⟩, .int .i64 0, .string ⟨#[]⟩] rfl rfl HTH3.out size52 (by simp [Value.oneCell']) ?_))
                  refine ⟨⟨q + 1, by first | rfl | simp, by omega, hidden (HNX3.out _)⟩, ?_⟩
                  show T.ms.length - ((q : Int) + 1).toNat < T.ms.length - (q : Int).toNat
                  omega
                · have hqe : q = T.ms.length := by omega
                  have hqn' : ¬ (q : Int) < (T.ms.length : Int) := by omega
                  go_wp2_with fail
                  go_loopw [17] (fun v17 wv => ∃ p : Nat, v17 = .int .i64 (p : Int) ∧ p ≤ T.nt ∧ Hid (RW w3.heap.size w4.heap.size w4.heap.size k fm1 T wS i wv)) (fun v17 _ => T.nt - (intOf v17).toNat)
                  case atStart => exact ⟨0, rfl, by omega, hR3⟩
                  case round =>
                    rename World => wv
                    obtain ⟨p, rfl, hpN, hR4⟩ := hrel
                    have f2 := hR4.out.c2
                    by_cases hpn : p < T.nt
                    · have hpn' : (p : Int) < (T.nt : Int) := by omega
                      obtain ⟨g4, off4, u4, hta, hc4, hf4, hnx4⟩ := hR4.out.byte (Nat.le_refl _) hR4.out.wt.rt (by decide) p hpn
                      rw [hta] at f2
                      have HNX4 := hidden hnx4
                      clear hnx4
                      go_wp2_with fail
                      refine ⟨⟨p + 1, by first | rfl | simp, by omega, hidden (HNX4.out _)⟩, ?_⟩
                      show T.nt - ((p : Int) + 1).toNat < T.nt - (p : Int).toNat
                      omega
                    · have hpe : p = T.nt := by omega
                      have hpn' : ¬ (p : Int) < (T.nt : Int) := by omega
                      go_wp2_with fail
                      go_loopw [18] (fun v18 wt => ∃ r : Nat, v18 = .int .i64 (r : Int) ∧ r ≤ T.nb ∧ Hid (RW w3.heap.size w4.heap.size w4.heap.size k fm1 T wS i wt)) (fun v18 _ => T.nb - (intOf v18).toNat)
                      case atStart => exact ⟨0, rfl, by omega, hR4⟩
                      case round =>
                        rename World => wt
                        obtain ⟨r, rfl, hrN, hR5⟩ := hrel
                        have f12 := hR5.out.c12
                        by_cases hrn : r < T.nb
                        · have hrn' : (r : Int) < (T.nb : Int) := by omega
                          obtain ⟨g5, off5, u5, hba, hc5, hf5, hnx5⟩ := hR5.out.byte (Nat.le_refl _) hR5.out.wt.rb (by decide) r hrn
                          rw [hba] at f12
                          have HNX5 := hidden hnx5
                          clear hnx5
                          go_wp2_with fail
                          refine ⟨⟨r + 1, by first | rfl | simp, by omega, hidden (HNX5.out _)⟩, ?_⟩
                          show T.nb - ((r : Int) + 1).toNat < T.nb - (r : Int).toNat
                          omega
                        · have hre : r = T.nb := by omega
                          have hrn' : ¬ (r : Int) < (T.nb : Int) := by omega
                          have HWT := hidden (hR5.out.chg.blk HWS.out (fun e => by have := e.2; omega))
                          have HXT := hidden (hR5.out.chg.blk HXS.out (fun e => by have := e.2; omega))
                          have HF2T : Hid (∀ j, j < 12 → (fm2 j).fv = f j ∧ FD w5.heap.size wt (fm2 j)) := hidden (fun j hj => ⟨(HF2S.out j hj).1, (HF2S.out j hj).2.behind (B := w3.heap.size) (by omega) (hR5.out.chg.mono (fun i _ h => ⟨h.1, by omega⟩)) (by omega)⟩)
                          have HF3T : Hid (∀ j, j < 12 → (fm3 j).fv = f j ∧ FD w7.heap.size wt (fm3 j)) := hidden (fun j hj => ⟨(HF3S.out j hj).1, (HF3S.out j hj).2.behind (B := w3.heap.size) (by omega) (hR5.out.chg.mono (fun i _ h => ⟨h.1, by omega⟩)) (by omega)⟩)
                          have HBT := hidden (HBW.out.trans (hR5.out.chg.below HBW.out.size (fun j hj => by have := hj.1; omega)))
                          go_wp2_with (first
                            | (refine wpList_load_blk rfl 26 (.tmp 9) rfl w8.heap.size HXT.out rfl rfl rfl (by rw [hl3]; exact size26) ?_)
                            | (refine wpList_load_blk rfl 26 (.tmp 7) rfl w6.heap.size HWT.out rfl rfl rfl (by rw [hl2]; exact size26) ?_))
                          refine (sameReqY k fm3 fm2 wt (fun i hi => by rw [(HF3T.out i hi).1]; exact KD.out i) (fun i hi => by rw [(HF3T.out i hi).1, (HF2T.out i hi).1]) (fun i hi => (HF3T.out i hi).2.mem) (fun i hi => (HF2T.out i hi).2.mem)).mono ?_
                          rintro e wZ ⟨rfl, bZ⟩
                          have HBZ9 := hidden (HBT.out.trans (bZ.mono HBT.out.size))
                          clear bZ
                          go_wp2_with fail
                          go_ret
                          exact ⟨by first | rfl | simp, HBZ9.out⟩
end Go.Proofs.YtalmpmhnkilalaaGreatDoor
