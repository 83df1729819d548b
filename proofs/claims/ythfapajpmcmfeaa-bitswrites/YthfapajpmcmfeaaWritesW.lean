import Derived.Test.YthfapajpmcmfeaaWritesM
namespace Go.Proofs.Ythfapajpmcmfeaa
open Go.RowKit
set_option linter.unusedVariables false

theorem built31 (p q : Nat) : Try.prog.built 31 [(0, .pointer (some ⟨p, 0, none⟩)), (1, .pointer (some ⟨q, 0, none⟩))] = some #[.pointer (some ⟨p, 0, none⟩), .pointer (some ⟨q, 0, none⟩), .slice none 0 0, .int .u8 0, .int .i64 0] := by kernel_rfl

/-- What a list of steps that came in reads as. -/
def Sc (w : World) (ad : Option Addr) (n : Nat) (kd on : Nat → Int) (V : Nat → Nat) (nn : Nat → Int) : Prop := 0 < n → ∃ b off, ad = some ⟨b, off, none⟩ ∧ b < w.heap.size ∧ ∀ i, i < n →
  w.cell? ⟨b, off + i * 4, none⟩ = some (.int .i64 (kd i)) ∧ w.cell? ⟨b, off + i * 4 + 1, none⟩ = some (.int .i64 (on i)) ∧ w.cell? ⟨b, off + i * 4 + 2, none⟩ = some (.int .u64 (V i : Int)) ∧ w.cell? ⟨b, off + i * 4 + 3, none⟩ = some (.int .i64 (nn i)) ∧ V i < 18446744073709551616

theorem and_one (x : Int) : ∃ j : Nat, j < 2 ∧ bits .and .i64 x 1 = (j : Int) := by
  have e : (BitVec.ofInt 64 x &&& BitVec.ofInt 64 1).toNat = (BitVec.ofInt 64 x).toNat % 2 := by
    rw [BitVec.toNat_and, show (BitVec.ofInt 64 1).toNat = 1 from rfl, Nat.and_one_is_mod]
  refine ⟨(BitVec.ofInt 64 x).toNat % 2, Nat.mod_lt _ (by omega), ?_⟩
  show IntKind.i64.wrap ((BitVec.ofInt 64 x &&& BitVec.ofInt 64 1).toNat : Int) = _
  rw [e, IntKind.wrap_i64]
  omega

set_option maxRecDepth 100000 in
set_option maxHeartbeats 4000000 in
theorem writes_any (a0 : Option Addr) (len0 cap0 : Nat) (kd on : Nat → Int) (V : Nat → Nat) (nn : Nat → Int) (w : World) (h : Sc w a0 len0 kd on V nn) (hl : len0 ≤ 9223372036854775807) :
    Calls Try.prog 3 #[.slice a0 len0 cap0] w fun e w' => e = .returned (.bool true) ∧ Below w.heap.size w w' := by
  have HS := hidden h
  clear h
  go_enter Try.func3, Try.ntmps3
  go_wp2_with fail
  refine (shown_any w).mono ?_
  rintro e w1 ⟨rfl, hb⟩
  have HB1 := hidden hb
  clear hb
  go_wp2_with fail
  refine (newWriter_any w1).mono ?_
  rintro e w2 ⟨rfl, hW1, hb2⟩
  obtain ⟨p1, hp1⟩ : ∃ p, w1.heap.size = p := ⟨_, rfl⟩
  rw [hp1] at hW1 ⊢
  have HW1 := hidden hW1
  have HB2 := hidden hb2
  have HP1 := hidden hp1
  clear hW1 hb2 hp1
  go_wp2_with fail
  refine (newWriterR_any w2).mono ?_
  rintro e w3 ⟨rfl, hD1, hb3⟩
  obtain ⟨q1, hq1⟩ : ∃ p, w2.heap.size = p := ⟨_, rfl⟩
  rw [hq1] at hD1 ⊢
  have HD1 := hidden hD1
  have HB3 := hidden hb3
  have HQ1 := hidden hq1
  clear hD1 hb3 hq1
  go_wp2_with (first
    | (refine wpList_build_to rfl 31 #[(0, .tmp 10), (1, .tmp 11)] rfl [(0, .pointer (some ⟨p1, 0, none⟩)), (1, .pointer (some ⟨q1, 0, none⟩))] #[.pointer (some ⟨p1, 0, none⟩), .pointer (some ⟨q1, 0, none⟩), .slice none 0 0, .int .u8 0, .int .i64 0] ?_ (built31 p1 q1) ?_; kernel_rfl)
    | (refine wpList_box_blk rfl 31 (.tmp 12) rfl [.pointer (some ⟨p1, 0, none⟩), .pointer (some ⟨q1, 0, none⟩), .slice none 0 0, .int .u8 0, .int .i64 0] rfl ?_; intro w4 B4 bl4 hz4; have HB4 := hidden B4; have HBL4 := hidden bl4; have HZ4 := hidden hz4; clear B4 bl4 hz4))
  obtain ⟨a, ha⟩ : ∃ p, w3.heap.size = p := ⟨_, rfl⟩
  rw [ha] at HB4 HZ4 ⊢
  have HA := hidden ha
  clear ha
  refine (newWriter_any w4).mono ?_
  rintro e w5 ⟨rfl, hW2, hb5⟩
  obtain ⟨p2, hp2⟩ : ∃ p, w4.heap.size = p := ⟨_, rfl⟩
  rw [hp2] at hW2 ⊢
  have HW2 := hidden hW2
  have HB5 := hidden hb5
  have HP2 := hidden hp2
  clear hW2 hb5 hp2
  go_wp2_with fail
  refine (newWriterR_any w5).mono ?_
  rintro e w6 ⟨rfl, hD2, hb6⟩
  obtain ⟨q2, hq2⟩ : ∃ p, w5.heap.size = p := ⟨_, rfl⟩
  rw [hq2] at hD2 ⊢
  have HD2 := hidden hD2
  have HB6 := hidden hb6
  have HQ2 := hidden hq2
  clear hD2 hb6 hq2
  obtain ⟨b, hbd⟩ : ∃ p, w6.heap.size = p := ⟨_, rfl⟩
  go_upto_region 3 with (first
    | (refine wpList_build_to rfl 31 #[(0, .tmp 14), (1, .tmp 15)] rfl [(0, .pointer (some ⟨p2, 0, none⟩)), (1, .pointer (some ⟨q2, 0, none⟩))] #[.pointer (some ⟨p2, 0, none⟩), .pointer (some ⟨q2, 0, none⟩), .slice none 0 0, .int .u8 0, .int .i64 0] ?_ (built31 p2 q2) ?_; kernel_rfl)
    | (refine wpList_box_blk rfl 31 (.tmp 16) rfl [.pointer (some ⟨p2, 0, none⟩), .pointer (some ⟨q2, 0, none⟩), .slice none 0 0, .int .u8 0, .int .i64 0] rfl ?_; intro w7 B7 bl7 hz7; rw [hbd] at B7 bl7 hz7; have HB7 := hidden B7; have HBL7 := hidden bl7; have HZ7 := hidden hz7; clear B7 bl7 hz7))
  obtain ⟨bb, hbb⟩ : ∃ p, w7.heap.size = p := ⟨_, rfl⟩
  rw [hbb]
  obtain ⟨w8, hw8⟩ : ∃ w8, w7.alloc (.cells #[.pointer (some ⟨a, 0, none⟩), .pointer (some ⟨b, 0, none⟩)] 24) = w8 := ⟨_, rfl⟩
  have hB8 : Blk w8 bb 24 [.pointer (some ⟨a, 0, none⟩), .pointer (some ⟨b, 0, none⟩)] := by
    rw [← hw8, ← hbb]
    exact Blk.new w7 24 _
  have bl8 : Below w7.heap.size w7 w8 := by
    rw [← hw8]
    exact (Below.refl _ _).alloc (Nat.le_refl _) _
  rw [hw8]
  have hST : ST w w8 bb a b 0 := by
    have o1 := HP1.out
    have o2 := HQ1.out
    have o3 := HA.out
    have o4 := HP2.out
    have o5 := HQ2.out
    have t1 := HW1.out.lt p1 (.inl rfl)
    have t2 := HD1.out.lt q1 (.inl rfl)
    have t3 := HB4.out.lt
    have t4 := HW2.out.lt p2 (.inl rfl)
    have t5 := HD2.out.lt q2 (.inl rfl)
    have t6 := HB7.out.lt
    have z0 := HB1.out.size
    have L3 : Lat w2 w3 := HB3.out
    have L4 : Lat w3 w4 := HBL4.out
    have L5 : Lat w4 w5 := HB5.out
    have L6 : Lat w5 w6 := HB6.out
    have L7 : Lat w6 w7 := by
      have := HBL7.out
      rw [← hbd] at this
      exact this
    have L8 : Lat w7 w8 := bl8
    have L48 := Lat.trans _ _ _ (Lat.trans _ _ _ (Lat.trans _ _ _ L5 L6) L7) L8
    have L38 := Lat.trans _ _ _ L4 L48
    have L28 := Lat.trans _ _ _ L3 L38
    have L18 := Lat.trans _ _ _ (show Lat w1 w2 from HB2.out) L28
    have L68 := Lat.trans _ _ _ L7 L8
    have L58 := Lat.trans _ _ _ L6 L68
    have K := fun {u v : World} (h : Lat u v) => Chg.of_below (F := fun _ => False) h
    refine ⟨p1, q1, none, none, none, [], p2, q2, none, none, none, [], PS.new (HB4.out.later L48) (HW1.out.chg (K L28) (fun _ _ h => h)) (HD1.out.chg (K L38) (fun _ _ h => h)), PS.new (HB7.out.later L8) (HW2.out.chg (K L58) (fun _ _ h => h)) (HD2.out.chg (K L68) (fun _ _ h => h)), by simp, by simp, ?_, ?_, ?_, hB8, by omega, HB1.out.trans (L18.mono z0)⟩
    · intro i h1 h2
      simp [FP, fpt] at h1 h2
      omega
    · intro i h1
      simp [FP, fpt] at h1
      omega
    · intro i h1
      simp [FP, fpt] at h1
      omega
  have HST := hidden hST
  clear hST hB8 bl8 hw8 hbb hbd HB1 HW1 HB2 HP1 HD1 HB3 HQ1 HB4 HBL4 HZ4 HA HW2 HB5 HP2 HD2 HB6 HQ2 HB7 HBL7 HZ7
  obtain ⟨pa, pb, x1, x2⟩ := HST.out.nonnil
  have e0 : w8.cell? ⟨bb, 0, none⟩ = some (.pointer (some ⟨a, 0, none⟩)) := HST.out.blk.cell 0
  have e1 : w8.cell? ⟨bb, 1, none⟩ = some (.pointer (some ⟨b, 0, none⟩)) := HST.out.blk.cell 1
  go_wp2_with fail
  clear x1 x2 e0 e1
  go_loopw [5] (fun iv wr => ∃ i : Nat, i ≤ len0 ∧ i ≤ 1000 ∧ iv = .int .i64 (i : Int) ∧ ST w wr bb a b (64 * i)) (fun iv _ => 1000 - (intOf iv).toNat)
  case atStart => exact ⟨0, by omega, by omega, rfl, HST.out⟩
  case round =>
    rename World => wr
    obtain ⟨i, hil, hi1, rfl, hST⟩ := hrel
    clear HST
    have HST := hidden hST
    clear hST
    go_upto_region 6 with fail
    go_cut [46] from 39 to 64 (fun s46 wx => s46 = .bool (decide (i < len0 ∧ i < 1000)) ∧ wx = wr)
    case first =>
      by_cases q0 : i < len0
      · by_cases q2 : i < 1000
        · have HD : Hid (decide (i < len0 ∧ i < 1000) = true) := decide_eq_true ⟨q0, q2⟩
          go_wp2_with fail
          go_meet
          case rel => exact ⟨by first | (rw [HD.out]; done) | (rw [HD.out]; congr 1; exact decide_eq_true (by omega)) | (rw [HD.out]; congr 1; exact decide_eq_false (by omega)), rfl⟩
        · have HD : Hid (decide (i < len0 ∧ i < 1000) = false) := decide_eq_false (fun h => q2 h.2)
          go_wp2_with fail
          go_meet
          case rel => exact ⟨by first | (rw [HD.out]; done) | (rw [HD.out]; congr 1; exact decide_eq_true (by omega)) | (rw [HD.out]; congr 1; exact decide_eq_false (by omega)), rfl⟩
      · have HD : Hid (decide (i < len0 ∧ i < 1000) = false) := decide_eq_false (fun h => q0 h.1)
        go_wp2_with fail
        go_meet
        case rel => exact ⟨by first | (rw [HD.out]; done) | (rw [HD.out]; congr 1; exact decide_eq_true (by omega)) | (rw [HD.out]; congr 1; exact decide_eq_false (by omega)), rfl⟩
    case rest =>
      obtain ⟨rfl, hwc⟩ := hcut
      obtain rfl := hwc.symm
      clear hwc
      by_cases hcond : i < len0 ∧ i < 1000
      · have hd : decide (i < len0 ∧ i < 1000) = true := decide_eq_true hcond
        rw [hd]
        clear hd
        obtain ⟨q0, q2⟩ := hcond
        obtain ⟨b0, o0, rfl, hb0, hcell⟩ := HS.out (by omega)
        obtain ⟨z0, z1, z2, z3, z4⟩ := hcell i q0
        have hbel := HST.out.bel
        rw [← hbel.cell (p := ⟨b0, o0 + i * 4, none⟩) hb0] at z0
        rw [← hbel.cell (p := ⟨b0, o0 + i * 4 + 1, none⟩) hb0] at z1
        rw [← hbel.cell (p := ⟨b0, o0 + i * 4 + 2, none⟩) hb0] at z2
        rw [← hbel.cell (p := ⟨b0, o0 + i * 4 + 3, none⟩) hb0] at z3
        obtain ⟨kd1, hkd⟩ : ∃ x, kd i = x := ⟨_, rfl⟩
        obtain ⟨on1, hon⟩ : ∃ x, on i = x := ⟨_, rfl⟩
        obtain ⟨V1, hV1⟩ : ∃ x, V i = x := ⟨_, rfl⟩
        obtain ⟨nn1, hnn⟩ : ∃ x, nn i = x := ⟨_, rfl⟩
        rw [hkd] at z0
        rw [hon] at z1
        rw [hV1] at z2 z4
        rw [hnn] at z3
        clear hkd hon hV1 hnn hcell hbel
        obtain ⟨j, hj2, hj⟩ := and_one on1
        obtain ⟨x, hx⟩ : ∃ x, (if j = 0 then a else b) = x := ⟨_, rfl⟩
        have hxc : wr.cell? ⟨bb, j, none⟩ = some (.pointer (some ⟨x, 0, none⟩)) := by
          rw [HST.out.blk.cell, ← hx]
          rcases (show j = 0 ∨ j = 1 by omega) with rfl | rfl <;> rfl
        have HCALL : Hid (∀ w1, Lat wr w1 → Calls Try.prog 9 #[.pointer (some ⟨x, 0, none⟩), .agg #[.int .i64 kd1, .int .i64 on1, .int .u64 (V1 : Int), .int .i64 nn1]] w1 fun e w' => e = .returned (.bool true) ∧ ST w w' bb a b (64 * i + 64)) := fun w1 hL => by
          rw [← hx]
          exact step_st (HST.out.later hL) (by omega) j kd1 on1 nn1 V1 z4
        clear hx
        go_upto_region 8 with fail
        go_cut [6] from 39 to 64 (fun s6 wx => s6 = .bool true ∧ ST w wx bb a b (64 * i + 64))
        case first =>
          go_region_with (refine (HCALL.out _ (Lat.draw wr)).mono ?_; rintro e w' ⟨rfl, hS⟩)
          all_goals
            have HS2 := hidden hS
            clear hS
            go_wp2_with fail
            go_meet
            case rel => exact ⟨rfl, HS2.out⟩
        case rest =>
          obtain ⟨rfl, hS⟩ := hcut
          have HS2 := hidden hS
          clear hS z0 z1 z2 z3 hxc HST HCALL hj
          go_wp2_with fail
          refine ⟨⟨i + 1, by omega, by omega, ?_, ?_⟩, ?_⟩
          · go_num
          · rw [show 64 * (i + 1) = 64 * i + 64 by omega]
            exact HS2.out
          · simp [intOf]
            omega
      · have hd : decide (i < len0 ∧ i < 1000) = false := decide_eq_false hcond
        rw [hd]
        clear hd hcond
        have e0 : wr.cell? ⟨bb, 0, none⟩ = some (.pointer (some ⟨a, 0, none⟩)) := HST.out.blk.cell 0
        go_wp2_with fail
        refine (bytes_st HST.out (by omega) 0).mono ?_
        rintro e w9 ⟨rfl, hS9⟩
        have e1 : w9.cell? ⟨bb, 1, none⟩ = some (.pointer (some ⟨b, 0, none⟩)) := hS9.blk.cell 1
        have HS9 := hidden hS9
        clear hS9 e0 HST
        go_wp2_with fail
        refine (bytes_st HS9.out (by omega) 1).mono ?_
        rintro e w10 ⟨rfl, hS10⟩
        have HB10 := hidden hS10.bel
        clear hS10 e1 HS9
        go_wp2_with fail
        go_ret
        exact ⟨rfl, HB10.out⟩

end Go.Proofs.Ythfapajpmcmfeaa
