import Derived.Test.YtfieglepljmmkaaShaB
import Derived.Test.YtfieglepljmmkaaShaN
namespace Go.Proofs.Ytfieglepljmmkaa
open Go.RowKit
set_option linter.unusedVariables false

def newCells : List Value := hcells H0 (List.replicate 64 0) 0
theorem built53 : Try.prog.built 53 [(0, .agg (wc H0.l).toArray)] = some newCells.toArray := by kernel_rfl
theorem HS_new {w : World} {p : Nat} (h : Blk w p 53 newCells) : HS w p [] := by
  refine ⟨fun n hn => by simp at hn, List.replicate 64 0, List.length_replicate, fun n hn => by have := List.eq_of_mem_replicate hn; omega, ?_, by simp⟩
  have e : absorb (([] : List Int).length / 64) [] = H0 := by
    rw [List.length_nil, Nat.zero_div]
    rfl
  rw [e]
  exact h

set_option maxRecDepth 100000 in
set_option maxHeartbeats 1000000 in
theorem new_any (w : World) : Calls Try.prog 14 #[] w fun e w' => ∃ p, e = .returned (.pointer (some ⟨p, 0, none⟩)) ∧ w.heap.size ≤ p ∧ HS w' p [] ∧ Below w.heap.size w w' := by
  have hb := built53
  have HN : Hid (∀ (w : World) (p : Nat), Blk w p 53 newCells → HS w p []) := fun w p h => HS_new h
  go_enter Try.func14, Try.ntmps14
  go_wp2_with fail
  refine (startWords_any w).mono ?_
  rintro e w1 ⟨rfl, bl1⟩
  generalize wc H0.l = T at *
  generalize newCells = T2 at *
  go_wp2_with (first
    | (refine wpList_build_to rfl 53 #[(0, .tmp 1)] rfl [(0, .agg T.toArray)] T2.toArray ?_ hb ?_; kernel_rfl)
    | (refine wpList_box_blk rfl 53 (.tmp 2) rfl T2 rfl ?_; intro w2 B2 bl2 hz2))
  go_ret
  exact ⟨_, rfl, bl1.size, HN.out _ _ B2, bl1.trans (bl2.mono bl1.size)⟩

theorem end_list (z : Nat) (a b : List Value) (ha : a.length = 4) (hb : b.length = 4) :
    (((List.replicate (9 + z) (Value.int .u8 0)).set 0 (.int .u8 128)).take (1 + z) ++ a ++ ((List.replicate (9 + z) (Value.int .u8 0)).set 0 (.int .u8 128)).drop (1 + z + a.length)).take (1 + z + 4) ++ b ++
      (((List.replicate (9 + z) (Value.int .u8 0)).set 0 (.int .u8 128)).take (1 + z) ++ a ++ ((List.replicate (9 + z) (Value.int .u8 0)).set 0 (.int .u8 128)).drop (1 + z + a.length)).drop (1 + z + 4 + b.length) = Value.int .u8 128 :: List.replicate z (.int .u8 0) ++ a ++ b := by
  have e : (List.replicate (9 + z) (Value.int .u8 0)).set 0 (.int .u8 128) = Value.int .u8 128 :: List.replicate (8 + z) (.int .u8 0) := by
    rw [show 9 + z = (8 + z) + 1 by omega, List.replicate_succ, List.set_cons_zero]
  rw [e, show 1 + z = z + 1 by omega, List.take_succ_cons, List.take_replicate, show min z (8 + z) = z by omega, ha, hb]
  have h1 : (Value.int IntKind.u8 128 :: List.replicate z (Value.int IntKind.u8 0) ++ a).length = z + 1 + 4 := by simp [ha]
  have h2 : (List.drop (z + 1 + 4) (Value.int IntKind.u8 128 :: List.replicate (8 + z) (Value.int IntKind.u8 0))).length = 4 := by
    rw [List.length_drop, List.length_cons, List.length_replicate]
    omega
  generalize List.drop (z + 1 + 4) (Value.int IntKind.u8 128 :: List.replicate (8 + z) (Value.int IntKind.u8 0)) = R at *
  generalize (Value.int IntKind.u8 128 :: List.replicate z (Value.int IntKind.u8 0) ++ a) = X at *
  rw [List.take_append_of_le_length (by omega), List.take_of_length_le (by omega), List.drop_eq_nil_of_le (by rw [List.length_append]; omega), List.append_nil]
theorem outW_byte (x : BitVec 32) : Byte (outW x) := by
  intro n hn
  simp only [outW, List.mem_cons, List.not_mem_nil, or_false] at hn
  rcases hn with rfl | rfl | rfl | rfl <;> omega
theorem tail8_out (n : Nat) (h : n ≤ 1152921504606846976) : tail8 n = outW (BitVec.ofNat 32 (n * 8 / 4294967296)) ++ outW (BitVec.ofNat 32 (n * 8)) := by
  simp only [tail8, outW, BitVec.toNat_ofNat, List.range, List.range.loop, List.map, List.cons_append, List.nil_append, List.cons.injEq, and_true]
  refine ⟨?_, ?_, ?_, ?_, ?_, ?_, ?_, ?_⟩ <;> simp <;> omega
theorem made_cell {w : World} {g z : Nat} (h : w.heap[g]? = some (.cells (List.replicate (9 + z) (Value.int .u8 0)).toArray 5 (0, 0))) : w.cell? ⟨g, 0, none⟩ = some (.int .u8 0) := by
  rw [Blk.cell (ty := 5) h 0, List.getElem?_replicate, if_pos (by omega)]
theorem info5e : (Try.prog.info? 5).map (fun i => (i.zero, i.size, i.bytes)) = some (some (.int .u8 0), 1, 1) := by kernel_rfl

set_option maxRecDepth 100000 in
set_option maxHeartbeats 1000000 in
theorem ending_any (n : Nat) (w : World) (hn : n ≤ 1152921504606846976) : Calls Try.prog 30 #[.int .u64 (n : Int)] w fun e w' => e = .returned (.slice (some ⟨w.heap.size, 0, none⟩) (ending n).length (ending n).length) ∧ Sl w' (some ⟨w.heap.size, 0, none⟩) (ending n).length (ending n) ∧ Below w.heap.size w w' := by
  obtain ⟨i0, hi, hz0, hz1, hz2⟩ := info_parts info5e
  obtain ⟨z, hz⟩ : ∃ z, (119 - n % 64) % 64 = z := ⟨_, rfl⟩
  have hz64 : z < 64 := by omega
  have hzI : (119 - (n : Int) % 64) % 64 = (z : Int) := by omega
  have HZ := hidden hz
  clear hz
  go_enter Try.func30, Try.ntmps30
  go_wp2_with (first
    | (refine wpList_make_room w rfl (.tmp 12) (.tmp 12) 22 rfl 5 i0 (.int .u8 0) Try.underlying22 hi hz0 hz1 hz2 rfl .u64 .u64 _ _ (9 + z) (9 + z) rfl rfl ?_ ?_ (Nat.le_refl _) (by omega) ?_; omega; omega; intro w1 B1 hsz1 bl1; have c0 := made_cell B1; have f0 := Blk.frozen (ty := 5) B1 0; have HB1 := hidden B1; have HBL1 := hidden bl1; clear B1 bl1))
  obtain ⟨x1, hx1⟩ : ∃ x1, BitVec.ofNat 32 (n * 8 / 4294967296) = x1 := ⟨_, rfl⟩
  obtain ⟨x2, hx2⟩ : ∃ x2, BitVec.ofNat 32 (n * 8) = x2 := ⟨_, rfl⟩
  have n1 : (n : Int) * 8 / 4294967296 = N x1 := by
    rw [← hx1]; unfold N; rw [BitVec.toNat_ofNat]; omega
  have n2 : (n : Int) * 8 % 4294967296 = N x2 := by
    rw [← hx2]; unfold N; rw [BitVec.toNat_ofNat]; omega
  have HX1 := hidden hx1
  have HX2 := hidden hx2
  rw [n1]
  have B2 : Blk (w1.setCell ⟨w.heap.size, 0, none⟩ (.int .u8 128)) w.heap.size 5 ((List.replicate (9 + z) (Value.int .u8 0)).set 0 (.int .u8 128)) := Blk.set (ty := 5) HB1.out 0 _
  have BL2 := HBL1.out.setCell (p := ⟨w.heap.size, 0, none⟩) (Nat.le_refl _) (.int .u8 128)
  clear hx1 hx2 HB1 HBL1 c0 f0 n1
  generalize (w1.setCell ⟨w.heap.size, 0, none⟩ (.int .u8 128)) = w2 at *
  refine (putWord_any w.heap.size (1 + z) _ _ x1 w2 (by omega) (B2.there (1 + z) 4 (by simp; omega))).mono ?_
  rintro e w3 ⟨rfl, rfl⟩
  have B3 := Blk.sets (cells8 (outW x1)) (1 + z) w2 _ B2 (by simp [cells8, outW]; omega)
  have BL3 := BL2.trans (below_sets (Nat.le_refl _) (cells8 (outW x1)) (1 + z) w2)
  clear B2 BL2
  have HB3 := hidden B3
  have HBL3 := hidden BL3
  clear B3 BL3
  generalize (w2.setCells w.heap.size (1 + z) (cells8 (outW x1))) = w4 at *
  go_wp2_with fail
  refine (putWord_any w.heap.size (1 + z + 4) _ _ x2 w4 (by omega) (HB3.out.there (1 + z + 4) 4 (by simp [cells8, outW]; omega))).mono ?_
  rintro e w5 ⟨rfl, rfl⟩
  have B5 := Blk.sets (cells8 (outW x2)) (1 + z + 4) w4 _ HB3.out (by simp [cells8, outW]; omega)
  have BL5 := HBL3.out.trans (below_sets (Nat.le_refl _) (cells8 (outW x2)) (1 + z + 4) w4)
  rw [end_list z _ _ (by rfl) (by rfl)] at B5
  have HB5 := hidden B5
  have HBL5 := hidden BL5
  clear B5 BL5 HB3 HBL3 n2
  generalize (w4.setCells w.heap.size (1 + z + 4) (cells8 (outW x2))) = w6 at *
  go_wp2_with fail
  go_ret
  have he : ending n = 128 :: List.replicate z 0 ++ (outW x1 ++ outW x2) := by
    unfold ending
    rw [HZ.out, tail8_out n hn, HX1.out, HX2.out]
  have hle : (ending n).length = 9 + z := by
    rw [he]
    simp [outW]
    omega
  rw [hle]
  refine ⟨rfl, ?_, HBL5.out⟩
  have hb : Byte (ending n) := by
    rw [he]
    intro v hv
    simp only [List.cons_append, List.mem_cons, List.mem_append] at hv
    rcases hv with rfl | hv | hv | hv
    · decide
    · have := List.eq_of_mem_replicate hv
      omega
    · exact outW_byte x1 v hv
    · exact outW_byte x2 v hv
  have hB : Blk w6 w.heap.size 5 (cells8 (ending n)) := by
    rw [he]
    have h5 := HB5.out
    have e : Value.int IntKind.u8 128 :: List.replicate z (Value.int IntKind.u8 0) ++ cells8 (outW x1) ++ cells8 (outW x2) = cells8 (128 :: List.replicate z 0 ++ (outW x1 ++ outW x2)) := by
      simp [cells8]
    rw [e] at h5
    exact h5
  exact ⟨hle, hb, fun j hj => ⟨_, rfl, by
    rw [Addr.add_lit, hB.cell]
    simp [cells8, List.getD, show j < (ending n).length by omega]⟩⟩

end Go.Proofs.Ytfieglepljmmkaa
