/-
  FramePuts' walk.
-/
import Derived.Test.YtiaopgphjailiaaPutR
namespace Go.Proofs.Ytiaopgphjailiaa
open Go Go.RowKit
set_option linter.unusedVariables false
set_option linter.unusedSimpArgs false

theorem tup_of {w w' : World} {e : Ending} {n : Nat} {xs : List Int} {er : Int} {B : Nat} (hB : B ≤ w.heap.size) (h : ∃ ag c, e = .returned (.tuple #[.slice ag n c, .int .i64 er]) ∧ Bld w w' (.slice ag n c) n xs) : ∃ v, e = .returned v ∧ Lat w w' ∧ TupE B n xs er v w' := by
  obtain ⟨ag, c, rfl, hb⟩ := h
  exact ⟨_, rfl, hb.bel, ag, c, rfl, owns_baseG hb.row (fun g hg => Nat.le_trans hB (hb.new g hg))⟩

set_option maxHeartbeats 2000000 in
theorem puts_any (ab : Option Addr) (lb cb : Nat) (B : List Int) (k : Int) (ad : Option Addr) (ld cd : Nat) (D : List Int) (z : Int) (w : World) (hsb : Sl w ab lb B) (hnb : ab = none → lb = 0 ∧ cb = 0) (hlb : lb ≤ 140737488351232) (hk : 0 ≤ k ∧ k ≤ 255) (hsd : Sl w ad ld D) (hnd : ad = none → ld = 0 ∧ cd = 0) (hld : ld ≤ 140737488351232) (hz : -9223372036854775808 ≤ z ∧ z ≤ 9223372036854775807) :
    Calls Try.prog 3 #[.slice ab lb cb, .int .u8 k, .slice ad ld cd, .int .i64 z] w fun e w' => e = .returned (.bool true) ∧ Below w.heap.size w w' := by
  have HSB := hidden hsb
  have HSD := hidden hsd
  have HLB := hidden hsb.len
  have HLD := hidden hsd.len
  have HNB := hidden hnb
  have HND := hidden hnd
  have HK := hidden hk
  have HZ := hidden hz
  clear hsb hsd hnb hnd hk hz
  go_enter Try.func3, Try.ntmps3
  go_wp2_with fail
  refine (shown_any w).mono ?_
  rintro e w1 ⟨rfl, hb1⟩
  have HB1 := hidden hb1
  clear hb1
  by_cases hbig : (lb : Int) + (ld : Int) > 2147483638
  · go_wp2_with fail
    go_ret
    exact ⟨rfl, HB1.out⟩
  have hlb2 : lb ≤ 2147483648 := by omega
  have hld2 : ld ≤ 2147483648 := by omega
  go_wp2_with fail
  refine (lent_any ab lb cb B w1 (HSB.out.later HB1.out) (by omega)).mono ?_
  rintro e w2 ⟨rfl, hx2, hb2⟩
  obtain ⟨X, hX⟩ : ∃ X, w1.heap.size = X := ⟨_, rfl⟩
  rw [hX] at hx2 ⊢
  have HX2 := hidden hx2
  have HB2 := hidden (HB1.out.trans (hb2.mono HB1.out.size))
  clear hx2 hb2 hX
  go_wp2_with fail
  refine (lent_any ad ld cd D w2 (HSD.out.later HB2.out) (by omega)).mono ?_
  rintro e w3 ⟨rfl, hy3, hb3⟩
  obtain ⟨Y, hY⟩ : ∃ Y, w2.heap.size = Y := ⟨_, rfl⟩
  rw [hY] at hy3 ⊢
  have HY3 := hidden hy3
  have HX3 := hidden (HX2.out.later hb3)
  have HB3 := hidden (HB2.out.trans (hb3.mono HB2.out.size))
  clear hy3 hb3 hY
  have HSX := hidden (lent_sl HX3.out HLB.out HSB.out.byte)
  have HSY := hidden (lent_sl HY3.out HLD.out HSD.out.byte)
  obtain ⟨n, hn⟩ : ∃ n, putN B D = n := ⟨_, rfl⟩
  obtain ⟨er, her⟩ : ∃ er, putE D = er := ⟨_, rfl⟩
  obtain ⟨L, hL⟩ : ∃ L, putL B k D = L := ⟨_, rfl⟩
  have hn2 : n ≤ 4294967296 := by
    rw [← hn]
    unfold putN
    rw [HLB.out, HLD.out]
    split <;> omega
  have HPL := hidden (putL_byte HSB.out.byte HK.out HSD.out.byte)
  rw [hL] at HPL
  have HP : Hid (∀ w4, Lat w3 w4 → ∀ B', B' ≤ w4.heap.size → Calls Try.prog 10 #[.slice (some ⟨X, 0, none⟩) lb (lb + 8), .int .u8 k, .slice (some ⟨Y, 0, none⟩) ld (ld + 8)] w4 fun e w5 => ∃ v, e = .returned v ∧ Lat w4 w5 ∧ TupE B' n L er v w5) := fun w4 hl B' hB' => by
    rw [← hn, ← her, ← hL]
    exact (put_all _ _ _ B k _ _ _ D w4 (HSX.out.later hl) HK.out (HSY.out.later hl) (fun h => by cases h) (by omega) (by omega)).mono (fun e w5 h => tup_of hB' h)
  have HN := hidden hn
  have HER := hidden her
  have HLL := hidden hL
  clear hn her hL
  go_wp2_with fail
  refine puts_r6 X Y lb ld cb cd ab ad k w3.heap.size n L er w3 _ _ (by rfl) (by rfl) (by rfl) (by rfl) (by rfl) (by rfl) (by omega) (by omega) (fun w4 hl => HP.out w4 hl _ hl.size) ?_
  rintro v42 v43 v44 v45 v46 v47 v48 v49 v50 v51 v41 v52 v53 v12 v13 w4 hL4 ⟨⟨a4, c4, rfl, ho4⟩, rfl⟩
  have HL4 := hidden hL4
  have HB4 := hidden (HB3.out.trans (Below.mono hL4 HB3.out.size))
  have H4 : Hid (Bld w3 w4 (.slice a4 n c4) n L) := Bld.of_row ho4 hL4
  clear hL4 ho4
  simp only [Act.put, List.setIfInBounds_toArray, List.set_cons_succ, List.set_cons_zero]
  go_wp2_with fail
  refine puts_r7 X Y lb ld cb cd ab ad k w4.heap.size n L er w4 _ _ (by rfl) (by rfl) (by rfl) (by rfl) (by rfl) (by rfl) (by omega) (by omega) (fun w5 hl => HP.out w5 (Lat.trans _ _ _ HL4.out hl) _ hl.size) ?_
  rintro v55 v56 v57 v58 v59 v60 v61 v62 v63 v64 v54 v65 v66 v14 v15 w5 hL5 ⟨⟨a5, c5, rfl, ho5⟩, rfl⟩
  have HB5 := hidden (HB4.out.trans (Below.mono hL5 HB4.out.size))
  have H5 : Hid (Bld w4 w5 (.slice a5 n c5) n L) := Bld.of_row ho5 hL5
  clear hL5 ho5
  simp only [Act.put, List.setIfInBounds_toArray, List.set_cons_succ, List.set_cons_zero]
  go_wp2_with fail
  have hb35 : Below w3.heap.size w3 w5 := H4.out.bel.trans (H5.out.bel.mono H4.out.bel.size)
  have HX5 := hidden (HX3.out.later hb35)
  have HY5 := hidden (HY3.out.later hb35)
  clear hb35
  refine (still_any X 0 (lb + 8) ab lb cb B w5 (lent_cell HX5.out HLB.out) (HSB.out.later HB5.out) (by omega)).mono ?_
  rintro e w6 ⟨rfl, q6, rfl⟩
  have HQ6 := hidden (lat_drewN w5 q6)
  generalize w5.drewN q6 = w6 at *
  have HB6 := hidden (HB5.out.trans (Below.mono HQ6.out HB5.out.size))
  go_wp2_with fail
  refine (still_any Y 0 (ld + 8) ad ld cd D w6 (lent_cell (HY5.out.later HQ6.out) HLD.out) (HSD.out.later HB6.out) (by omega)).mono ?_
  rintro e w7 ⟨rfl, q7, rfl⟩
  have HQ7 := hidden (Lat.trans _ _ _ HQ6.out (lat_drewN w6 q7))
  generalize w6.drewN q7 = w7 at *
  have HB7 := hidden (HB5.out.trans (Below.mono HQ7.out HB5.out.size))
  go_wp2_with fail
  refine (refPut_all ab lb cb B k ad ld cd D w7 (HSB.out.later HB7.out) HNB.out HK.out (HSD.out.later HB7.out) HND.out (by omega) (by omega)).mono ?_
  rintro e w8 ⟨a8, c8, rfl, h8⟩
  rw [HN.out, HLL.out] at h8
  rw [HN.out, HER.out]
  have H8 := hidden h8
  have HB8 := hidden (HB7.out.trans (h8.bel.mono HB7.out.size))
  have HQ8 := hidden (Lat.trans _ _ _ HQ7.out h8.bel)
  have R5 := hidden (H5.out.later HQ8.out)
  have R4 := hidden (H4.out.later (H5.out.bel.trans (Below.mono HQ8.out H5.out.bel.size)))
  have HX8 := hidden (HX5.out.later HQ8.out)
  have HY8 := hidden (HY5.out.later HQ8.out)
  clear h8
  have k4 := convS (cap := c4) (R4.out.sl HPL.out)
  have k5 := convS (cap := c5) (R5.out.sl HPL.out)
  have k8 := convS (cap := c8) (H8.out.sl HPL.out)
  obtain ⟨S, hS⟩ : ∃ S, strOfNums L = S := ⟨_, rfl⟩
  rw [hS] at k4 k5 k8
  go_wp2_with fail
  refine (size_any z w8 HZ.out.2).mono ?_
  rintro e w9 ⟨rfl, rfl⟩
  obtain ⟨sz, hsz⟩ : ∃ sz, sizeN z = sz := ⟨_, rfl⟩
  rw [hsz]
  go_wp2_with fail
  refine (refSize_any z w9 HZ.out.2).mono ?_
  rintro e w8 ⟨rfl, rfl⟩
  rw [hsz]
  go_wp2_with fail
  refine (full_any a4 n c4 L 1 w8 R4.out.row (by omega) (by omega)).mono ?_
  rintro e w9 ⟨a9, c9, rfl, ho9, hc9, hm9⟩
  have n4 : ∀ g, (Value.slice a4 n c4).ownBlock = some g → w3.heap.size ≤ g ∧ g < w4.heap.size := H4.out.blk
  have n5 : ∀ g, (Value.slice a5 n c5).ownBlock = some g → w4.heap.size ≤ g ∧ g < w5.heap.size := H5.out.blk
  have hXl := HX3.out.lt
  have hYl := HY3.out.lt
  have hs34 := H4.out.bel.size
  have hs45 := H5.out.bel.size
  have hs58 := HQ8.out.size
  have HX9 : Hid (Blk w9 X 5 (cells8 (B ++ List.replicate 8 201))) := hc9.blk HX8.out (fun hg => by have := (n4 X hg).1; omega)
  have HY9 : Hid (Blk w9 Y 5 (cells8 (D ++ List.replicate 8 201))) := hc9.blk HY8.out (fun hg => by have := (n4 Y hg).1; omega)
  have HB9 := hidden (HB8.out.trans (hc9.below HB8.out.size (fun g hg => Nat.le_trans HB3.out.size (n4 g hg).1)))
  have R59 : Hid (w9.ownsRow 0 5 1 (.slice a5 n c5) n (cells8 L)) := hc9.owns R5.out.row (fun g hg h4 => by have := (n5 g hg).1; have := (n4 g h4).2; omega)
  have R89 : Hid (w9.ownsRow 0 5 1 (.slice a8 n c8) n (cells8 L)) := hc9.owns H8.out.row (fun g hg h4 => by have := (H8.out.blk g hg).1; have := (n4 g h4).2; have := HQ7.out.size; omega)
  have HO9 := hidden ho9
  have HM9 := hidden hm9
  have N4 := hidden n4
  have N5 := hidden n5
  have HSZ : Hid (X < w3.heap.size ∧ Y < w3.heap.size ∧ w3.heap.size ≤ w4.heap.size ∧ w4.heap.size ≤ w5.heap.size ∧ w5.heap.size ≤ w8.heap.size) := ⟨hXl, hYl, hs34, hs45, hs58⟩
  clear ho9 hm9 hc9 k4 k5 k8 n4 n5 hXl hYl hs34 hs45 hs58
  have k5 := convS (cap := c5) (sl_of_owns R59.out HPL.out)
  have k8 := convS (cap := c8) (sl_of_owns R89.out HPL.out)
  rw [hS] at k5 k8
  go_wp2_with fail
  refine (full_any a5 n c5 L 2 w9 R59.out (by omega) (by omega)).mono ?_
  rintro e w10 ⟨a10, c10, rfl, ho10, hc10, hm10⟩
  obtain ⟨z1, z2, z3, z4, z5⟩ := HSZ.out
  have HX10 : Hid (Blk w10 X 5 (cells8 (B ++ List.replicate 8 201))) := hc10.blk HX9.out (fun hg => by have := (N5.out X hg).1; omega)
  have HY10 : Hid (Blk w10 Y 5 (cells8 (D ++ List.replicate 8 201))) := hc10.blk HY9.out (fun hg => by have := (N5.out Y hg).1; omega)
  have HB10 := hidden (HB9.out.trans (hc10.below HB9.out.size (fun g hg => Nat.le_trans HB4.out.size (N5.out g hg).1)))
  have R910 : Hid (w10.ownsRow 0 5 1 (.slice a9 (n + 64) c9) (n + 64) (cells8 (List.replicate (n + 64) 1))) := hc10.owns HO9.out (fun g hg h5 => by
    have h5b := N5.out g h5
    exact moved_not HM9.out (fun h4 => by have := (N4.out g h4).2; omega) (by omega) hg)
  have HO10 := hidden ho10
  clear ho10 hm10 hc10 k5 k8 z1 z2 z3 z4 z5
  go_wp2_with fail
  refine (all_any a9 (n + 64) c9 1 w10 (sl_of_owns R910.out (fun z hz => by rw [List.eq_of_mem_replicate hz]; omega)) (by omega) (by omega)).mono ?_
  rintro e w11 ⟨rfl, rfl⟩
  go_wp2_with fail
  refine (all_any a10 (n + 64) c10 2 w11 (sl_of_owns HO10.out (fun z hz => by rw [List.eq_of_mem_replicate hz]; omega)) (by omega) (by omega)).mono ?_
  rintro e w10 ⟨rfl, rfl⟩
  go_wp2_with fail
  refine (still_any X 0 (lb + 8) ab lb cb B w10 (lent_cell HX10.out HLB.out) (HSB.out.later HB10.out) (by omega)).mono ?_
  rintro e w11 ⟨rfl, q11, rfl⟩
  have HQ11 := hidden (lat_drewN w10 q11)
  generalize w10.drewN q11 = w11 at *
  have HB11 := hidden (HB10.out.trans (Below.mono HQ11.out HB10.out.size))
  go_wp2_with fail
  refine (still_any Y 0 (ld + 8) ad ld cd D w11 (lent_cell (HY10.out.later HQ11.out) HLD.out) (HSD.out.later HB11.out) (by omega)).mono ?_
  rintro e w12 ⟨rfl, q12, rfl⟩
  have HB12 := hidden (HB11.out.trans (Below.mono (lat_drewN w11 q12) HB11.out.size))
  generalize w11.drewN q12 = w12 at *
  go_wp2_with fail
  go_ret
  exact ⟨rfl, HB12.out⟩

end Go.Proofs.Ytiaopgphjailiaa
