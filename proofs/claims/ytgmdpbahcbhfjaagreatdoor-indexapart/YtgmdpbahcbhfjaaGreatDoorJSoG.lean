import Derived.Test.YtgmdpbahcbhfjaaGreatDoorJSoA
import Derived.Deep.CutRange
set_option linter.unusedSimpArgs false
set_option linter.unusedVariables false
set_option maxHeartbeats 40000000
set_option maxRecDepth 100000
/-
  slices.Sort over []uint32: choosePivot: some place within the range, some hint.
-/
namespace Go.Proofs.YtgmdpbahcbhfjaaGreatDoor.J
open Go.RowKit

/-- Of what was there one block alone may have changed. -/
structure Ong (g : Nat) (w w' : World) : Prop where
  os : w'.os = w.os
  tape : w'.tape = w.tape
  output : w'.output = w.output
  size : w.heap.size ≤ w'.heap.size
  block : ∀ k, k < w.heap.size → k ≠ g → w'.heap[k]? = w.heap[k]?
theorem Ong.refl (g : Nat) (w : World) : Ong g w w := ⟨rfl, rfl, rfl, Nat.le_refl _, fun _ _ _ => rfl⟩
theorem Ong.trans {g : Nat} {a b c : World} (h : Ong g a b) (k : Ong g b c) : Ong g a c :=
  ⟨k.os.trans h.os, k.tape.trans h.tape, k.output.trans h.output, Nat.le_trans h.size k.size, fun i hi hn => (k.block i (Nat.lt_of_lt_of_le hi h.size) hn).trans (h.block i hi hn)⟩
theorem Onl.ong {g : Nat} {w w' : World} (h : Onl g w w') : Ong g w w' := ⟨h.os, h.tape, h.output, by rw [h.size]; exact Nat.le_refl _, fun k _ hn => h.block k hn⟩
theorem ong_below {g : Nat} {w w' : World} (h : Below w.heap.size w w') : Ong g w w' := ⟨h.os, h.tape, h.output, h.size, fun k hk _ => h.block k hk⟩
theorem Ong.below {g B : Nat} {w w' : World} (h : Ong g w w') (hg : B ≤ g) (hB : B ≤ w.heap.size) : Below B w w' := ⟨h.os, h.tape, h.output, h.size, fun k hk => h.block k (by omega) (by omega)⟩
theorem DT.later {w w' : World} {g : Nat} {tl : List Value} {d : Array Nat} (h : DT w g tl d) (hb : Below w.heap.size w w') : DT w' g tl d := Blk.later h hb
theorem DT.onl {w w' : World} {g s : Nat} {tl : List Value} {d : Array Nat} (h : DT w g tl d) (hb : Onl s w w') (hg : g ≠ s) : DT w' g tl d := by
  unfold DT Blk at *
  rw [hb.block g hg]
  exact h

theorem order2P (w : World) (g n c : Nat) (tl : List Value) (d : Array Nat) (a b s k : Nat) (h : DT w g tl d) (hn : d.size = n) (ha : a < n) (hb : b < n) (hn9 : n ≤ 1000000000) (hnc : n ≤ c) (hs : Blk w s 3 [.int .i64 (k : Int)]) (hk : k ≤ 1000) :
    Calls Tryz.prog 181 #[.slice (some ⟨g, 0, none⟩) n c, .int .i64 (a : Int), .int .i64 (b : Int), .pointer (some ⟨s, 0, none⟩)] w fun e w' => ∃ x y k' : Nat, e = .returned (.tuple #[.int .i64 (x : Int), .int .i64 (y : Int)]) ∧ ((x = a ∧ y = b) ∨ (x = b ∧ y = a)) ∧ Blk w' s 3 [.int .i64 (k' : Int)] ∧ k' ≤ k + 1 ∧ Onl s w w' := by
  have HD := hidden h
  have HS := hidden hs
  have c1 := h.at a (by omega)
  have c2 := h.at b (by omega)
  have c3 : w.cell? ⟨s, 0, none⟩ = some (.int .i64 (k : Int)) := hs.cell 0
  have f3 := hs.frozen 0
  by_cases hxy : d[b]! < d[a]!
  · have HL := less_t hxy
    clear h hs
    generalize d[a]! = x at *
    generalize d[b]! = y at *
    go_enter Tryz.func181, Tryz.ntmps181
    go_wp2_with fail
    go_quiet (exact Calls.quiet_of_same (HL _))
    go_wp2_with fail
    go_ret2
    exact ⟨b, a, k + 1, rfl, .inr ⟨rfl, rfl⟩, by simpa using ((HS.out.drewN nq).set 0 (.int .i64 ((k + 1 : Nat) : Int))), Nat.le_refl _, (Onl.drewN s w nq).trans (Onl.set s 0 _ _)⟩
  · have HL := less_f hxy
    clear h hs
    generalize d[a]! = x at *
    generalize d[b]! = y at *
    go_enter Tryz.func181, Tryz.ntmps181
    go_wp2_with fail
    go_quiet (exact Calls.quiet_of_same (HL _))
    go_wp2_with fail
    go_ret2
    exact ⟨a, b, k, rfl, .inl ⟨rfl, rfl⟩, HS.out.drewN nq, by omega, Onl.drewN s w nq⟩

theorem medianP (w : World) (g n c : Nat) (tl : List Value) (d : Array Nat) (a b e s k : Nat) (h : DT w g tl d) (hn : d.size = n) (ha : a < n) (hb : b < n) (he : e < n) (hn9 : n ≤ 1000000000) (hnc : n ≤ c) (hs : Blk w s 3 [.int .i64 (k : Int)]) (hk : k ≤ 900) (hgs : g ≠ s) :
    Calls Tryz.prog 175 #[.slice (some ⟨g, 0, none⟩) n c, .int .i64 (a : Int), .int .i64 (b : Int), .int .i64 (e : Int), .pointer (some ⟨s, 0, none⟩)] w fun en w' => ∃ x k' : Nat, en = .returned (.int .i64 (x : Int)) ∧ (x = a ∨ x = b ∨ x = e) ∧ Blk w' s 3 [.int .i64 (k' : Int)] ∧ k' ≤ k + 3 ∧ Onl s w w' := by
  have HD := hidden h
  have HS := hidden hs
  clear h hs
  go_enter Tryz.func175, Tryz.ntmps175
  go_wp2_with fail
  refine (order2P w g n c tl d a b s k HD.out hn ha hb hn9 hnc HS.out (by omega)).mono ?_
  rintro en w1 ⟨x1, y1, k1, rfl, h1, hB1, hk1, hO1⟩
  have HB1 := hidden hB1
  have HO1 := hidden hO1
  have HX1 := hidden h1
  have hx1 : x1 < n ∧ y1 < n := by omega
  clear hB1 hO1 h1
  go_wp2_with fail
  refine (order2P w1 g n c tl d y1 e s k1 (HD.out.onl HO1.out hgs) hn hx1.2 he hn9 hnc HB1.out (by omega)).mono ?_
  rintro en w2 ⟨x2, y2, k2, rfl, h2, hB2, hk2, hO2⟩
  have HB2 := hidden hB2
  have HO2 := hidden (HO1.out.trans hO2)
  have HX2 := hidden h2
  have hx2 : x2 < n ∧ y2 < n := by omega
  clear hB2 hO2 h2
  go_wp2_with fail
  refine (order2P w2 g n c tl d x1 x2 s k2 (HD.out.onl HO2.out hgs) hn hx1.1 hx2.1 hn9 hnc HB2.out (by omega)).mono ?_
  rintro en w3 ⟨x3, y3, k3, rfl, h3, hB3, hk3, hO3⟩
  have HB3 := hidden hB3
  have HO3 := hidden (HO2.out.trans hO3)
  have HX3 := hidden h3
  clear hB3 hO3 h3
  go_wp2_with fail
  go_ret
  exact ⟨y3, k3, rfl, by have := HX1.out; have := HX2.out; have := HX3.out; omega, HB3.out, by omega, HO3.out⟩

theorem adjacentP (w : World) (g n c : Nat) (tl : List Value) (d : Array Nat) (a s k : Nat) (h : DT w g tl d) (hn : d.size = n) (ha : 0 < a) (hb : a + 1 < n) (hn9 : n ≤ 1000000000) (hnc : n ≤ c) (hs : Blk w s 3 [.int .i64 (k : Int)]) (hk : k ≤ 900) (hgs : g ≠ s) :
    Calls Tryz.prog 174 #[.slice (some ⟨g, 0, none⟩) n c, .int .i64 (a : Int), .pointer (some ⟨s, 0, none⟩)] w fun en w' => ∃ x k' : Nat, en = .returned (.int .i64 (x : Int)) ∧ (a ≤ x + 1 ∧ x ≤ a + 1) ∧ Blk w' s 3 [.int .i64 (k' : Int)] ∧ k' ≤ k + 3 ∧ Onl s w w' := by
  have HD := hidden h
  have HS := hidden hs
  clear h hs
  obtain ⟨p, hp⟩ : ∃ p, a - 1 = p := ⟨_, rfl⟩
  obtain ⟨r, hr⟩ : ∃ r, a + 1 = r := ⟨_, rfl⟩
  have e1 : (a : Int) - 1 = (p : Int) := by omega
  have e2 : (a : Int) + 1 = (r : Int) := by omega
  have hpr : p + 1 = a ∧ r < n ∧ a ≤ r ∧ r ≤ a + 1 := by omega
  clear hp hr
  go_enter Tryz.func174, Tryz.ntmps174
  go_wp2_with fail
  refine (medianP w g n c tl d p a r s k HD.out hn (by omega) (by omega) (by omega) hn9 hnc HS.out hk hgs).mono ?_
  rintro en w1 ⟨x, k', rfl, hx, hB, hk', hO⟩
  have HB := hidden hB
  have HO := hidden hO
  clear hB hO
  go_wp2_with fail
  go_ret
  exact ⟨x, k', rfl, by omega, HB.out, hk', HO.out⟩

set_option maxRecDepth 100000 in
set_option maxHeartbeats 8000000 in
theorem pivotP (w : World) (g n c : Nat) (tl : List Value) (d : Array Nat) (a b : Nat) (h : DT w g tl d) (hn : d.size = n) (hab : a + 12 < b) (hb : b ≤ n) (hn9 : n ≤ 1000000000) (hnc : n ≤ c) :
    Calls Tryz.prog 157 #[.slice (some ⟨g, 0, none⟩) n c, .int .i64 (a : Int), .int .i64 (b : Int)] w fun en w' => ∃ x t : Nat, en = .returned (.tuple #[.int .i64 (x : Int), .int .i64 (t : Int)]) ∧ a ≤ x ∧ x < b ∧ t ≤ 2 ∧ Below w.heap.size w w' := by
  have HD := hidden h
  have hg : g < w.heap.size := Blk.lt h
  clear h
  obtain ⟨l, hl⟩ : ∃ l, b - a = l := ⟨_, rfl⟩
  have el : (b : Int) - (a : Int) = (l : Int) := by omega
  obtain ⟨q, hq⟩ : ∃ q, l / 4 = q := ⟨_, rfl⟩
  have eq : (l : Int).tdiv 4 = (q : Int) := by
    rw [Int.tdiv_eq_ediv_of_nonneg (by omega)]
    omega
  have eq' : (l : Int) / 4 = (q : Int) := by omega
  obtain ⟨i, hi⟩ : ∃ i, a + q = i := ⟨_, rfl⟩
  obtain ⟨j, hj⟩ : ∃ j, a + q * 2 = j := ⟨_, rfl⟩
  obtain ⟨m, hm⟩ : ∃ m, a + q * 3 = m := ⟨_, rfl⟩
  have e1 : (a : Int) + (q : Int) = (i : Int) := by omega
  have e2 : (a : Int) + (q : Int) * 2 = (j : Int) := by omega
  have e3 : (a : Int) + (q : Int) * 3 = (m : Int) := by omega
  have bd : a + 3 ≤ i ∧ i < j ∧ j < m ∧ m + 3 < b + 3 ∧ m + q ≤ b := by omega
  have hl8 : (l : Int) ≥ 8 := by omega
  have hqb : q ≤ 1000000000 := by omega
  clear hi hj hm hq
  have HD0 : Hid (DT (w.alloc (.cells #[.int .i64 0] 3)) g tl d) := hidden (HD.out.later ((Below.refl _ _).alloc (Nat.le_refl _) _))
  have HS0 : Hid (Blk (w.alloc (.cells #[.int .i64 0] 3)) w.heap.size 3 [.int .i64 ((0 : Nat) : Int)]) := hidden (Blk.new w 3 [.int .i64 0])
  have HB0 : Hid (Below w.heap.size w (w.alloc (.cells #[.int .i64 0] 3))) := hidden ((Below.refl _ _).alloc (Nat.le_refl _) _)
  have hgs : g ≠ w.heap.size := by omega
  by_cases h50 : 50 ≤ l
  · have h50' : (l : Int) ≥ 50 := by omega
    have bq : 12 ≤ q := by omega
    go_enter Tryz.func157, Tryz.ntmps157
    go_wp2_with fail
    obtain ⟨w0, hw0⟩ : ∃ w0, w.alloc (.cells #[.int .i64 0] 3) = w0 := ⟨_, rfl⟩
    rw [hw0] at HD0 HS0 HB0
    rw [hw0]
    clear hw0
    refine (adjacentP w0 g n c tl d i w.heap.size 0 HD0.out hn (by omega) (by omega) hn9 hnc HS0.out (by omega) hgs).mono ?_
    rintro en w1 ⟨x1, k1, rfl, hx1, hS1, hk1, hO1⟩
    have HS1 := hidden hS1
    have HO1 := hidden hO1
    clear hS1 hO1
    go_wp2_with fail
    refine (adjacentP w1 g n c tl d j w.heap.size k1 (HD0.out.onl HO1.out hgs) hn (by omega) (by omega) hn9 hnc HS1.out (by omega) hgs).mono ?_
    rintro en w2 ⟨x2, k2, rfl, hx2, hS2, hk2, hO2⟩
    have HS2 := hidden hS2
    have HO2 := hidden (HO1.out.trans hO2)
    clear hS2 hO2
    go_wp2_with fail
    refine (adjacentP w2 g n c tl d m w.heap.size k2 (HD0.out.onl HO2.out hgs) hn (by omega) (by omega) hn9 hnc HS2.out (by omega) hgs).mono ?_
    rintro en w3 ⟨x3, k3, rfl, hx3, hS3, hk3, hO3⟩
    have HS3 := hidden hS3
    have HO3 := hidden (HO2.out.trans hO3)
    clear hS3 hO3
    go_wp2_with fail
    refine (medianP w3 g n c tl d x1 x2 x3 w.heap.size k3 (HD0.out.onl HO3.out hgs) hn (by omega) (by omega) (by omega) hn9 hnc HS3.out (by omega) hgs).mono ?_
    rintro en w4 ⟨x4, k4, rfl, hx4, hS4, hk4, hO4⟩
    have HB9 := hidden hS4
    have HB9b : Hid (Below w.heap.size w w4) := hidden (HB0.out.trans ((HO3.out.trans hO4).below (Nat.le_refl _)))
    clear hS4 hO4
    have c9 : w4.cell? ⟨w.heap.size, 0, none⟩ = some (.int .i64 (k4 : Int)) := HB9.out.cell 0
    by_cases hk0 : k4 = 0
    · have hk0' : ((k4 : Int) == 0) = true := by rw [hk0]; rfl
      go_wp2_with fail
      go_ret2
      exact ⟨x4, 1, rfl, by omega, by omega, by omega, HB9b.out⟩
    · have hk0' : ((k4 : Int) == 0) = false := by rw [beq_eq_false_iff_ne]; omega
      by_cases hk12 : k4 = 12
      · have hk12' : ((k4 : Int) == 12) = true := by rw [hk12]; rfl
        go_wp2_with fail
        go_ret2
        exact ⟨x4, 2, rfl, by omega, by omega, by omega, HB9b.out⟩
      · have hk12' : ((k4 : Int) == 12) = false := by rw [beq_eq_false_iff_ne]; omega
        go_wp2_with fail
        go_ret2
        exact ⟨x4, 0, rfl, by omega, by omega, by omega, HB9b.out⟩
  · have h50' : ¬ (l : Int) ≥ 50 := by omega
    go_enter Tryz.func157, Tryz.ntmps157
    go_wp2_with fail
    obtain ⟨w0, hw0⟩ : ∃ w0, w.alloc (.cells #[.int .i64 0] 3) = w0 := ⟨_, rfl⟩
    rw [hw0] at HD0 HS0 HB0
    rw [hw0]
    clear hw0
    refine (medianP w0 g n c tl d i j m w.heap.size 0 HD0.out hn (by omega) (by omega) (by omega) hn9 hnc HS0.out (by omega) hgs).mono ?_
    rintro en w4 ⟨x4, k4, rfl, hx4, hS4, hk4, hO4⟩
    have HB9 := hidden hS4
    have HB9b : Hid (Below w.heap.size w w4) := hidden (HB0.out.trans (hO4.below (Nat.le_refl _)))
    clear hS4 hO4
    have c9 : w4.cell? ⟨w.heap.size, 0, none⟩ = some (.int .i64 (k4 : Int)) := HB9.out.cell 0
    by_cases hk0 : k4 = 0
    · have hk0' : ((k4 : Int) == 0) = true := by rw [hk0]; rfl
      go_wp2_with fail
      go_ret2
      exact ⟨x4, 1, rfl, by omega, by omega, by omega, HB9b.out⟩
    · have hk0' : ((k4 : Int) == 0) = false := by rw [beq_eq_false_iff_ne]; omega
      by_cases hk12 : k4 = 12
      · have hk12' : ((k4 : Int) == 12) = true := by rw [hk12]; rfl
        go_wp2_with fail
        go_ret2
        exact ⟨x4, 2, rfl, by omega, by omega, by omega, HB9b.out⟩
      · have hk12' : ((k4 : Int) == 12) = false := by rw [beq_eq_false_iff_ne]; omega
        go_wp2_with fail
        go_ret2
        exact ⟨x4, 0, rfl, by omega, by omega, by omega, HB9b.out⟩
end Go.Proofs.YtgmdpbahcbhfjaaGreatDoor.J
/-
  slices.Sort over []uint32: breakPatterns: some permutation of the range.
-/
namespace Go.Proofs.YtgmdpbahcbhfjaaGreatDoor.J
open Go.RowKit

theorem wrapN (m : Nat) : IntKind.u64.wrap (m : Int) = ((m % 18446744073709551616 : Nat) : Int) := by
  unfold IntKind.wrap
  simp [IntKind.bits, IntKind.signed]
theorem xorN (a b : Nat) (ha : a < 18446744073709551616) (hb : b < 18446744073709551616) : ∃ r : Nat, bits .xor .u64 (a : Int) (b : Int) = (r : Int) ∧ r < 18446744073709551616 :=
  ⟨a ^^^ b, bits_xor_u64_nat a b ha hb, Nat.xor_lt_two_pow (n := 64) ha hb⟩

set_option maxRecDepth 100000 in
set_option maxHeartbeats 4000000 in
theorem nextP (w : World) (s v : Nat) (hs : Blk w s 234 [.int .u64 (v : Int)]) (h1 : v < 18446744073709551616) :
    Calls Tryz.prog 138 #[.pointer (some ⟨s, 0, none⟩)] w fun en w' => ∃ r : Nat, en = .returned (.int .u64 (r : Int)) ∧ r < 18446744073709551616 ∧ Blk w' s 234 [.int .u64 (r : Int)] ∧ Onl s w w' := by
  have HS := hidden hs
  have c0 : w.cell? ⟨s, 0, none⟩ = some (.int .u64 (v : Int)) := hs.cell 0
  have f0 := hs.frozen 0
  obtain ⟨m1, hm1, hb1⟩ : ∃ m1 : Nat, IntKind.u64.wrap ((v : Int) * 8192) = (m1 : Int) ∧ m1 < 18446744073709551616 := ⟨v * 8192 % 18446744073709551616, by rw [← wrapN]; congr 1, Nat.mod_lt _ (by omega)⟩
  obtain ⟨v1, hx1, hv1⟩ := xorN v m1 h1 hb1
  obtain ⟨m2, hm2⟩ : ∃ m2, v1 / 128 = m2 := ⟨_, rfl⟩
  have hm2' : (v1 : Int) / 128 = (m2 : Int) := by omega
  have hm2b : m2 < 18446744073709551616 := by omega
  obtain ⟨v2, hx2, hv2⟩ := xorN v1 m2 hv1 hm2b
  obtain ⟨m3, hm3, hb3⟩ : ∃ m3 : Nat, IntKind.u64.wrap ((v2 : Int) * 131072) = (m3 : Int) ∧ m3 < 18446744073709551616 := ⟨v2 * 131072 % 18446744073709551616, by rw [← wrapN]; congr 1, Nat.mod_lt _ (by omega)⟩
  obtain ⟨v3, hx3, hv3⟩ := xorN v2 m3 hv2 hb3
  clear hs hm2
  go_enter Tryz.func138, Tryz.ntmps138
  go_wp2_with fail
  go_region
  obtain ⟨wa, hwa⟩ : ∃ wa, (w.setCell ⟨s, 0, none⟩ (.int .u64 (v1 : Int))).drew = wa := ⟨_, rfl⟩
  rw [hwa]
  have HSa : Hid (Blk wa s 234 [.int .u64 (v1 : Int)]) := hidden (by rw [← hwa]; exact (HS.out.set 0 _))
  have HOa : Hid (Onl s w wa) := hidden (by rw [← hwa]; exact (Onl.set s 0 _ w).trans ⟨rfl, rfl, rfl, rfl, fun _ _ => rfl⟩)
  have ca : wa.cell? ⟨s, 0, none⟩ = some (.int .u64 (v1 : Int)) := HSa.out.cell 0
  have fa := HSa.out.frozen 0
  clear hwa
  go_wp2_with fail
  go_region
  obtain ⟨wb, hwb⟩ : ∃ wb, (wa.setCell ⟨s, 0, none⟩ (.int .u64 (v2 : Int))).drew = wb := ⟨_, rfl⟩
  rw [hwb]
  have HSb : Hid (Blk wb s 234 [.int .u64 (v2 : Int)]) := hidden (by rw [← hwb]; exact (HSa.out.set 0 _))
  have HOb : Hid (Onl s w wb) := hidden (by rw [← hwb]; exact HOa.out.trans ((Onl.set s 0 _ wa).trans ⟨rfl, rfl, rfl, rfl, fun _ _ => rfl⟩))
  have cb : wb.cell? ⟨s, 0, none⟩ = some (.int .u64 (v2 : Int)) := HSb.out.cell 0
  have fb := HSb.out.frozen 0
  clear hwb
  go_wp2_with fail
  go_region
  obtain ⟨wc, hwc⟩ : ∃ wc, (wb.setCell ⟨s, 0, none⟩ (.int .u64 (v3 : Int))).drew = wc := ⟨_, rfl⟩
  rw [hwc]
  have HSc : Hid (Blk wc s 234 [.int .u64 (v3 : Int)]) := hidden (by rw [← hwc]; exact (HSb.out.set 0 _))
  have HOc : Hid (Onl s w wc) := hidden (by rw [← hwc]; exact HOb.out.trans ((Onl.set s 0 _ wb).trans ⟨rfl, rfl, rfl, rfl, fun _ _ => rfl⟩))
  have cc : wc.cell? ⟨s, 0, none⟩ = some (.int .u64 (v3 : Int)) := HSc.out.cell 0
  clear hwc
  go_wp2_with fail
  go_ret
  exact ⟨v3, rfl, hv3, HSc.out, HOc.out⟩
theorem lenP (x : Nat) (w : World) (h : x ≤ 1000000000) : Calls Tryz.prog 92 #[.int .u64 (x : Int)] w fun e w' => ∃ r : Nat, e = .returned (.int .i64 (r : Int)) ∧ (0 < x → x < 2 ^ r ∧ 2 ^ r ≤ 2 * x) ∧ r ≤ 64 ∧ w' = w := by
  go_enter Tryz.func92, Tryz.ntmps92
  go_wp2_with fail
  refine (len64_any (x : Int) w (by omega) (by omega)).mono ?_
  rintro e w' ⟨⟨r, rfl, hr⟩, rfl⟩
  have HR := hidden hr
  clear hr
  go_wp2_with fail
  go_ret
  refine ⟨r, rfl, fun hx => ?_, HR.out.2.2, rfl⟩
  have h9 := HR.out
  unfold IsLen at h9
  rw [Int.toNat_natCast] at h9
  refine ⟨h9.1, ?_⟩
  obtain ⟨k1, k2⟩ := h9.2.1 hx
  have : 2 ^ r = 2 * 2 ^ (r - 1) := by
    rw [← Nat.pow_succ']
    congr 1
    omega
  omega
theorem powerP (x : Nat) (w : World) (h : x ≤ 1000000000) (hx : 0 < x) : Calls Tryz.prog 137 #[.int .i64 (x : Int)] w fun e w' => ∃ m : Nat, e = .returned (.int .u64 (m : Int)) ∧ 0 < m ∧ m ≤ 2 * x ∧ w' = w := by
  go_enter Tryz.func137, Tryz.ntmps137
  go_wp2_with fail
  refine (lenP x w h).mono ?_
  rintro e w' ⟨r, rfl, hr, hr9, rfl⟩
  obtain ⟨k1, k2⟩ := hr hx
  obtain ⟨M, hM⟩ : ∃ M, 2 ^ r = M := ⟨_, rfl⟩
  rw [hM] at k1 k2
  have hr30 : r < 32 := by
    rcases Nat.lt_or_ge r 32 with h | h
    · exact h
    · have := Nat.pow_le_pow_right (n := 2) (by omega) h
      rw [hM] at this
      omega
  have hw : IntKind.u64.wrap ((2 : Int) ^ r) = (M : Int) := by
    have hp : ((2 : Int) ^ r) = ((2 ^ r : Nat) : Int) := by simp
    rw [hp, hM, wrapN, Nat.mod_eq_of_lt (by omega)]
  clear hr hM
  go_wp2_with fail
  go_ret
  exact ⟨M, by first | rfl | simp [hw], by omega, k2, rfl⟩

theorem res57 (tmps : Array Value) (w : World) : (results Tryz.f156 tmps).run Tryz.prog w = .ok (.tuple #[]) w := by
  have h : Tryz.f156.results = #[] := by kernel_rfl
  simp [results, h, go_sem]
theorem Ong.onl {g s : Nat} {w a b : World} (h : Ong g w a) (k : Onl s a b) (hs : w.heap.size ≤ s ∨ s = g) : Ong g w b :=
  ⟨k.os.trans h.os, k.tape.trans h.tape, k.output.trans h.output, by rw [k.size]; exact h.size, fun i hi hn => (k.block i (by omega)).trans (h.block i hi hn)⟩
theorem Blk.onl {w w' : World} {g s : Nat} {t : TypeId} {l : List Value} (h : Blk w g t l) (hb : Onl s w w') (hg : g ≠ s) : Blk w' g t l := by
  unfold Blk at *
  rw [hb.block g hg]
  exact h
theorem andN (r M : Nat) (hr : r < 18446744073709551616) (hM : 0 < M) (hM9 : M ≤ 18446744073709551616) : ∃ o : Nat, bits .and .u64 (r : Int) ((M - 1 : Nat) : Int) = (o : Int) ∧ o < M :=
  ⟨r &&& (M - 1), bits_and_u64_nat r (M - 1) hr (by omega), by have := Nat.and_le_right (n := r) (m := M - 1); omega⟩

set_option maxRecDepth 100000 in
set_option maxHeartbeats 8000000 in
theorem breakP (w : World) (g n c : Nat) (tl : List Value) (d : Array Nat) (a b : Nat) (h : DT w g tl d) (hn : d.size = n) (hab : a + 12 < b) (hb : b ≤ n) (hn9 : n ≤ 1000000000) (hnc : n ≤ c) :
    Calls Tryz.prog 156 #[.slice (some ⟨g, 0, none⟩) n c, .int .i64 (a : Int), .int .i64 (b : Int)] w fun en w' => en = .returned (.tuple #[]) ∧ ∃ e, DT w' g tl e ∧ Sort.PermIn a b d e ∧ Ong g w w' := by
  have HD := hidden h
  have hg : g < w.heap.size := Blk.lt h
  clear h
  obtain ⟨l, hl⟩ : ∃ l, b - a = l := ⟨_, rfl⟩
  have el : (b : Int) - (a : Int) = (l : Int) := by omega
  obtain ⟨q, hq⟩ : ∃ q, l / 4 = q := ⟨_, rfl⟩
  have eq : (l : Int).tdiv 4 = (q : Int) := by
    rw [Int.tdiv_eq_ediv_of_nonneg (by omega)]
    omega
  have eq' : (l : Int) / 4 = (q : Int) := by omega
  obtain ⟨j, hj⟩ : ∃ j, a + q * 2 = j := ⟨_, rfl⟩
  have e2 : (a : Int) + (q : Int) * 2 = (j : Int) := by omega
  have bd : a + 6 ≤ j ∧ j + 4 ≤ b ∧ l ≤ n ∧ a + l = b ∧ 12 < l := by omega
  have hl8 : (l : Int) ≥ 8 := by omega
  have hqb : q ≤ 1000000000 := by omega
  clear hj hq hl
  have HD0 : Hid (DT (w.alloc (.cells #[.int .u64 (l : Int)] 234)) g tl d) := hidden (HD.out.later ((Below.refl _ _).alloc (Nat.le_refl _) _))
  have HS0 : Hid (Blk (w.alloc (.cells #[.int .u64 (l : Int)] 234)) w.heap.size 234 [.int .u64 (l : Int)]) := hidden (Blk.new w 234 [.int .u64 (l : Int)])
  have HB0 : Hid (Ong g w (w.alloc (.cells #[.int .u64 (l : Int)] 234))) := hidden (ong_below ((Below.refl _ _).alloc (Nat.le_refl _) _))
  have hgs : g ≠ w.heap.size := by omega
  go_enter Tryz.func156, Tryz.ntmps156
  go_wp2_with fail
  obtain ⟨w0, hw0⟩ : ∃ w0, w.alloc (.cells #[.int .u64 (l : Int)] 234) = w0 := ⟨_, rfl⟩
  rw [hw0] at HD0 HS0 HB0
  rw [hw0]
  clear hw0
  refine (powerP l w0 (by omega) (by omega)).mono ?_
  rintro en w1 ⟨M, rfl, hM0, hM1, hw1⟩
  obtain rfl := hw1.symm
  clear hw1
  have eM : (M : Int) - 1 = ((M - 1 : Nat) : Int) := by omega
  obtain ⟨j0, hj0⟩ : ∃ j0, j - 1 = j0 := ⟨_, rfl⟩
  have ej0 : (j : Int) - 1 = (j0 : Int) := by omega
  obtain ⟨j1, hj1⟩ : ∃ j1, j + 1 = j1 := ⟨_, rfl⟩
  have ej1 : (j : Int) + 1 = (j1 : Int) := by omega
  have hjb : j0 + 1 = j ∧ j1 = j + 1 := by omega
  have HJB := hidden hjb
  have hjc : a ≤ j0 ∧ j0 < b ∧ j0 + 2 ≤ j1 ∧ j1 ≤ j0 + 2 ∧ j1 < b := by omega
  clear hj0 hj1 hjb
  go_wp2_with fail
  go_loopw [9] (fun s9 wx => ∃ (i v : Nat) (e : Array Nat), s9 = .int .i64 (i : Int) ∧ j0 ≤ i ∧ i ≤ j1 + 1 ∧ v < 18446744073709551616 ∧ e.size = n ∧ Hid (DT wx g tl e) ∧ Hid (Blk wx w.heap.size 234 [.int .u64 (v : Int)]) ∧ Hid (Ong g w wx) ∧ Hid (Sort.PermIn a b d e)) (fun s9 _ => j1 + 1 - (intOf s9).toNat)
  case atStart => exact ⟨j0, l, d, by first | rfl | simp, by omega, by omega, by omega, hn, HD0, HS0, HB0, hidden (Sort.permIn_refl _ _ _)⟩
  case round =>
    rename World => wx
    obtain ⟨i, v, e, rfl, hi0, hi1, hv, hen, HDX, HSX, HOX, HP⟩ := hrel
    by_cases hend : i ≤ j1
    · have hend' : (i : Int) ≤ (j1 : Int) := by omega
      go_wp2_with fail
      refine (nextP wx w.heap.size v HSX.out hv).mono ?_
      rintro en wn ⟨v2, rfl, hv2, hS2, hO2⟩
      have HS2 := hidden hS2
      have HDN := hidden (HDX.out.onl hO2 hgs)
      have HON := hidden (HOX.out.onl hO2 (.inl (Nat.le_refl _)))
      clear hS2 hO2
      obtain ⟨o, ho, hoM⟩ := andN v2 M hv2 hM0 (by omega)
      by_cases hol : l ≤ o
      · have hol' : (o : Int) ≥ (l : Int) := by omega
        obtain ⟨p, hp⟩ : ∃ p, o - l = p := ⟨_, rfl⟩
        have ep : (o : Int) - (l : Int) = (p : Int) := by omega
        have hpl : p < l := by omega
        clear hp
        obtain ⟨R, hR⟩ : ∃ R, a + p = R := ⟨_, rfl⟩
        have eR : (a : Int) + (p : Int) = (R : Int) := by omega
        have hRb : a ≤ R ∧ R < b := by omega
        have hRw := i64w R (by omega)
        clear hR
        by_cases hiR : i = R
        · obtain rfl := hiR
          have c1 := HDN.out.at i (by omega)
          have c2 := HDN.out.at i (by omega)
          have f1 := HDN.out.fr i
          have f2 := HDN.out.fr i
          have HSW : Hid (DT ((wn.setCell ⟨g, i, none⟩ (.int .u32 ((e[i]! : Nat) : Int))).setCell ⟨g, i, none⟩ (.int .u32 ((e[i]! : Nat) : Int))).drew g tl (Sort.swp e i i) ∧ Onl g wn ((wn.setCell ⟨g, i, none⟩ (.int .u32 ((e[i]! : Nat) : Int))).setCell ⟨g, i, none⟩ (.int .u32 ((e[i]! : Nat) : Int))).drew) :=
            hidden ⟨HDN.out.swp i i (by omega) (by omega), (Onl.refl g wn).swp _ _ _ _⟩
          generalize e[i]! = x at *
          go_wp2_with fail
          go_region
          go_wp2_with fail
          refine ⟨⟨i + 1, v2, Sort.swp e i i, by first | rfl | simp, by omega, by omega, hv2, by rw [swp_size]; exact hen, hidden HSW.out.1, hidden (HS2.out.onl HSW.out.2 (fun k => hgs k.symm)), hidden (HON.out.onl HSW.out.2 (.inr rfl)), hidden (Sort.permIn_trans d e _ a b HP.out (Sort.swp_permIn e a b i i (by omega) (by omega) (by omega) (by omega) (by omega)))⟩, ?_⟩
          simp [intOf]
          omega
        · have hne2 : ¬ R = i := fun k => hiR k.symm
          have c1 := HDN.out.at i (by omega)
          have c2 := HDN.out.at R (by omega)
          have f1 := HDN.out.fr i
          have f2 := HDN.out.fr R
          have HSW : Hid (DT ((wn.setCell ⟨g, i, none⟩ (.int .u32 ((e[R]! : Nat) : Int))).setCell ⟨g, R, none⟩ (.int .u32 ((e[i]! : Nat) : Int))).drew g tl (Sort.swp e i R) ∧ Onl g wn ((wn.setCell ⟨g, i, none⟩ (.int .u32 ((e[R]! : Nat) : Int))).setCell ⟨g, R, none⟩ (.int .u32 ((e[i]! : Nat) : Int))).drew) :=
            hidden ⟨HDN.out.swp i R (by omega) (by omega), (Onl.refl g wn).swp _ _ _ _⟩
          generalize e[i]! = x at *
          generalize e[R]! = y at *
          go_wp2_with fail
          go_region
          go_wp2_with fail
          refine ⟨⟨i + 1, v2, Sort.swp e i R, by first | rfl | simp, by omega, by omega, hv2, by rw [swp_size]; exact hen, hidden HSW.out.1, hidden (HS2.out.onl HSW.out.2 (fun k => hgs k.symm)), hidden (HON.out.onl HSW.out.2 (.inr rfl)), hidden (Sort.permIn_trans d e _ a b HP.out (Sort.swp_permIn e a b i R (by omega) (by omega) (by omega) (by omega) (by omega)))⟩, ?_⟩
          simp [intOf]
          omega
      · have hol' : ¬ (o : Int) ≥ (l : Int) := by omega
        obtain ⟨R, hR⟩ : ∃ R, a + o = R := ⟨_, rfl⟩
        have eR : (a : Int) + (o : Int) = (R : Int) := by omega
        have hRb : a ≤ R ∧ R < b := by omega
        have hRw := i64w R (by omega)
        clear hR
        by_cases hiR : i = R
        · obtain rfl := hiR
          have c1 := HDN.out.at i (by omega)
          have c2 := HDN.out.at i (by omega)
          have f1 := HDN.out.fr i
          have f2 := HDN.out.fr i
          have HSW : Hid (DT ((wn.setCell ⟨g, i, none⟩ (.int .u32 ((e[i]! : Nat) : Int))).setCell ⟨g, i, none⟩ (.int .u32 ((e[i]! : Nat) : Int))).drew g tl (Sort.swp e i i) ∧ Onl g wn ((wn.setCell ⟨g, i, none⟩ (.int .u32 ((e[i]! : Nat) : Int))).setCell ⟨g, i, none⟩ (.int .u32 ((e[i]! : Nat) : Int))).drew) :=
            hidden ⟨HDN.out.swp i i (by omega) (by omega), (Onl.refl g wn).swp _ _ _ _⟩
          generalize e[i]! = x at *
          go_wp2_with fail
          go_region
          go_wp2_with fail
          refine ⟨⟨i + 1, v2, Sort.swp e i i, by first | rfl | simp, by omega, by omega, hv2, by rw [swp_size]; exact hen, hidden HSW.out.1, hidden (HS2.out.onl HSW.out.2 (fun k => hgs k.symm)), hidden (HON.out.onl HSW.out.2 (.inr rfl)), hidden (Sort.permIn_trans d e _ a b HP.out (Sort.swp_permIn e a b i i (by omega) (by omega) (by omega) (by omega) (by omega)))⟩, ?_⟩
          simp [intOf]
          omega
        · have hne2 : ¬ R = i := fun k => hiR k.symm
          have c1 := HDN.out.at i (by omega)
          have c2 := HDN.out.at R (by omega)
          have f1 := HDN.out.fr i
          have f2 := HDN.out.fr R
          have HSW : Hid (DT ((wn.setCell ⟨g, i, none⟩ (.int .u32 ((e[R]! : Nat) : Int))).setCell ⟨g, R, none⟩ (.int .u32 ((e[i]! : Nat) : Int))).drew g tl (Sort.swp e i R) ∧ Onl g wn ((wn.setCell ⟨g, i, none⟩ (.int .u32 ((e[R]! : Nat) : Int))).setCell ⟨g, R, none⟩ (.int .u32 ((e[i]! : Nat) : Int))).drew) :=
            hidden ⟨HDN.out.swp i R (by omega) (by omega), (Onl.refl g wn).swp _ _ _ _⟩
          generalize e[i]! = x at *
          generalize e[R]! = y at *
          go_wp2_with fail
          go_region
          go_wp2_with fail
          refine ⟨⟨i + 1, v2, Sort.swp e i R, by first | rfl | simp, by omega, by omega, hv2, by rw [swp_size]; exact hen, hidden HSW.out.1, hidden (HS2.out.onl HSW.out.2 (fun k => hgs k.symm)), hidden (HON.out.onl HSW.out.2 (.inr rfl)), hidden (Sort.permIn_trans d e _ a b HP.out (Sort.swp_permIn e a b i R (by omega) (by omega) (by omega) (by omega) (by omega)))⟩, ?_⟩
          simp [intOf]
          omega
    · have hend' : ¬ (i : Int) ≤ (j1 : Int) := by omega
      go_wp2_with fail
      first | go_end0 | (refine bodyPost_ret (res57 _ _) rfl ?_)
      exact ⟨rfl, e, HDX.out, HP.out, HOX.out⟩
end Go.Proofs.YtgmdpbahcbhfjaaGreatDoor.J
