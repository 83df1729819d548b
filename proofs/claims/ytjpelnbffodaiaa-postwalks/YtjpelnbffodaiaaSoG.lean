/-
  slices.Sort over []uint32: choosePivot: some place within the range, some hint.
-/
import Derived.Test.YtjpelnbffodaiaaSoC
import Derived.Deep.CutRange
namespace Go.Proofs.Ytjpelnbffodaiaa
open Go.RowKit
set_option linter.unusedVariables false
set_option linter.unusedSimpArgs false

/-- Of what was there one block alone may have changed. -/
structure Ong (g : Nat) (w w' : World) : Prop where
  os : w'.os = w.os
  tape : w'.tape = w.tape
  output : w'.output = w.output
  size : w.heap.size ≤ w'.heap.size
  block : ∀ k, k < w.heap.size → k ≠ g → w'.heap[k]? = w.heap[k]?
theorem Ong.refl (g : Nat) (w : World) : Ong g w w := ⟨rfl, rfl, rfl, Nat.le_refl _, fun _ _ _ => rfl⟩
theorem Ong.trans {g : Nat} {a b c : World} (h : Ong g a b) (k : Ong g b c) : Ong g a c :=
  ⟨k.os.trans h.os, k.tape.trans h.tape, k.output.trans h.output, Nat.le_trans h.size k.size, fun i hi hn => (k.block i (Nat.lt_of_lt_of_le hi h.size) hn).trans (h.block i hi hn)⟩
theorem Onl.ong {g : Nat} {w w' : World} (h : Onl g w w') : Ong g w w' := ⟨h.os, h.tape, h.output, by rw [h.size]; exact Nat.le_refl _, fun k _ hn => h.block k hn⟩
theorem ong_below {g : Nat} {w w' : World} (h : Below w.heap.size w w') : Ong g w w' := ⟨h.os, h.tape, h.output, h.size, fun k hk _ => h.block k hk⟩
theorem Ong.below {g B : Nat} {w w' : World} (h : Ong g w w') (hg : B ≤ g) (hB : B ≤ w.heap.size) : Below B w w' := ⟨h.os, h.tape, h.output, h.size, fun k hk => h.block k (by omega) (by omega)⟩
theorem DT.later {w w' : World} {g : Nat} {tl : List Value} {d : Array Nat} (h : DT w g tl d) (hb : Below w.heap.size w w') : DT w' g tl d := Blk.later h hb
theorem DT.onl {w w' : World} {g s : Nat} {tl : List Value} {d : Array Nat} (h : DT w g tl d) (hb : Onl s w w') (hg : g ≠ s) : DT w' g tl d := by
  unfold DT Blk at *
  rw [hb.block g hg]
  exact h

theorem order2P (w : World) (g n c : Nat) (tl : List Value) (d : Array Nat) (a b s k : Nat) (h : DT w g tl d) (hn : d.size = n) (ha : a < n) (hb : b < n) (hn9 : n ≤ 1000000000) (hnc : n ≤ c) (hs : Blk w s 3 [.int .i64 (k : Int)]) (hk : k ≤ 1000) :
    Calls Try.prog 73 #[.slice (some ⟨g, 0, none⟩) n c, .int .i64 (a : Int), .int .i64 (b : Int), .pointer (some ⟨s, 0, none⟩)] w fun e w' => ∃ x y k' : Nat, e = .returned (.tuple #[.int .i64 (x : Int), .int .i64 (y : Int)]) ∧ ((x = a ∧ y = b) ∨ (x = b ∧ y = a)) ∧ Blk w' s 3 [.int .i64 (k' : Int)] ∧ k' ≤ k + 1 ∧ Onl s w w' := by
  have HD := hidden h
  have HS := hidden hs
  have c1 := h.at a (by omega)
  have c2 := h.at b (by omega)
  have c3 : w.cell? ⟨s, 0, none⟩ = some (.int .i64 (k : Int)) := hs.cell 0
  have f3 := hs.frozen 0
  by_cases hxy : d[b]! < d[a]!
  · have HL := less_t hxy
    clear h hs
    generalize d[a]! = x at *
    generalize d[b]! = y at *
    go_enter Try.func73, Try.ntmps73
    go_wp2_with fail
    go_quiet (exact Calls.quiet_of_same (HL _))
    go_wp2_with fail
    go_ret2
    exact ⟨b, a, k + 1, rfl, .inr ⟨rfl, rfl⟩, by simpa using ((HS.out.drewN nq).set 0 (.int .i64 ((k + 1 : Nat) : Int))), Nat.le_refl _, (Onl.drewN s w nq).trans (Onl.set s 0 _ _)⟩
  · have HL := less_f hxy
    clear h hs
    generalize d[a]! = x at *
    generalize d[b]! = y at *
    go_enter Try.func73, Try.ntmps73
    go_wp2_with fail
    go_quiet (exact Calls.quiet_of_same (HL _))
    go_wp2_with fail
    go_ret2
    exact ⟨a, b, k, rfl, .inl ⟨rfl, rfl⟩, HS.out.drewN nq, by omega, Onl.drewN s w nq⟩

theorem medianP (w : World) (g n c : Nat) (tl : List Value) (d : Array Nat) (a b e s k : Nat) (h : DT w g tl d) (hn : d.size = n) (ha : a < n) (hb : b < n) (he : e < n) (hn9 : n ≤ 1000000000) (hnc : n ≤ c) (hs : Blk w s 3 [.int .i64 (k : Int)]) (hk : k ≤ 900) (hgs : g ≠ s) :
    Calls Try.prog 72 #[.slice (some ⟨g, 0, none⟩) n c, .int .i64 (a : Int), .int .i64 (b : Int), .int .i64 (e : Int), .pointer (some ⟨s, 0, none⟩)] w fun en w' => ∃ x k' : Nat, en = .returned (.int .i64 (x : Int)) ∧ (x = a ∨ x = b ∨ x = e) ∧ Blk w' s 3 [.int .i64 (k' : Int)] ∧ k' ≤ k + 3 ∧ Onl s w w' := by
  have HD := hidden h
  have HS := hidden hs
  clear h hs
  go_enter Try.func72, Try.ntmps72
  go_wp2_with fail
  refine (order2P w g n c tl d a b s k HD.out hn ha hb hn9 hnc HS.out (by omega)).mono ?_
  rintro en w1 ⟨x1, y1, k1, rfl, h1, hB1, hk1, hO1⟩
  have HB1 := hidden hB1
  have HO1 := hidden hO1
  have HX1 := hidden h1
  have hx1 : x1 < n ∧ y1 < n := by omega
  clear hB1 hO1 h1
  go_wp2_with fail
  refine (order2P w1 g n c tl d y1 e s k1 (HD.out.onl HO1.out hgs) hn hx1.2 he hn9 hnc HB1.out (by omega)).mono ?_
  rintro en w2 ⟨x2, y2, k2, rfl, h2, hB2, hk2, hO2⟩
  have HB2 := hidden hB2
  have HO2 := hidden (HO1.out.trans hO2)
  have HX2 := hidden h2
  have hx2 : x2 < n ∧ y2 < n := by omega
  clear hB2 hO2 h2
  go_wp2_with fail
  refine (order2P w2 g n c tl d x1 x2 s k2 (HD.out.onl HO2.out hgs) hn hx1.1 hx2.1 hn9 hnc HB2.out (by omega)).mono ?_
  rintro en w3 ⟨x3, y3, k3, rfl, h3, hB3, hk3, hO3⟩
  have HB3 := hidden hB3
  have HO3 := hidden (HO2.out.trans hO3)
  have HX3 := hidden h3
  clear hB3 hO3 h3
  go_wp2_with fail
  go_ret
  exact ⟨y3, k3, rfl, by have := HX1.out; have := HX2.out; have := HX3.out; omega, HB3.out, by omega, HO3.out⟩

theorem adjacentP (w : World) (g n c : Nat) (tl : List Value) (d : Array Nat) (a s k : Nat) (h : DT w g tl d) (hn : d.size = n) (ha : 0 < a) (hb : a + 1 < n) (hn9 : n ≤ 1000000000) (hnc : n ≤ c) (hs : Blk w s 3 [.int .i64 (k : Int)]) (hk : k ≤ 900) (hgs : g ≠ s) :
    Calls Try.prog 71 #[.slice (some ⟨g, 0, none⟩) n c, .int .i64 (a : Int), .pointer (some ⟨s, 0, none⟩)] w fun en w' => ∃ x k' : Nat, en = .returned (.int .i64 (x : Int)) ∧ (a ≤ x + 1 ∧ x ≤ a + 1) ∧ Blk w' s 3 [.int .i64 (k' : Int)] ∧ k' ≤ k + 3 ∧ Onl s w w' := by
  have HD := hidden h
  have HS := hidden hs
  clear h hs
  obtain ⟨p, hp⟩ : ∃ p, a - 1 = p := ⟨_, rfl⟩
  obtain ⟨r, hr⟩ : ∃ r, a + 1 = r := ⟨_, rfl⟩
  have e1 : (a : Int) - 1 = (p : Int) := by omega
  have e2 : (a : Int) + 1 = (r : Int) := by omega
  have hpr : p + 1 = a ∧ r < n ∧ a ≤ r ∧ r ≤ a + 1 := by omega
  clear hp hr
  go_enter Try.func71, Try.ntmps71
  go_wp2_with fail
  refine (medianP w g n c tl d p a r s k HD.out hn (by omega) (by omega) (by omega) hn9 hnc HS.out hk hgs).mono ?_
  rintro en w1 ⟨x, k', rfl, hx, hB, hk', hO⟩
  have HB := hidden hB
  have HO := hidden hO
  clear hB hO
  go_wp2_with fail
  go_ret
  exact ⟨x, k', rfl, by omega, HB.out, hk', HO.out⟩

set_option maxRecDepth 100000 in
set_option maxHeartbeats 8000000 in
theorem pivotP (w : World) (g n c : Nat) (tl : List Value) (d : Array Nat) (a b : Nat) (h : DT w g tl d) (hn : d.size = n) (hab : a + 12 < b) (hb : b ≤ n) (hn9 : n ≤ 1000000000) (hnc : n ≤ c) :
    Calls Try.prog 58 #[.slice (some ⟨g, 0, none⟩) n c, .int .i64 (a : Int), .int .i64 (b : Int)] w fun en w' => ∃ x t : Nat, en = .returned (.tuple #[.int .i64 (x : Int), .int .i64 (t : Int)]) ∧ a ≤ x ∧ x < b ∧ t ≤ 2 ∧ Below w.heap.size w w' := by
  have HD := hidden h
  have hg : g < w.heap.size := Blk.lt h
  clear h
  obtain ⟨l, hl⟩ : ∃ l, b - a = l := ⟨_, rfl⟩
  have el : (b : Int) - (a : Int) = (l : Int) := by omega
  obtain ⟨q, hq⟩ : ∃ q, l / 4 = q := ⟨_, rfl⟩
  have eq : (l : Int).tdiv 4 = (q : Int) := by
    rw [Int.tdiv_eq_ediv_of_nonneg (by omega)]
    omega
  have eq' : (l : Int) / 4 = (q : Int) := by omega
  obtain ⟨i, hi⟩ : ∃ i, a + q = i := ⟨_, rfl⟩
  obtain ⟨j, hj⟩ : ∃ j, a + q * 2 = j := ⟨_, rfl⟩
  obtain ⟨m, hm⟩ : ∃ m, a + q * 3 = m := ⟨_, rfl⟩
  have e1 : (a : Int) + (q : Int) = (i : Int) := by omega
  have e2 : (a : Int) + (q : Int) * 2 = (j : Int) := by omega
  have e3 : (a : Int) + (q : Int) * 3 = (m : Int) := by omega
  have bd : a + 3 ≤ i ∧ i < j ∧ j < m ∧ m + 3 < b + 3 ∧ m + q ≤ b := by omega
  have hl8 : (l : Int) ≥ 8 := by omega
  have hqb : q ≤ 1000000000 := by omega
  clear hi hj hm hq
  have HD0 : Hid (DT (w.alloc (.cells #[.int .i64 0] 3)) g tl d) := hidden (HD.out.later ((Below.refl _ _).alloc (Nat.le_refl _) _))
  have HS0 : Hid (Blk (w.alloc (.cells #[.int .i64 0] 3)) w.heap.size 3 [.int .i64 ((0 : Nat) : Int)]) := hidden (Blk.new w 3 [.int .i64 0])
  have HB0 : Hid (Below w.heap.size w (w.alloc (.cells #[.int .i64 0] 3))) := hidden ((Below.refl _ _).alloc (Nat.le_refl _) _)
  have hgs : g ≠ w.heap.size := by omega
  by_cases h50 : 50 ≤ l
  · have h50' : (l : Int) ≥ 50 := by omega
    have bq : 12 ≤ q := by omega
    go_enter Try.func58, Try.ntmps58
    go_wp2_with fail
    obtain ⟨w0, hw0⟩ : ∃ w0, w.alloc (.cells #[.int .i64 0] 3) = w0 := ⟨_, rfl⟩
    rw [hw0] at HD0 HS0 HB0
    rw [hw0]
    clear hw0
    refine (adjacentP w0 g n c tl d i w.heap.size 0 HD0.out hn (by omega) (by omega) hn9 hnc HS0.out (by omega) hgs).mono ?_
    rintro en w1 ⟨x1, k1, rfl, hx1, hS1, hk1, hO1⟩
    have HS1 := hidden hS1
    have HO1 := hidden hO1
    clear hS1 hO1
    go_wp2_with fail
    refine (adjacentP w1 g n c tl d j w.heap.size k1 (HD0.out.onl HO1.out hgs) hn (by omega) (by omega) hn9 hnc HS1.out (by omega) hgs).mono ?_
    rintro en w2 ⟨x2, k2, rfl, hx2, hS2, hk2, hO2⟩
    have HS2 := hidden hS2
    have HO2 := hidden (HO1.out.trans hO2)
    clear hS2 hO2
    go_wp2_with fail
    refine (adjacentP w2 g n c tl d m w.heap.size k2 (HD0.out.onl HO2.out hgs) hn (by omega) (by omega) hn9 hnc HS2.out (by omega) hgs).mono ?_
    rintro en w3 ⟨x3, k3, rfl, hx3, hS3, hk3, hO3⟩
    have HS3 := hidden hS3
    have HO3 := hidden (HO2.out.trans hO3)
    clear hS3 hO3
    go_wp2_with fail
    refine (medianP w3 g n c tl d x1 x2 x3 w.heap.size k3 (HD0.out.onl HO3.out hgs) hn (by omega) (by omega) (by omega) hn9 hnc HS3.out (by omega) hgs).mono ?_
    rintro en w4 ⟨x4, k4, rfl, hx4, hS4, hk4, hO4⟩
    have HB9 := hidden hS4
    have HB9b : Hid (Below w.heap.size w w4) := hidden (HB0.out.trans ((HO3.out.trans hO4).below (Nat.le_refl _)))
    clear hS4 hO4
    have c9 : w4.cell? ⟨w.heap.size, 0, none⟩ = some (.int .i64 (k4 : Int)) := HB9.out.cell 0
    by_cases hk0 : k4 = 0
    · have hk0' : ((k4 : Int) == 0) = true := by rw [hk0]; rfl
      go_wp2_with fail
      go_ret2
      exact ⟨x4, 1, rfl, by omega, by omega, by omega, HB9b.out⟩
    · have hk0' : ((k4 : Int) == 0) = false := by rw [beq_eq_false_iff_ne]; omega
      by_cases hk12 : k4 = 12
      · have hk12' : ((k4 : Int) == 12) = true := by rw [hk12]; rfl
        go_wp2_with fail
        go_ret2
        exact ⟨x4, 2, rfl, by omega, by omega, by omega, HB9b.out⟩
      · have hk12' : ((k4 : Int) == 12) = false := by rw [beq_eq_false_iff_ne]; omega
        go_wp2_with fail
        go_ret2
        exact ⟨x4, 0, rfl, by omega, by omega, by omega, HB9b.out⟩
  · have h50' : ¬ (l : Int) ≥ 50 := by omega
    go_enter Try.func58, Try.ntmps58
    go_wp2_with fail
    obtain ⟨w0, hw0⟩ : ∃ w0, w.alloc (.cells #[.int .i64 0] 3) = w0 := ⟨_, rfl⟩
    rw [hw0] at HD0 HS0 HB0
    rw [hw0]
    clear hw0
    refine (medianP w0 g n c tl d i j m w.heap.size 0 HD0.out hn (by omega) (by omega) (by omega) hn9 hnc HS0.out (by omega) hgs).mono ?_
    rintro en w4 ⟨x4, k4, rfl, hx4, hS4, hk4, hO4⟩
    have HB9 := hidden hS4
    have HB9b : Hid (Below w.heap.size w w4) := hidden (HB0.out.trans (hO4.below (Nat.le_refl _)))
    clear hS4 hO4
    have c9 : w4.cell? ⟨w.heap.size, 0, none⟩ = some (.int .i64 (k4 : Int)) := HB9.out.cell 0
    by_cases hk0 : k4 = 0
    · have hk0' : ((k4 : Int) == 0) = true := by rw [hk0]; rfl
      go_wp2_with fail
      go_ret2
      exact ⟨x4, 1, rfl, by omega, by omega, by omega, HB9b.out⟩
    · have hk0' : ((k4 : Int) == 0) = false := by rw [beq_eq_false_iff_ne]; omega
      by_cases hk12 : k4 = 12
      · have hk12' : ((k4 : Int) == 12) = true := by rw [hk12]; rfl
        go_wp2_with fail
        go_ret2
        exact ⟨x4, 2, rfl, by omega, by omega, by omega, HB9b.out⟩
      · have hk12' : ((k4 : Int) == 12) = false := by rw [beq_eq_false_iff_ne]; omega
        go_wp2_with fail
        go_ret2
        exact ⟨x4, 0, rfl, by omega, by omega, by omega, HB9b.out⟩
end Go.Proofs.Ytjpelnbffodaiaa
