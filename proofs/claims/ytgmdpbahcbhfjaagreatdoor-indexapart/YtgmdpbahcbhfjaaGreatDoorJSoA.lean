import Derived.Test.YtgmdpbahcbhfjaaGreatDoorJPoB
import Derived.Sort.AssemblyPlain
set_option linter.unusedSimpArgs false
set_option linter.unusedVariables false
set_option maxHeartbeats 40000000
set_option maxRecDepth 100000
/-
  slices.Sort over []uint32: a row that is sorted, and reverseRange.
-/
namespace Go.Proofs.YtgmdpbahcbhfjaaGreatDoor.J
open Go.RowKit

/-- All blocks but one are as they were. -/
structure Onl (g : Nat) (w w' : World) : Prop where
  os : w'.os = w.os
  tape : w'.tape = w.tape
  output : w'.output = w.output
  size : w'.heap.size = w.heap.size
  block : ∀ k, k ≠ g → w'.heap[k]? = w.heap[k]?
theorem Onl.refl (g : Nat) (w : World) : Onl g w w := ⟨rfl, rfl, rfl, rfl, fun _ _ => rfl⟩
theorem Onl.trans {g : Nat} {a b c : World} (h : Onl g a b) (k : Onl g b c) : Onl g a c :=
  ⟨k.os.trans h.os, k.tape.trans h.tape, k.output.trans h.output, k.size.trans h.size, fun i hi => (k.block i hi).trans (h.block i hi)⟩
theorem Onl.drewN (g : Nat) (w : World) (n : Nat) : Onl g w (w.drewN n) := ⟨rfl, rfl, rfl, rfl, fun _ _ => rfl⟩
theorem Onl.set (g i : Nat) (v : Value) (w : World) : Onl g w (w.setCell ⟨g, i, none⟩ v) :=
  ⟨rfl, rfl, rfl, by simp [World.setCell], fun k hk => heap_setCell_other w _ k v hk⟩
theorem Onl.below {g B : Nat} {a b : World} (h : Onl g a b) (hg : B ≤ g) : Below B a b :=
  ⟨h.os, h.tape, h.output, by rw [h.size]; exact Nat.le_refl _, fun i hi => h.block i (by omega)⟩

/-- The row that is sorted: its numbers, and what lies behind them. -/
def DT (w : World) (g : Nat) (tl : List Value) (d : Array Nat) : Prop := Blk w g 114 (cells32 d.toList ++ tl)
theorem DT.at {w : World} {g : Nat} {tl : List Value} {d : Array Nat} (h : DT w g tl d) (i : Nat) (hi : i < d.size) : w.cell? ⟨g, i, none⟩ = some (.int .u32 ((d[i]! : Nat) : Int)) := by
  have h9 := Blk.cell h i
  rw [h9, List.getElem?_append_left (by rw [cells32_length]; simpa using hi)]
  simp [cells32, hi]
theorem DT.fr {w : World} {g : Nat} {tl : List Value} {d : Array Nat} (h : DT w g tl d) (i : Nat) : w.frozen? ⟨g, i, none⟩ = false := Blk.frozen h i
theorem DT.drewN {w : World} {g : Nat} {tl : List Value} {d : Array Nat} (h : DT w g tl d) (n : Nat) : DT (w.drewN n) g tl d := h
theorem set32b (l : List Nat) (i x : Nat) : (cells32 l).set i (.int .u32 (x : Int)) = cells32 (l.set i x) := by
  unfold cells32
  rw [List.map_set]
theorem DT.set {w : World} {g : Nat} {tl : List Value} {d : Array Nat} (h : DT w g tl d) (i x : Nat) (hi : i < d.size) : DT (w.setCell ⟨g, i, none⟩ (.int .u32 (x : Int))) g tl (d.setIfInBounds i x) := by
  have h9 := Blk.set h i (.int .u32 (x : Int))
  rw [List.set_append_left _ _ (by rw [cells32_length]; simpa using hi), set32b] at h9
  unfold DT
  rw [Array.toList_setIfInBounds]
  exact h9
theorem swp_size (d : Array Nat) (i j : Nat) : (Sort.swp d i j).size = d.size := by simp [Sort.swp]
/-- What a swap leaves. -/
theorem DT.swp {w : World} {g : Nat} {tl : List Value} {d : Array Nat} (h : DT w g tl d) (i j : Nat) (hi : i < d.size) (hj : j < d.size) :
    DT ((w.setCell ⟨g, i, none⟩ (.int .u32 ((d[j]! : Nat) : Int))).setCell ⟨g, j, none⟩ (.int .u32 ((d[i]! : Nat) : Int))) g tl (Sort.swp d i j) :=
  (h.set i _ hi).set j _ (by simpa using hj)

set_option maxRecDepth 100000 in
set_option maxHeartbeats 8000000 in
theorem reverseP (w : World) (g n c : Nat) (tl : List Value) (d : Array Nat) (a b : Nat) (h : DT w g tl d) (hn : d.size = n) (hab : a ≤ b) (hb0 : 0 < b) (hb : b ≤ n) (hn9 : n ≤ 1000000000) (hnc : n ≤ c) :
    Calls Tryz.prog 158 #[.slice (some ⟨g, 0, none⟩) n c, .int .i64 (a : Int), .int .i64 (b : Int)] w fun e w' => e = .returned (.tuple #[]) ∧ DT w' g tl (Sort.reverseRange d a b) ∧ Onl g w w' := by
  have HD := hidden h
  clear h
  go_enter Tryz.func158, Tryz.ntmps158
  go_wp2_with fail
  have hb1 : (b : Int) - 1 = ((b - 1 : Nat) : Int) := by omega
  go_loopw [6, 7] (fun s6 s7 wx => ∃ (i j : Nat) (e : Array Nat), s6 = .int .i64 (i : Int) ∧ s7 = .int .i64 (j : Int) ∧ a ≤ i ∧ j < n ∧ i ≤ j + 1 ∧ e.size = n ∧ Hid (DT wx g tl e) ∧ Hid (Onl g w wx) ∧ Hid (Sort.reverseLoop i j e = Sort.reverseRange d a b)) (fun s6 s7 _ => n + 1 + (intOf s7).toNat - (intOf s6).toNat)
  case atStart => exact ⟨a, b - 1, d, rfl, by rw [hb1], by omega, by omega, by omega, hn, HD, hidden (Onl.refl _ _), hidden rfl⟩
  case round =>
    rename World => wx
    obtain ⟨i, j, e, rfl, rfl, hai, hjn, hij, hen, hD, hO, hE⟩ := hrel
    by_cases hlt : i < j
    · have hlt' : (i : Int) < (j : Int) := by omega
      have c1 := hD.out.at i (by omega)
      have c2 := hD.out.at j (by omega)
      have f1 := hD.out.fr i
      have f2 := hD.out.fr j
      have HSW : Hid (DT ((wx.setCell ⟨g, i, none⟩ (.int .u32 ((e[j]! : Nat) : Int))).setCell ⟨g, j, none⟩ (.int .u32 ((e[i]! : Nat) : Int))).drew g tl (Sort.swp e i j) ∧ Onl g w ((wx.setCell ⟨g, i, none⟩ (.int .u32 ((e[j]! : Nat) : Int))).setCell ⟨g, j, none⟩ (.int .u32 ((e[i]! : Nat) : Int))).drew) :=
        hidden ⟨hD.out.swp i j (by omega) (by omega), (hO.out.trans ((Onl.set g i _ wx).trans (Onl.set g j _ _))).trans ⟨rfl, rfl, rfl, rfl, fun _ _ => rfl⟩⟩
      generalize e[i]! = x at *
      generalize e[j]! = y at *
      go_wp2_with fail
      go_region
      go_wp2_with fail
      refine ⟨⟨i + 1, j - 1, Sort.swp e i j, by first | rfl | simp, by rw [show ((j : Int) - 1) = ((j - 1 : Nat) : Int) by omega], by omega, by omega, by omega, by rw [swp_size]; exact hen, hidden HSW.out.1, hidden HSW.out.2, hidden ?_⟩, ?_⟩
      · have h9 := hE.out
        rw [Sort.reverseLoop, if_pos hlt] at h9
        exact h9
      · simp [intOf]
        omega
    · have hlt' : ¬ (i : Int) < (j : Int) := by omega
      go_wp2_with fail
      go_end0
      have h9 := hE.out
      rw [Sort.reverseLoop, if_neg hlt] at h9
      exact ⟨rfl, by rw [← h9]; exact hD.out, hO.out⟩
/-- The order of the numbers. -/
def ltN (x y : Nat) : Bool := decide (x < y)
theorem ltN_t {x y : Nat} (h : x < y) : ltN x y = true := by simp [ltN, h]
theorem ltN_f {x y : Nat} (h : ¬ x < y) : ltN x y = false := by simp only [ltN, h, decide_false]
theorem ltN_swo : Sort.SWO ltN := ⟨fun x => by simp [ltN], fun x y z => by simp [ltN]; omega, fun x y z => by simp [ltN]; omega⟩
theorem Onl.swp {g : Nat} {w wx : World} (h : Onl g w wx) (i j : Nat) (u v : Value) : Onl g w ((wx.setCell ⟨g, i, none⟩ u).setCell ⟨g, j, none⟩ v).drew :=
  (h.trans ((Onl.set g i _ wx).trans (Onl.set g j _ _))).trans ⟨rfl, rfl, rfl, rfl, fun _ _ => rfl⟩

end Go.Proofs.YtgmdpbahcbhfjaaGreatDoor.J
/-
  slices.Sort over []uint32: insertionSort.
-/
namespace Go.Proofs.YtgmdpbahcbhfjaaGreatDoor.J
open Go.RowKit

set_option maxRecDepth 100000 in
set_option maxHeartbeats 8000000 in
theorem insertionP (w : World) (g n c : Nat) (tl : List Value) (d : Array Nat) (a b : Nat) (h : DT w g tl d) (hn : d.size = n) (hab : a ≤ b) (hb : b ≤ n) (hn9 : n ≤ 1000000000) (hnc : n ≤ c) :
    Calls Tryz.prog 154 #[.slice (some ⟨g, 0, none⟩) n c, .int .i64 (a : Int), .int .i64 (b : Int)] w fun e w' => e = .returned (.tuple #[]) ∧ DT w' g tl (Sort.insertionSort ltN d a b) ∧ Onl g w w' := by
  have HD := hidden h
  clear h
  go_enter Tryz.func154, Tryz.ntmps154
  go_wp2_with fail
  go_loopw [6] (fun s6 wx => ∃ (i : Nat) (e : Array Nat), s6 = .int .i64 (i : Int) ∧ a < i ∧ (i ≤ b ∨ i = a + 1) ∧ e.size = n ∧ Hid (DT wx g tl e) ∧ Hid (Onl g w wx) ∧ Hid (Sort.insOuter ltN a b i e = Sort.insertionSort ltN d a b)) (fun s6 _ => b + 1 - (intOf s6).toNat)
  case atStart => exact ⟨a + 1, d, by first | rfl | simp, by omega, by omega, hn, HD, hidden (Onl.refl _ _), hidden rfl⟩
  case round =>
    rename World => wx
    obtain ⟨i, e, rfl, hai, hib, hen, hD, hO, hE⟩ := hrel
    by_cases hlt : i < b
    · have hlt' : (i : Int) < (b : Int) := by omega
      have h8 := hE.out
      rw [Sort.insOuter, if_pos hlt] at h8
      have HE := hidden h8
      clear hE h8
      go_wp2_with fail
      go_loopw [7] (fun s7 wy => ∃ (j : Nat) (f : Array Nat), s7 = .int .i64 (j : Int) ∧ a ≤ j ∧ j ≤ i ∧ f.size = n ∧ Hid (DT wy g tl f) ∧ Hid (Onl g w wy) ∧ Hid (Sort.insInner ltN a j f = Sort.insInner ltN a i e)) (fun s7 _ => (intOf s7).toNat)
      case atStart => exact ⟨i, e, rfl, by omega, by omega, hen, hD, hO, hidden rfl⟩
      case round =>
        rename World => wy
        obtain ⟨j, f, rfl, haj, hji, hfn, hF, hP, hI⟩ := hrel
        have fin : Hid (Sort.insInner ltN a i e = f → ∀ nq, ∃ (i' : Nat) (e' : Array Nat), (Value.int .i64 ((i : Int) + 1)) = .int .i64 (i' : Int) ∧ a < i' ∧ (i' ≤ b ∨ i' = a + 1) ∧ e'.size = n ∧ Hid (DT (wy.drewN nq) g tl e') ∧ Hid (Onl g w (wy.drewN nq)) ∧ Hid (Sort.insOuter ltN a b i' e' = Sort.insertionSort ltN d a b)) :=
          hidden (fun h9 nq => ⟨i + 1, f, by first | rfl | simp, by omega, by omega, hfn, hidden hF.out, hidden (hP.out.trans (Onl.drewN _ _ _)), hidden (by rw [← h9]; exact HE.out)⟩)
        by_cases hja : a < j
        · have hja' : (j : Int) > (a : Int) := by omega
          obtain ⟨q, hjq⟩ : ∃ q, j = q + 1 := ⟨j - 1, by omega⟩
          have ej : (j : Int) - 1 = (q : Int) := by omega
          have c1 := hF.out.at j (by omega)
          have c2 := hF.out.at q (by omega)
          have f1 := hF.out.fr j
          have f2 := hF.out.fr q
          have h8 := hI.out
          rw [hjq, Sort.insInner, ← hjq] at h8
          have hq : q < n ∧ a ≤ q ∧ q ≤ i := by omega
          have HJQ := hidden hjq
          clear hjq
          by_cases hxy : f[j]! < f[q]!
          · rw [if_pos (by simp [ltN_t hxy]; exact hja)] at h8
            have HI := hidden h8
            have HSW : Hid (∀ nq, DT (((wy.drewN nq).setCell ⟨g, j, none⟩ (.int .u32 ((f[q]! : Nat) : Int))).setCell ⟨g, q, none⟩ (.int .u32 ((f[j]! : Nat) : Int))).drew g tl (Sort.swp f j q) ∧ Onl g w (((wy.drewN nq).setCell ⟨g, j, none⟩ (.int .u32 ((f[q]! : Nat) : Int))).setCell ⟨g, q, none⟩ (.int .u32 ((f[j]! : Nat) : Int))).drew) :=
              hidden (fun nq => ⟨(hF.out.drewN nq).swp j q (by omega) (by omega), (hP.out.trans (Onl.drewN g wy nq)).swp _ _ _ _⟩)
            clear h8 hI
            have HL := less_t hxy
            generalize f[q]! = x at *
            generalize f[j]! = y at *
            go_wp2_with fail
            go_quiet (exact Calls.quiet_of_same (HL _))
            go_wp2_with fail
            go_region
            go_wp2_with fail
            refine ⟨⟨q, Sort.swp f j q, by first | rfl | rw [ej], by omega, by omega, by rw [swp_size]; exact hfn, hidden (HSW.out nq).1, hidden (HSW.out nq).2, hidden HI.out⟩, ?_⟩
            have := HJQ.out
            simp [intOf]
            try omega
          · rw [if_neg (by simp [ltN_f hxy])] at h8
            have HL := less_f hxy
            have HFF := hidden (fin.out h8.symm)
            clear h8
            generalize f[q]! = x at *
            generalize f[j]! = y at *
            go_wp2_with fail
            go_quiet (exact Calls.quiet_of_same (HL _))
            go_wp2_with fail
            refine ⟨HFF.out nq, ?_⟩
            simp [intOf]
            try omega
        · obtain rfl : j = a := by omega
          have hja' : ¬ (j : Int) > (j : Int) := by omega
          have h8 := hI.out
          have h7 : Sort.insInner ltN j j f = f := by
            cases j with
            | zero => rfl
            | succ q => rw [Sort.insInner, if_neg (by simp)]
          rw [h7] at h8
          have HFF := hidden (fin.out h8.symm)
          clear h8 h7
          go_wp2_with fail
          go_quiet (fail)
          go_wp2_with fail
          refine ⟨HFF.out nq, ?_⟩
          simp [intOf]
          try omega
    · have hlt' : ¬ (i : Int) < (b : Int) := by omega
      go_wp2_with fail
      go_end0
      have h9 := hE.out
      rw [Sort.insOuter, if_neg hlt] at h9
      exact ⟨rfl, by rw [← h9]; exact hD.out, hO.out⟩
end Go.Proofs.YtgmdpbahcbhfjaaGreatDoor.J
/-
  slices.Sort over []uint32: siftDown, heapSort (tools/gensoc22.py).
-/
namespace Go.Proofs.YtgmdpbahcbhfjaaGreatDoor.J
open Go.RowKit

theorem res68 (tmps : Array Value) (w : World) : (results Tryz.f173 tmps).run Tryz.prog w = .ok (.tuple #[]) w := by
  have h : Tryz.f173.results = #[] := by kernel_rfl
  simp [results, h, go_sem]
theorem res56 (tmps : Array Value) (w : World) : (results Tryz.f155 tmps).run Tryz.prog w = .ok (.tuple #[]) w := by
  have h : Tryz.f155.results = #[] := by kernel_rfl
  simp [results, h, go_sem]
theorem i64w (R : Nat) (h : R ≤ 9223372036854775807) : IntKind.i64.wrap (R : Int) = (R : Int) := by
  unfold IntKind.wrap
  simp [IntKind.bits, IntKind.signed]
  omega
theorem sift_end (hi first root : Nat) (d : Array Nat) (h : 2 * root + 1 ≥ hi) : Sort.siftDown ltN hi first root d = d := by
  rw [Sort.siftDown, dif_pos h]
theorem sift_r (hi first root : Nat) (d : Array Nat) (h : ¬ 2 * root + 1 ≥ hi) (h1 : 2 * root + 2 < hi) (hl : d[first + (2 * root + 1)]! < d[first + (2 * root + 2)]!) :
    Sort.siftDown ltN hi first root d = if d[first + root]! < d[first + (2 * root + 2)]! then Sort.siftDown ltN hi first (2 * root + 2) (Sort.swp d (first + root) (first + (2 * root + 2))) else d := by
  rw [Sort.siftDown, dif_neg h, if_pos (by simp only [Bool.and_eq_true, decide_eq_true_eq]; exact ⟨by omega, ltN_t (by rw [show first + (2 * root + 1) + 1 = first + (2 * root + 2) by omega]; exact hl)⟩)]
  by_cases k : d[first + root]! < d[first + (2 * root + 2)]!
  · rw [if_neg (by simp [ltN_t k]), dif_pos h1, if_pos k]
  · rw [if_pos (by simp [ltN_f k]), if_neg k]
theorem sift_l (hi first root : Nat) (d : Array Nat) (h : ¬ 2 * root + 1 ≥ hi) (h1 : ¬ (2 * root + 2 < hi ∧ d[first + (2 * root + 1)]! < d[first + (2 * root + 2)]!)) :
    Sort.siftDown ltN hi first root d = if d[first + root]! < d[first + (2 * root + 1)]! then Sort.siftDown ltN hi first (2 * root + 1) (Sort.swp d (first + root) (first + (2 * root + 1))) else d := by
  rw [Sort.siftDown, dif_neg h, if_neg (by
    simp only [Bool.and_eq_true, decide_eq_true_eq]
    rintro ⟨a, b⟩
    refine h1 ⟨by omega, ?_⟩
    rw [show first + (2 * root + 1) + 1 = first + (2 * root + 2) by omega] at b
    simpa [ltN] using b)]
  by_cases k : d[first + root]! < d[first + (2 * root + 1)]!
  · rw [if_neg (by simp [ltN_t k]), if_pos k]
  · rw [if_pos (by simp [ltN_f k]), if_neg k]
theorem sift_size (hi first : Nat) : ∀ (k root : Nat) (d : Array Nat), hi - root ≤ k → (Sort.siftDown ltN hi first root d).size = d.size := by
  intro k
  induction k with
  | zero => intro root d h; rw [sift_end _ _ _ _ (by omega)]
  | succ k ih =>
    intro root d h
    by_cases h0 : 2 * root + 1 ≥ hi
    · rw [sift_end _ _ _ _ h0]
    · by_cases h1 : 2 * root + 2 < hi ∧ d[first + (2 * root + 1)]! < d[first + (2 * root + 2)]!
      · rw [sift_r _ _ _ _ h0 h1.1 h1.2]
        split
        · rw [ih _ _ (by omega), swp_size]
        · rfl
      · rw [sift_l _ _ _ _ h0 h1]
        split
        · rw [ih _ _ (by omega), swp_size]
        · rfl

set_option maxRecDepth 100000 in
set_option maxHeartbeats 16000000 in
theorem siftP (w : World) (g n c : Nat) (tl : List Value) (d : Array Nat) (lo hi first : Nat) (h : DT w g tl d) (hn : d.size = n) (hf : first + hi ≤ n) (hlo : lo ≤ n) (hn9 : n ≤ 1000000000) (hnc : n ≤ c) :
    Calls Tryz.prog 173 #[.slice (some ⟨g, 0, none⟩) n c, .int .i64 (lo : Int), .int .i64 (hi : Int), .int .i64 (first : Int)] w fun e w' => e = .returned (.tuple #[]) ∧ DT w' g tl (Sort.siftDown ltN hi first lo d) ∧ Onl g w w' := by
  have HD := hidden h
  clear h
  go_enter Tryz.func173, Tryz.ntmps173
  go_wp2_with fail
  go_loopw [8] (fun s8 wx => ∃ (r : Nat) (e : Array Nat), s8 = .int .i64 (r : Int) ∧ r ≤ n ∧ e.size = n ∧ Hid (DT wx g tl e) ∧ Hid (Onl g w wx) ∧ Hid (Sort.siftDown ltN hi first r e = Sort.siftDown ltN hi first lo d)) (fun s8 _ => n + 1 - (intOf s8).toNat)
  case atStart => exact ⟨lo, d, rfl, hlo, hn, HD, hidden (Onl.refl _ _), hidden rfl⟩
  case round =>
    rename World => wx
    obtain ⟨r, e, rfl, hrn, hen, hD, hO, hE⟩ := hrel
    obtain ⟨c1, hc1⟩ : ∃ c1, 2 * r + 1 = c1 := ⟨_, rfl⟩
    have e1 : 2 * (r : Int) + 1 = (c1 : Int) := by omega
    by_cases hend : c1 ≥ hi
    · have hend' : (c1 : Int) ≥ (hi : Int) := by omega
      have h9 := hE.out
      rw [sift_end _ _ _ _ (by omega)] at h9
      have HN := hidden h9
      clear h9 hc1
      go_wp2_with fail
      first | go_end0 | (refine bodyPost_ret (res68 _ _) rfl ?_)
      exact ⟨rfl, by rw [← HN.out]; exact hD.out, hO.out⟩
    · have hend' : ¬ (c1 : Int) ≥ (hi : Int) := by omega
      obtain ⟨c2, hc2⟩ : ∃ c2, c1 + 1 = c2 := ⟨_, rfl⟩
      have e2 : (c1 : Int) + 1 = (c2 : Int) := by omega
      obtain ⟨R, hR⟩ : ∃ R, first + r = R := ⟨_, rfl⟩
      have eR : (first : Int) + (r : Int) = (R : Int) := by omega
      obtain ⟨C1, hC1⟩ : ∃ C1, first + c1 = C1 := ⟨_, rfl⟩
      have eC1 : (first : Int) + (c1 : Int) = (C1 : Int) := by omega
      obtain ⟨C2, hC2⟩ : ∃ C2, first + c2 = C2 := ⟨_, rfl⟩
      have eC2 : (first : Int) + (c2 : Int) = (C2 : Int) := by omega
      have eC12 : (C1 : Int) + 1 = (C2 : Int) := by omega
      have HB : Hid (r < c1 ∧ c1 < c2 ∧ c1 < hi ∧ R < n ∧ C1 < n ∧ hi ≤ n) := hidden (by omega)
      have hRn : R < n := by omega
      have hC1n : C1 < n := by omega
      have q2 : 2 * r + 2 = c2 := by omega
      by_cases hc : c2 < hi
      · have hc' : (c2 : Int) < (hi : Int) := by omega
        have hC2n : C2 < n := by omega
        have k1 := hD.out.at C1 (by omega)
        have k2 := hD.out.at C2 (by omega)
        by_cases hl : e[C1]! < e[C2]!
        · have HL0 := less_t hl
          have hs := sift_r hi first r e (by omega) (by omega) (by rw [hc1, q2, hC1, hC2]; exact hl)
          rw [q2, hR, hC2, hE.out] at hs
          have h8 : ∀ ch, ch = c2 → e[R]! < e[C2]! → Sort.siftDown ltN hi first ch (Sort.swp e R C2) = Sort.siftDown ltN hi first lo d ∧ ch < hi ∧ r < ch := by
            rintro ch rfl hxy
            rw [if_pos hxy] at hs
            exact ⟨hs.symm, hc, by omega⟩
          have h9 : ∀ ch, ch = c2 → ¬ e[R]! < e[C2]! → e = Sort.siftDown ltN hi first lo d := by
            rintro ch rfl hxy
            rw [if_neg hxy] at hs
            exact hs.symm
          clear hs hc1 hc2 hR hC1 hC2 q2
          generalize e[C1]! = x1 at k1 HL0
          generalize hyy : e[C2]! = y2 at k2 HL0
          go_wp2_with fail
          go_quiet (exact Calls.quiet_of_same (HL0 _))
          rw [← hyy] at k2
          clear hyy hl HL0 k1 k2
          obtain ⟨wy, hwy⟩ : ∃ wy, wx.drewN nq = wy := ⟨_, rfl⟩
          rw [hwy]
          have HDY : Hid (DT wy g tl e) := hidden (by rw [← hwy]; exact hD.out.drewN nq)
          have HOY : Hid (Onl g w wy) := hidden (by rw [← hwy]; exact hO.out.trans (Onl.drewN g wx nq))
          clear hwy
          have cR := HDY.out.at R (by omega)
          have cC := HDY.out.at C2 (by omega)
          have fR := HDY.out.fr R
          have fC := HDY.out.fr C2
          have hRb := i64w R (by omega)
          have hCb := i64w C2 (by omega)
          by_cases hxy : e[R]! < e[C2]!
          · have HN := hidden (h8 (c2) rfl hxy)
            have HSW : Hid (∀ n2, DT (((wy.drewN n2).setCell ⟨g, R, none⟩ (.int .u32 ((e[C2]! : Nat) : Int))).setCell ⟨g, C2, none⟩ (.int .u32 ((e[R]! : Nat) : Int))).drew g tl (Sort.swp e R C2) ∧ Onl g w (((wy.drewN n2).setCell ⟨g, R, none⟩ (.int .u32 ((e[C2]! : Nat) : Int))).setCell ⟨g, C2, none⟩ (.int .u32 ((e[R]! : Nat) : Int))).drew) :=
              hidden (fun n2 => ⟨(HDY.out.drewN n2).swp R C2 (by omega) (by omega), (HOY.out.trans (Onl.drewN g wy n2)).swp _ _ _ _⟩)
            have HL := less_t hxy
            clear h8 h9
            generalize e[R]! = x at *
            generalize e[C2]! = y at *
            go_wp2_with fail
            go_quiet (exact Calls.quiet_of_same (HL _))
            go_wp2_with fail
            go_region
            go_wp2_with fail
            refine ⟨⟨c2, Sort.swp e R C2, by first | rfl | simp, by have := HN.out.2.1; have := HB.out; omega, by rw [swp_size]; exact hen, hidden (HSW.out nq).1, hidden (HSW.out nq).2, hidden HN.out.1⟩, ?_⟩
            have := HN.out.2
            have := HB.out
            simp [intOf]
            try omega
          · have HN := hidden (h9 (c2) rfl hxy)
            have HL := less_f hxy
            clear h8 h9
            generalize e[R]! = x at *
            generalize e[C2]! = y at *
            go_wp2_with fail
            go_quiet (exact Calls.quiet_of_same (HL _))
            go_wp2_with fail
            first | go_end0 | (refine bodyPost_ret (res68 _ _) rfl ?_)
            exact ⟨rfl, by rw [← HN.out]; exact HDY.out, HOY.out.trans (Onl.drewN g wy _)⟩
        · have HL0 := less_f hl
          have hs := sift_l hi first r e (by omega) (by rw [hc1, q2, hC1, hC2]; exact fun k => hl k.2)
          rw [hc1, hR, hC1, hE.out] at hs
          have h8 : ∀ ch, ch = c1 → e[R]! < e[C1]! → Sort.siftDown ltN hi first ch (Sort.swp e R C1) = Sort.siftDown ltN hi first lo d ∧ ch < hi ∧ r < ch := by
            rintro ch rfl hxy
            rw [if_pos hxy] at hs
            exact ⟨hs.symm, by omega, by omega⟩
          have h9 : ∀ ch, ch = c1 → ¬ e[R]! < e[C1]! → e = Sort.siftDown ltN hi first lo d := by
            rintro ch rfl hxy
            rw [if_neg hxy] at hs
            exact hs.symm
          clear hs hc1 hc2 hR hC1 hC2 q2
          generalize hxx : e[C1]! = x1 at k1 HL0
          generalize e[C2]! = y2 at k2 HL0
          go_wp2_with fail
          go_quiet (exact Calls.quiet_of_same (HL0 _))
          clear hxx hl HL0 k1 k2
          obtain ⟨wy, hwy⟩ : ∃ wy, wx.drewN nq = wy := ⟨_, rfl⟩
          rw [hwy]
          have HDY : Hid (DT wy g tl e) := hidden (by rw [← hwy]; exact hD.out.drewN nq)
          have HOY : Hid (Onl g w wy) := hidden (by rw [← hwy]; exact hO.out.trans (Onl.drewN g wx nq))
          clear hwy
          have cR := HDY.out.at R (by omega)
          have cC := HDY.out.at C1 (by omega)
          have fR := HDY.out.fr R
          have fC := HDY.out.fr C1
          have hRb := i64w R (by omega)
          have hCb := i64w C1 (by omega)
          by_cases hxy : e[R]! < e[C1]!
          · have HN := hidden (h8 (c1) rfl hxy)
            have HSW : Hid (∀ n2, DT (((wy.drewN n2).setCell ⟨g, R, none⟩ (.int .u32 ((e[C1]! : Nat) : Int))).setCell ⟨g, C1, none⟩ (.int .u32 ((e[R]! : Nat) : Int))).drew g tl (Sort.swp e R C1) ∧ Onl g w (((wy.drewN n2).setCell ⟨g, R, none⟩ (.int .u32 ((e[C1]! : Nat) : Int))).setCell ⟨g, C1, none⟩ (.int .u32 ((e[R]! : Nat) : Int))).drew) :=
              hidden (fun n2 => ⟨(HDY.out.drewN n2).swp R C1 (by omega) (by omega), (HOY.out.trans (Onl.drewN g wy n2)).swp _ _ _ _⟩)
            have HL := less_t hxy
            clear h8 h9
            generalize e[R]! = x at *
            generalize e[C1]! = y at *
            go_wp2_with fail
            go_quiet (exact Calls.quiet_of_same (HL _))
            go_wp2_with fail
            go_region
            go_wp2_with fail
            refine ⟨⟨c1, Sort.swp e R C1, by first | rfl | simp, by have := HN.out.2.1; have := HB.out; omega, by rw [swp_size]; exact hen, hidden (HSW.out nq).1, hidden (HSW.out nq).2, hidden HN.out.1⟩, ?_⟩
            have := HN.out.2
            have := HB.out
            simp [intOf]
            try omega
          · have HN := hidden (h9 (c1) rfl hxy)
            have HL := less_f hxy
            clear h8 h9
            generalize e[R]! = x at *
            generalize e[C1]! = y at *
            go_wp2_with fail
            go_quiet (exact Calls.quiet_of_same (HL _))
            go_wp2_with fail
            first | go_end0 | (refine bodyPost_ret (res68 _ _) rfl ?_)
            exact ⟨rfl, by rw [← HN.out]; exact HDY.out, HOY.out.trans (Onl.drewN g wy _)⟩
      · have hc' : ¬ (c2 : Int) < (hi : Int) := by omega
        have hs := sift_l hi first r e (by omega) (by rw [q2]; exact fun k => hc k.1)
        rw [hc1, hR, hC1, hE.out] at hs
        have h8 : ∀ ch, ch = c1 → e[R]! < e[C1]! → Sort.siftDown ltN hi first ch (Sort.swp e R C1) = Sort.siftDown ltN hi first lo d ∧ ch < hi ∧ r < ch := by
          rintro ch rfl hxy
          rw [if_pos hxy] at hs
          exact ⟨hs.symm, by omega, by omega⟩
        have h9 : ∀ ch, ch = c1 → ¬ e[R]! < e[C1]! → e = Sort.siftDown ltN hi first lo d := by
          rintro ch rfl hxy
          rw [if_neg hxy] at hs
          exact hs.symm
        clear hs hc1 hc2 hR hC1 hC2 q2
        go_wp2_with fail
        go_quiet (fail)
        obtain ⟨wy, hwy⟩ : ∃ wy, wx.drewN nq = wy := ⟨_, rfl⟩
        rw [hwy]
        have HDY : Hid (DT wy g tl e) := hidden (by rw [← hwy]; exact hD.out.drewN nq)
        have HOY : Hid (Onl g w wy) := hidden (by rw [← hwy]; exact hO.out.trans (Onl.drewN g wx nq))
        clear hwy
        have cR := HDY.out.at R (by omega)
        have cC := HDY.out.at C1 (by omega)
        have fR := HDY.out.fr R
        have fC := HDY.out.fr C1
        have hRb := i64w R (by omega)
        have hCb := i64w C1 (by omega)
        by_cases hxy : e[R]! < e[C1]!
        · have HN := hidden (h8 (c1) rfl hxy)
          have HSW : Hid (∀ n2, DT (((wy.drewN n2).setCell ⟨g, R, none⟩ (.int .u32 ((e[C1]! : Nat) : Int))).setCell ⟨g, C1, none⟩ (.int .u32 ((e[R]! : Nat) : Int))).drew g tl (Sort.swp e R C1) ∧ Onl g w (((wy.drewN n2).setCell ⟨g, R, none⟩ (.int .u32 ((e[C1]! : Nat) : Int))).setCell ⟨g, C1, none⟩ (.int .u32 ((e[R]! : Nat) : Int))).drew) :=
            hidden (fun n2 => ⟨(HDY.out.drewN n2).swp R C1 (by omega) (by omega), (HOY.out.trans (Onl.drewN g wy n2)).swp _ _ _ _⟩)
          have HL := less_t hxy
          clear h8 h9
          generalize e[R]! = x at *
          generalize e[C1]! = y at *
          go_wp2_with fail
          go_quiet (exact Calls.quiet_of_same (HL _))
          go_wp2_with fail
          go_region
          go_wp2_with fail
          refine ⟨⟨c1, Sort.swp e R C1, by first | rfl | simp, by have := HN.out.2.1; have := HB.out; omega, by rw [swp_size]; exact hen, hidden (HSW.out nq).1, hidden (HSW.out nq).2, hidden HN.out.1⟩, ?_⟩
          have := HN.out.2
          have := HB.out
          simp [intOf]
          try omega
        · have HN := hidden (h9 (c1) rfl hxy)
          have HL := less_f hxy
          clear h8 h9
          generalize e[R]! = x at *
          generalize e[C1]! = y at *
          go_wp2_with fail
          go_quiet (exact Calls.quiet_of_same (HL _))
          go_wp2_with fail
          first | go_end0 | (refine bodyPost_ret (res68 _ _) rfl ?_)
          exact ⟨rfl, by rw [← HN.out]; exact HDY.out, HOY.out.trans (Onl.drewN g wy _)⟩
set_option maxRecDepth 100000 in
set_option maxHeartbeats 16000000 in
theorem heapP (w : World) (g n c : Nat) (tl : List Value) (d : Array Nat) (a b : Nat) (h : DT w g tl d) (hn : d.size = n) (hab : a ≤ b) (hb : b ≤ n) (hn9 : n ≤ 1000000000) (hnc : n ≤ c) :
    Calls Tryz.prog 155 #[.slice (some ⟨g, 0, none⟩) n c, .int .i64 (a : Int), .int .i64 (b : Int)] w fun e w' => e = .returned (.tuple #[]) ∧ DT w' g tl (Sort.heapSort ltN d a b) ∧ Onl g w w' := by
  have HD := hidden h
  clear h
  obtain ⟨hi, hhi⟩ : ∃ hi, b - a = hi := ⟨_, rfl⟩
  have ehi : (b : Int) - (a : Int) = (hi : Int) := by omega
  obtain ⟨k0, hk0⟩ : ∃ k0, (hi - 1) / 2 + 1 = k0 := ⟨_, rfl⟩
  have ek0 : ((hi : Int) - 1).tdiv 2 = (k0 : Int) - 1 := by
    rcases Nat.eq_zero_or_pos hi with rfl | hp
    · subst hk0; rfl
    · rw [show (hi : Int) - 1 = ((hi - 1 : Nat) : Int) by omega, Int.tdiv_eq_ediv_of_nonneg (by omega)]
      omega
  have HS : Hid (Sort.heapSort ltN d a b = Sort.heapPop ltN a hi (Sort.heapBuild ltN hi a k0 d)) := hidden (by unfold Sort.heapSort; rw [hhi, hk0])
  have hk9 : k0 ≤ hi / 2 + 1 := by omega
  have hh9 : a + hi ≤ n := by omega
  have HK0 := hidden hk0
  have HHI := hidden hhi
  clear hk0 hhi
  go_enter Tryz.func155, Tryz.ntmps155
  go_wp2_with fail
  go_loopw [9] (fun s9 wx => ∃ (k : Nat) (e : Array Nat), s9 = .int .i64 ((k : Int) - 1) ∧ k ≤ k0 ∧ e.size = n ∧ Hid (DT wx g tl e) ∧ Hid (Onl g w wx) ∧ Hid (Sort.heapBuild ltN hi a k e = Sort.heapBuild ltN hi a k0 d)) (fun s9 _ => (intOf s9 + 1).toNat)
  case atStart => exact ⟨k0, d, by first | rfl | simp, by omega, hn, HD, hidden (Onl.refl _ _), hidden rfl⟩
  case round =>
    rename World => wx
    obtain ⟨k, e, rfl, hk, hen, hD, hO, hE⟩ := hrel
    by_cases hz : 0 < k
    · obtain ⟨q, rfl⟩ : ∃ q, k = q + 1 := ⟨k - 1, by omega⟩
      have eq1 : (((q + 1 : Nat) : Int) - 1) = (q : Int) := by omega
      have hge : (q : Int) ≥ 0 := by omega
      rw [eq1]
      go_wp2_with fail
      refine (siftP wx g n c tl e q hi a hD.out hen (by omega) (by omega) hn9 hnc).mono ?_
      rintro en wy ⟨rfl, hDy, hOy⟩
      have HDY := hidden hDy
      have HOY := hidden hOy
      clear hDy hOy
      go_wp2_with fail
      refine ⟨⟨q, Sort.siftDown ltN hi a q e, by first | rfl | simp, by omega, by rw [sift_size _ _ _ _ _ (Nat.le_refl _)]; exact hen, HDY, hidden (hO.out.trans HOY.out), hidden hE.out⟩, ?_⟩
      simp [intOf]
      try omega
    · obtain rfl : k = 0 := by omega
      have hge : ¬ (((0 : Nat) : Int) - 1) ≥ 0 := by omega
      have HE : Hid (e = Sort.heapBuild ltN hi a k0 d) := hidden hE.out
      clear hE
      go_wp2_with fail
      go_loopw [10] (fun s10 wx => ∃ (k : Nat) (e2 : Array Nat), s10 = .int .i64 ((k : Int) - 1) ∧ k ≤ hi ∧ e2.size = n ∧ Hid (DT wx g tl e2) ∧ Hid (Onl g w wx) ∧ Hid (Sort.heapPop ltN a k e2 = Sort.heapSort ltN d a b)) (fun s10 _ => (intOf s10 + 1).toNat)
      case atStart => exact ⟨hi, e, by first | rfl | simp, by omega, hen, hD, hO, hidden (by rw [HS.out, HE.out])⟩
      case round =>
        rename World => wz
        obtain ⟨k, e2, rfl, hk, hen2, hD2, hO2, hE2⟩ := hrel
        by_cases hz : 0 < k
        · obtain ⟨q, rfl⟩ : ∃ q, k = q + 1 := ⟨k - 1, by omega⟩
          have eq1 : (((q + 1 : Nat) : Int) - 1) = (q : Int) := by omega
          have hge : (q : Int) ≥ 0 := by omega
          rw [eq1]
          obtain ⟨R, hR⟩ : ∃ R, a + q = R := ⟨_, rfl⟩
          have eR : (a : Int) + (q : Int) = (R : Int) := by omega
          have hRn : R < n := by omega
          have hRw := i64w R (by omega)
          have cA := hD2.out.at a (by omega)
          have cR := hD2.out.at R (by omega)
          have fA := hD2.out.fr a
          have fR := hD2.out.fr R
          have HSW : Hid (DT ((wz.setCell ⟨g, a, none⟩ (.int .u32 ((e2[R]! : Nat) : Int))).setCell ⟨g, R, none⟩ (.int .u32 ((e2[a]! : Nat) : Int))).drew g tl (Sort.swp e2 a R) ∧ Onl g w ((wz.setCell ⟨g, a, none⟩ (.int .u32 ((e2[R]! : Nat) : Int))).setCell ⟨g, R, none⟩ (.int .u32 ((e2[a]! : Nat) : Int))).drew) :=
            hidden ⟨hD2.out.swp a R (by omega) (by omega), hO2.out.swp _ _ _ _⟩
          have HE2 : Hid (Sort.heapPop ltN a q (Sort.siftDown ltN q a 0 (Sort.swp e2 a R)) = Sort.heapSort ltN d a b) := hidden (by rw [← hR]; exact hE2.out)
          clear hE2
          by_cases hq0 : q = 0
          · obtain rfl : R = a := by omega
            subst hq0
            generalize e2[R]! = y at *
            go_wp2_with fail
            go_region
            obtain ⟨wy, hwy⟩ : ∃ wy, ((wz.setCell ⟨g, R, none⟩ (.int .u32 (y : Int))).setCell ⟨g, R, none⟩ (.int .u32 (y : Int))).drew = wy := ⟨_, rfl⟩
            rw [hwy]
            rw [hwy] at HSW
            clear hwy
            go_wp2_with fail
            refine (siftP wy g n c tl (Sort.swp e2 R R) 0 0 R HSW.out.1 (by rw [swp_size]; exact hen2) (by omega) (by omega) hn9 hnc).mono ?_
            rintro en wv ⟨rfl, hDv, hOv⟩
            have HDV := hidden hDv
            have HOV := hidden hOv
            clear hDv hOv
            go_wp2_with fail
            refine ⟨⟨0, Sort.siftDown ltN 0 R 0 (Sort.swp e2 R R), by first | rfl | simp, by omega, by rw [sift_size _ _ _ _ _ (Nat.le_refl _), swp_size]; exact hen2, HDV, hidden (HSW.out.2.trans HOV.out), HE2⟩, ?_⟩
            simp [intOf]
            try omega
          · have hne : a ≠ R := by omega
            have hne2 : R ≠ a := by omega
            clear hR
            generalize e2[a]! = x at *
            generalize e2[R]! = y at *
            go_wp2_with fail
            go_region
            obtain ⟨wy, hwy⟩ : ∃ wy, ((wz.setCell ⟨g, a, none⟩ (.int .u32 (y : Int))).setCell ⟨g, R, none⟩ (.int .u32 (x : Int))).drew = wy := ⟨_, rfl⟩
            rw [hwy]
            rw [hwy] at HSW
            clear hwy
            go_wp2_with fail
            refine (siftP wy g n c tl (Sort.swp e2 a R) 0 q a HSW.out.1 (by rw [swp_size]; exact hen2) (by omega) (by omega) hn9 hnc).mono ?_
            rintro en wv ⟨rfl, hDv, hOv⟩
            have HDV := hidden hDv
            have HOV := hidden hOv
            clear hDv hOv
            go_wp2_with fail
            refine ⟨⟨q, Sort.siftDown ltN q a 0 (Sort.swp e2 a R), by first | rfl | simp, by omega, by rw [sift_size _ _ _ _ _ (Nat.le_refl _), swp_size]; exact hen2, HDV, hidden (HSW.out.2.trans HOV.out), HE2⟩, ?_⟩
            simp [intOf]
            try omega
        · obtain rfl : k = 0 := by omega
          have hge : ¬ (((0 : Nat) : Int) - 1) ≥ 0 := by omega
          have HE3 : Hid (e2 = Sort.heapSort ltN d a b) := hidden hE2.out
          clear hE2
          go_wp2_with fail
          first | go_end0 | (refine bodyPost_ret (res56 _ _) rfl ?_)
          exact ⟨rfl, by rw [← HE3.out]; exact hD2.out, hO2.out⟩
end Go.Proofs.YtgmdpbahcbhfjaaGreatDoor.J
