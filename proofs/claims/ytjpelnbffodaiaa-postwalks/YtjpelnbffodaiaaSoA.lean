/-
  slices.Sort over []uint32: a row that is sorted, and reverseRange.
-/
import Derived.Test.YtjpelnbffodaiaaPoC
import Derived.Sort.AssemblyPlain
namespace Go.Proofs.Ytjpelnbffodaiaa
open Go.RowKit
set_option linter.unusedVariables false
set_option linter.unusedSimpArgs false

/-- All blocks but one are as they were. -/
structure Onl (g : Nat) (w w' : World) : Prop where
  os : w'.os = w.os
  tape : w'.tape = w.tape
  output : w'.output = w.output
  size : w'.heap.size = w.heap.size
  block : ∀ k, k ≠ g → w'.heap[k]? = w.heap[k]?
theorem Onl.refl (g : Nat) (w : World) : Onl g w w := ⟨rfl, rfl, rfl, rfl, fun _ _ => rfl⟩
theorem Onl.trans {g : Nat} {a b c : World} (h : Onl g a b) (k : Onl g b c) : Onl g a c :=
  ⟨k.os.trans h.os, k.tape.trans h.tape, k.output.trans h.output, k.size.trans h.size, fun i hi => (k.block i hi).trans (h.block i hi)⟩
theorem Onl.drewN (g : Nat) (w : World) (n : Nat) : Onl g w (w.drewN n) := ⟨rfl, rfl, rfl, rfl, fun _ _ => rfl⟩
theorem Onl.set (g i : Nat) (v : Value) (w : World) : Onl g w (w.setCell ⟨g, i, none⟩ v) :=
  ⟨rfl, rfl, rfl, by simp [World.setCell], fun k hk => heap_setCell_other w _ k v hk⟩
theorem Onl.below {g B : Nat} {a b : World} (h : Onl g a b) (hg : B ≤ g) : Below B a b :=
  ⟨h.os, h.tape, h.output, by rw [h.size]; exact Nat.le_refl _, fun i hi => h.block i (by omega)⟩

/-- The row that is sorted: its numbers, and what lies behind them. -/
def DT (w : World) (g : Nat) (tl : List Value) (d : Array Nat) : Prop := Blk w g 23 (cells32 d.toList ++ tl)
theorem DT.at {w : World} {g : Nat} {tl : List Value} {d : Array Nat} (h : DT w g tl d) (i : Nat) (hi : i < d.size) : w.cell? ⟨g, i, none⟩ = some (.int .u32 ((d[i]! : Nat) : Int)) := by
  have h9 := Blk.cell h i
  rw [h9, List.getElem?_append_left (by rw [cells32_length]; simpa using hi)]
  simp [cells32, hi]
theorem DT.fr {w : World} {g : Nat} {tl : List Value} {d : Array Nat} (h : DT w g tl d) (i : Nat) : w.frozen? ⟨g, i, none⟩ = false := Blk.frozen h i
theorem DT.drewN {w : World} {g : Nat} {tl : List Value} {d : Array Nat} (h : DT w g tl d) (n : Nat) : DT (w.drewN n) g tl d := h
theorem set32b (l : List Nat) (i x : Nat) : (cells32 l).set i (.int .u32 (x : Int)) = cells32 (l.set i x) := by
  unfold cells32
  rw [List.map_set]
theorem DT.set {w : World} {g : Nat} {tl : List Value} {d : Array Nat} (h : DT w g tl d) (i x : Nat) (hi : i < d.size) : DT (w.setCell ⟨g, i, none⟩ (.int .u32 (x : Int))) g tl (d.setIfInBounds i x) := by
  have h9 := Blk.set h i (.int .u32 (x : Int))
  rw [List.set_append_left _ _ (by rw [cells32_length]; simpa using hi), set32b] at h9
  unfold DT
  rw [Array.toList_setIfInBounds]
  exact h9
theorem swp_eq (d : Array Nat) (i j : Nat) : Sort.swp d i j = (d.setIfInBounds i d[j]!).setIfInBounds j d[i]! := rfl
theorem swp_size (d : Array Nat) (i j : Nat) : (Sort.swp d i j).size = d.size := by simp [Sort.swp]
/-- What a swap leaves. -/
theorem DT.swp {w : World} {g : Nat} {tl : List Value} {d : Array Nat} (h : DT w g tl d) (i j : Nat) (hi : i < d.size) (hj : j < d.size) :
    DT ((w.setCell ⟨g, i, none⟩ (.int .u32 ((d[j]! : Nat) : Int))).setCell ⟨g, j, none⟩ (.int .u32 ((d[i]! : Nat) : Int))) g tl (Sort.swp d i j) :=
  (h.set i _ hi).set j _ (by simpa using hj)

set_option maxRecDepth 100000 in
set_option maxHeartbeats 8000000 in
theorem reverseP (w : World) (g n c : Nat) (tl : List Value) (d : Array Nat) (a b : Nat) (h : DT w g tl d) (hn : d.size = n) (hab : a ≤ b) (hb0 : 0 < b) (hb : b ≤ n) (hn9 : n ≤ 1000000000) (hnc : n ≤ c) :
    Calls Try.prog 59 #[.slice (some ⟨g, 0, none⟩) n c, .int .i64 (a : Int), .int .i64 (b : Int)] w fun e w' => e = .returned (.tuple #[]) ∧ DT w' g tl (Sort.reverseRange d a b) ∧ Onl g w w' := by
  have HD := hidden h
  clear h
  go_enter Try.func59, Try.ntmps59
  go_wp2_with fail
  have hb1 : (b : Int) - 1 = ((b - 1 : Nat) : Int) := by omega
  go_loopw [6, 7] (fun s6 s7 wx => ∃ (i j : Nat) (e : Array Nat), s6 = .int .i64 (i : Int) ∧ s7 = .int .i64 (j : Int) ∧ a ≤ i ∧ j < n ∧ i ≤ j + 1 ∧ e.size = n ∧ Hid (DT wx g tl e) ∧ Hid (Onl g w wx) ∧ Hid (Sort.reverseLoop i j e = Sort.reverseRange d a b)) (fun s6 s7 _ => n + 1 + (intOf s7).toNat - (intOf s6).toNat)
  case atStart => exact ⟨a, b - 1, d, rfl, by rw [hb1], by omega, by omega, by omega, hn, HD, hidden (Onl.refl _ _), hidden rfl⟩
  case round =>
    rename World => wx
    obtain ⟨i, j, e, rfl, rfl, hai, hjn, hij, hen, hD, hO, hE⟩ := hrel
    by_cases hlt : i < j
    · have hlt' : (i : Int) < (j : Int) := by omega
      have c1 := hD.out.at i (by omega)
      have c2 := hD.out.at j (by omega)
      have f1 := hD.out.fr i
      have f2 := hD.out.fr j
      have HSW : Hid (DT ((wx.setCell ⟨g, i, none⟩ (.int .u32 ((e[j]! : Nat) : Int))).setCell ⟨g, j, none⟩ (.int .u32 ((e[i]! : Nat) : Int))).drew g tl (Sort.swp e i j) ∧ Onl g w ((wx.setCell ⟨g, i, none⟩ (.int .u32 ((e[j]! : Nat) : Int))).setCell ⟨g, j, none⟩ (.int .u32 ((e[i]! : Nat) : Int))).drew) :=
        hidden ⟨hD.out.swp i j (by omega) (by omega), (hO.out.trans ((Onl.set g i _ wx).trans (Onl.set g j _ _))).trans ⟨rfl, rfl, rfl, rfl, fun _ _ => rfl⟩⟩
      generalize e[i]! = x at *
      generalize e[j]! = y at *
      go_wp2_with fail
      go_region
      go_wp2_with fail
      refine ⟨⟨i + 1, j - 1, Sort.swp e i j, by first | rfl | simp, by rw [show ((j : Int) - 1) = ((j - 1 : Nat) : Int) by omega], by omega, by omega, by omega, by rw [swp_size]; exact hen, hidden HSW.out.1, hidden HSW.out.2, hidden ?_⟩, ?_⟩
      · have h9 := hE.out
        rw [Sort.reverseLoop, if_pos hlt] at h9
        exact h9
      · simp [intOf]
        omega
    · have hlt' : ¬ (i : Int) < (j : Int) := by omega
      go_wp2_with fail
      go_end0
      have h9 := hE.out
      rw [Sort.reverseLoop, if_neg hlt] at h9
      exact ⟨rfl, by rw [← h9]; exact hD.out, hO.out⟩
/-- The order of the numbers. -/
def ltN (x y : Nat) : Bool := decide (x < y)
theorem ltN_t {x y : Nat} (h : x < y) : ltN x y = true := by simp [ltN, h]
theorem ltN_f {x y : Nat} (h : ¬ x < y) : ltN x y = false := by simp only [ltN, h, decide_false]
theorem ltN_swo : Sort.SWO ltN := ⟨fun x => by simp [ltN], fun x y z => by simp [ltN]; omega, fun x y z => by simp [ltN]; omega⟩
theorem Onl.swp {g : Nat} {w wx : World} (h : Onl g w wx) (i j : Nat) (u v : Value) : Onl g w ((wx.setCell ⟨g, i, none⟩ u).setCell ⟨g, j, none⟩ v).drew :=
  (h.trans ((Onl.set g i _ wx).trans (Onl.set g j _ _))).trans ⟨rfl, rfl, rfl, rfl, fun _ _ => rfl⟩

end Go.Proofs.Ytjpelnbffodaiaa
