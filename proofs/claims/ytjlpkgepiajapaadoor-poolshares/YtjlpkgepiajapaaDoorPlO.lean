/-
  PoolShares: what came in; the start.
-/
import Derived.Test.YtjlpkgepiajapaaDoorPlN
namespace Go.Proofs.YtjlpkgepiajapaaDoor
open Go.RowKit
set_option linter.unusedVariables false
set_option linter.unusedSimpArgs false

structure Mi (w : World) (ad : Option Addr) (l : List Int) : Prop where
  at' : l ≠ [] → ∃ b off, ad = some ⟨b, off, none⟩ ∧ b < w.heap.size ∧ ∀ j x, l[j]? = some x → w.cell? ⟨b, off + j, none⟩ = some (.int .i64 x)
  ok : ∀ x ∈ l, -9223372036854775808 ≤ x ∧ x ≤ 9223372036854775807
theorem wrL_zero (n : Nat) : wrL n (fun _ => 0) = List.replicate n (.int .u8 0) := by
  apply List.ext_getElem?
  intro j
  unfold wrL
  by_cases h : j < n <;> simp [h]
theorem info22 : (Tryd.prog.info? 22).map (fun i => (i.zero, i.size, i.bytes)) = some (some (.slice none 0 0), 1, 24) := by kernel_rfl
theorem info5 : (Tryd.prog.info? 5).map (fun i => (i.zero, i.size, i.bytes)) = some (some (.int .u8 0), 1, 1) := by kernel_rfl
theorem info4 : (Tryd.prog.info? 4).map (fun i => (i.zero, i.size, i.bytes)) = some (some (.bool false), 1, 1) := by kernel_rfl
theorem PB.base {b b' : Nat} {w : World} {p n : Nat} {st : Sx} (h : PB b w p n st) (hb : b' ≤ b) (h0 : 0 < b') : PB b' w p n st := by
  obtain ⟨h1, h2, g, tb, ob, ow, h3, h4⟩ := h
  exact ⟨by omega, h0, g, tb, ob, ow, h3, fun i hi => by have := h4 i hi; omega⟩
/-- The start. -/
theorem SI.new {w w2 : World} {p n : Nat} (h : PB w.heap.size w2 p n t0) (hG : Gv w2) (b : Below w.heap.size w w2) :
    SI w (((w2.alloc (Obj.cells #[Value.string { data := #[] }, Value.string { data := #[97] }, Value.string { data := #[98] }] 9)).alloc (.cells (madeCells #[.slice none 0 0] 3) 22)).alloc (.cells (madeCells #[.int .u8 0] n) 5)) p (w2.heap.size + 1) w2.heap.size (w2.heap.size + 2) n t0 (fun _ => .slice none 0 0) (fun _ => []) (fun _ => 0) := by
  have e2 : madeCells #[Value.slice none 0 0] 3 = [Value.slice none 0 0, Value.slice none 0 0, Value.slice none 0 0].toArray := by
    rw [← Array.toList_inj, toList_madeCells_one]; rfl
  have e3 : madeCells #[Value.int .u8 0] n = (wrL n (fun _ => 0)).toArray := by
    rw [← Array.toList_inj, toList_madeCells_one, wrL_zero]
  rw [e2, e3]
  obtain ⟨wa, ha⟩ : ∃ wa, w2.alloc (Obj.cells #[Value.string { data := #[] }, Value.string { data := #[97] }, Value.string { data := #[98] }] 9) = wa := ⟨_, rfl⟩
  have A1 : Blk wa w2.heap.size 9 [.string (Own 0), .string (Own 1), .string (Own 2)] := by rw [← ha]; exact Blk.new w2 9 _
  have za : wa.heap.size = w2.heap.size + 1 := by rw [← ha]; simp
  have ba : Below w2.heap.size w2 wa := by rw [← ha]; exact (Below.refl _ _).alloc (Nat.le_refl _) _
  rw [ha]
  clear ha
  obtain ⟨wb, hwb⟩ : ∃ wb, wa.alloc (.cells [Value.slice none 0 0, Value.slice none 0 0, Value.slice none 0 0].toArray 22) = wb := ⟨_, rfl⟩
  have A2 : Blk wb wa.heap.size 22 [.slice none 0 0, .slice none 0 0, .slice none 0 0] := by rw [← hwb]; exact Blk.new wa 22 _
  have zb : wb.heap.size = wa.heap.size + 1 := by rw [← hwb]; simp
  have bb : Below wa.heap.size wa wb := by rw [← hwb]; exact (Below.refl _ _).alloc (Nat.le_refl _) _
  rw [hwb]
  clear hwb
  obtain ⟨wc, hwc⟩ : ∃ wc, wb.alloc (.cells (wrL n (fun _ => 0)).toArray 5) = wc := ⟨_, rfl⟩
  have A3 : Blk wc wb.heap.size 5 (wrL n (fun _ => 0)) := by rw [← hwc]; exact Blk.new wb 5 _
  have bc : Below wb.heap.size wb wc := by rw [← hwc]; exact (Below.refl _ _).alloc (Nat.le_refl _) _
  rw [hwc]
  clear hwc
  have b2c : Below w2.heap.size w2 wc := ba.trans ((bb.mono ba.size).trans (bc.mono (by omega)))
  have hz := b.size
  rw [zb, za] at A3
  rw [za] at A2
  refine ⟨h.later b2c, hG.later b2c, Iv.new n _, ⟨A2.later bc, (A1.later bb).later bc, A3, fun o _ => ⟨rfl, .inl ⟨rfl, rfl⟩⟩, fun a b _ _ _ g hg => (by cases hg), ⟨by omega, by omega, by omega⟩⟩, b.trans (b2c.mono hz)⟩

end Go.Proofs.YtjlpkgepiajapaaDoor
