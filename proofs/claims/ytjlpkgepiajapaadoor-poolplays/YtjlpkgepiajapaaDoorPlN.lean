import Derived.Test.YtjlpkgepiajapaaDoorPlM
/-
  PoolShares: what its walk holds.
-/
namespace Go.Proofs.YtjlpkgepiajapaaDoor
open Go.RowKit
set_option linter.unusedVariables false
set_option linter.unusedSimpArgs false

/-- pick: a number from 0 on, below a bound. -/
theorem pickP (x k : Int) (hk : 0 < k) (hk2 : k ≤ 9223372036854775807) (hx : -9223372036854775808 ≤ x ∧ x ≤ 9223372036854775807) (w : World) :
    Calls Tryd.prog 10 #[.int .i64 x, .int .i64 k] w fun e w' => (∃ r : Nat, (r : Int) < k ∧ e = .returned (.int .i64 (r : Int))) ∧ w' = w := by
  have hk0 : ¬ k = 0 := by omega
  have hkn : ¬ k = -1 := by omega
  by_cases h : x < 0
  · have e : Int.tmod (-(x + 1)) k = (-(x + 1)) % k := Int.tmod_eq_emod_of_nonneg (by omega)
    have h1 := Int.emod_nonneg (-(x + 1)) hk0
    have h2 := Int.emod_lt_of_pos (-(x + 1)) hk
    obtain ⟨r, hr⟩ : ∃ r : Nat, (-(x + 1)).tmod k = (r : Int) := ⟨((-(x + 1)) % k).toNat, by omega⟩
    have HR : Hid ((r : Int) < k) := hidden (by omega)
    clear e h1 h2
    go_enter Tryd.func10, Tryd.ntmps10
    go_wp2_with fail
    go_ret
    exact ⟨⟨r, HR.out, by first | rfl | rw [hr]⟩, rfl⟩
  · have e : Int.tmod x k = x % k := Int.tmod_eq_emod_of_nonneg (by omega)
    have h1 := Int.emod_nonneg x hk0
    have h2 := Int.emod_lt_of_pos x hk
    obtain ⟨r, hr⟩ : ∃ r : Nat, x.tmod k = (r : Int) := ⟨(x % k).toNat, by omega⟩
    have HR : Hid ((r : Int) < k) := hidden (by omega)
    clear e h1 h2
    go_enter Tryd.func10, Tryd.ntmps10
    go_wp2_with fail
    go_ret
    exact ⟨⟨r, HR.out, by first | rfl | rw [hr]⟩, rfl⟩

/-- What the walk holds. -/
structure SI (w wx : World) (p hb ob wb n : Nat) (st : Sx) (V : Nat → Value) (H : Nat → List Int) (W : Nat → Int) : Prop where
  pb : PB w.heap.size wx p n st
  gv : Gv wx
  iv : Iv st n H W
  hv : Hv w.heap.size wx hb ob wb n V H W
  bel : Below w.heap.size w wx
theorem SI.later {w wx wy : World} {p hb ob wb n : Nat} {st : Sx} {V : Nat → Value} {H : Nat → List Int} {W : Nat → Int} (h : SI w wx p hb ob wb n st V H W) (b : Below wx.heap.size wx wy) : SI w wy p hb ob wb n st V H W :=
  ⟨h.pb.later b, h.gv.later b, h.iv, h.hv.later b, h.bel.trans (b.mono h.bel.size)⟩
theorem SI.lens {w wx : World} {p hb ob wb n : Nat} {st : Sx} {V : Nat → Value} {H : Nat → List Int} {W : Nat → Int} (h : SI w wx p hb ob wb n st V H W) : (H 0).length + (H 1).length + (H 2).length ≤ n := by
  rw [h.iv.sum]
  exact tkL_len st n
theorem SI.slice {w wx : World} {p hb ob wb n : Nat} {st : Sx} {V : Nat → Value} {H : Nat → List Int} {W : Nat → Int} (h : SI w wx p hb ob wb n st V H W) {o : Nat} (ho : o < 3) : ∃ ad c, V o = .slice ad (H o).length c ∧ ((H o).length ≠ 0 → ∃ g, ad = some ⟨g, 0, none⟩ ∧ ∀ j (x : Int), (H o)[j]? = some x → wx.cell? ⟨g, j, none⟩ = some (.int .i64 x)) := by
  rcases (h.hv.row o ho).2 with ⟨h0, h1⟩ | ⟨g, cap, cur, hv, hb, hh, hn, hc, hs, ht⟩
  · exact ⟨none, 0, by rw [h0, h1], fun hne => absurd h1 hne⟩
  · refine ⟨_, cap, hv, fun _ => ⟨g, rfl, fun j x hx => ?_⟩⟩
    have hj : j < (H o).length := (List.getElem?_eq_some_iff.1 hx).1
    simp only [Nat.mul_one] at ht
    have h2 : (cur.toList.take (H o).length)[j]? = some (.int .i64 x) := by rw [ht, List.getElem?_map, hx]; rfl
    rw [List.getElem?_take_of_lt hj, Array.getElem?_toList] at h2
    simp only [World.cell?, hh]
    simpa using h2

end Go.Proofs.YtjlpkgepiajapaaDoor

/-
  PoolShares: what came in; the start.
-/
namespace Go.Proofs.YtjlpkgepiajapaaDoor
open Go.RowKit
set_option linter.unusedVariables false
set_option linter.unusedSimpArgs false

structure Mi (w : World) (ad : Option Addr) (l : List Int) : Prop where
  at' : l ≠ [] → ∃ b off, ad = some ⟨b, off, none⟩ ∧ b < w.heap.size ∧ ∀ j x, l[j]? = some x → w.cell? ⟨b, off + j, none⟩ = some (.int .i64 x)
  ok : ∀ x ∈ l, -9223372036854775808 ≤ x ∧ x ≤ 9223372036854775807
theorem wrL_zero (n : Nat) : wrL n (fun _ => 0) = List.replicate n (.int .u8 0) := by
  apply List.ext_getElem?
  intro j
  unfold wrL
  by_cases h : j < n <;> simp [h]
theorem info22 : (Tryd.prog.info? 22).map (fun i => (i.zero, i.size, i.bytes)) = some (some (.slice none 0 0), 1, 24) := by kernel_rfl
theorem info5 : (Tryd.prog.info? 5).map (fun i => (i.zero, i.size, i.bytes)) = some (some (.int .u8 0), 1, 1) := by kernel_rfl
theorem info4 : (Tryd.prog.info? 4).map (fun i => (i.zero, i.size, i.bytes)) = some (some (.bool false), 1, 1) := by kernel_rfl
theorem PB.base {b b' : Nat} {w : World} {p n : Nat} {st : Sx} (h : PB b w p n st) (hb : b' ≤ b) (h0 : 0 < b') : PB b' w p n st := by
  obtain ⟨h1, h2, g, tb, ob, ow, h3, h4⟩ := h
  exact ⟨by omega, h0, g, tb, ob, ow, h3, fun i hi => by have := h4 i hi; omega⟩
/-- The start. -/
theorem SI.new {w w2 : World} {p n : Nat} (h : PB w.heap.size w2 p n t0) (hG : Gv w2) (b : Below w.heap.size w w2) :
    SI w (((w2.alloc (Obj.cells #[Value.string { data := #[] }, Value.string { data := #[97] }, Value.string { data := #[98] }] 9)).alloc (.cells (madeCells #[.slice none 0 0] 3) 22)).alloc (.cells (madeCells #[.int .u8 0] n) 5)) p (w2.heap.size + 1) w2.heap.size (w2.heap.size + 2) n t0 (fun _ => .slice none 0 0) (fun _ => []) (fun _ => 0) := by
  have e2 : madeCells #[Value.slice none 0 0] 3 = [Value.slice none 0 0, Value.slice none 0 0, Value.slice none 0 0].toArray := by
    rw [← Array.toList_inj, toList_madeCells_one]; rfl
  have e3 : madeCells #[Value.int .u8 0] n = (wrL n (fun _ => 0)).toArray := by
    rw [← Array.toList_inj, toList_madeCells_one, wrL_zero]
  rw [e2, e3]
  obtain ⟨wa, ha⟩ : ∃ wa, w2.alloc (Obj.cells #[Value.string { data := #[] }, Value.string { data := #[97] }, Value.string { data := #[98] }] 9) = wa := ⟨_, rfl⟩
  have A1 : Blk wa w2.heap.size 9 [.string (Own 0), .string (Own 1), .string (Own 2)] := by rw [← ha]; exact Blk.new w2 9 _
  have za : wa.heap.size = w2.heap.size + 1 := by rw [← ha]; simp
  have ba : Below w2.heap.size w2 wa := by rw [← ha]; exact (Below.refl _ _).alloc (Nat.le_refl _) _
  rw [ha]
  clear ha
  obtain ⟨wb, hwb⟩ : ∃ wb, wa.alloc (.cells [Value.slice none 0 0, Value.slice none 0 0, Value.slice none 0 0].toArray 22) = wb := ⟨_, rfl⟩
  have A2 : Blk wb wa.heap.size 22 [.slice none 0 0, .slice none 0 0, .slice none 0 0] := by rw [← hwb]; exact Blk.new wa 22 _
  have zb : wb.heap.size = wa.heap.size + 1 := by rw [← hwb]; simp
  have bb : Below wa.heap.size wa wb := by rw [← hwb]; exact (Below.refl _ _).alloc (Nat.le_refl _) _
  rw [hwb]
  clear hwb
  obtain ⟨wc, hwc⟩ : ∃ wc, wb.alloc (.cells (wrL n (fun _ => 0)).toArray 5) = wc := ⟨_, rfl⟩
  have A3 : Blk wc wb.heap.size 5 (wrL n (fun _ => 0)) := by rw [← hwc]; exact Blk.new wb 5 _
  have bc : Below wb.heap.size wb wc := by rw [← hwc]; exact (Below.refl _ _).alloc (Nat.le_refl _) _
  rw [hwc]
  clear hwc
  have b2c : Below w2.heap.size w2 wc := ba.trans ((bb.mono ba.size).trans (bc.mono (by omega)))
  have hz := b.size
  rw [zb, za] at A3
  rw [za] at A2
  refine ⟨h.later b2c, hG.later b2c, Iv.new n _, ⟨A2.later bc, (A1.later bb).later bc, A3, fun o _ => ⟨rfl, .inl ⟨rfl, rfl⟩⟩, fun a b _ _ _ g hg => (by cases hg), ⟨by omega, by omega, by omega⟩⟩, b.trans (b2c.mono hz)⟩

end Go.Proofs.YtjlpkgepiajapaaDoor
