/-
  PoolShares: what its walk holds.
-/
import Derived.Test.YtjlpkgepiajapaaDoorPlM
namespace Go.Proofs.YtjlpkgepiajapaaDoor
open Go.RowKit
set_option linter.unusedVariables false
set_option linter.unusedSimpArgs false

/-- pick: a number from 0 on, below a bound. -/
theorem pickP (x k : Int) (hk : 0 < k) (hk2 : k ≤ 9223372036854775807) (hx : -9223372036854775808 ≤ x ∧ x ≤ 9223372036854775807) (w : World) :
    Calls Tryd.prog 10 #[.int .i64 x, .int .i64 k] w fun e w' => (∃ r : Nat, (r : Int) < k ∧ e = .returned (.int .i64 (r : Int))) ∧ w' = w := by
  have hk0 : ¬ k = 0 := by omega
  have hkn : ¬ k = -1 := by omega
  by_cases h : x < 0
  · have e : Int.tmod (-(x + 1)) k = (-(x + 1)) % k := Int.tmod_eq_emod_of_nonneg (by omega)
    have h1 := Int.emod_nonneg (-(x + 1)) hk0
    have h2 := Int.emod_lt_of_pos (-(x + 1)) hk
    obtain ⟨r, hr⟩ : ∃ r : Nat, (-(x + 1)).tmod k = (r : Int) := ⟨((-(x + 1)) % k).toNat, by omega⟩
    have HR : Hid ((r : Int) < k) := hidden (by omega)
    clear e h1 h2
    go_enter Tryd.func10, Tryd.ntmps10
    go_wp2_with fail
    go_ret
    exact ⟨⟨r, HR.out, by first | rfl | rw [hr]⟩, rfl⟩
  · have e : Int.tmod x k = x % k := Int.tmod_eq_emod_of_nonneg (by omega)
    have h1 := Int.emod_nonneg x hk0
    have h2 := Int.emod_lt_of_pos x hk
    obtain ⟨r, hr⟩ : ∃ r : Nat, x.tmod k = (r : Int) := ⟨(x % k).toNat, by omega⟩
    have HR : Hid ((r : Int) < k) := hidden (by omega)
    clear e h1 h2
    go_enter Tryd.func10, Tryd.ntmps10
    go_wp2_with fail
    go_ret
    exact ⟨⟨r, HR.out, by first | rfl | rw [hr]⟩, rfl⟩

/-- What the walk holds. -/
structure SI (w wx : World) (p hb ob wb n : Nat) (st : Sx) (V : Nat → Value) (H : Nat → List Int) (W : Nat → Int) : Prop where
  pb : PB w.heap.size wx p n st
  gv : Gv wx
  iv : Iv st n H W
  hv : Hv w.heap.size wx hb ob wb n V H W
  bel : Below w.heap.size w wx
theorem SI.later {w wx wy : World} {p hb ob wb n : Nat} {st : Sx} {V : Nat → Value} {H : Nat → List Int} {W : Nat → Int} (h : SI w wx p hb ob wb n st V H W) (b : Below wx.heap.size wx wy) : SI w wy p hb ob wb n st V H W :=
  ⟨h.pb.later b, h.gv.later b, h.iv, h.hv.later b, h.bel.trans (b.mono h.bel.size)⟩
theorem SI.lens {w wx : World} {p hb ob wb n : Nat} {st : Sx} {V : Nat → Value} {H : Nat → List Int} {W : Nat → Int} (h : SI w wx p hb ob wb n st V H W) : (H 0).length + (H 1).length + (H 2).length ≤ n := by
  rw [h.iv.sum]
  exact tkL_len st n
theorem SI.slice {w wx : World} {p hb ob wb n : Nat} {st : Sx} {V : Nat → Value} {H : Nat → List Int} {W : Nat → Int} (h : SI w wx p hb ob wb n st V H W) {o : Nat} (ho : o < 3) : ∃ ad c, V o = .slice ad (H o).length c ∧ ((H o).length ≠ 0 → ∃ g, ad = some ⟨g, 0, none⟩ ∧ ∀ j (x : Int), (H o)[j]? = some x → wx.cell? ⟨g, j, none⟩ = some (.int .i64 x)) := by
  rcases (h.hv.row o ho).2 with ⟨h0, h1⟩ | ⟨g, cap, cur, hv, hb, hh, hn, hc, hs, ht⟩
  · exact ⟨none, 0, by rw [h0, h1], fun hne => absurd h1 hne⟩
  · refine ⟨_, cap, hv, fun _ => ⟨g, rfl, fun j x hx => ?_⟩⟩
    have hj : j < (H o).length := (List.getElem?_eq_some_iff.1 hx).1
    simp only [Nat.mul_one] at ht
    have h2 : (cur.toList.take (H o).length)[j]? = some (.int .i64 x) := by rw [ht, List.getElem?_map, hx]; rfl
    rw [List.getElem?_take_of_lt hj, Array.getElem?_toList] at h2
    simp only [World.cell?, hh]
    simpa using h2

end Go.Proofs.YtjlpkgepiajapaaDoor
