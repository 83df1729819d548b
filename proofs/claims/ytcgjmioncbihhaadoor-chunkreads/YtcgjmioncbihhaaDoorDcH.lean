/-
  The statements' own tells.
-/
import Derived.Test.YtcgjmioncbihhaaDoorDcG
namespace Go.Proofs.YtcgjmioncbihhaaDoor
open Go.RowKit
set_option linter.unusedVariables false
set_option linter.unusedSimpArgs false

theorem own_at {w : World} {base g n c : Nat} {R : List Int} (h : w.ownsRow base 5 1 (.slice (some ⟨g, 0, none⟩) n c) n (cells8 R)) (j : Nat) (hj : j < R.length) : w.cell? ⟨g, j, none⟩ = some (.int .u8 (R.getD j 0)) ∧ w.frozen? ⟨g, j, none⟩ = false := by
  have h1 := h.cells rfl j (.int .u8 (R.getD j 0)) (by simp [cells8, List.getD, hj])
  rw [Addr.add_lit, Nat.zero_add] at h1
  refine ⟨h1, ?_⟩
  rcases h.2 with ⟨e, _⟩ | ⟨g', cap, cur, e, _, hh, _⟩
  · cases e
  · injection e with e
    injection e with e
    injection e with e
    subst e
    exact frozen_of_row w g _ _ 5 hh
theorem over_next {B : List Int} {i : Nat} {u : Int} (hi : i < B.length) : (ones i u ++ B.drop i).set i u = ones (i + 1) u ++ B.drop (i + 1) := by
  unfold ones
  rw [List.set_append_right _ _ (by simp), List.length_replicate, Nat.sub_self, List.drop_eq_getElem_cons hi, List.set_cons_zero, List.replicate_succ', List.append_assoc]
  rfl
theorem over_byte {B : List Int} {i : Nat} {u : Int} (hB : Byte B) (hu : 0 ≤ u ∧ u ≤ 255) : Byte (ones i u ++ B.drop i) := by
  intro z hz
  rcases List.mem_append.1 hz with hz | hz
  · rw [(List.mem_replicate.1 hz).2]; exact hu
  · exact hB z (List.mem_of_mem_drop hz)
theorem own_some {w : World} {base n c : Nat} {ad : Option Addr} {xs : List Value} (h : w.ownsRow base 5 1 (.slice ad n c) n xs) (hn : 0 < n) : ∃ g, ad = some ⟨g, 0, none⟩ := by
  rcases h.2 with ⟨_, e⟩ | ⟨g, cap, cur, e, _⟩
  · omega
  · injection e with e; exact ⟨g, e⟩

/-- What is held while the rows are written over: a, b; their blocks are apart and new. -/
structure TW (w wx : World) (ad1 ad2 : Option Addr) (n c1 c2 : Nat) (R1 R2 : List Int) : Prop where
  a : wx.ownsRow w.heap.size 5 1 (.slice ad1 n c1) n (cells8 R1)
  b : wx.ownsRow w.heap.size 5 1 (.slice ad2 n c2) n (cells8 R2)
  ne : ∀ g, (Value.slice ad1 n c1).ownBlock = some g → ¬ (Value.slice ad2 n c2).ownBlock = some g
  bel : Below w.heap.size w wx
theorem TW.la {w wx : World} {ad1 ad2 : Option Addr} {n c1 c2 : Nat} {R1 R2 : List Int} (h : TW w wx ad1 ad2 n c1 c2 R1 R2) : R1.length = n := by have := h.a.1; rw [cells8_length] at this; omega
theorem TW.lb {w wx : World} {ad1 ad2 : Option Addr} {n c1 c2 : Nat} {R1 R2 : List Int} (h : TW w wx ad1 ad2 n c1 c2 R1 R2) : R2.length = n := by have := h.b.1; rw [cells8_length] at this; omega
theorem TW.seta {w wx : World} {g : Nat} {ad2 : Option Addr} {n c1 c2 : Nat} {R1 R2 : List Int} (h : TW w wx (some ⟨g, 0, none⟩) ad2 n c1 c2 R1 R2) (i : Nat) (u : Int) (hi : i < n) : TW w (wx.setCell ⟨g, i, none⟩ (.int .u8 u)) (some ⟨g, 0, none⟩) ad2 n c1 c2 (R1.set i u) R2 := by
  have hc := chg_set wx g i (.int .u8 u)
  refine ⟨owns_set h.a i u (by rw [h.la]; exact hi), hc.owns h.b (fun q hq e => ?_), h.ne, h.bel.trans (hc.below h.bel.size (fun q hq => by subst hq; exact (h.a.lt q rfl).1))⟩
  subst e
  exact h.ne q rfl hq
theorem TW.setb {w wx : World} {g : Nat} {ad1 : Option Addr} {n c1 c2 : Nat} {R1 R2 : List Int} (h : TW w wx ad1 (some ⟨g, 0, none⟩) n c1 c2 R1 R2) (i : Nat) (u : Int) (hi : i < n) : TW w (wx.setCell ⟨g, i, none⟩ (.int .u8 u)) ad1 (some ⟨g, 0, none⟩) n c1 c2 R1 (R2.set i u) := by
  have hc := chg_set wx g i (.int .u8 u)
  refine ⟨hc.owns h.a (fun q hq e => ?_), owns_set h.b i u (by rw [h.lb]; exact hi), h.ne, h.bel.trans (hc.below h.bel.size (fun q hq => by subst hq; exact (h.b.lt q rfl).1))⟩
  subst e
  exact h.ne q hq rfl

/-- What is held while they grow: x behind a, y behind b. -/
structure TG (w wx : World) (ad1 ad2 : Option Addr) (n : Nat) (v1 v2 : Value) (k1 k2 : Nat) : Prop where
  a : Sl wx ad1 n (ones n 1)
  b : Sl wx ad2 n (ones n 2)
  x : wx.ownsRow w.heap.size 5 1 v1 (n + k1) (cells8 (ones (n + k1) 1))
  y : wx.ownsRow w.heap.size 5 1 v2 (n + k2) (cells8 (ones (n + k2) 2))
  xy : ∀ g, v1.ownBlock = some g → ¬ v2.ownBlock = some g
  xb : ∀ g, v1.ownBlock = some g → ∀ z, ad2 = some z → z.block ≠ g
  ya : ∀ g, v2.ownBlock = some g → ∀ z, ad1 = some z → z.block ≠ g
  bel : Below w.heap.size w wx
theorem TG.pushx {w wx w' : World} {ad1 ad2 : Option Addr} {n k1 k2 g' c' : Nat} {v1 v2 : Value} {o : Obj} (h : TG w wx ad1 ad2 n v1 v2 k1 k2) (hoff : ∀ z, ad1 = some z → z.off = 0 ∧ z.spot = none) (hl2 : ∀ z, ad2 = some z → z.block < wx.heap.size)
    (ho : w'.ownsRow w.heap.size 5 1 (.slice (some ⟨g', 0, none⟩) (n + k1 + 1) c') (n + k1 + 1) (cells8 (ones (n + k1) 1) ++ [.int .u8 1])) (hp : Pushed (wx.alloc o) w' v1 g') : TG w w' ad1 ad2 n (.slice (some ⟨g', 0, none⟩) (n + k1 + 1) c') v2 (k1 + 1) k2 := by
  rw [ones_next] at ho
  have hr := hp.rest
  have hm := hp.chg.2
  have hy : ∀ g, v2.ownBlock = some g → g < wx.heap.size := fun g hg => (h.y.lt g hg).2
  have hg2 : ∀ g, v2.ownBlock = some g → ¬ g = g' := by
    intro g hg e
    subst e
    rcases hm with e2 | ⟨q, e2, hq⟩
    · exact h.xy g e2.symm hg
    · injection e2 with e2
      have := hy g hg
      omega
  have hgb : ∀ z, ad2 = some z → z.block ≠ g' := by
    intro z hz e
    rcases hm with e2 | ⟨q, e2, hq⟩
    · exact h.xb g' e2.symm z hz e
    · injection e2 with e2
      have := hl2 z hz
      omega
  refine ⟨sl_push h.a hoff (by omega) ho hp, hr.sl h.b (fun z hz _ e => hgb z hz e), ho, hr.owns h.y hg2, ?_, ?_, h.ya, h.bel.trans ?_⟩
  · intro g hg
    simp [Value.ownBlock] at hg
    subst hg
    intro e
    exact hg2 g' e rfl
  · intro g hg z hz
    simp [Value.ownBlock] at hg
    subst hg
    exact hgb z hz
  · exact hp.chg.1.below h.bel.size (fun q hq => (h.x.lt q hq).1)
theorem TG.pushy {w wx w' : World} {ad1 ad2 : Option Addr} {n k1 k2 g' c' : Nat} {v1 v2 : Value} {o : Obj} (h : TG w wx ad1 ad2 n v1 v2 k1 k2) (hoff : ∀ z, ad2 = some z → z.off = 0 ∧ z.spot = none) (hl1 : ∀ z, ad1 = some z → z.block < wx.heap.size)
    (ho : w'.ownsRow w.heap.size 5 1 (.slice (some ⟨g', 0, none⟩) (n + k2 + 1) c') (n + k2 + 1) (cells8 (ones (n + k2) 2) ++ [.int .u8 2])) (hp : Pushed (wx.alloc o) w' v2 g') : TG w w' ad1 ad2 n v1 (.slice (some ⟨g', 0, none⟩) (n + k2 + 1) c') k1 (k2 + 1) := by
  rw [ones_next] at ho
  have hr := hp.rest
  have hm := hp.chg.2
  have hy : ∀ g, v1.ownBlock = some g → g < wx.heap.size := fun g hg => (h.x.lt g hg).2
  have hg2 : ∀ g, v1.ownBlock = some g → ¬ g = g' := by
    intro g hg e
    subst e
    rcases hm with e2 | ⟨q, e2, hq⟩
    · exact h.xy g hg e2.symm
    · injection e2 with e2
      have := hy g hg
      omega
  have hgb : ∀ z, ad1 = some z → z.block ≠ g' := by
    intro z hz e
    rcases hm with e2 | ⟨q, e2, hq⟩
    · exact h.ya g' e2.symm z hz e
    · injection e2 with e2
      have := hl1 z hz
      omega
  refine ⟨hr.sl h.a (fun z hz _ e => hgb z hz e), sl_push h.b hoff (by omega) ho hp, hr.owns h.x hg2, ho, ?_, h.xb, ?_, h.bel.trans ?_⟩
  · intro g hg e
    simp [Value.ownBlock] at e
    exact hg2 g hg e.symm
  · intro g hg z hz
    simp [Value.ownBlock] at hg
    subst hg
    exact hgb z hz
  · exact hp.chg.1.below h.bel.size (fun q hq => (h.y.lt q hq).1)

end Go.Proofs.YtcgjmioncbihhaaDoor
