/-
  Lists that are grown: what is read stays, while others are written. Nothing of the program.
-/
import Derived.Test.YtfhhcpcedfgceaaFillM
namespace Go.Proofs.Ytfhhcpcedfgceaa
open Go.RowKit
set_option linter.unusedVariables false

theorem sl_grown {w w' : World} {ad : Option Addr} {n c : Nat} {l : List Int} {row : Option Nat} (h : Sl w ad n l) (hg : w.grownBy w' row) (hne : ∀ x, (Value.slice ad n c).ownBlock = some x → row ≠ some x) : Sl w' ad n l := by
  refine ⟨h.len, h.byte, fun j hj => ?_⟩
  obtain ⟨x, hx, hc⟩ := h.cell j hj
  refine ⟨x, hx, ?_⟩
  have hb : (x.add j).block = x.block := add_block x j
  refine hg.cell hc ?_
  rw [hb]
  intro e
  exact hne x.block (by rw [hx]; rfl) e.symm

/-- The state while one list is grown: w: ahead of it; v0: the list; ws: now; v1: what it has become. -/
structure Gr (w : World) (ad : Option Addr) (n c : Nat) (x : Int) (ws : World) (ad1 : Option Addr) (t c1 : Nat) : Prop where
  grown : w.grownBy ws (Value.slice ad n c).ownBlock
  own : ws.ownsRow 0 5 1 (.slice ad1 (n + t) c1) (n + t) (cells8 (List.replicate (n + t) x))
  blk : ∀ b, (Value.slice ad1 (n + t) c1).ownBlock = some b → (Value.slice ad n c).ownBlock = some b ∨ w.heap.size ≤ b
  read : Sl ws ad n (List.replicate n x)

theorem Gr.push {w ws w' : World} {ad ad1 : Option Addr} {n c t c1 g' c' : Nat} {x : Int} {o : Obj} (h : Gr w ad n c x ws ad1 t c1) (hx : 0 ≤ x ∧ x ≤ 255) (hh : ∀ y, ad = some y → y.off = 0 ∧ y.spot = none)
    (ho : w'.ownsRow 0 5 1 (.slice (some ⟨g', 0, none⟩) (n + t + 1) c') (n + t + 1) (cells8 (List.replicate (n + t) x) ++ [.int .u8 x])) (hp : Pushed (ws.alloc o) w' (.slice ad1 (n + t) c1) g') : Gr w ad n c x w' (some ⟨g', 0, none⟩) (t + 1) c' := by
  have hga : w.grownBy (ws.alloc o) (Value.slice ad n c).ownBlock := by
    have h1 := h.grown
    have h2 := World.grownBy_alloc ws o (Value.slice ad n c).ownBlock
    exact ⟨h2.os.trans h1.os, h2.tape.trans h1.tape, h2.output.trans h1.output, Nat.le_trans h1.size h2.size, fun i hi hr => (h2.block i (Nat.lt_of_lt_of_le hi h1.size) hr).trans (h1.block i hi hr)⟩
  have hrd : Sl (ws.alloc o) ad n (List.replicate n x) := sl_grown (c := c) h.read (World.grownBy_alloc ws o none) (fun _ _ e => by cases e)
  have hsz : w.heap.size ≤ (ws.alloc o).heap.size := hga.size
  have ho' : w'.ownsRow 0 5 1 (.slice (some ⟨g', 0, none⟩) (n + (t + 1)) c') (n + (t + 1)) (cells8 (List.replicate (n + (t + 1)) x)) := by
    have e : cells8 (List.replicate (n + t) x) ++ [Value.int .u8 x] = cells8 (List.replicate (n + (t + 1)) x) := by
      rw [show n + (t + 1) = n + t + 1 by omega, List.replicate_succ', cells8_append]; rfl
    rw [e] at ho
    exact ho
  rcases hp with ⟨hv, hg⟩ | ⟨hge, hg⟩
  · refine ⟨⟨hg.os.trans hga.os, hg.tape.trans hga.tape, hg.output.trans hga.output, Nat.le_trans hga.size hg.size, fun i hi hr => ?_⟩, ho', fun b hb => ?_, ?_⟩
    · rw [hg.block i (by omega) (fun e => ?_)]
      · exact hga.block i hi hr
      · obtain rfl := Option.some.inj e
        rcases h.blk _ hv with h1 | h1
        · exact hr h1.symm
        · omega
    · simp [Value.ownBlock] at hb
      subst hb
      exact h.blk _ hv
    · by_cases hb : (Value.slice ad n c).ownBlock = some g'
      · refine ⟨by simp, fun y hy => by have := List.eq_of_mem_replicate hy; omega, fun j hj => ?_⟩
        obtain ⟨y, hy, hcell⟩ := h.read.cell j hj
        refine ⟨y, hy, ?_⟩
        obtain ⟨h0, hs0⟩ := hh y hy
        obtain ⟨yb, yo, ys⟩ := y
        simp only at h0 hs0
        subst h0; subst hs0
        rw [hy] at hb
        simp [Value.ownBlock] at hb
        subst hb
        rw [Addr.add_lit, ho'.cellAt (0 + j) (by omega)]
        simp [cells8, List.getD, hj, show j < n + (t + 1) by omega]
      · refine sl_grown (c := c) hrd hg (fun b hb2 e => ?_)
        obtain rfl := Option.some.inj e
        exact hb hb2
  · refine ⟨⟨hg.os.trans hga.os, hg.tape.trans hga.tape, hg.output.trans hga.output, Nat.le_trans hga.size hg.size, fun i hi hr => ?_⟩, ho', fun b hb => ?_, sl_grown (c := c) hrd hg (fun _ _ e => by cases e)⟩
    · rw [hg.block i (by omega) (by simp)]
      exact hga.block i hi hr
    · simp [Value.ownBlock] at hb
      subst hb
      exact .inr (by omega)

end Go.Proofs.Ytfhhcpcedfgceaa
