/-
  What FrameScans holds while it goes through the frames.
-/
import Derived.Test.YtiaopgphjailiaaScA
namespace Go.Proofs.Ytiaopgphjailiaa
open Go Go.RowKit
set_option linter.unusedVariables false

theorem Lst.zero {B : Nat} {w : World} {v : Value} {els : List El} (h : Lst B w v els) : Lst 0 w v els := by
  refine ⟨?_, fun x hx => ⟨(h.2 x hx).1, owns_zero (h.2 x hx).2⟩⟩
  rcases h.1.2 with h0 | ⟨g, cap, cur, h0, h1, h2⟩
  · exact ⟨h.1.1, .inl h0⟩
  · exact ⟨h.1.1, .inr ⟨g, cap, cur, h0, Nat.zero_le _, h2⟩⟩

/-- All but the counter (block Bi): the number (S), the answer (S + 1), the list's variable (Bw), the list, what the scan reads (bx and its row). -/
structure ScC (w : World) (S Bw Bi bx : Nat) (t : Nat) (v : Value) (els : List El) (ag : Option Addr) (len c : Nat) (l : List Int) (A : World) : Prop where
  s : Blk A S 3 [.int .i64 (t : Int)]
  r : Blk A (S + 1) 4 [.bool false]
  wb : Blk A Bw 40 [v]
  ls : Lst 0 A v els
  bxb : Blk A bx 22 [.slice ag len c]
  row : A.ownsRow 0 5 1 (.slice ag len c) len (cells8 l)
  bel : Below w.heap.size w A
  lo : w.heap.size ≤ S ∧ S + 1 < Bi ∧ Bw < Bi ∧ bx < Bi ∧ Bi < A.heap.size
  lov : ∀ g, v.ownBlock = some g → g < Bi
  lor : ∀ g, (Value.slice ag len c).ownBlock = some g → g < Bi
  loe : ∀ x ∈ els, ∀ g, x.2.1.ownBlock = some g → g < Bi

variable {w : World} {S Bw Bi bx t : Nat} {v : Value} {els : List El} {ag : Option Addr} {len c : Nat} {l : List Int} {A A' : World}
theorem ScC.chg {F : Nat → Prop} (h : ScC w S Bw Bi bx t v els ag len c l A) (hc : Chg F A A') (hF : ∀ g, F g → Bi ≤ g) : ScC w S Bw Bi bx t v els ag len c l A' := by
  obtain ⟨l1, l2, l3, l4, l5⟩ := h.lo
  have nF : ∀ g, g < Bi → ¬ F g := fun g hg hf => by have := hF g hf; omega
  refine ⟨hc.blk h.s (nF _ (by omega)), hc.blk h.r (nF _ l2), hc.blk h.wb (nF _ l3), ⟨hc.owns h.ls.1 (fun g hg => nF g (h.lov g hg)), fun x hx => (h.ls.2 x hx).chg hc (fun g hg => nF g (h.loe x hx g hg))⟩, hc.blk h.bxb (nF _ l4), hc.owns h.row (fun g hg => nF g (h.lor g hg)), ?_, ⟨l1, l2, l3, l4, Nat.lt_of_lt_of_le l5 hc.size⟩, h.lov, h.lor, h.loe⟩
  exact h.bel.trans (hc.below h.bel.size (fun g hg => by have := hF g hg; omega))
theorem ScC.lat (h : ScC w S Bw Bi bx t v els ag len c l A) (hb : Below A.heap.size A A') : ScC w S Bw Bi bx t v els ag len c l A' := h.chg (Chg.of_below (F := fun _ => False) hb) (fun _ h => h.elim)
theorem ScC.bk {B : Nat} (h : ScC w S Bw Bi bx t v els ag len c l A) (hk : Bk B A A') (hB : w.heap.size ≤ B) : ScC w S Bw Bi bx t v els ag len c l A' := by
  obtain ⟨l1, l2, l3, l4, l5⟩ := h.lo
  exact ⟨hk.blk h.s, hk.blk h.r, hk.blk h.wb, ⟨hk.owns h.ls.1, fun x hx => ⟨(h.ls.2 x hx).1, hk.owns (h.ls.2 x hx).2⟩⟩, hk.blk h.bxb, hk.owns h.row, Bk.below h.bel hk hB (Nat.le_refl _), ⟨l1, l2, l3, l4, Nat.lt_of_lt_of_le l5 hk.size⟩, h.lov, h.lor, h.loe⟩
theorem ScC.read {B : Nat} (h : ScC w S Bw Bi bx t v els ag len c l A) (hb : Byte l) (hB : B ≤ A.heap.size) : ReadE B bx ag len c l A := ⟨h.bxb.cell 0, sl_of_owns h.row hb, hB⟩
/-- The frames' list, at a place. -/
theorem ScC.at {aw : Option Addr} {m cw : Nat} (h : ScC w S Bw Bi bx t (.slice aw m cw) els ag len c l A) {i : Nat} {x : El} (hx : els[i]? = some x) : m = els.length ∧ ∃ gw, aw = some ⟨gw, 0, none⟩ ∧ A.cell? ⟨gw, i * 2, none⟩ = some (.int .u8 x.1) ∧ A.cell? ⟨gw, i * 2 + 1, none⟩ = some x.2.1 := by
  have hi : i < els.length := (List.getElem?_eq_some_iff.1 hx).1
  obtain ⟨f0, f1⟩ := flat_at els i x hx
  rcases h.ls.1.2 with ⟨_, h0⟩ | ⟨g, cap, cur, hv, h1, h2, h3, h4, h5, h6⟩
  · omega
  · simp only [Value.slice.injEq] at hv
    obtain ⟨rfl, rfl, rfl⟩ := hv
    refine ⟨rfl, g, rfl, ?_, ?_⟩
    · rw [cell_of_row A g _ _ 44 (0, 0) h2]
      rw [← h6] at f0
      rw [← f0, List.getElem?_take, if_pos (by omega)]
      simp
    · rw [cell_of_row A g _ _ 44 (0, 0) h2]
      rw [← h6] at f1
      rw [← f1, List.getElem?_take, if_pos (by omega)]
      simp

end Go.Proofs.Ytiaopgphjailiaa
