/-
  Parts of a pattern in memory: their blocks lie in F.
-/
import Derived.Test.YtndegcgcbhcokaaPtJ
namespace Go.Proofs.Ytndegcgcbhcokaa
open Go.RowKit
set_option linter.unusedVariables false
set_option linter.unusedSimpArgs false

mutual
/-- A part, as a value. -/
def PtV (F : Nat → Prop) (w : World) : Pt → Value → Prop
  | .chr c, v => v = .iface 95 (.int .i32 (c : Int)) ∧ c ≤ 1114111
  | .any, v => v = .iface 97 (.agg #[])
  | .cls neg l, v => ClV F w v neg l
  | .grp l, v => ∃ ad c b off, v = .iface 74 (.agg #[.slice ad l.length c]) ∧ (l ≠ [] → ad = some ⟨b, off, none⟩ ∧ F b) ∧ RowsV F w l b off
  | .rep a s, v => ∃ u, v = .iface 76 (.agg #[u, .int .u8 (s : Int)]) ∧ PtV F w a u
/-- Items from a place on. -/
def RowV (F : Nat → Prop) (w : World) : List Pt → Nat → Nat → Prop
  | [], _, _ => True
  | p :: t, b, off => (∃ v, w.cell? ⟨b, off, none⟩ = some v ∧ PtV F w p v) ∧ RowV F w t b (off + 1)
/-- Rows from a place on. -/
def RowsV (F : Nat → Prop) (w : World) : List (List Pt) → Nat → Nat → Prop
  | [], _, _ => True
  | r :: t, b, off => (∃ ad c b' off', w.cell? ⟨b, off, none⟩ = some (.slice ad r.length c) ∧ (r ≠ [] → ad = some ⟨b', off', none⟩ ∧ F b') ∧ RowV F w r b' off') ∧ RowsV F w t b (off + 1)
end

theorem ClV.keep {F G : Nat → Prop} {w w' : World} {v : Value} {neg : Bool} {l : Sn} (h : ClV F w v neg l) (hc : Chg G w w') (hd : ∀ b, F b → ¬ G b) : ClV F w' v neg l := by
  obtain ⟨ad, c, e, hs, hb, hf⟩ := h
  refine ⟨ad, c, e, ⟨hs.sz, fun h0 => ?_⟩, hb, hf⟩
  obtain ⟨b, off, e1, hlt, hcell⟩ := hs.at' h0
  have hbk := hc.block b hlt (hd b (hf _ h0 e1))
  refine ⟨b, off, e1, Nat.lt_of_lt_of_le hlt hc.size, fun k x hx => ?_⟩
  rw [show w'.cell? ⟨b, off + k * 2, none⟩ = w.cell? ⟨b, off + k * 2, none⟩ from World.cell?_of_block hbk, show w'.cell? ⟨b, off + k * 2 + 1, none⟩ = w.cell? ⟨b, off + k * 2 + 1, none⟩ from World.cell?_of_block hbk]
  exact hcell k x hx
theorem ClV.mono {F G : Nat → Prop} {w : World} {v : Value} {neg : Bool} {l : Sn} (h : ClV F w v neg l) (hFG : ∀ b, F b → G b) : ClV G w v neg l := by
  obtain ⟨ad, c, e, hs, hb, hf⟩ := h
  exact ⟨ad, c, e, hs, hb, fun y h0 e => hFG _ (hf y h0 e)⟩
theorem cell_lt {w : World} {b off : Nat} {v : Value} (h : w.cell? ⟨b, off, none⟩ = some v) : b < w.heap.size := by
  rcases Nat.lt_or_ge b w.heap.size with h' | h'
  · exact h'
  · simp [World.cell?, Array.getElem?_eq_none h'] at h

mutual
/-- Parts stay while other blocks change. -/
theorem PtV.keep {F G : Nat → Prop} {w w' : World} (hc : Chg G w w') (hd : ∀ b, F b → ¬ G b) : ∀ (p : Pt) (v : Value), PtV F w p v → PtV F w' p v
  | .chr c, v, h => by simp only [PtV] at h ⊢; exact h
  | .any, v, h => by simp only [PtV] at h ⊢; exact h
  | .cls neg l, v, h => by simp only [PtV] at h ⊢; exact h.keep hc hd
  | .grp l, v, h => by
    simp only [PtV] at h ⊢
    obtain ⟨ad, c, b, off, e, h1, h2⟩ := h
    refine ⟨ad, c, b, off, e, h1, RowsV.keep hc hd l b off (fun h0 => (h1 h0).2) h2⟩
  | .rep a s, v, h => by
    simp only [PtV] at h ⊢
    obtain ⟨u, e, h1⟩ := h
    exact ⟨u, e, PtV.keep hc hd a u h1⟩
theorem RowV.keep {F G : Nat → Prop} {w w' : World} (hc : Chg G w w') (hd : ∀ b, F b → ¬ G b) : ∀ (l : List Pt) (b off : Nat), (l ≠ [] → F b) → RowV F w l b off → RowV F w' l b off
  | [], b, off, _, h => by simp only [RowV]
  | p :: t, b, off, hF, h => by
    simp only [RowV] at h ⊢
    obtain ⟨⟨v, h1, h2⟩, h3⟩ := h
    have hFb := hF (by simp)
    refine ⟨⟨v, ?_, PtV.keep hc hd p v h2⟩, RowV.keep hc hd t b (off + 1) (fun _ => hFb) h3⟩
    rw [show w'.cell? ⟨b, off, none⟩ = w.cell? ⟨b, off, none⟩ from World.cell?_of_block (hc.block b (cell_lt h1) (hd b hFb))]
    exact h1
theorem RowsV.keep {F G : Nat → Prop} {w w' : World} (hc : Chg G w w') (hd : ∀ b, F b → ¬ G b) : ∀ (l : List (List Pt)) (b off : Nat), (l ≠ [] → F b) → RowsV F w l b off → RowsV F w' l b off
  | [], b, off, _, h => by simp only [RowsV]
  | r :: t, b, off, hF, h => by
    simp only [RowsV] at h ⊢
    obtain ⟨⟨ad, c, b', off', h1, h2, h3⟩, h4⟩ := h
    have hFb := hF (by simp)
    refine ⟨⟨ad, c, b', off', ?_, h2, RowV.keep hc hd r b' off' (fun h0 => (h2 h0).2) h3⟩, RowsV.keep hc hd t b (off + 1) (fun _ => hFb) h4⟩
    rw [show w'.cell? ⟨b, off, none⟩ = w.cell? ⟨b, off, none⟩ from World.cell?_of_block (hc.block b (cell_lt h1) (hd b hFb))]
    exact h1
end
mutual
theorem PtV.mono {F G : Nat → Prop} {w : World} (hFG : ∀ b, F b → G b) : ∀ (p : Pt) (v : Value), PtV F w p v → PtV G w p v
  | .chr c, v, h => by simp only [PtV] at h ⊢; exact h
  | .any, v, h => by simp only [PtV] at h ⊢; exact h
  | .cls neg l, v, h => by simp only [PtV] at h ⊢; exact h.mono hFG
  | .grp l, v, h => by
    simp only [PtV] at h ⊢
    obtain ⟨ad, c, b, off, e, h1, h2⟩ := h
    exact ⟨ad, c, b, off, e, fun h0 => ⟨(h1 h0).1, hFG _ (h1 h0).2⟩, RowsV.mono hFG l b off h2⟩
  | .rep a s, v, h => by
    simp only [PtV] at h ⊢
    obtain ⟨u, e, h1⟩ := h
    exact ⟨u, e, PtV.mono hFG a u h1⟩
theorem RowV.mono {F G : Nat → Prop} {w : World} (hFG : ∀ b, F b → G b) : ∀ (l : List Pt) (b off : Nat), RowV F w l b off → RowV G w l b off
  | [], b, off, h => by simp only [RowV]
  | p :: t, b, off, h => by
    simp only [RowV] at h ⊢
    obtain ⟨⟨v, h1, h2⟩, h3⟩ := h
    exact ⟨⟨v, h1, PtV.mono hFG p v h2⟩, RowV.mono hFG t b (off + 1) h3⟩
theorem RowsV.mono {F G : Nat → Prop} {w : World} (hFG : ∀ b, F b → G b) : ∀ (l : List (List Pt)) (b off : Nat), RowsV F w l b off → RowsV G w l b off
  | [], b, off, h => by simp only [RowsV]
  | r :: t, b, off, h => by
    simp only [RowsV] at h ⊢
    obtain ⟨⟨ad, c, b', off', h1, h2, h3⟩, h4⟩ := h
    exact ⟨⟨ad, c, b', off', h1, fun h0 => ⟨(h2 h0).1, hFG _ (h2 h0).2⟩, RowV.mono hFG r b' off' h3⟩, RowsV.mono hFG t b (off + 1) h4⟩
end

end Go.Proofs.Ytndegcgcbhcokaa
