/-
  The reader: rows, what is held.
-/
import Derived.Test.YtndegcgcbhcokaaPtZ
namespace Go.Proofs.Ytndegcgcbhcokaa
open Go.RowKit
set_option linter.unusedVariables false
set_option linter.unusedSimpArgs false

theorem info64 : (Try.prog.info? 64).map (fun i => (i.zero, i.size, i.bytes)) = some (some (.slice none 0 0), 1, 24) := by kernel_rfl
/-- A row, as a value. -/
def RowU (F : Nat → Prop) (w : World) (r : List Pt) (v : Value) : Prop := ∃ ad c g off, v = .slice ad r.length c ∧ (r ≠ [] → ad = some ⟨g, off, none⟩ ∧ F g) ∧ RowV F w r g off
theorem RowU.keep {F G : Nat → Prop} {w w' : World} (hc : Chg G w w') (hd : ∀ b, F b → ¬ G b) {r : List Pt} {v : Value} (h : RowU F w r v) : RowU F w' r v := by
  obtain ⟨ad, c, g, off, e, h1, h2⟩ := h
  exact ⟨ad, c, g, off, e, h1, RowV.keep hc hd r g off (fun h0 => (h1 h0).2) h2⟩
theorem RowU.mono {F G : Nat → Prop} {w : World} (hFG : ∀ b, F b → G b) {r : List Pt} {v : Value} (h : RowU F w r v) : RowU G w r v := by
  obtain ⟨ad, c, g, off, e, h1, h2⟩ := h
  exact ⟨ad, c, g, off, e, fun h0 => ⟨(h1 h0).1, hFG _ (h1 h0).2⟩, RowV.mono hFG r g off h2⟩
def RsL (F : Nat → Prop) (w : World) (l : List (List Pt)) (vs : List Value) : Prop := l.length = vs.length ∧ ∀ (i : Nat) (p : List Pt) (v : Value), l[i]? = some p → vs[i]? = some v → RowU F w p v
theorem RsL.nil (F : Nat → Prop) (w : World) : RsL F w [] [] := ⟨rfl, fun i p v h => by simp at h⟩
theorem RsL.snoc {F G H : Nat → Prop} {w : World} {l : List (List Pt)} {vs : List Value} {p : List Pt} {v : Value} (h : RsL F w l vs) (hp : RowU G w p v) (hF : ∀ b, F b → H b) (hG : ∀ b, G b → H b) : RsL H w (l ++ [p]) (vs ++ [v]) := by
  refine ⟨by simp [h.1], fun i q u h1 h2 => ?_⟩
  rcases Nat.lt_or_ge i l.length with hl | hl
  · rw [List.getElem?_append_left hl] at h1
    rw [List.getElem?_append_left (by rw [← h.1]; exact hl)] at h2
    exact (h.2 i q u h1 h2).mono hF
  · rw [List.getElem?_append_right hl] at h1
    rw [List.getElem?_append_right (by rw [← h.1]; exact hl), ← h.1] at h2
    have hi : i - l.length = 0 := by
      have := (List.getElem?_eq_some_iff.1 h1).1
      simp at this
      omega
    rw [hi] at h1 h2
    simp at h1 h2
    subst h1 h2
    exact hp.mono hG
theorem RsL.keep {F G : Nat → Prop} {w w' : World} {l : List (List Pt)} {vs : List Value} (h : RsL F w l vs) (hc : Chg G w w') (hd : ∀ b, F b → ¬ G b) : RsL F w' l vs :=
  ⟨h.1, fun i p v h1 h2 => (h.2 i p v h1 h2).keep hc hd⟩
theorem RsL.mono {F G : Nat → Prop} {w : World} {l : List (List Pt)} {vs : List Value} (h : RsL F w l vs) (hF : ∀ b, F b → G b) : RsL G w l vs :=
  ⟨h.1, fun i p v h1 h2 => (h.2 i p v h1 h2).mono hF⟩
theorem rowsV_of {F : Nat → Prop} {w : World} {g : Nat} : ∀ (l : List (List Pt)) (vs : List Value) (off : Nat), RsL F w l vs → (∀ (i : Nat) (v : Value), vs[i]? = some v → w.cell? ⟨g, off + i, none⟩ = some v) → RowsV F w l g off
  | [], vs, off, _, _ => by simp only [RowsV]
  | p :: t, [], off, h, _ => by have := h.1; simp at this
  | p :: t, v :: vs, off, h, hc => by
    simp only [RowsV]
    obtain ⟨ad, c, g', off', e, h1, h2⟩ := h.2 0 p v (by simp) (by simp)
    refine ⟨⟨ad, c, g', off', by have := hc 0 v (by simp); rw [← e]; simpa using this, h1, h2⟩, rowsV_of t vs (off + 1) ⟨by have := h.1; simp at this; exact this, fun i q u k1 k2 => h.2 (i + 1) q u (by simpa using k1) (by simpa using k2)⟩ (fun i u hu => ?_)⟩
    have := hc (i + 1) u (by simpa using hu)
    rw [show off + 1 + i = off + (i + 1) by omega]
    exact this

/-- What is held in a round of rows. -/
structure QI (w wx : World) (r : Nat) (s : ByteArray) (d i : Nat) (ad : Option Addr) (m c : Nat) (acc : List (List Pt)) (vs : List Value) (F : Nat → Prop) : Prop where
  rd : Rd wx r s i d
  own : wx.ownsRow w.heap.size 64 1 (.slice ad m c) m vs
  len : acc.length = m
  rw' : RsL F wx acc vs
  sub : ∀ b, F b → FW w wx b
  avo : ∀ b, F b → (Value.slice ad m c).ownBlock ≠ some b
  ch : Chg (fun k => k = r) w wx
  le : i ≤ (bts s).length
theorem QI.moved {w wx w2 : World} {r : Nat} {s : ByteArray} {d i j : Nat} {ad : Option Addr} {m c : Nat} {acc : List (List Pt)} {vs : List Value} {F : Nat → Prop} (h : QI w wx r s d i ad m c acc vs F) (hr : r < w.heap.size) (hrd : Rd w2 r s j d) (hc : Chg (fun k => k = r) wx w2) (hj : j ≤ (bts s).length) : QI w w2 r s d j ad m c acc vs F :=
  ⟨hrd, hc.owns h.own (fun g hg e => by have := (h.own.lt g hg).1; have e' : g = r := e; omega), h.len, h.rw'.keep hc (fun b hb e => by have := (h.sub b hb).1; have e' : b = r := e; omega), fun b hb => ⟨(h.sub b hb).1, by have := (h.sub b hb).2; have := hc.size; omega⟩, h.avo, h.ch.trans hc (fun _ _ e => e), hj⟩
theorem QI.next {w wx w2 w3 : World} {r : Nat} {s : ByteArray} {d i j : Nat} {ad : Option Addr} {m c g c' : Nat} {acc : List (List Pt)} {vs : List Value} {F : Nat → Prop} {p : List Pt} {v : Value} {ob : Obj} (h : QI w wx r s d i ad m c acc vs F) (hr : r < w.heap.size) (hrd : Rd w2 r s j d) (hc : Chg (fun k => k = r) wx w2) (hj : j ≤ (bts s).length) (hp : RowU (FW wx w2) w2 p v)
    (ho : w3.ownsRow w.heap.size 64 1 (.slice (some ⟨g, 0, none⟩) (m + 1) c') (m + 1) (vs ++ [v])) (hpu : Pushed (w2.alloc ob) w3 (.slice ad m c) g) :
    QI w w3 r s d j (some ⟨g, 0, none⟩) (m + 1) c' (acc ++ [p]) (vs ++ [v]) (fun b => F b ∨ FW wx w2 b) := by
  have hch := hpu.chg
  have hob : ∀ b, (Value.slice ad m c).ownBlock = some b → w.heap.size ≤ b ∧ b < wx.heap.size := fun b hb => ⟨(h.own.lt b hb).1, owns_lt h.own b hb⟩
  have hav : ∀ b, (F b ∨ FW wx w2 b) → ¬ (Value.slice ad m c).ownBlock = some b := fun b hb e => by
    rcases hb with hb | hb
    · exact h.avo b hb e
    · have := (hob b e).2; have := hb.1; omega
  have hs2 := hc.size
  have hwx := h.ch.size
  have hlt : ∀ b, (F b ∨ FW wx w2 b) → w.heap.size ≤ b ∧ b < w2.heap.size := fun b hb => by
    rcases hb with hb | hb
    · have := h.sub b hb; exact ⟨this.1, by have := this.2; omega⟩
    · exact ⟨by have := hb.1; omega, hb.2⟩
  have hr2 : RsL F w2 acc vs := h.rw'.keep hc (fun b hb e => by have := (h.sub b hb).1; have e' : b = r := e; omega)
  refine ⟨hch.1.blk hrd (fun e => by have := (hob _ e).1; omega), ho, by simp [h.len], (hr2.snoc hp (fun b hb => Or.inl hb) (fun b hb => Or.inr hb)).keep hch.1 hav, fun b hb => ⟨(hlt b hb).1, by have := (hlt b hb).2; have := hch.1.size; omega⟩, fun b hb e => ?_, (h.ch.trans hc (fun _ _ e => e)).trans hch.1 (fun k hk e => by have := (hob k e).1; omega), hj⟩
  have e' : g = b := by simpa [Value.ownBlock] using e
  subst e'
  rcases hch.2 with e2 | ⟨g', e2, hg⟩
  · exact hav g hb e2.symm
  · injection e2 with e2
    subst e2
    have := (hlt g hb).2
    omega
theorem QI.fin {w wx : World} {r : Nat} {s : ByteArray} {d i : Nat} {ad : Option Addr} {m c : Nat} {acc : List (List Pt)} {vs : List Value} {F : Nat → Prop} (h : QI w wx r s d i ad m c acc vs F) : ∃ g off, (acc ≠ [] → ad = some ⟨g, off, none⟩ ∧ FW w wx g) ∧ RowsV (FW w wx) wx acc g off := by
  rcases h.own.2 with ⟨e, e0⟩ | ⟨g, cap, cur, e, hb, hh, _⟩
  · have : acc = [] := List.eq_nil_of_length_eq_zero (by rw [h.len]; exact e0)
    subst this
    exact ⟨0, 0, fun h0 => absurd rfl h0, by simp only [RowsV]⟩
  · injection e with e1 e2 e3
    subst e1
    refine ⟨g, 0, fun _ => ⟨rfl, hb, owns_lt h.own g (by simp [Value.ownBlock])⟩, rowsV_of acc vs 0 (h.rw'.mono h.sub) (fun j v hv => ?_)⟩
    have := h.own.cells (g := g) (by simp [Value.ownBlock]) j v hv
    rwa [Addr.add_lit] at this

end Go.Proofs.Ytndegcgcbhcokaa
