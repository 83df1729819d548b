import Derived.Test.YtndegcgcbhcokaaPtW
/-
  The reader: row.
-/
namespace Go.Proofs.Ytndegcgcbhcokaa
open Go.RowKit
set_option linter.unusedVariables false
set_option linter.unusedSimpArgs false

/-- What row answers. -/
def RowR (r : Nat) (s : ByteArray) (d : Nat) (w : World) (R : Pr (List Pt)) (e : Ending) (w' : World) : Prop :=
  ∃ ad n c b ok, e = .returned (.tuple #[.slice ad n c, .bool ok]) ∧ Rd w' r s b d ∧ Chg (fun i => i = r) w w' ∧ b ≤ (bts s).length ∧ ((ok = true ∧ ∃ l g off, l.length = n ∧ R = .ok l b ∧ (l ≠ [] → ad = some ⟨g, off, none⟩ ∧ FW w w' g) ∧ RowV (FW w w') w' l g off) ∨ (ok = false ∧ R = .bad b))
def RowC (f : Nat) : Prop := ∀ (r : Nat) (s : ByteArray) (a d : Nat) (w : World), Rd w r s a d → a ≤ s.size → s.size ≤ 64 → d ≤ 16 → rowF (bts s) f d a ≠ .out → Calls Try.prog 17 #[.pointer (some ⟨r, 0, none⟩)] w (RowR r s d w (rowF (bts s) f d a))
def appP {α : Type} (acc : List α) : Pr (List α) → Pr (List α)
  | .ok t c => .ok (acc ++ t) c
  | .bad k => .bad k
  | .out => .out

theorem info70 : (Try.prog.info? 70).map (fun i => (i.zero, i.size, i.bytes)) = some (some .nilIface, 1, 16) := by kernel_rfl

/-- Items and their values. -/
def RwL (F : Nat → Prop) (w : World) (l : List Pt) (vs : List Value) : Prop := l.length = vs.length ∧ ∀ (i : Nat) (p : Pt) (v : Value), l[i]? = some p → vs[i]? = some v → PtV F w p v
theorem RwL.nil (F : Nat → Prop) (w : World) : RwL F w [] [] := ⟨rfl, fun i p v h => by simp at h⟩
theorem RwL.snoc {F G H : Nat → Prop} {w : World} {l : List Pt} {vs : List Value} {p : Pt} {v : Value} (h : RwL F w l vs) (hp : PtV G w p v) (hF : ∀ b, F b → H b) (hG : ∀ b, G b → H b) : RwL H w (l ++ [p]) (vs ++ [v]) := by
  refine ⟨by simp [h.1], fun i q u h1 h2 => ?_⟩
  rcases Nat.lt_or_ge i l.length with hl | hl
  · rw [List.getElem?_append_left hl] at h1
    rw [List.getElem?_append_left (by rw [← h.1]; exact hl)] at h2
    exact PtV.mono hF q u (h.2 i q u h1 h2)
  · rw [List.getElem?_append_right hl] at h1
    rw [List.getElem?_append_right (by rw [← h.1]; exact hl), ← h.1] at h2
    have hi : i - l.length = 0 := by
      have := (List.getElem?_eq_some_iff.1 h1).1
      simp at this
      omega
    rw [hi] at h1 h2
    simp at h1 h2
    subst h1 h2
    exact PtV.mono hG p v hp
theorem RwL.keep {F G : Nat → Prop} {w w' : World} {l : List Pt} {vs : List Value} (h : RwL F w l vs) (hc : Chg G w w') (hd : ∀ b, F b → ¬ G b) : RwL F w' l vs :=
  ⟨h.1, fun i p v h1 h2 => PtV.keep hc hd p v (h.2 i p v h1 h2)⟩
theorem RwL.mono {F G : Nat → Prop} {w : World} {l : List Pt} {vs : List Value} (h : RwL F w l vs) (hF : ∀ b, F b → G b) : RwL G w l vs :=
  ⟨h.1, fun i p v h1 h2 => PtV.mono hF p v (h.2 i p v h1 h2)⟩
/-- From a row of values to the row in memory. -/
theorem rowV_of {F : Nat → Prop} {w : World} {g : Nat} : ∀ (l : List Pt) (vs : List Value) (off : Nat), RwL F w l vs → (∀ (i : Nat) (v : Value), vs[i]? = some v → w.cell? ⟨g, off + i, none⟩ = some v) → RowV F w l g off
  | [], vs, off, _, _ => by simp only [RowV]
  | p :: t, [], off, h, _ => by have := h.1; simp at this
  | p :: t, v :: vs, off, h, hc => by
    simp only [RowV]
    refine ⟨⟨v, by have := hc 0 v (by simp); simpa using this, h.2 0 p v (by simp) (by simp)⟩, rowV_of t vs (off + 1) ⟨by have := h.1; simp at this; exact this, fun i q u h1 h2 => h.2 (i + 1) q u (by simpa using h1) (by simpa using h2)⟩ (fun i u hu => ?_)⟩
    have := hc (i + 1) u (by simpa using hu)
    rw [show off + 1 + i = off + (i + 1) by omega]
    exact this

end Go.Proofs.Ytndegcgcbhcokaa

/-
  The reader: row (the walk).
-/
namespace Go.Proofs.Ytndegcgcbhcokaa
open Go.RowKit
set_option linter.unusedVariables false
set_option linter.unusedSimpArgs false

/-- What is held in a round of row. -/
structure RI (w wx : World) (r : Nat) (s : ByteArray) (d i : Nat) (ad : Option Addr) (m c : Nat) (acc : List Pt) (vs : List Value) (F : Nat → Prop) : Prop where
  rd : Rd wx r s i d
  own : wx.ownsRow w.heap.size 70 1 (.slice ad m c) m vs
  len : acc.length = m
  rw' : RwL F wx acc vs
  sub : ∀ b, F b → FW w wx b
  avo : ∀ b, F b → (Value.slice ad m c).ownBlock ≠ some b
  ch : Chg (fun k => k = r) w wx
  le : i ≤ (bts s).length
  mi : m ≤ i
theorem RI.next {w wx w2 w3 : World} {r : Nat} {s : ByteArray} {d i j : Nat} {ad : Option Addr} {m c g c' : Nat} {acc : List Pt} {vs : List Value} {F : Nat → Prop} {p : Pt} {v : Value} {ob : Obj} (h : RI w wx r s d i ad m c acc vs F) (hr : r < w.heap.size) (hrd : Rd w2 r s j d) (hc : Chg (fun k => k = r) wx w2) (hj : j ≤ (bts s).length) (hij : i < j) (hp : PtV (FW wx w2) w2 p v)
    (ho : w3.ownsRow w.heap.size 70 1 (.slice (some ⟨g, 0, none⟩) (m + 1) c') (m + 1) (vs ++ [v])) (hpu : Pushed (w2.alloc ob) w3 (.slice ad m c) g) :
    RI w w3 r s d j (some ⟨g, 0, none⟩) (m + 1) c' (acc ++ [p]) (vs ++ [v]) (fun b => F b ∨ FW wx w2 b) := by
  have hch := hpu.chg
  have hob : ∀ b, (Value.slice ad m c).ownBlock = some b → w.heap.size ≤ b ∧ b < wx.heap.size := fun b hb => ⟨(h.own.lt b hb).1, owns_lt h.own b hb⟩
  have hav : ∀ b, (F b ∨ FW wx w2 b) → ¬ (Value.slice ad m c).ownBlock = some b := fun b hb e => by
    rcases hb with hb | hb
    · exact h.avo b hb e
    · have := (hob b e).2; have := hb.1; omega
  have hs2 := hc.size
  have hwx := h.ch.size
  have hlt : ∀ b, (F b ∨ FW wx w2 b) → w.heap.size ≤ b ∧ b < w2.heap.size := fun b hb => by
    rcases hb with hb | hb
    · have := h.sub b hb; exact ⟨this.1, by have := this.2; omega⟩
    · exact ⟨by have := hb.1; omega, hb.2⟩
  have hr2 : RwL F w2 acc vs := h.rw'.keep hc (fun b hb e => by have := (h.sub b hb).1; have e' : b = r := e; omega)
  refine ⟨hch.1.blk hrd (fun e => by have := (hob _ e).1; omega), ho, by simp [h.len], (hr2.snoc hp (fun b hb => Or.inl hb) (fun b hb => Or.inr hb)).keep hch.1 hav, fun b hb => ⟨(hlt b hb).1, by have := (hlt b hb).2; have := hch.1.size; omega⟩, fun b hb e => ?_, (h.ch.trans hc (fun _ _ e => e)).trans hch.1 (fun k hk e => by have := (hob k e).1; omega), hj, by have := h.mi; omega⟩
  have e' : g = b := by simpa [Value.ownBlock] using e
  subst e'
  rcases hch.2 with e2 | ⟨g', e2, hg⟩
  · exact hav g hb e2.symm
  · injection e2 with e2
    subst e2
    have := (hlt g hb).2
    omega
theorem RI.fin {w wx : World} {r : Nat} {s : ByteArray} {d i : Nat} {ad : Option Addr} {m c : Nat} {acc : List Pt} {vs : List Value} {F : Nat → Prop} (h : RI w wx r s d i ad m c acc vs F) : ∃ g off, (acc ≠ [] → ad = some ⟨g, off, none⟩ ∧ FW w wx g) ∧ RowV (FW w wx) wx acc g off := by
  rcases h.own.2 with ⟨e, e0⟩ | ⟨g, cap, cur, e, hb, hh, _⟩
  · have : acc = [] := List.eq_nil_of_length_eq_zero (by rw [h.len]; exact e0)
    subst this
    exact ⟨0, 0, fun h0 => absurd rfl h0, by simp only [RowV]⟩
  · injection e with e1 e2 e3
    subst e1
    refine ⟨g, 0, fun _ => ⟨rfl, hb, owns_lt h.own g (by simp [Value.ownBlock])⟩, rowV_of acc vs 0 (h.rw'.mono h.sub) (fun j v hv => ?_)⟩
    have := h.own.cells (g := g) (by simp [Value.ownBlock]) j v hv
    rwa [Addr.add_lit] at this

end Go.Proofs.Ytndegcgcbhcokaa
