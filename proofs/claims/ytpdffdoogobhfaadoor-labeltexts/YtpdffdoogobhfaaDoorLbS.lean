/-
  Labels in memory: rows of two cells each.
-/
import Derived.Test.YtpdffdoogobhfaaDoorLbP
import Derived.Test.YtpdffdoogobhfaaDoorAny
import Derived.Test.YtpdffdoogobhfaaDoorProg
import Derived.Laws.IdiomStrings
import Derived.BigQuiet
import Derived.Deep.CutRange
import Derived.Lib.Strings
namespace Go.Proofs.YtpdffdoogobhfaaDoor
open Go.RowKit
set_option linter.unusedVariables false

theorem toList_bts (s : ByteArray) : s.toList = bts s := Lib.toList_data s
theorem size_bts (s : ByteArray) : s.size = (bts s).length := by rw [bts, Array.length_toList]; rfl
theorem bytesLess_lss : ∀ (x y : List UInt8), Op.bytesLess x y = lss x y
  | [], [] => by simp [Op.bytesLess, lss]
  | _ :: _, [] => by simp [Op.bytesLess, lss]
  | [], _ :: _ => by simp [Op.bytesLess, lss]
  | a :: x, b :: y => by
    rw [Op.bytesLess, bytesLess_lss x y]
    simp only [lss, List.cons_lt_cons_iff]
    by_cases h1 : a < b <;> by_cases h2 : a = b <;> by_cases h3 : x < y <;> simp [h1, h2, h3]

/-- A slice's labels: where they lie. -/
structure Ls (w : World) (ad : Option Addr) (l : List Lb) : Prop where
  sz : ∀ x ∈ l, x.n.size ≤ 9223372036854775807 ∧ x.v.size ≤ 9223372036854775807
  at' : l ≠ [] → ∃ b off, ad = some ⟨b, off, none⟩ ∧ b < w.heap.size ∧ ∀ i x, l[i]? = some x → w.cell? ⟨b, off + i * 2, none⟩ = some (.string x.n) ∧ w.cell? ⟨b, off + i * 2 + 1, none⟩ = some (.string x.v)
theorem Ls.later {w w' : World} {ad : Option Addr} {l : List Lb} (h : Ls w ad l) (hb : Below w.heap.size w w') : Ls w' ad l := by
  refine ⟨h.sz, fun h0 => ?_⟩
  obtain ⟨b, off, e, hlt, hc⟩ := h.at' h0
  refine ⟨b, off, e, Nat.lt_of_lt_of_le hlt hb.size, fun i x hx => ?_⟩
  rw [hb.cell (p := ⟨b, off + i * 2, none⟩) hlt, hb.cell (p := ⟨b, off + i * 2 + 1, none⟩) hlt]
  exact hc i x hx
theorem Ls.nil (w : World) (ad : Option Addr) : Ls w ad [] := ⟨by simp, fun h => absurd rfl h⟩
theorem Ls.get {w : World} {ad : Option Addr} {l : List Lb} (h : Ls w ad l) {i : Nat} (hi : i < l.length) : ∃ b off x, ad = some ⟨b, off, none⟩ ∧ b < w.heap.size ∧ l[i]? = some x ∧ l[i] = x ∧ w.cell? ⟨b, off + i * 2, none⟩ = some (.string x.n) ∧ w.cell? ⟨b, off + i * 2 + 1, none⟩ = some (.string x.v) ∧ x.n.size ≤ 9223372036854775807 ∧ x.v.size ≤ 9223372036854775807 := by
  obtain ⟨b, off, e, hlt, hc⟩ := h.at' (by intro h0; rw [h0] at hi; simp at hi)
  have hx : l[i]? = some l[i] := by simp [hi]
  exact ⟨b, off, l[i], e, hlt, hx, rfl, (hc i _ hx).1, (hc i _ hx).2, h.sz _ (by simp)⟩

end Go.Proofs.YtpdffdoogobhfaaDoor
