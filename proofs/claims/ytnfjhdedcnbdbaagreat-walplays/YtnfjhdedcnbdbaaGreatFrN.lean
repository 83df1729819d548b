/-
  The document's examples.
-/
import Derived.Test.YtnfjhdedcnbdbaaGreatFrK
import Derived.Test.YtnfjhdedcnbdbaaGreatFrA
import Derived.Lib.SlBytesConst
namespace Go.Proofs.YtnfjhdedcnbdbaaGreat
open Go Go.RowKit
set_option linter.unusedVariables false
set_option linter.unusedSimpArgs false

theorem constBytes (w : World) (C : Array Value) (n c g : Nat) (hg : g = w.heap.size) : (convert 28 28 (.slice (some ⟨g, 0, none⟩) n c)).run Tryz.prog (w.alloc (.cells C 5)) = .ok (.slice (some ⟨g, 0, none⟩) n c) (w.alloc (.cells C 5 (C.size, C.size + 1))) := by
  subst hg
  exact Lib.run_convert_bytes_const (P := Tryz.prog) w 28 5 C n c Tryz.underlying28 Tryz.underlying5
theorem convS {w : World} {ad : Option Addr} {len cap : Nat} {l : List Int} (h : Sl w ad len l) : (convert 28 9 (.slice ad len cap)).run Tryz.prog w = .ok (.string (strOfNums l)) w :=
  run_string_of 28 5 9 Tryz.underlying28 Tryz.underlying5 Tryz.underlying9 h
theorem byte_of {l : List Int} (h : l.all (fun n => decide (0 ≤ n ∧ n ≤ 255)) = true) : Byte l := by
  intro n hn
  have := List.all_eq_true.1 h n hn
  simpa using this
theorem str1 : strOfNums [7, 2, 0, 0, 0, 97, 98] = ⟨#[7, 2, 0, 0, 0, 97, 98]⟩ := by decide
theorem str2 : strOfNums [97, 98] = ⟨#[97, 98]⟩ := by decide
theorem made7 : ([] ++ made 7 [97, 98]).take 7 = [7, 2, 0, 0, 0, 97, 98] := by
  have h := made_head 7 [97, 98] []
  rw [List.append_nil] at h
  exact h
theorem frames7 : fsz (frames ([] ++ made 7 [97, 98])) = 11 := by
  have hg := gett_made 7 [97, 98] [] (by decide)
  rw [List.append_nil] at hg
  rw [List.nil_append, frames_some (by rw [hg]; decide), hg, frames_none]
  · rfl
  · exact gett_nil _ (by rw [List.length_drop, made_length]; rfl)

theorem Bld.start {w0 w w' : World} {v : Value} {n : Nat} {xs : List Int} (h : Bld w w' v n xs) (hb : Below w0.heap.size w0 w) : Bld w0 w' v n xs := ⟨h.row, hb.trans (h.bel.mono hb.size), fun g hg => Nat.le_trans hb.size (h.new g hg)⟩
theorem Bld.alloc_new (w : World) : Bld w (w.alloc (.cells #[] 5)) (.slice (some ⟨w.heap.size, 0, none⟩) 0 0) 0 [] :=
  ⟨owns_empty w 0 (Nat.zero_le _) _ rfl, (Below.refl _ _).alloc (Nat.le_refl _) _, fun g hg => by simp [Value.ownBlock] at hg; omega⟩

end Go.Proofs.YtnfjhdedcnbdbaaGreat
