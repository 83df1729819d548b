/-
  The rows' arguments and variables: what is laid, what came in.
-/
import Derived.Test.YtjlpkgepiajapaaDoorRows
import Derived.Test.YtjlpkgepiajapaaDoorPlN
import Derived.Lib.LaidU8
import Derived.OpenShut
import Derived.ChangeOld
import Derived.Deep.Slices
import Derived.ProofKit
import Derived.SizedLaws
import Derived.Carry
import Derived.Lay
import Derived.LaidOnce
import Derived.SevenTiedAt
namespace Go.Proofs.YtjlpkgepiajapaaDoor
open Go.ChangeShapes Go.WideShapes Go.ChangeAt Go.RowKit
set_option linter.unusedVariables false
set_option linter.unusedSimpArgs false

theorem tab_of_reads {P : Program} {W : World} {name : String} {k : IntKind} {zs : List Int} {g : Nat} {t e : TypeId} {n : Nat}
    (hg : P.globalNamed name = some g) (hty : (P.globals[g]?).map (·.type) = some t) (ht : P.underlying t = some (.array n e)) (he : P.underlying e = some (.int k)) (hce : P.cellsOf e = 1) (hct : P.cellsOf t = n)
    (h : Lib.VarReads P W name (Lib.tabData k zs)) : Lib.TabIs P W name k zs := by
  obtain ⟨g', t', cs, fuel, p, hg', ht', hvar, hd⟩ := h
  obtain rfl := Option.some.inj (hg.symm.trans hg')
  obtain rfl := Option.some.inj (hty.symm.trans ht')
  unfold Lib.TabIs
  rw [hvar, ← Lib.cells_of_tab ht he hce hct hd]
def dbI : List Int := Lib.deBruijn64tab.map (fun (n : Nat) => (n : Int))
theorem gv_laid {W : World} (hL : laidMetH Tryd.prog [("math/bits.deBruijn64tab", Rows.laid_math_bits_deBruijn64tab)] W) : Gv W := by
  rw [MakeChecks.laidMetH_plain _ _ _ (by kernel_rfl)] at hL
  have h1 := Lib.laidMet.reads hL (.head _)
  have t1 : Lib.TabIs Tryd.prog W "math/bits.deBruijn64tab" .u8 dbI := tab_of_reads (g := 0) (by kernel_rfl) (t := 89) (by kernel_rfl) Tryd.underlying89 Tryd.underlying5 (by kernel_rfl) (by kernel_rfl) ((show (Rows.laid_math_bits_deBruijn64tab : DataW Unit) = Lib.tabData .u8 dbI by kernel_rfl) ▸ h1)
  refine ⟨fun j hj => ?_⟩
  have hl : dbI.length = 64 := by decide +kernel
  have := t1.cell (g := 0) (by kernel_rfl) j (by omega)
  rw [this]
  congr 2
  have hl2 : Lib.deBruijn64tab.length = 64 := by decide +kernel
  simp [dbI, List.getD, hl2, hj]
theorem gv_size {W : World} (h : Gv W) : 0 < W.heap.size := by
  have := World.block_lt_of_cell? W _ (h.tab 0 (by omega))
  simp at this
  omega
theorem bounds_i64 {n : Int} (h : (Lit.int .i64 n).wf = true) : -9223372036854775808 ≤ n ∧ n ≤ 9223372036854775807 := by
  simp [Lit.wf, IntKind.min, IntKind.max, IntKind.signed, IntKind.bits] at h
  omega
/-- Numbers that came in. -/
theorem open_moves {H : Type} {enc : TypeId × Value → H} {W : World} {a : Option Addr} {len cap : Nat} {d : DataW H} {ps : List MemPlace} (h : DataW.Trod enc Tryd.prog W 0 (fun _ => true) true 22 (.slice a len cap) d ps) :
    ∃ l : List Int, l.length = len ∧ Mi W a l ∧ len ≤ 9223372036854775807 := by
  obtain ⟨fuel, hf⟩ := h
  rcases open_ints Tryd.underlying22 Tryd.underlying3 (by kernel_rfl) hf with ⟨hcs, _⟩ | ⟨x, l, c, zs, hcs, _, hl, hm, hz, _, hcell, hwz⟩
  · simp [Value.cells] at hcs
    obtain ⟨rfl, rfl, rfl⟩ := hcs
    exact ⟨[], rfl, ⟨fun h => absurd rfl h, fun x hx => by cases hx⟩, by omega⟩
  · simp [Value.cells] at hcs
    obtain ⟨rfl, rfl, rfl⟩ := hcs
    have hz' : zs.length = cap := by simpa using hz
    unfold maxLen at hm
    refine ⟨zs.take len, by simp; omega, ⟨fun hne => ?_, fun n hn => bounds_i64 (hwz n (List.mem_of_mem_take hn))⟩, by omega⟩
    have hp : 0 < len := by
      rcases Nat.eq_zero_or_pos len with e | e
      · subst e; simp at hne
      · exact e
    obtain ⟨b, off, sp⟩ := x
    have c := hcell 0 (by omega)
    have hs : sp = none := by simpa [Addr.add] using World.cell?_spot c
    subst hs
    refine ⟨b, off, rfl, ?_, fun j z hz => ?_⟩
    · have := World.block_lt_of_cell? W _ c
      simpa [Addr.add] using this
    · have hj : j < len := by
        have := (List.getElem?_eq_some_iff.1 hz).1
        simp at this
        omega
      have := hcell j (by omega)
      rw [Addr.add_lit] at this
      rw [this]
      rw [List.getElem?_take_of_lt hj] at hz
      congr 2
      simp [List.getD, hz]

end Go.Proofs.YtjlpkgepiajapaaDoor
