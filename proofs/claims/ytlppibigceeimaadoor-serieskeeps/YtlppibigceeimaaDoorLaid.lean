/-
  The rows' arguments and variables: what is laid, what came in.
-/
import Derived.Test.YtlppibigceeimaaDoorRows
import Derived.Test.YtlppibigceeimaaDoorSfF
import Derived.Lib.LaidU8
import Derived.OpenShut
import Derived.ChangeOld
import Derived.Deep.Slices
import Derived.ProofKit
import Derived.SizedLaws
import Derived.Carry
import Derived.Lay
import Derived.LaidOnce
import Derived.SevenTiedAt
namespace Go.Proofs.YtlppibigceeimaaDoor
open Go.ChangeShapes Go.WideShapes Go.ChangeAt Go.RowKit
set_option linter.unusedVariables false
set_option linter.unusedSimpArgs false

theorem tab_of_reads {P : Program} {W : World} {name : String} {k : IntKind} {zs : List Int} {g : Nat} {t e : TypeId} {n : Nat}
    (hg : P.globalNamed name = some g) (hty : (P.globals[g]?).map (·.type) = some t) (ht : P.underlying t = some (.array n e)) (he : P.underlying e = some (.int k)) (hce : P.cellsOf e = 1) (hct : P.cellsOf t = n)
    (h : Lib.VarReads P W name (Lib.tabData k zs)) : Lib.TabIs P W name k zs := by
  obtain ⟨g', t', cs, fuel, p, hg', ht', hvar, hd⟩ := h
  obtain rfl := Option.some.inj (hg.symm.trans hg')
  obtain rfl := Option.some.inj (hty.symm.trans ht')
  unfold Lib.TabIs
  rw [hvar, ← Lib.cells_of_tab ht he hce hct hd]
def dbI : List Int := Lib.deBruijn64tab.map (fun (n : Nat) => (n : Int))
def wdI : List Int := [0, 7, 9, 12]
theorem gv_laid {W : World} (hL : laidMetH Tryd.prog [("math/bits.deBruijn64tab", Rows.laid_math_bits_deBruijn64tab), ("turnkey/chunk.shortWidths", Rows.laid_turnkey_chunk_shortWidths)] W) : Gv W := by
  rw [MakeChecks.laidMetH_plain _ _ _ (by kernel_rfl)] at hL
  have h1 := Lib.laidMet.reads hL (.head _)
  have h2 := Lib.laidMet.reads hL (.tail _ (.head _))
  have t1 : Lib.TabIs Tryd.prog W "math/bits.deBruijn64tab" .u8 dbI := tab_of_reads (g := 0) (by kernel_rfl) (t := 136) (by kernel_rfl) Tryd.underlying136 Tryd.underlying5 (by kernel_rfl) (by kernel_rfl) ((show (Rows.laid_math_bits_deBruijn64tab : DataW Unit) = Lib.tabData .u8 dbI by kernel_rfl) ▸ h1)
  have t2 : Lib.TabIs Tryd.prog W "turnkey/chunk.shortWidths" .i64 wdI := tab_of_reads (g := 1) (by kernel_rfl) (t := 144) (by kernel_rfl) Tryd.underlying144 Tryd.underlying3 (by kernel_rfl) (by kernel_rfl) ((show (Rows.laid_turnkey_chunk_shortWidths : DataW Unit) = Lib.tabData .i64 wdI by kernel_rfl) ▸ h2)
  refine ⟨fun j hj => ?_, fun j hj => ?_⟩
  · have := t2.cell (g := 1) (by kernel_rfl) j (by simpa [wdI] using hj)
    rw [this]
    rcases (show j = 0 ∨ j = 1 ∨ j = 2 ∨ j = 3 by omega) with rfl | rfl | rfl | rfl <;> rfl
  · have hl : dbI.length = 64 := by decide +kernel
    have := t1.cell (g := 0) (by kernel_rfl) j (by omega)
    rw [this]
    congr 2
    have hl2 : Lib.deBruijn64tab.length = 64 := by decide +kernel
    simp [dbI, List.getD, hl2, hj]
theorem gv_size {W : World} (h : Gv W) : 2 ≤ W.heap.size := by
  have := World.block_lt_of_cell? W _ (h.wid 0 (by omega))
  simp at this
  omega

theorem cof2 : Tryd.prog.cellsOf 2 = 1 := by kernel_rfl
theorem cof33 : Tryd.prog.cellsOf 33 = 1 := by kernel_rfl
theorem cof35 : Tryd.prog.cellsOf 35 = 2 := by kernel_rfl
theorem bounds_u64 {n : Int} (h : (Lit.int .u64 n).wf = true) : 0 ≤ n ∧ n < 18446744073709551616 := by
  simp [Lit.wf, IntKind.min, IntKind.max, IntKind.signed, IntKind.bits] at h
  omega
theorem bounds_i64 {n : Int} (h : (Lit.int .i64 n).wf = true) : I64 n := by
  simp [Lit.wf, IntKind.min, IntKind.max, IntKind.signed, IntKind.bits] at h
  unfold I64
  omega
set_option maxRecDepth 100000 in
/-- One sample, from its two cells. -/
theorem open_sample {H : Type} {enc : TypeId × Value → H} {w : World} {base : Nat} {spare : Nat → Bool} {held : Bool} {n : Nat} {a : Addr} {cs : List Value} {x : DataW H × List MemPlace} (h1 : w.cells? base a 2 = some cs) (h2 : DataW.trod enc Tryd.prog w base spare held n 35 cs = some x) :
    ∃ s : Sm, w.cell? (a.add 0) = some (.int .i64 s.t) ∧ w.cell? (a.add 1) = some (.int .u64 (s.v : Int)) ∧ OkS s := by
  obtain ⟨_, hlen, hcell⟩ := World.cells?_some h1
  obtain ⟨xs, k, hk, hxy, _, hxl, hf⟩ := DataW.trod_struct Tryd.underlying35 h2
  match xs, hxl, cs, hlen with
  | [y0, y1], _, [v0, v1], _ =>
    have g0 := hf 0 _ rfl
    have g1 := hf 1 _ rfl
    simp [cof2, cof33] at g0 g1
    obtain ⟨n0, e0, _, w0⟩ := DataW.trod_int Tryd.underlying2 g0
    obtain ⟨n1, e1, _, w1⟩ := DataW.trod_int Tryd.underlying33 g1
    simp at e0 e1
    subst e0 e1
    have b := bounds_u64 w1
    refine ⟨⟨n0, n1.toNat⟩, by simpa using hcell 0 (by omega), ?_, ⟨bounds_i64 w0, (by omega : n1.toNat < 18446744073709551616)⟩⟩
    have := hcell 1 (by omega)
    show w.cell? (a.add 1) = some (Value.int .u64 ((n1.toNat : Nat) : Int))
    rw [show ((n1.toNat : Nat) : Int) = n1 by omega]
    simpa using this
/-- Samples that came in. -/
theorem open_samples {H : Type} {enc : TypeId × Value → H} {W : World} {a : Option Addr} {len cap : Nat} {d : DataW H} {ps : List MemPlace} (h : DataW.Trod enc Tryd.prog W 0 (fun _ => true) true 22 (.slice a len cap) d ps) :
    ∃ l : List Sm, l.length = len ∧ Ss W a l ∧ len ≤ cap ∧ cap ≤ 9223372036854775807 ∧ (a = none → len = 0 ∧ cap = 0) := by
  obtain ⟨fuel, hf⟩ := h
  rcases Go.Deep.open_slice Tryd.underlying22 hf with ⟨hcs, _⟩ | ⟨x, l, c, m, n, D, Pl, hcs, _, hl, hm, hmm, _, hx⟩
  · simp [Value.cells] at hcs
    obtain ⟨rfl, rfl, rfl⟩ := hcs
    exact ⟨[], rfl, Ss.nil _ _, Nat.le_refl _, by omega, fun _ => ⟨rfl, rfl⟩⟩
  · simp [Value.cells] at hcs
    obtain ⟨rfl, rfl, rfl⟩ := hcs
    have hlm : len ≤ m := by
      rw [hmm]
      split <;> omega
    have each : ∀ i, i < m → ∃ y : Sm, W.cell? ((x.add (i * 2)).add 0) = some (.int .i64 y.t) ∧ W.cell? ((x.add (i * 2)).add 1) = some (.int .u64 (y.v : Int)) ∧ OkS y := by
      intro i hi
      obtain ⟨cs', h1, h2⟩ := hx i hi
      rw [cof35] at h1
      exact open_sample h1 h2
    haveI : Inhabited Sm := ⟨⟨0, 0⟩⟩
    obtain ⟨y, hy⟩ := Go.Deep.choose_lt each
    refine ⟨(List.range len).map y, by simp, ⟨?_, fun h0 => ?_⟩, hl, by unfold maxLen at hm; omega, fun e => by cases e⟩
    · intro z hz
      obtain ⟨i, hi, rfl⟩ := List.mem_map.1 hz
      exact (hy i (by have := List.mem_range.1 hi; omega)).2.2
    · have hp : 0 < len := by
        rcases Nat.eq_zero_or_pos len with e | e
        · subst e; simp at h0
        · exact e
      obtain ⟨b, off, sp⟩ := x
      have c := (hy 0 (by omega)).1
      have hs : sp = none := by simpa [Addr.add] using World.cell?_spot c
      subst hs
      refine ⟨b, off, rfl, ?_, fun i z hz => ?_⟩
      · have := World.block_lt_of_cell? W _ c
        simpa [Addr.add] using this
      · have hi : i < len := by
          have := (List.getElem?_eq_some_iff.1 hz).1
          simpa using this
        have e : y i = z := by simpa [hi] using hz
        obtain ⟨t0, t1, _⟩ := hy i (by omega)
        simp only [Addr.add_lit] at t0 t1
        rw [e] at t0 t1
        exact ⟨t0, t1⟩
/-- Numbers that came in. -/
theorem open_nums {H : Type} {enc : TypeId × Value → H} {W : World} {a : Option Addr} {len cap : Nat} {d : DataW H} {ps : List MemPlace} (h : DataW.Trod enc Tryd.prog W 0 (fun _ => true) true 23 (.slice a len cap) d ps) :
    ∃ l : List Int, l.length = len ∧ SlZ W a l ∧ len ≤ 9223372036854775807 := by
  obtain ⟨fuel, hf⟩ := h
  rcases open_ints Tryd.underlying23 Tryd.underlying3 (by kernel_rfl) hf with ⟨hcs, _⟩ | ⟨x, l, c, zs, hcs, _, hl, hm, hz, _, hcell, hwz⟩
  · simp [Value.cells] at hcs
    obtain ⟨rfl, rfl, rfl⟩ := hcs
    exact ⟨[], rfl, ⟨(fun x hx => by cases hx), fun h => absurd rfl h⟩, by omega⟩
  · simp [Value.cells] at hcs
    obtain ⟨rfl, rfl, rfl⟩ := hcs
    have hz' : zs.length = cap := by simpa using hz
    unfold maxLen at hm
    refine ⟨zs.take len, by simp; omega, ⟨fun n hn => bounds_i64 (hwz n (List.mem_of_mem_take hn)), fun hne => ?_⟩, by omega⟩
    have hp : 0 < len := by
      rcases Nat.eq_zero_or_pos len with e | e
      · subst e; simp at hne
      · exact e
    obtain ⟨b, off, sp⟩ := x
    have c := hcell 0 (by omega)
    have hs : sp = none := by simpa [Addr.add] using World.cell?_spot c
    subst hs
    refine ⟨b, off, rfl, ?_, fun j z hz => ?_⟩
    · have := World.block_lt_of_cell? W _ c
      simpa [Addr.add] using this
    · have hj : j < len := by
        have := (List.getElem?_eq_some_iff.1 hz).1
        simp at this
        omega
      have := hcell j (by omega)
      rw [Addr.add_lit] at this
      rw [this]
      rw [List.getElem?_take_of_lt hj] at hz
      congr 2
      simp [List.getD, hz]

end Go.Proofs.YtlppibigceeimaaDoor
