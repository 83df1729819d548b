/-
  The rows' arguments and variables: requests, responses, bytes as they come in; what is laid.
-/
import Derived.Test.YtalmpmhnkilalaaGreatDoorRows
import Derived.Test.YtalmpmhnkilalaaGreatDoorRqM
import Derived.Lib.LaidU8
import Derived.OpenShut
import Derived.ChangeOld
import Derived.Deep.Slices
import Derived.ProofKit
import Derived.SizedLaws
import Derived.Carry
import Derived.Lay
import Derived.LaidOnce
import Derived.SevenTiedAt
namespace Go.Proofs.YtalmpmhnkilalaaGreatDoor
open Go.ChangeShapes Go.WideShapes Go.ChangeAt Go.RowKit
open Go.ChangeMaps (open_string shut_string)
set_option linter.unusedVariables false
set_option linter.unusedSimpArgs false

theorem rw_own : ownKnob Tryz.prog.godebug = none := by kernel_rfl
theorem rw_laidOut : laidOutB Tryz.prog = true := by kernel_rfl

theorem tab_of_reads {P : Program} {W : World} {name : String} {k : IntKind} {zs : List Int} {g : Nat} {t e : TypeId} {n : Nat}
    (hg : P.globalNamed name = some g) (hty : (P.globals[g]?).map (·.type) = some t) (ht : P.underlying t = some (.array n e)) (he : P.underlying e = some (.int k)) (hce : P.cellsOf e = 1) (hct : P.cellsOf t = n)
    (h : Lib.VarReads P W name (Lib.tabData k zs)) : Lib.TabIs P W name k zs := by
  obtain ⟨g', t', cs, fuel, p, hg', ht', hvar, hd⟩ := h
  obtain rfl := Option.some.inj (hg.symm.trans hg')
  obtain rfl := Option.some.inj (hty.symm.trans ht')
  unfold Lib.TabIs
  rw [hvar, ← Lib.cells_of_tab ht he hce hct hd]

def dbI : List Int := Lib.deBruijn64tab.map (fun (n : Nat) => (n : Int))
def wdI : List Int := [0, 7, 9, 12]
theorem gv_laid {W : World} (hL : laidMetH Tryz.prog [("math/bits.deBruijn64tab", Rows.laid_math_bits_deBruijn64tab), ("turnkey/chunk.shortWidths", Rows.laid_turnkey_chunk_shortWidths)] W) : Gv W := by
  rw [MakeChecks.laidMetH_plain _ _ _ (by kernel_rfl)] at hL
  have h1 := Lib.laidMet.reads hL (.head _)
  have h2 := Lib.laidMet.reads hL (.tail _ (.head _))
  have t1 : Lib.TabIs Tryz.prog W "math/bits.deBruijn64tab" .u8 dbI := tab_of_reads (g := 1) (by kernel_rfl) (t := 225) (by kernel_rfl) Tryz.underlying225 Tryz.underlying5 (by kernel_rfl) (by kernel_rfl) ((show (Rows.laid_math_bits_deBruijn64tab : DataW Unit) = Lib.tabData .u8 dbI by kernel_rfl) ▸ h1)
  have t2 : Lib.TabIs Tryz.prog W "turnkey/chunk.shortWidths" .i64 wdI := tab_of_reads (g := 0) (by kernel_rfl) (t := 218) (by kernel_rfl) Tryz.underlying218 Tryz.underlying3 (by kernel_rfl) (by kernel_rfl) ((show (Rows.laid_turnkey_chunk_shortWidths : DataW Unit) = Lib.tabData .i64 wdI by kernel_rfl) ▸ h2)
  refine ⟨fun j hj => ?_, fun j hj => ?_⟩
  · have := t2.cell (g := 0) (by kernel_rfl) j (by simpa [wdI] using hj)
    rw [this]
    rcases (show j = 0 ∨ j = 1 ∨ j = 2 ∨ j = 3 by omega) with rfl | rfl | rfl | rfl <;> rfl
  · have hl : dbI.length = 64 := by decide +kernel
    have := t1.cell (g := 1) (by kernel_rfl) j (by omega)
    rw [this]
    congr 2
    have hl2 : Lib.deBruijn64tab.length = 64 := by decide +kernel
    simp [dbI, List.getD, hl2, hj]

theorem rw_weights_mem_all {H : Type} {P : Program} {e : TypeId} : ∀ {ds : List (DataW H)} {d : DataW H}, d ∈ ds → ∀ n ∈ d.weights P e, n ∈ DataW.weightsAll P e ds
  | y :: t, d, hd, n, hn => by
    simp only [DataW.weightsAll, List.mem_append]
    rcases List.mem_cons.1 hd with rfl | hd
    · exact .inl hn
    · exact .inr (rw_weights_mem_all hd n hn)
theorem bnds_u8 {n : Int} (h : (Lit.int .u8 n).wf = true) : 0 ≤ n ∧ n ≤ 255 := by
  simp [Lit.wf, IntKind.min, IntKind.max, IntKind.signed, IntKind.bits] at h
  omega
theorem bnds_i64 {n : Int} (h : (Lit.int .i64 n).wf = true) : I64n n := by
  simp [Lit.wf, IntKind.min, IntKind.max, IntKind.signed, IntKind.bits] at h
  unfold I64n
  omega
theorem bnds_u64 {n : Int} (h : (Lit.int .u64 n).wf = true) : 0 ≤ n ∧ n < 18446744073709551616 := by
  simp [Lit.wf, IntKind.min, IntKind.max, IntKind.signed, IntKind.bits] at h
  omega

section
variable {H : Type} {enc : TypeId × Value → H} {w : World} {base : Nat}
/-- What is read so, with its weights in reach. -/
def Rd (enc : TypeId × Value → H) (w : World) (base n : Nat) (t : TypeId) (cs : List Value) : Prop :=
  ∃ x, DataW.trod enc Tryz.prog w base (fun _ => true) true n t cs = some x ∧ ∀ k ∈ x.1.weights Tryz.prog t, k ≤ reachBytes
/-- A struct of fields of one cell each. -/
theorem Rd.one {t : TypeId} {n : Nat} {fs : Array Field} {cs : List Value} (h : Rd enc w base n t cs) (ht : Tryz.prog.underlying t = some (.struct fs)) (hc : Tryz.prog.cellsOf t = fs.size)
    (hone : ((List.range fs.size).all fun i => match fs[i]? with | some f => f.offset == i && Tryz.prog.cellsOf f.type == 1 | none => false) = true) :
    cs.length = fs.size ∧ ∃ m, ∀ (i : Nat) (f : Field), fs[i]? = some f → ∃ v, cs[i]? = some v ∧ Rd enc w base m f.type [v] := by
  obtain ⟨x, h, hwt⟩ := h
  obtain ⟨xs, m, _, rfl, hl, hxl, hf⟩ := DataW.trod_struct ht h
  refine ⟨by omega, m, fun i f hi => ?_⟩
  have hi' : i < fs.size := (Array.getElem?_eq_some_iff.1 hi).1
  have h1 := List.all_eq_true.1 hone i (List.mem_range.2 hi')
  simp only [hi, Bool.and_eq_true, beq_iff_eq] at h1
  have h2 := hf i f hi
  rw [h1.1, h1.2] at h2
  have hic : i < cs.length := by omega
  have hix : i < xs.length := by omega
  have e : (cs.drop i).take 1 = [cs[i]] := by
    rw [List.drop_eq_getElem_cons hic]
    rfl
  rw [e, List.getElem?_eq_getElem hix] at h2
  refine ⟨cs[i], List.getElem?_eq_getElem hic, xs[i], h2, fun k hk => hwt k ?_⟩
  simp only [DataW.weights, ht]
  refine DataW.weights_mem_each (j := i) (t := f.type) (d := xs[i].1) ?_ ?_ k hk
  · simp [hi]
  · simp [hix]
/-- A list. -/
theorem Rd.list {α : Type} [Inhabited α] {t e : TypeId} {k n : Nat} {v : Value} (f : α → List Value) (Q : α → Prop) (h : Rd enc w base n t [v]) (ht : Tryz.prog.underlying t = some (.slice e)) (hc : Tryz.prog.cellsOf e = k) (hk : 0 < k) (hfl : ∀ s, (f s).length = k)
    (each : ∀ m cs, cs.length = k → Rd enc w base m e cs → ∃ s, cs = f s ∧ Q s) :
    ∃ (a : Option Addr) (cap : Nat) (l : List α), v = .slice a l.length cap ∧ l.length ≤ cap ∧ cap ≤ 9223372036854775807 ∧ (a = none → l.length = 0 ∧ cap = 0) ∧ Es w a k (l.map f) ∧ (∀ x ∈ l, Q x) ∧ l.length * Tryz.prog.bytesOf e ≤ reachBytes := by
  obtain ⟨x, h, hwt⟩ := h
  rcases Go.Deep.open_slice ht h with ⟨hcs, _⟩ | ⟨a, len, cap, m, n, D, Pl, hcs, _, hl, hm, hmm, hxd, hx⟩
  · simp at hcs
    exact ⟨none, 0, [], hcs, by simp, by omega, fun _ => ⟨rfl, rfl⟩, fun h => absurd rfl h, by simp, by simp⟩
  · simp at hcs
    subst hcs hxd
    have hlm : len ≤ m := by
      rw [hmm]
      split <;> omega
    have each' : ∀ i, i < len → ∃ s : α, (∀ j u, (f s)[j]? = some u → w.cell? ((a.add (i * k)).add j) = some u) ∧ Q s := by
      intro i hi
      obtain ⟨cs', h1, h2⟩ := hx i (by omega)
      rw [hc] at h1
      obtain ⟨_, hlen, hcell⟩ := World.cells?_some h1
      obtain ⟨s, rfl, hq⟩ := each _ cs' hlen ⟨_, h2, fun k hk => hwt k (by
        simp only [DataW.weights, ht, List.mem_cons, List.mem_append]
        exact .inr (.inl (rw_weights_mem_all (List.mem_map.2 ⟨i, List.mem_range.2 hi, rfl⟩) k hk)))⟩
      refine ⟨s, fun j u hu => ?_, hq⟩
      rw [hcell j (by have := (List.getElem?_eq_some_iff.1 hu).1; omega), hu]
    obtain ⟨y, hy⟩ := Go.Deep.choose_lt each'
    unfold maxLen at hm
    refine ⟨some a, cap, (List.range len).map y, by simp, by simpa using hl, by omega, fun e => (by cases e), fun h0 => ?_, fun z hz => ?_, ?_⟩
    · have h0' : 0 < len := by
        rcases Nat.eq_zero_or_pos len with e | e
        · rw [e] at h0; simp at h0
        · exact e
      obtain ⟨b, off, sp⟩ := a
      have hu : (f (y 0))[0]? = some ((f (y 0))[0]'(by rw [hfl]; exact hk)) := List.getElem?_eq_getElem _
      have c := (hy 0 h0').1 0 _ hu
      have hs : sp = none := by simpa [Addr.add] using World.cell?_spot c
      subst hs
      refine ⟨b, off, rfl, ?_, fun i z hz j u hu => ?_⟩
      · have := World.block_lt_of_cell? w _ c
        simpa [Addr.add] using this
      · have hi : i < len := by have := (List.getElem?_eq_some_iff.1 hz).1; simpa using this
        have hz' : z = f (y i) := by simp [List.getElem?_map, hi] at hz; exact hz.symm
        subst hz'
        have k := (hy i hi).1 j u hu
        simpa only [Addr.add_lit] using k
    · obtain ⟨i, hi, rfl⟩ := List.mem_map.1 hz
      exact (hy i (List.mem_range.1 hi)).2
    · have := hwt ((len + (m - len)) * Tryz.prog.bytesOf e) (by simp [DataW.weights, ht])
      refine Nat.le_trans ?_ this
      simp only [List.length_map, List.length_range]
      exact Nat.mul_le_mul_right _ (by omega)
theorem Rd.int {t : TypeId} {n : Nat} {k : IntKind} {v : Value} (h : Rd enc w base n t [v]) (ht : Tryz.prog.underlying t = some (.int k)) : ∃ z, v = .int k z ∧ (Lit.int k z).wf = true := by
  obtain ⟨x, h, _⟩ := h
  obtain ⟨z, e, _, b⟩ := DataW.trod_int ht h
  exact ⟨z, by simpa using e, b⟩
theorem Rd.str {t : TypeId} {n : Nat} {v : Value} (h : Rd enc w base n t [v]) (ht : Tryz.prog.underlying t = some .string) : ∃ s, v = .string s := by
  obtain ⟨x, h, _⟩ := h
  obtain ⟨z, e, _, b⟩ := DataW.trod_string ht h
  exact ⟨z, by simpa using e⟩
theorem two {cs : List Value} {u v : Value} (h : cs.length = 2) (h0 : cs[0]? = some u) (h1 : cs[1]? = some v) : cs = [u, v] := by
  match cs, h with
  | [a, b], _ => simp at h0 h1; subst h0 h1; rfl
theorem three {cs : List Value} {u v x : Value} (h : cs.length = 3) (h0 : cs[0]? = some u) (h1 : cs[1]? = some v) (h2 : cs[2]? = some x) : cs = [u, v, x] := by
  match cs, h with
  | [a, b, c], _ => simp at h0 h1 h2; subst h0 h1 h2; rfl
theorem rd_bytes {n : Nat} {v : Value} (h : Rd enc w base n 22 [v]) : ∃ (a : Option Addr) (k c : Nat) (l : List Int), v = .slice a k c ∧ Sl w a k l ∧ k ≤ c ∧ c ≤ 9223372036854775807 ∧ (a = none → k = 0 ∧ c = 0) := by
  obtain ⟨a, cap, l, e, h1, h2, h3, h4, h5, h6⟩ := h.list (k := 1) (fun z : Int => [Value.int .u8 z]) (fun z => 0 ≤ z ∧ z ≤ 255) Tryz.underlying22 (by kernel_rfl) (by omega) (fun _ => rfl) (fun m cs hl hr => by
    match cs, hl with
    | [v], _ =>
      obtain ⟨z, rfl, b⟩ := hr.int Tryz.underlying5
      exact ⟨z, rfl, bnds_u8 b⟩)
  refine ⟨a, l.length, cap, l, e, ⟨rfl, fun z hz => h5 z hz, fun j hj => ?_⟩, h1, h2, h3⟩
  obtain ⟨b, off, ea, hlt, hc⟩ := h4 (by intro e0; simp at e0; subst e0; simp at hj)
  refine ⟨⟨b, off, none⟩, ea, ?_⟩
  have := hc j [Value.int .u8 l[j]] (by simp [List.getElem?_map, hj]) 0 _ rfl
  simp only [Addr.add_lit]
  simpa [List.getD, hj] using this
end

end Go.Proofs.YtalmpmhnkilalaaGreatDoor
