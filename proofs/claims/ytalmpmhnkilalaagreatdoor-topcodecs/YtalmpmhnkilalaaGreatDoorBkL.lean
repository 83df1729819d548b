/-
  The rows' arguments and variables: requests, responses, bytes as they come in; what is laid.
-/
import Derived.Test.YtalmpmhnkilalaaGreatDoorRows
import Derived.Test.YtalmpmhnkilalaaGreatDoorBkE
import Derived.Lib.LaidU8
import Derived.OpenShut
import Derived.ChangeOld
import Derived.Deep.Slices
import Derived.ProofKit
import Derived.SizedLaws
import Derived.Carry
import Derived.Lay
import Derived.LaidOnce
import Derived.SevenTiedAt
namespace Go.Proofs.YtalmpmhnkilalaaGreatDoor
open Go.ChangeShapes Go.WideShapes Go.ChangeAt Go.RowKit
open Go.ChangeMaps (open_string shut_string)
set_option linter.unusedVariables false
set_option linter.unusedSimpArgs false

theorem rw_own : ownKnob Tryz.prog.godebug = none := by kernel_rfl
theorem rw_laidOut : laidOutB Tryz.prog = true := by kernel_rfl

theorem tab_of_reads {P : Program} {W : World} {name : String} {k : IntKind} {zs : List Int} {g : Nat} {t e : TypeId} {n : Nat}
    (hg : P.globalNamed name = some g) (hty : (P.globals[g]?).map (·.type) = some t) (ht : P.underlying t = some (.array n e)) (he : P.underlying e = some (.int k)) (hce : P.cellsOf e = 1) (hct : P.cellsOf t = n)
    (h : Lib.VarReads P W name (Lib.tabData k zs)) : Lib.TabIs P W name k zs := by
  obtain ⟨g', t', cs, fuel, p, hg', ht', hvar, hd⟩ := h
  obtain rfl := Option.some.inj (hg.symm.trans hg')
  obtain rfl := Option.some.inj (hty.symm.trans ht')
  unfold Lib.TabIs
  rw [hvar, ← Lib.cells_of_tab ht he hce hct hd]

def dbI : List Int := Lib.deBruijn64tab.map (fun (n : Nat) => (n : Int))
def wdI : List Int := [0, 7, 9, 12]
theorem gv_laid {W : World} (hL : laidMetH Tryz.prog [("math/bits.deBruijn64tab", Rows.laid_math_bits_deBruijn64tab), ("turnkey/chunk.shortWidths", Rows.laid_turnkey_chunk_shortWidths)] W) : Gv W := by
  rw [MakeChecks.laidMetH_plain _ _ _ (by kernel_rfl)] at hL
  have h1 := Lib.laidMet.reads hL (.head _)
  have h2 := Lib.laidMet.reads hL (.tail _ (.head _))
  have t1 : Lib.TabIs Tryz.prog W "math/bits.deBruijn64tab" .u8 dbI := tab_of_reads (g := 1) (by kernel_rfl) (t := 225) (by kernel_rfl) Tryz.underlying225 Tryz.underlying5 (by kernel_rfl) (by kernel_rfl) ((show (Rows.laid_math_bits_deBruijn64tab : DataW Unit) = Lib.tabData .u8 dbI by kernel_rfl) ▸ h1)
  have t2 : Lib.TabIs Tryz.prog W "turnkey/chunk.shortWidths" .i64 wdI := tab_of_reads (g := 0) (by kernel_rfl) (t := 218) (by kernel_rfl) Tryz.underlying218 Tryz.underlying3 (by kernel_rfl) (by kernel_rfl) ((show (Rows.laid_turnkey_chunk_shortWidths : DataW Unit) = Lib.tabData .i64 wdI by kernel_rfl) ▸ h2)
  refine ⟨fun j hj => ?_, fun j hj => ?_⟩
  · have := t2.cell (g := 0) (by kernel_rfl) j (by simpa [wdI] using hj)
    rw [this]
    rcases (show j = 0 ∨ j = 1 ∨ j = 2 ∨ j = 3 by omega) with rfl | rfl | rfl | rfl <;> rfl
  · have hl : dbI.length = 64 := by decide +kernel
    have := t1.cell (g := 1) (by kernel_rfl) j (by omega)
    rw [this]
    congr 2
    have hl2 : Lib.deBruijn64tab.length = 64 := by decide +kernel
    simp [dbI, List.getD, hl2, hj]

theorem rw_weights_mem_all {H : Type} {P : Program} {e : TypeId} : ∀ {ds : List (DataW H)} {d : DataW H}, d ∈ ds → ∀ n ∈ d.weights P e, n ∈ DataW.weightsAll P e ds
  | y :: t, d, hd, n, hn => by
    simp only [DataW.weightsAll, List.mem_append]
    rcases List.mem_cons.1 hd with rfl | hd
    · exact .inl hn
    · exact .inr (rw_weights_mem_all hd n hn)
theorem bnds_u8 {n : Int} (h : (Lit.int .u8 n).wf = true) : 0 ≤ n ∧ n ≤ 255 := by
  simp [Lit.wf, IntKind.min, IntKind.max, IntKind.signed, IntKind.bits] at h
  omega
theorem bnds_i64 {n : Int} (h : (Lit.int .i64 n).wf = true) : I64n n := by
  simp [Lit.wf, IntKind.min, IntKind.max, IntKind.signed, IntKind.bits] at h
  unfold I64n
  omega
theorem bnds_u64 {n : Int} (h : (Lit.int .u64 n).wf = true) : 0 ≤ n ∧ n < 18446744073709551616 := by
  simp [Lit.wf, IntKind.min, IntKind.max, IntKind.signed, IntKind.bits] at h
  omega

section
variable {H : Type} {enc : TypeId × Value → H} {w : World} {base : Nat}
/-- What is read so, with its weights in reach. -/
def Rd (enc : TypeId × Value → H) (w : World) (base n : Nat) (t : TypeId) (cs : List Value) : Prop :=
  ∃ x, DataW.trod enc Tryz.prog w base (fun _ => true) true n t cs = some x ∧ ∀ k ∈ x.1.weights Tryz.prog t, k ≤ reachBytes
/-- A struct of fields of one cell each. -/
theorem Rd.one {t : TypeId} {n : Nat} {fs : Array Field} {cs : List Value} (h : Rd enc w base n t cs) (ht : Tryz.prog.underlying t = some (.struct fs)) (hc : Tryz.prog.cellsOf t = fs.size)
    (hone : ((List.range fs.size).all fun i => match fs[i]? with | some f => f.offset == i && Tryz.prog.cellsOf f.type == 1 | none => false) = true) :
    cs.length = fs.size ∧ ∃ m, ∀ (i : Nat) (f : Field), fs[i]? = some f → ∃ v, cs[i]? = some v ∧ Rd enc w base m f.type [v] := by
  obtain ⟨x, h, hwt⟩ := h
  obtain ⟨xs, m, _, rfl, hl, hxl, hf⟩ := DataW.trod_struct ht h
  refine ⟨by omega, m, fun i f hi => ?_⟩
  have hi' : i < fs.size := (Array.getElem?_eq_some_iff.1 hi).1
  have h1 := List.all_eq_true.1 hone i (List.mem_range.2 hi')
  simp only [hi, Bool.and_eq_true, beq_iff_eq] at h1
  have h2 := hf i f hi
  rw [h1.1, h1.2] at h2
  have hic : i < cs.length := by omega
  have hix : i < xs.length := by omega
  have e : (cs.drop i).take 1 = [cs[i]] := by
    rw [List.drop_eq_getElem_cons hic]
    rfl
  rw [e, List.getElem?_eq_getElem hix] at h2
  refine ⟨cs[i], List.getElem?_eq_getElem hic, xs[i], h2, fun k hk => hwt k ?_⟩
  simp only [DataW.weights, ht]
  refine DataW.weights_mem_each (j := i) (t := f.type) (d := xs[i].1) ?_ ?_ k hk
  · simp [hi]
  · simp [hix]
/-- A list. -/
theorem Rd.list {α : Type} [Inhabited α] {t e : TypeId} {k n : Nat} {v : Value} (f : α → List Value) (Q : α → Prop) (h : Rd enc w base n t [v]) (ht : Tryz.prog.underlying t = some (.slice e)) (hc : Tryz.prog.cellsOf e = k) (hk : 0 < k) (hfl : ∀ s, (f s).length = k)
    (each : ∀ m cs, cs.length = k → Rd enc w base m e cs → ∃ s, cs = f s ∧ Q s) :
    ∃ (a : Option Addr) (cap : Nat) (l : List α), v = .slice a l.length cap ∧ l.length ≤ cap ∧ cap ≤ 9223372036854775807 ∧ (a = none → l.length = 0 ∧ cap = 0) ∧ Es w a k (l.map f) ∧ (∀ x ∈ l, Q x) ∧ l.length * Tryz.prog.bytesOf e ≤ reachBytes := by
  obtain ⟨x, h, hwt⟩ := h
  rcases Go.Deep.open_slice ht h with ⟨hcs, _⟩ | ⟨a, len, cap, m, n, D, Pl, hcs, _, hl, hm, hmm, hxd, hx⟩
  · simp at hcs
    exact ⟨none, 0, [], hcs, by simp, by omega, fun _ => ⟨rfl, rfl⟩, fun h => absurd rfl h, by simp, by simp⟩
  · simp at hcs
    subst hcs hxd
    have hlm : len ≤ m := by
      rw [hmm]
      split <;> omega
    have each' : ∀ i, i < len → ∃ s : α, (∀ j u, (f s)[j]? = some u → w.cell? ((a.add (i * k)).add j) = some u) ∧ Q s := by
      intro i hi
      obtain ⟨cs', h1, h2⟩ := hx i (by omega)
      rw [hc] at h1
      obtain ⟨_, hlen, hcell⟩ := World.cells?_some h1
      obtain ⟨s, rfl, hq⟩ := each _ cs' hlen ⟨_, h2, fun k hk => hwt k (by
        simp only [DataW.weights, ht, List.mem_cons, List.mem_append]
        exact .inr (.inl (rw_weights_mem_all (List.mem_map.2 ⟨i, List.mem_range.2 hi, rfl⟩) k hk)))⟩
      refine ⟨s, fun j u hu => ?_, hq⟩
      rw [hcell j (by have := (List.getElem?_eq_some_iff.1 hu).1; omega), hu]
    obtain ⟨y, hy⟩ := Go.Deep.choose_lt each'
    unfold maxLen at hm
    refine ⟨some a, cap, (List.range len).map y, by simp, by simpa using hl, by omega, fun e => (by cases e), fun h0 => ?_, fun z hz => ?_, ?_⟩
    · have h0' : 0 < len := by
        rcases Nat.eq_zero_or_pos len with e | e
        · rw [e] at h0; simp at h0
        · exact e
      obtain ⟨b, off, sp⟩ := a
      have hu : (f (y 0))[0]? = some ((f (y 0))[0]'(by rw [hfl]; exact hk)) := List.getElem?_eq_getElem _
      have c := (hy 0 h0').1 0 _ hu
      have hs : sp = none := by simpa [Addr.add] using World.cell?_spot c
      subst hs
      refine ⟨b, off, rfl, ?_, fun i z hz j u hu => ?_⟩
      · have := World.block_lt_of_cell? w _ c
        simpa [Addr.add] using this
      · have hi : i < len := by have := (List.getElem?_eq_some_iff.1 hz).1; simpa using this
        have hz' : z = f (y i) := by simp [List.getElem?_map, hi] at hz; exact hz.symm
        subst hz'
        have k := (hy i hi).1 j u hu
        simpa only [Addr.add_lit] using k
    · obtain ⟨i, hi, rfl⟩ := List.mem_map.1 hz
      exact (hy i (List.mem_range.1 hi)).2
    · have := hwt ((len + (m - len)) * Tryz.prog.bytesOf e) (by simp [DataW.weights, ht])
      refine Nat.le_trans ?_ this
      simp only [List.length_map, List.length_range]
      exact Nat.mul_le_mul_right _ (by omega)
theorem Rd.int {t : TypeId} {n : Nat} {k : IntKind} {v : Value} (h : Rd enc w base n t [v]) (ht : Tryz.prog.underlying t = some (.int k)) : ∃ z, v = .int k z ∧ (Lit.int k z).wf = true := by
  obtain ⟨x, h, _⟩ := h
  obtain ⟨z, e, _, b⟩ := DataW.trod_int ht h
  exact ⟨z, by simpa using e, b⟩
theorem Rd.str {t : TypeId} {n : Nat} {v : Value} (h : Rd enc w base n t [v]) (ht : Tryz.prog.underlying t = some .string) : ∃ s, v = .string s := by
  obtain ⟨x, h, _⟩ := h
  obtain ⟨z, e, _, b⟩ := DataW.trod_string ht h
  exact ⟨z, by simpa using e⟩
theorem two {cs : List Value} {u v : Value} (h : cs.length = 2) (h0 : cs[0]? = some u) (h1 : cs[1]? = some v) : cs = [u, v] := by
  match cs, h with
  | [a, b], _ => simp at h0 h1; subst h0 h1; rfl
theorem three {cs : List Value} {u v x : Value} (h : cs.length = 3) (h0 : cs[0]? = some u) (h1 : cs[1]? = some v) (h2 : cs[2]? = some x) : cs = [u, v, x] := by
  match cs, h with
  | [a, b, c], _ => simp at h0 h1 h2; subst h0 h1 h2; rfl
theorem rd_label {n : Nat} {cs : List Value} (hl : cs.length = 2) (h : Rd enc w base n 47 cs) : ∃ s : La, cs = s.cells ∧ True := by
  obtain ⟨_, m, hf⟩ := h.one Tryz.underlying47 (by kernel_rfl) (by kernel_rfl)
  obtain ⟨v0, c0, g0⟩ := hf 0 _ rfl
  obtain ⟨v1, c1, g1⟩ := hf 1 _ rfl
  obtain ⟨s0, rfl⟩ := g0.str Tryz.underlying9
  obtain ⟨s1, rfl⟩ := g1.str Tryz.underlying9
  exact ⟨⟨s0, s1⟩, two hl c0 c1, trivial⟩
theorem rd_match {n : Nat} {cs : List Value} (hl : cs.length = 3) (h : Rd enc w base n 52 cs) : ∃ s : Ma, cs = s.cells ∧ I64n s.op := by
  obtain ⟨_, m, hf⟩ := h.one Tryz.underlying52 (by kernel_rfl) (by kernel_rfl)
  obtain ⟨v0, c0, g0⟩ := hf 0 _ rfl
  obtain ⟨v1, c1, g1⟩ := hf 1 _ rfl
  obtain ⟨v2, c2, g2⟩ := hf 2 _ rfl
  obtain ⟨s0, rfl⟩ := g0.str Tryz.underlying9
  obtain ⟨s1, rfl, b1⟩ := g1.int Tryz.underlying3
  obtain ⟨s2, rfl⟩ := g2.str Tryz.underlying9
  exact ⟨⟨s0, s1, s2⟩, three hl c0 c1 c2, bnds_i64 b1⟩
def smC (s : Sm) : List Value := [.int .i64 s.t, .int .u64 (s.v : Int)]
theorem rd_sample {n : Nat} {cs : List Value} (hl : cs.length = 2) (h : Rd enc w base n 50 cs) : ∃ s : Sm, cs = smC s ∧ OkS s := by
  obtain ⟨_, m, hf⟩ := h.one Tryz.underlying50 (by kernel_rfl) (by kernel_rfl)
  obtain ⟨v0, c0, g0⟩ := hf 0 _ rfl
  obtain ⟨v1, c1, g1⟩ := hf 1 _ rfl
  obtain ⟨s0, rfl, b0⟩ := g0.int Tryz.underlying2
  obtain ⟨s1, rfl, b1⟩ := g1.int Tryz.underlying48
  have b := bnds_u64 b1
  refine ⟨⟨s0, s1.toNat⟩, ?_, ⟨?_, (by omega : s1.toNat < 18446744073709551616)⟩⟩
  · rw [two hl c0 c1]
    unfold smC
    show [Value.int .i64 s0, Value.int .u64 s1] = [Value.int .i64 s0, Value.int .u64 ((s1.toNat : Nat) : Int)]
    rw [show ((s1.toNat : Nat) : Int) = s1 by omega]
  · have := bnds_i64 b0
    unfold I64n at this
    unfold I64
    show _ ≤ s0 ∧ s0 ≤ _
    omega
instance : Inhabited La := ⟨⟨⟨#[]⟩, ⟨#[]⟩⟩⟩
instance : Inhabited Ma := ⟨⟨⟨#[]⟩, 0, ⟨#[]⟩⟩⟩
instance : Inhabited Sm := ⟨⟨0, 0⟩⟩
instance : Inhabited Ser := ⟨⟨none, 0, 0, [], none, 0, 0, []⟩⟩
instance : Inhabited Ror := ⟨⟨none, 0, 0, [], 0⟩⟩
theorem rd_labels {n : Nat} {v : Value} (h : Rd enc w base n 42 [v]) : ∃ (a : Option Addr) (cap : Nat) (l : List La), v = .slice a l.length cap ∧ l.length ≤ 9223372036854775807 ∧ Es w a 2 (l.map La.cells) := by
  obtain ⟨a, cap, l, e, h1, h2, h3, h4, h5, h6⟩ := h.list La.cells (fun _ => True) Tryz.underlying42 (by kernel_rfl) (by omega) (fun _ => rfl) (fun m cs hl hr => rd_label hl hr)
  exact ⟨a, cap, l, e, by omega, h4⟩
theorem rd_samples {n : Nat} {v : Value} (h : Rd enc w base n 43 [v]) : ∃ (a : Option Addr) (cap : Nat) (l : List Sm), v = .slice a l.length cap ∧ l.length ≤ 281474976710656 ∧ Ss w a l := by
  obtain ⟨a, cap, l, e, h1, h2, h3, h4, h5, h6⟩ := h.list smC OkS Tryz.underlying43 (by kernel_rfl) (by omega) (fun _ => rfl) (fun m cs hl hr => rd_sample hl hr)
  refine ⟨a, cap, l, e, ?_, ⟨h5, fun h0 => ?_⟩⟩
  · rw [show Tryz.prog.bytesOf 50 = 16 by kernel_rfl] at h6
    simp only [reachBytes] at h6
    omega
  · obtain ⟨b, off, ea, hlt, hc⟩ := h4 (by simpa using h0)
    refine ⟨b, off, ea, hlt, fun i x hx => ⟨?_, ?_⟩⟩
    · have := hc i (smC x) (by simp [List.getElem?_map, hx]) 0 _ rfl
      simpa using this
    · exact hc i (smC x) (by simp [List.getElem?_map, hx]) 1 _ rfl
theorem rd_ser {n : Nat} {cs : List Value} (hl : cs.length = 2) (h : Rd enc w base n 45 cs) : ∃ s : Ser, cs = s.cells ∧ SerN w s := by
  obtain ⟨_, m, hf⟩ := h.one Tryz.underlying45 (by kernel_rfl) (by kernel_rfl)
  obtain ⟨v0, c0, g0⟩ := hf 0 _ rfl
  obtain ⟨v1, c1, g1⟩ := hf 1 _ rfl
  obtain ⟨a0, k0, l0, rfl, b0, e0⟩ := rd_labels g0
  obtain ⟨a1, k1, l1, rfl, b1, e1⟩ := rd_samples g1
  exact ⟨⟨a0, l0.length, k0, l0, a1, l1.length, k1, l1⟩, two hl c0 c1, e0, rfl, b0, e1, rfl, b1⟩
theorem rd_row {n : Nat} {cs : List Value} (hl : cs.length = 2) (h : Rd enc w base n 59 cs) : ∃ s : Ror, cs = s.cells ∧ RorM w s := by
  obtain ⟨_, m, hf⟩ := h.one Tryz.underlying59 (by kernel_rfl) (by kernel_rfl)
  obtain ⟨v0, c0, g0⟩ := hf 0 _ rfl
  obtain ⟨v1, c1, g1⟩ := hf 1 _ rfl
  obtain ⟨a0, k0, l0, rfl, b0, e0⟩ := rd_labels g0
  obtain ⟨n1, rfl, b1⟩ := g1.int Tryz.underlying48
  have b := bnds_u64 b1
  refine ⟨⟨a0, l0.length, k0, l0, n1.toNat⟩, ?_, e0, rfl, b0, (by omega : n1.toNat ≤ 18446744073709551615)⟩
  rw [two hl c0 c1]
  unfold Ror.cells
  show [Value.slice a0 l0.length k0, Value.int .u64 n1] = [Value.slice a0 l0.length k0, Value.int .u64 ((n1.toNat : Nat) : Int)]
  rw [show ((n1.toNat : Nat) : Int) = n1 by omega]

/-- A field that came in. -/
def In1 (w : World) (v : Value) (k : Kd) : Prop := ∃ m : FM, v = m.val ∧ m.fv.kd = k ∧ m.mem w
theorem in_tx {n : Nat} {v : Value} (h : Rd enc w base n 9 [v]) : In1 w v .tx := by
  obtain ⟨s, rfl⟩ := h.str Tryz.underlying9
  exact ⟨.tx s, rfl, rfl, trivial⟩
theorem in_qu {n : Nat} {v : Value} (h : Rd enc w base n 9 [v]) : In1 w v .qu := by
  obtain ⟨s, rfl⟩ := h.str Tryz.underlying9
  exact ⟨.qu s, rfl, rfl, trivial⟩
theorem rd_bytes {n : Nat} {v : Value} (h : Rd enc w base n 22 [v]) : ∃ (a : Option Addr) (k c : Nat) (l : List Int), v = .slice a k c ∧ Sl w a k l ∧ k ≤ c ∧ c ≤ 9223372036854775807 ∧ (a = none → k = 0 ∧ c = 0) := by
  obtain ⟨a, cap, l, e, h1, h2, h3, h4, h5, h6⟩ := h.list (k := 1) (fun z : Int => [Value.int .u8 z]) (fun z => 0 ≤ z ∧ z ≤ 255) Tryz.underlying22 (by kernel_rfl) (by omega) (fun _ => rfl) (fun m cs hl hr => by
    match cs, hl with
    | [v], _ =>
      obtain ⟨z, rfl, b⟩ := hr.int Tryz.underlying5
      exact ⟨z, rfl, bnds_u8 b⟩)
  refine ⟨a, l.length, cap, l, e, ⟨rfl, fun z hz => h5 z hz, fun j hj => ?_⟩, h1, h2, h3⟩
  obtain ⟨b, off, ea, hlt, hc⟩ := h4 (by intro e0; simp at e0; subst e0; simp at hj)
  refine ⟨⟨b, off, none⟩, ea, ?_⟩
  have := hc j [Value.int .u8 l[j]] (by simp [List.getElem?_map, hj]) 0 _ rfl
  simp only [Addr.add_lit]
  simpa [List.getD, hj] using this
theorem in_tk {n : Nat} {v : Value} (h : Rd enc w base n 22 [v]) : In1 w v .tk := by
  obtain ⟨a, k, c, l, rfl, hs, h1, h2, h3⟩ := rd_bytes h
  exact ⟨.tk a k c l, rfl, rfl, hs, by omega⟩
theorem in_ws {n : Nat} {v : Value} (h : Rd enc w base n 23 [v]) : In1 w v .ws := by
  obtain ⟨a, cap, l, rfl, h1, h2, h3, h4, h5, h6⟩ := h.list Ser.cells (SerN w) Tryz.underlying23 (by kernel_rfl) (by omega) (fun _ => rfl) (fun m cs hl hr => rd_ser hl hr)
  exact ⟨.ws a cap l, rfl, rfl, by omega, h4, h5⟩
theorem in_se {n : Nat} {v : Value} (h : Rd enc w base n 23 [v]) : In1 w v .se := by
  obtain ⟨a, cap, l, rfl, h1, h2, h3, h4, h5, h6⟩ := h.list Ser.cells (SerN w) Tryz.underlying23 (by kernel_rfl) (by omega) (fun _ => rfl) (fun m cs hl hr => rd_ser hl hr)
  exact ⟨.se a cap l, rfl, rfl, by omega, h4, h5⟩
theorem in_ms {n : Nat} {v : Value} (h : Rd enc w base n 24 [v]) : In1 w v .ms := by
  obtain ⟨a, cap, l, rfl, h1, h2, h3, h4, h5, h6⟩ := h.list Ma.cells (fun x => I64n x.op) Tryz.underlying24 (by kernel_rfl) (by omega) (fun _ => rfl) (fun m cs hl hr => rd_match hl hr)
  exact ⟨.ms a cap l, rfl, rfl, by omega, h4, h5⟩
theorem in_ro {n : Nat} {v : Value} (h : Rd enc w base n 54 [v]) : In1 w v .ro := by
  obtain ⟨a, cap, l, rfl, h1, h2, h3, h4, h5, h6⟩ := h.list Ror.cells (RorM w) Tryz.underlying54 (by kernel_rfl) (by omega) (fun _ => rfl) (fun m cs hl hr => rd_row hl hr)
  exact ⟨.ro a cap l, rfl, rfl, by omega, h4, h5⟩
theorem in_ts {n : Nat} {v : Value} (h : Rd enc w base n 55 [v]) : In1 w v .ts := by
  obtain ⟨a, cap, l, rfl, h1, h2, h3, h4, h5, h6⟩ := h.list (k := 1) (fun d : ByteArray => [Value.string d]) (fun _ => True) Tryz.underlying55 (by kernel_rfl) (by omega) (fun _ => rfl) (fun m cs hl hr => by
    match cs, hl with
    | [v], _ =>
      obtain ⟨z, rfl⟩ := hr.str Tryz.underlying9
      exact ⟨z, rfl, trivial⟩)
  exact ⟨.ts a cap l, rfl, rfl, by omega, h4⟩
theorem in_tm {n : Nat} {v : Value} (h : Rd enc w base n 2 [v]) : In1 w v .tm := by
  obtain ⟨s, rfl, b⟩ := h.int Tryz.underlying2
  exact ⟨.tm s, rfl, rfl, bnds_i64 b⟩
theorem in_am {n : Nat} {v : Value} (h : Rd enc w base n 3 [v]) : In1 w v .am := by
  obtain ⟨s, rfl, b⟩ := h.int Tryz.underlying3
  exact ⟨.am s, rfl, rfl, bnds_i64 b⟩
theorem in_nu {n : Nat} {v : Value} (h : Rd enc w base n 3 [v]) : In1 w v .nu := by
  obtain ⟨s, rfl, b⟩ := h.int Tryz.underlying3
  exact ⟨.nu s, rfl, rfl, bnds_i64 b⟩

/-- A request that came in. -/
theorem open_request {n : Nat} {cs : List Value} (h : Rd enc w base n 26 cs) : ∃ k fm, cs = cQ k fm ∧ RqM w k fm := by
  obtain ⟨hl, m, hf⟩ := h.one Tryz.underlying26 (by kernel_rfl) (by kernel_rfl)
  obtain ⟨v0, c0, g0⟩ := hf 0 _ rfl
  obtain ⟨v1, c1, g1⟩ := hf 1 _ rfl
  obtain ⟨v2, c2, g2⟩ := hf 2 _ rfl
  obtain ⟨v3, c3, g3⟩ := hf 3 _ rfl
  obtain ⟨v4, c4, g4⟩ := hf 4 _ rfl
  obtain ⟨v5, c5, g5⟩ := hf 5 _ rfl
  obtain ⟨v6, c6, g6⟩ := hf 6 _ rfl
  obtain ⟨v7, c7, g7⟩ := hf 7 _ rfl
  obtain ⟨v8, c8, g8⟩ := hf 8 _ rfl
  obtain ⟨v9, c9, g9⟩ := hf 9 _ rfl
  obtain ⟨v10, c10, g10⟩ := hf 10 _ rfl
  obtain ⟨v11, c11, g11⟩ := hf 11 _ rfl
  obtain ⟨v12, c12, g12⟩ := hf 12 _ rfl
  obtain ⟨k, rfl, bk⟩ := g0.int Tryz.underlying3
  obtain ⟨m1, rfl, k1, e1⟩ := in_tx g1
  obtain ⟨m2, rfl, k2, e2⟩ := in_tk g2
  obtain ⟨m3, rfl, k3, e3⟩ := in_ws g3
  obtain ⟨m4, rfl, k4, e4⟩ := in_ms g4
  obtain ⟨m5, rfl, k5, e5⟩ := in_tm g5
  obtain ⟨m6, rfl, k6, e6⟩ := in_tm g6
  obtain ⟨m7, rfl, k7, e7⟩ := in_qu g7
  obtain ⟨m8, rfl, k8, e8⟩ := in_tx g8
  obtain ⟨m9, rfl, k9, e9⟩ := in_am g9
  obtain ⟨m10, rfl, k10, e10⟩ := in_am g10
  obtain ⟨m11, rfl, k11, e11⟩ := in_am g11
  obtain ⟨m12, rfl, k12, e12⟩ := in_tk g12
  let L := [m1, m2, m3, m4, m5, m6, m7, m8, m9, m10, m11, m12]
  refine ⟨k, fun i => if h : i < 12 then L[i]'h else zM (kdQ i), ?_, ⟨?_, ?_, bnds_i64 bk, fun i hi => by rw [dif_neg (by omega)]⟩⟩
  · match cs, hl with
    | [u0, u1, u2, u3, u4, u5, u6, u7, u8, u9, u10, u11, u12], _ =>
      simp only [List.getElem?_cons_zero, List.getElem?_cons_succ, Option.some.injEq] at c0 c1 c2 c3 c4 c5 c6 c7 c8 c9 c10 c11 c12
      subst c0 c1 c2 c3 c4 c5 c6 c7 c8 c9 c10 c11 c12
      rfl
  · intro i hi
    rcases (show i = 0 ∨ i = 1 ∨ i = 2 ∨ i = 3 ∨ i = 4 ∨ i = 5 ∨ i = 6 ∨ i = 7 ∨ i = 8 ∨ i = 9 ∨ i = 10 ∨ i = 11 by omega) with rfl | rfl | rfl | rfl | rfl | rfl | rfl | rfl | rfl | rfl | rfl | rfl
    all_goals first | exact k1 | exact k2 | exact k3 | exact k4 | exact k5 | exact k6 | exact k7 | exact k8 | exact k9 | exact k10 | exact k11 | exact k12
  · intro i hi
    rcases (show i = 0 ∨ i = 1 ∨ i = 2 ∨ i = 3 ∨ i = 4 ∨ i = 5 ∨ i = 6 ∨ i = 7 ∨ i = 8 ∨ i = 9 ∨ i = 10 ∨ i = 11 by omega) with rfl | rfl | rfl | rfl | rfl | rfl | rfl | rfl | rfl | rfl | rfl | rfl
    all_goals first | exact e1 | exact e2 | exact e3 | exact e4 | exact e5 | exact e6 | exact e7 | exact e8 | exact e9 | exact e10 | exact e11 | exact e12
/-- A response that came in. -/
theorem open_response {n : Nat} {cs : List Value} (h : Rd enc w base n 57 cs) : ∃ e k fm, cs = cA e k fm ∧ RsM w e k fm := by
  obtain ⟨hl, m, hf⟩ := h.one Tryz.underlying57 (by kernel_rfl) (by kernel_rfl)
  obtain ⟨v0, c0, g0⟩ := hf 0 _ rfl
  obtain ⟨v1, c1, g1⟩ := hf 1 _ rfl
  obtain ⟨v2, c2, g2⟩ := hf 2 _ rfl
  obtain ⟨v3, c3, g3⟩ := hf 3 _ rfl
  obtain ⟨v4, c4, g4⟩ := hf 4 _ rfl
  obtain ⟨v5, c5, g5⟩ := hf 5 _ rfl
  obtain ⟨e, rfl, be⟩ := g0.int Tryz.underlying30
  obtain ⟨k, rfl, bk⟩ := g1.int Tryz.underlying3
  obtain ⟨m1, rfl, k1, e1⟩ := in_se g2
  obtain ⟨m2, rfl, k2, e2⟩ := in_ro g3
  obtain ⟨m3, rfl, k3, e3⟩ := in_nu g4
  obtain ⟨m4, rfl, k4, e4⟩ := in_ts g5
  let L := [m1, m2, m3, m4]
  refine ⟨e, k, fun i => if h : i < 4 then L[i]'h else zM (kdA i), ?_, ⟨?_, ?_, bnds_i64 be, bnds_i64 bk, fun i hi => by rw [dif_neg (by omega)]⟩⟩
  · match cs, hl with
    | [u0, u1, u2, u3, u4, u5], _ =>
      simp only [List.getElem?_cons_zero, List.getElem?_cons_succ, Option.some.injEq] at c0 c1 c2 c3 c4 c5
      subst c0 c1 c2 c3 c4 c5
      rfl
  · intro i hi
    rcases (show i = 0 ∨ i = 1 ∨ i = 2 ∨ i = 3 by omega) with rfl | rfl | rfl | rfl
    all_goals first | exact k1 | exact k2 | exact k3 | exact k4
  · intro i hi
    rcases (show i = 0 ∨ i = 1 ∨ i = 2 ∨ i = 3 by omega) with rfl | rfl | rfl | rfl
    all_goals first | exact e1 | exact e2 | exact e3 | exact e4
end

end Go.Proofs.YtalmpmhnkilalaaGreatDoor
