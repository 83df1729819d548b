import Derived.Test.YtcgjmioncbihhaaDoorNumF
import Derived.BigQuiet
import Derived.Laws.StructEq
import Derived.Test.YtcgjmioncbihhaaDoorChT
import Derived.Test.YtcgjmioncbihhaaDoorRows
import Derived.Lib.LaidU8
import Derived.OpenShut
import Derived.ChangeOld
import Derived.Deep.Slices
import Derived.ProofKit
import Derived.SizedLaws
import Derived.Carry
import Derived.Lay
import Derived.LaidOnce
import Derived.SevenTiedAt
/-
  The statements' own same, first.
-/
namespace Go.Proofs.YtcgjmioncbihhaaDoor
open Go.RowKit
set_option linter.unusedVariables false
set_option linter.unusedSimpArgs false

theorem Ss.chg0 {w w' : World} {ad : Option Addr} {l : List Sm} (h : Ss w ad l) (hc : Chg (fun _ => False) w w') : Ss w' ad l := by
  refine ⟨h.sz, fun h0 => ?_⟩
  obtain ⟨b, off, e, hlt, hcc⟩ := h.at' h0
  refine ⟨b, off, e, Nat.lt_of_lt_of_le hlt hc.size, fun i x hx => ?_⟩
  obtain ⟨k1, k2⟩ := hcc i x hx
  have hb := hc.block b hlt (fun e => e)
  exact ⟨by rw [World.cell?_of_block (w := w) (a := ⟨b, _, none⟩) hb]; exact k1, by rw [World.cell?_of_block (w := w) (a := ⟨b, _, none⟩) hb]; exact k2⟩

set_option maxRecDepth 100000 in
set_option maxHeartbeats 8000000 in
theorem sameP (w : World) (a1 a2 : Option Addr) (c1 c2 : Nat) (l : List Sm) (h1 : Ss w a1 l) (h2 : Ss w a2 l) (hl : l.length ≤ 1000000000) :
    Calls Tryd.prog 16 #[.slice a1 l.length c1, .slice a2 l.length c2] w fun e w' => e = .returned (.bool true) ∧ Chg (fun _ => False) w w' := by
  have H1 := hidden h1
  have H2 := hidden h2
  obtain ⟨n, hn⟩ : ∃ n, l.length = n := ⟨_, rfl⟩
  rw [hn] at hl
  rw [hn]
  have HN := hidden hn
  clear h1 h2 hn
  go_enter Tryd.func16, Tryd.ntmps16
  go_wp2_with fail
  generalize hnn : ((n : Int) != (n : Int)) = bb at *
  go_loopw [5] (fun s5 wr => ∃ i : Nat, s5 = .int .i64 (i : Int) ∧ i ≤ n ∧ Hid (Chg (fun _ => False) w wr)) (fun s5 _ => n - (intOf s5).toNat)
  case atStart => exact ⟨0, rfl, by omega, hidden (Chg.refl _ _)⟩
  case round =>
    rename World => wr
    obtain ⟨i, rfl, hi, hC⟩ := hrel
    by_cases hlt : i < n
    · have hltz : (i : Int) < (n : Int) := by omega
      obtain ⟨b1, o1, x1, e1, hb1, hx1, _, k1, k2, _⟩ := (H1.out.chg0 hC.out).get (i := i) (by rw [HN.out]; exact hlt)
      obtain ⟨b2, o2, x2, e2, hb2, hx2, _, k3, k4, _⟩ := (H2.out.chg0 hC.out).get (i := i) (by rw [HN.out]; exact hlt)
      have hxx : x1 = x2 := by rw [hx1] at hx2; exact Option.some.inj hx2
      subst hxx e1 e2
      clear hx1 hx2
      go_wp2_with fail
      go_quiet (fail)
      go_wp2
      refine ⟨⟨i + 1, by rw [Int.natCast_add]; rfl, by omega, hidden (hC.out.trans (Chg.drewN (fun _ => False) wr nq) (fun _ _ e => e))⟩, ?_⟩
      simp [intOf]
      omega
    · have hltz : ¬ (i : Int) < (n : Int) := by omega
      go_wp2
      go_ret
      exact ⟨rfl, hC.out⟩


set_option maxRecDepth 100000 in
set_option maxHeartbeats 4000000 in
theorem firstBP (w : World) (ad : Option Addr) (n cap : Nat) (hl : n ≤ 9223372036854775807) (hlc : n ≤ cap) (hcm : cap ≤ 9223372036854775807) (hno : ad = none → n = 0 ∧ cap = 0) :
    Calls Tryd.prog 13 #[.slice ad n cap] w fun e w' => e = .returned (.slice ad (min n 100000) cap) ∧ w' = w := by
  cases ad with
  | none =>
    obtain ⟨rfl, rfl⟩ := hno rfl
    go_enter Tryd.func13, Tryd.ntmps13
    go_wp2
    go_ret
    exact ⟨rfl, rfl⟩
  | some x =>
    clear hno
    by_cases h : n ≤ 100000
    · have e : min n 100000 = n := by omega
      rw [e]
      have hz : min (n : Int) 100000 = (n : Int) := by omega
      go_enter Tryd.func13, Tryd.ntmps13
      go_wp2
      go_ret
      exact ⟨rfl, rfl⟩
    · have e : min n 100000 = 100000 := by omega
      rw [e]
      have hz : min (n : Int) 100000 = 100000 := by omega
      go_enter Tryd.func13, Tryd.ntmps13
      go_wp2
      go_ret
      exact ⟨rfl, rfl⟩

end Go.Proofs.YtcgjmioncbihhaaDoor

/-
  A chunk all of whose memory is new; the statements' own shown.
-/
namespace Go.Proofs.YtcgjmioncbihhaaDoor
open Go.RowKit
set_option linter.unusedVariables false
set_option linter.unusedSimpArgs false

/-- A chunk all of whose memory is new since w0. -/
def CB (w0 w : World) (c p : Nat) (most : Int) (l : List Sm) : Prop := ∃ rb, CS w c p rb most l ∧ (w0.heap.size ≤ c ∧ w0.heap.size ≤ p ∧ ∀ i, rb = some i → w0.heap.size ≤ i) ∧ Below w0.heap.size w0 w
theorem CB.bel {w0 w : World} {c p : Nat} {most : Int} {l : List Sm} (h : CB w0 w c p most l) : Below w0.heap.size w0 w := by
  obtain ⟨_, _, _, h⟩ := h
  exact h
theorem CB.later {w0 w w' : World} {c p : Nat} {most : Int} {l : List Sm} (h : CB w0 w c p most l) (hb : Below w.heap.size w w') : CB w0 w' c p most l := by
  obtain ⟨rb, h1, h2, h3⟩ := h
  exact ⟨rb, h1.later hb, h2, h3.trans (hb.mono h3.size)⟩
theorem cnew_b (w0 w : World) (most : Int) (hm : I64 most) (hlo : 2 ≤ w0.heap.size) (h : Below w0.heap.size w0 w) :
    Calls Tryd.prog 17 #[.int .i64 most] w fun e w' => ∃ c p, e = .returned (.pointer (some ⟨c, 0, none⟩)) ∧ CB w0 w' c p most [] ∧ Below w.heap.size w w' := by
  have hs := h.size
  refine (newP w most hm (by omega)).mono ?_
  rintro e w' ⟨c, p, rfl, h1, h2, h3, h4⟩
  exact ⟨c, p, rfl, ⟨none, h3, ⟨by omega, by omega, by simp⟩, h.trans (h4.mono h.size)⟩, h4⟩
theorem capp_b (w0 w : World) (c p : Nat) (most : Int) (l : List Sm) (s : Sm) (h : CB w0 w c p most l) (hG : Gv w0) (hs : OkS s) (hl : l.length ≤ 1000000) :
    Calls Tryd.prog 8 #[.pointer (some ⟨c, 0, none⟩), .int .i64 s.t, .int .u64 (s.v : Int)] w fun e w' => e = .returned (.bool (decide (((encC (l ++ [s])).length : Int) ≤ most))) ∧ CB w0 w' c p most (if ((encC (l ++ [s])).length : Int) ≤ most then l ++ [s] else l) := by
  obtain ⟨rb, h1, h2, h3⟩ := h
  refine (cappendP w c p rb most l s h1 (hG.later h3) hs hl).mono ?_
  rintro e w' ⟨rfl, rb', k1, k2, k3⟩
  refine ⟨rfl, rb', k1, ⟨h2.1, h2.2.1, ?_⟩, h3.trans (k2.below h3.size (fun i hi => ?_))⟩
  · rcases k3 with rfl | ⟨g, rfl, hg⟩
    · exact h2.2.2
    · intro i hi
      injection hi with hi
      have := h3.size
      omega
  · rcases hi with (rfl | hi) | rfl
    · exact h2.2.1
    · exact h2.2.2 i hi
    · exact h2.1
theorem clen_b (w0 w : World) (c p : Nat) (most : Int) (l : List Sm) (h : CB w0 w c p most l) :
    Calls Tryd.prog 10 #[.pointer (some ⟨c, 0, none⟩)] w fun e w' => e = .returned (.int .i64 (l.length : Int)) ∧ w' = w := by
  obtain ⟨rb, h1, _⟩ := h
  exact clenP w c p rb most l h1
theorem cbytes_b (w0 w : World) (c p : Nat) (most : Int) (l : List Sm) (h : CB w0 w c p most l) (hl : l.length ≤ 1000000) :
    Calls Tryd.prog 18 #[.pointer (some ⟨c, 0, none⟩)] w (BtP w (encC l)) := by
  obtain ⟨rb, h1, _⟩ := h
  exact cbytesP w c p rb most l h1 hl

def sA : Sm := ⟨1000, 5⟩
def sB : Sm := ⟨1060, 5⟩
def sC : Sm := ⟨1120, 5⟩
def sD : Sm := ⟨1180, 4⟩
def sE : Sm := ⟨1, 1⟩
theorem okA : OkS sA ∧ OkS sB ∧ OkS sC ∧ OkS sD ∧ OkS sE := by
  refine ⟨⟨?_, ?_⟩, ⟨?_, ?_⟩, ⟨?_, ?_⟩, ⟨?_, ?_⟩, ⟨?_, ?_⟩⟩ <;> simp [I64, sA, sB, sC, sD, sE]
theorem enc1 : ((encC ([] ++ [sA])).length : Int) ≤ 128 := by decide +kernel
theorem enc2 : ((encC ([] ++ [sA] ++ [sB])).length : Int) ≤ 128 := by decide +kernel
theorem enc3 : ((encC ([] ++ [sA] ++ [sB] ++ [sC])).length : Int) ≤ 128 := by decide +kernel
theorem enc4 : ((encC ([] ++ [sA] ++ [sB] ++ [sC] ++ [sD])).length : Int) ≤ 128 := by decide +kernel
theorem enc5 : ((encC ([] ++ [sE])).length : Int) ≤ 17 := by decide +kernel
theorem enc6 : ¬ ((encC ([] ++ [sE] ++ [sE])).length : Int) ≤ 17 := by decide +kernel
def shB : List Int := [4, 0, 0, 0, 0, 0, 0, 3, 232, 0, 0, 0, 0, 0, 0, 0, 5, 158, 7, 240, 32]
theorem enc7 : encC ([] ++ [sA] ++ [sB] ++ [sC] ++ [sD]) = shB := by decide +kernel
theorem rd0 : rdR [0] = none := by
  have : (Q.dec [0]).1 = 0 := by decide +kernel
  unfold rdR
  rw [if_neg (by simp), if_pos this]
theorem rd4 : rdR shB = some [sA, sB, sC, sD] := by
  rw [← enc7]
  have := rd_enc (l := [sA, sB, sC, sD]) (by
    intro x hx
    simp at hx
    rcases hx with rfl | rfl | rfl | rfl
    · exact okA.1
    · exact okA.2.1
    · exact okA.2.2.1
    · exact okA.2.2.2.1) (by decide)
  simpa using this

end Go.Proofs.YtcgjmioncbihhaaDoor

/-
  The rows' arguments and variables: what is laid, what came in.
-/
namespace Go.Proofs.YtcgjmioncbihhaaDoor
open Go.ChangeShapes Go.WideShapes Go.ChangeAt Go.RowKit
set_option linter.unusedVariables false
set_option linter.unusedSimpArgs false

theorem tab_of_reads {P : Program} {W : World} {name : String} {k : IntKind} {zs : List Int} {g : Nat} {t e : TypeId} {n : Nat}
    (hg : P.globalNamed name = some g) (hty : (P.globals[g]?).map (·.type) = some t) (ht : P.underlying t = some (.array n e)) (he : P.underlying e = some (.int k)) (hce : P.cellsOf e = 1) (hct : P.cellsOf t = n)
    (h : Lib.VarReads P W name (Lib.tabData k zs)) : Lib.TabIs P W name k zs := by
  obtain ⟨g', t', cs, fuel, p, hg', ht', hvar, hd⟩ := h
  obtain rfl := Option.some.inj (hg.symm.trans hg')
  obtain rfl := Option.some.inj (hty.symm.trans ht')
  unfold Lib.TabIs
  rw [hvar, ← Lib.cells_of_tab ht he hce hct hd]
def dbI : List Int := Lib.deBruijn64tab.map (fun (n : Nat) => (n : Int))
def wdI : List Int := [0, 7, 9, 12]
theorem gv_laid {W : World} (hL : laidMetH Tryd.prog [("math/bits.deBruijn64tab", Rows.laid_math_bits_deBruijn64tab), ("turnkey/chunk.shortWidths", Rows.laid_turnkey_chunk_shortWidths)] W) : Gv W := by
  rw [MakeChecks.laidMetH_plain _ _ _ (by kernel_rfl)] at hL
  have h1 := Lib.laidMet.reads hL (.head _)
  have h2 := Lib.laidMet.reads hL (.tail _ (.head _))
  have t1 : Lib.TabIs Tryd.prog W "math/bits.deBruijn64tab" .u8 dbI := tab_of_reads (g := 1) (by kernel_rfl) (t := 108) (by kernel_rfl) Tryd.underlying108 Tryd.underlying5 (by kernel_rfl) (by kernel_rfl) ((show (Rows.laid_math_bits_deBruijn64tab : DataW Unit) = Lib.tabData .u8 dbI by kernel_rfl) ▸ h1)
  have t2 : Lib.TabIs Tryd.prog W "turnkey/chunk.shortWidths" .i64 wdI := tab_of_reads (g := 0) (by kernel_rfl) (t := 95) (by kernel_rfl) Tryd.underlying95 Tryd.underlying3 (by kernel_rfl) (by kernel_rfl) ((show (Rows.laid_turnkey_chunk_shortWidths : DataW Unit) = Lib.tabData .i64 wdI by kernel_rfl) ▸ h2)
  refine ⟨fun j hj => ?_, fun j hj => ?_⟩
  · have := t2.cell (g := 0) (by kernel_rfl) j (by simpa [wdI] using hj)
    rw [this]
    rcases (show j = 0 ∨ j = 1 ∨ j = 2 ∨ j = 3 by omega) with rfl | rfl | rfl | rfl <;> rfl
  · have hl : dbI.length = 64 := by decide +kernel
    have := t1.cell (g := 1) (by kernel_rfl) j (by omega)
    rw [this]
    congr 2
    have hl2 : Lib.deBruijn64tab.length = 64 := by decide +kernel
    simp [dbI, List.getD, hl2, hj]
theorem gv_size {W : World} (h : Gv W) : 2 ≤ W.heap.size := by
  have := World.block_lt_of_cell? W _ (h.tab 0 (by omega))
  simp at this
  omega

theorem cof2 : Tryd.prog.cellsOf 2 = 1 := by kernel_rfl
theorem cof30 : Tryd.prog.cellsOf 30 = 1 := by kernel_rfl
theorem cof32 : Tryd.prog.cellsOf 32 = 2 := by kernel_rfl
theorem bounds_u64 {n : Int} (h : (Lit.int .u64 n).wf = true) : 0 ≤ n ∧ n < 18446744073709551616 := by
  simp [Lit.wf, IntKind.min, IntKind.max, IntKind.signed, IntKind.bits] at h
  omega
theorem bounds_i64 {n : Int} (h : (Lit.int .i64 n).wf = true) : I64 n := by
  simp [Lit.wf, IntKind.min, IntKind.max, IntKind.signed, IntKind.bits] at h
  unfold I64
  omega
set_option maxRecDepth 100000 in
/-- One sample, from its two cells. -/
theorem open_sample {H : Type} {enc : TypeId × Value → H} {w : World} {base : Nat} {spare : Nat → Bool} {held : Bool} {n : Nat} {a : Addr} {cs : List Value} {x : DataW H × List MemPlace} (h1 : w.cells? base a 2 = some cs) (h2 : DataW.trod enc Tryd.prog w base spare held n 32 cs = some x) :
    ∃ s : Sm, w.cell? (a.add 0) = some (.int .i64 s.t) ∧ w.cell? (a.add 1) = some (.int .u64 (s.v : Int)) ∧ OkS s := by
  obtain ⟨_, hlen, hcell⟩ := World.cells?_some h1
  obtain ⟨xs, k, hk, hxy, _, hxl, hf⟩ := DataW.trod_struct Tryd.underlying32 h2
  match xs, hxl, cs, hlen with
  | [y0, y1], _, [v0, v1], _ =>
    have g0 := hf 0 _ rfl
    have g1 := hf 1 _ rfl
    simp [cof2, cof30] at g0 g1
    obtain ⟨n0, e0, _, w0⟩ := DataW.trod_int Tryd.underlying2 g0
    obtain ⟨n1, e1, _, w1⟩ := DataW.trod_int Tryd.underlying30 g1
    simp at e0 e1
    subst e0 e1
    have b := bounds_u64 w1
    refine ⟨⟨n0, n1.toNat⟩, by simpa using hcell 0 (by omega), ?_, ⟨bounds_i64 w0, (by omega : n1.toNat < 18446744073709551616)⟩⟩
    have := hcell 1 (by omega)
    show w.cell? (a.add 1) = some (Value.int .u64 ((n1.toNat : Nat) : Int))
    rw [show ((n1.toNat : Nat) : Int) = n1 by omega]
    simpa using this
/-- Samples that came in. -/
theorem open_samples {H : Type} {enc : TypeId × Value → H} {W : World} {a : Option Addr} {len cap : Nat} {d : DataW H} {ps : List MemPlace} (h : DataW.Trod enc Tryd.prog W 0 (fun _ => true) true 40 (.slice a len cap) d ps) :
    ∃ l : List Sm, l.length = len ∧ Ss W a l ∧ len ≤ cap ∧ cap ≤ 9223372036854775807 ∧ (a = none → len = 0 ∧ cap = 0) := by
  obtain ⟨fuel, hf⟩ := h
  rcases Go.Deep.open_slice Tryd.underlying40 hf with ⟨hcs, _⟩ | ⟨x, l, c, m, n, D, Pl, hcs, _, hl, hm, hmm, _, hx⟩
  · simp [Value.cells] at hcs
    obtain ⟨rfl, rfl, rfl⟩ := hcs
    exact ⟨[], rfl, Ss.nil _ _, Nat.le_refl _, by omega, fun _ => ⟨rfl, rfl⟩⟩
  · simp [Value.cells] at hcs
    obtain ⟨rfl, rfl, rfl⟩ := hcs
    have hlm : len ≤ m := by
      rw [hmm]
      split <;> omega
    have each : ∀ i, i < m → ∃ y : Sm, W.cell? ((x.add (i * 2)).add 0) = some (.int .i64 y.t) ∧ W.cell? ((x.add (i * 2)).add 1) = some (.int .u64 (y.v : Int)) ∧ OkS y := by
      intro i hi
      obtain ⟨cs', h1, h2⟩ := hx i hi
      rw [cof32] at h1
      exact open_sample h1 h2
    haveI : Inhabited Sm := ⟨⟨0, 0⟩⟩
    obtain ⟨y, hy⟩ := Go.Deep.choose_lt each
    refine ⟨(List.range len).map y, by simp, ⟨?_, fun h0 => ?_⟩, hl, by unfold maxLen at hm; omega, fun e => by cases e⟩
    · intro z hz
      obtain ⟨i, hi, rfl⟩ := List.mem_map.1 hz
      exact (hy i (by have := List.mem_range.1 hi; omega)).2.2
    · have hp : 0 < len := by
        rcases Nat.eq_zero_or_pos len with e | e
        · subst e; simp at h0
        · exact e
      obtain ⟨b, off, sp⟩ := x
      have c := (hy 0 (by omega)).1
      have hs : sp = none := by simpa [Addr.add] using World.cell?_spot c
      subst hs
      refine ⟨b, off, rfl, ?_, fun i z hz => ?_⟩
      · have := World.block_lt_of_cell? W _ c
        simpa [Addr.add] using this
      · have hi : i < len := by
          have := (List.getElem?_eq_some_iff.1 hz).1
          simpa using this
        have e : y i = z := by simpa [hi] using hz
        obtain ⟨t0, t1, _⟩ := hy i (by omega)
        simp only [Addr.add_lit] at t0 t1
        rw [e] at t0 t1
        exact ⟨t0, t1⟩
/-- Bytes that came in. -/
theorem open_bytes {H : Type} {enc : TypeId × Value → H} {W : World} {a : Option Addr} {len cap : Nat} {d : DataW H} {ps : List MemPlace} (h : DataW.Trod enc Tryd.prog W 0 (fun _ => true) true 38 (.slice a len cap) d ps) :
    ∃ l : List Int, Sl W a len l ∧ len ≤ cap ∧ cap ≤ 9223372036854775807 ∧ (a = none → len = 0 ∧ cap = 0) := by
  obtain ⟨fuel, hf⟩ := h
  rcases open_ints Tryd.underlying38 Tryd.underlying5 (by kernel_rfl) hf with ⟨hcs, _⟩ | ⟨x, l, c, zs, hcs, _, hl, hm, hz, _, hcell, hwz⟩
  · simp [Value.cells] at hcs
    obtain ⟨rfl, rfl, rfl⟩ := hcs
    exact ⟨[], Sl.nil _ _, Nat.le_refl _, by omega, fun _ => ⟨rfl, rfl⟩⟩
  · simp [Value.cells] at hcs
    obtain ⟨rfl, rfl, rfl⟩ := hcs
    have hz' : zs.length = cap := by simpa using hz
    unfold maxLen at hm
    refine ⟨zs.take len, ⟨by simp; omega, fun n hn => ?_, fun j hj => ⟨x, rfl, ?_⟩⟩, hl, by omega, fun h => by cases h⟩
    · have := hwz n (List.mem_of_mem_take hn)
      simp [Lit.wf, IntKind.min, IntKind.max, IntKind.signed, IntKind.bits] at this
      omega
    · rw [hcell j (by omega)]
      congr 2
      simp [List.getD, hj]

end Go.Proofs.YtcgjmioncbihhaaDoor
