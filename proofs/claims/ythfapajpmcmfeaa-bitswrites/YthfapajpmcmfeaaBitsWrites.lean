/-
  Statement 'BitsWrites' of layer 3: the frame of the row, over the walk of ..WritesW.
-/
import Derived.Test.YthfapajpmcmfeaaRows
import Derived.WalkKit
import Derived.ProofKit
import Derived.OpenShut
import Derived.ShutString
import Derived.ChangeOld
import Derived.Below
import Derived.Deep.Slices
import Derived.Test.YthfapajpmcmfeaaWritesW
namespace Go.Proofs.Ythfapajpmcmfeaa.bitsWrites
open Go.ChangeShapes Go.WideShapes Go.ChangeAt Go.RowKit
open Go.ChangeMaps (open_string shut_string)
set_option linter.unusedVariables false

theorem own : ownKnob Try.prog.godebug = none := by kernel_rfl
theorem laidOut : laidOutB Try.prog = true := by kernel_rfl

theorem c3 : Try.prog.cellsOf 3 = 1 := by kernel_rfl
theorem c33 : Try.prog.cellsOf 33 = 1 := by kernel_rfl
theorem c35 : Try.prog.cellsOf 35 = 4 := by kernel_rfl
theorem bounds_u64 {n : Int} (h : (Lit.int .u64 n).wf = true) : 0 ≤ n ∧ n < 18446744073709551616 := by
  simp [Lit.wf, IntKind.min, IntKind.max, IntKind.signed, IntKind.bits] at h
  omega

/-- One step, from its four cells. -/
theorem open_step {H : Type} {enc : TypeId × Value → H} {w : World} {base : Nat} {spare : Nat → Bool} {held : Bool} {n : Nat} {a : Addr} {cs : List Value} {x : DataW H × List MemPlace} (h1 : w.cells? base a 4 = some cs) (h2 : DataW.trod enc Try.prog w base spare held n 35 cs = some x) :
    ∃ (kd on nn : Int) (V : Nat), w.cell? (a.add 0) = some (.int .i64 kd) ∧ w.cell? (a.add 1) = some (.int .i64 on) ∧ w.cell? (a.add 2) = some (.int .u64 (V : Int)) ∧ w.cell? (a.add 3) = some (.int .i64 nn) ∧ V < 18446744073709551616 := by
  obtain ⟨_, hlen, hcell⟩ := World.cells?_some h1
  obtain ⟨xs, k, hk, hxy, _, hxl, hf⟩ := DataW.trod_struct Try.underlying35 h2
  match xs, hxl, cs, hlen with
  | [y0, y1, y2, y3], _, [v0, v1, v2, v3], _ =>
    have g0 := hf 0 _ rfl
    have g1 := hf 1 _ rfl
    have g2 := hf 2 _ rfl
    have g3 := hf 3 _ rfl
    simp [c3, c33] at g0 g1 g2 g3
    obtain ⟨n0, e0, _, _⟩ := DataW.trod_int Try.underlying3 g0
    obtain ⟨n1, e1, _, _⟩ := DataW.trod_int Try.underlying3 g1
    obtain ⟨n2, e2, _, w2⟩ := DataW.trod_int Try.underlying33 g2
    obtain ⟨n3, e3, _, _⟩ := DataW.trod_int Try.underlying3 g3
    simp at e0 e1 e2 e3
    subst e0 e1 e2 e3
    have b := bounds_u64 w2
    refine ⟨n0, n1, n3, n2.toNat, by simpa using hcell 0 (by omega), by simpa using hcell 1 (by omega), ?_, by simpa using hcell 3 (by omega), by omega⟩
    have := hcell 2 (by omega)
    rw [show ((n2.toNat : Nat) : Int) = n2 by omega]
    simpa using this

/-! ### The row -/
set_option maxRecDepth 100000 in
theorem lifted (os : Os) (started : os.Started) (H : Type) (enc : TypeId × Value → H) :
    ReturnsInHanded {} Try.checked os 3 .any (Rows.bitsWritesSpec.pre6 enc Try.prog Try.f3 Rows.bitsWritesRow.domain false) (Rows.bitsWritesSpec.post enc Try.prog Try.f3 false true false false) := by
  refine returnsInHanded_of_change (C := Try.checked) own started (by kernel_rfl) Try.func3
    (ChangeSpec.witness6 (enc := enc) (C := Try.checked) false ⟨#[], #[.slice none 0 0], []⟩ 8 (by kernel_rfl) (by kernel_rfl) (by kernel_rfl) (by kernel_rfl)) ?_
  intro W base args ds gs before hval0 hW hcnd _
  have hval : ∀ (j : Nat) t v, Try.f3.params[j]? = some t → args[j]? = some v → Value.okWide Try.prog W .any base t v := hval0
  have hW' := hW
  obtain ⟨p, q, hA0, hV, rfl, hfz, hnd⟩ := hW
  have hA : DataW.TrodAll enc Try.prog W 0 (fun _ => true) true Try.f3.params.toList args.toList ds p := hA0
  rw [Try.params3] at hA hval
  obtain ⟨v0, vs0, d0, ds0, p0, q0, hargs, rfl, rfl, h0, r0⟩ := trodAll_cons hA
  obtain ⟨rfl, rfl, rfl⟩ := trodAll_nil r0
  obtain rfl : args = #[v0] := by cases args; simp_all
  obtain ⟨rfl, rfl⟩ := trodVars_none hV
  obtain ⟨a0, len0, cap0, rfl⟩ := okWide_slice Try.underlying22 (hval 0 22 v0 rfl rfl)
  have k0 := h0
  have lt0 : ∀ x ∈ p0, x.block < W.heap.size := by obtain ⟨m, hm⟩ := k0; exact DataW.trod_lt m _ _ _ hm
  obtain ⟨kd, on, V, nn, hSc, hl⟩ : ∃ kd on V nn, Sc W a0 len0 kd on V nn ∧ len0 ≤ 9223372036854775807 := by
    obtain ⟨fuel, hf⟩ := h0
    rcases Go.Deep.open_slice Try.underlying22 hf with ⟨hcs, _⟩ | ⟨x, l, c, m, n, D, Pl, hcs, _, hl, hm, hmm, _, hx⟩
    · simp [Value.cells] at hcs
      obtain ⟨rfl, rfl, rfl⟩ := hcs
      exact ⟨fun _ => 0, fun _ => 0, fun _ => 0, fun _ => 0, fun h => absurd h (by omega), by omega⟩
    · simp [Value.cells] at hcs
      obtain ⟨rfl, rfl, rfl⟩ := hcs
      have hlm : len0 ≤ m := by
        rw [hmm]
        split <;> omega
      have each : ∀ i, i < m → ∃ y : Int × Int × Int × Nat, W.cell? ((x.add (i * 4)).add 0) = some (.int .i64 y.1) ∧ W.cell? ((x.add (i * 4)).add 1) = some (.int .i64 y.2.1) ∧ W.cell? ((x.add (i * 4)).add 2) = some (.int .u64 (y.2.2.2 : Int)) ∧ W.cell? ((x.add (i * 4)).add 3) = some (.int .i64 y.2.2.1) ∧ y.2.2.2 < 18446744073709551616 := by
        intro i hi
        obtain ⟨cs', h1, h2⟩ := hx i hi
        rw [c35] at h1
        obtain ⟨a1, a2, a3, a4, r⟩ := open_step h1 h2
        exact ⟨(a1, a2, a3, a4), r⟩
      obtain ⟨y, hy⟩ := Go.Deep.choose_lt each
      refine ⟨fun i => (y i).1, fun i => (y i).2.1, fun i => (y i).2.2.2, fun i => (y i).2.2.1, fun h => ?_, by unfold maxLen at hm; omega⟩
      obtain ⟨b, off, sp⟩ := x
      have c := (hy 0 (by omega)).1
      have hs : sp = none := by simpa [Addr.add] using World.cell?_spot c
      subst hs
      refine ⟨b, off, rfl, ?_, fun i hi => ?_⟩
      · have := World.block_lt_of_cell? W _ c
        rwa [add_block, add_block] at this
      · obtain ⟨t0, t1, t2, t3, t4⟩ := hy i (by omega)
        simp only [Addr.add_lit] at t0 t1 t2 t3
        exact ⟨t0, t1, t2, t3, t4⟩
  clear hA0 hval0
  refine (writes_any a0 len0 cap0 kd on V nn W hSc hl).mono fun e W' ⟨he, bel⟩ => ?_
  subst he
  exact ⟨_, rfl, _, _, _, [], _, [], hW', trodAll_mk1 (shut_bool Try.underlying4 _), (trodAll_cons_mk (Below.trod laidOut (by kernel_rfl) (of_decide_eq_true (by kernel_rfl)) k0 bel lt0) trodAll_mk0), rfl, bel.frame _, fun h => by cases h⟩

theorem over : Rows.bitsWritesRow.holds Try.pinned (OpenSpec.ofChange Rows.bitsWritesSpec) :=
  OpenClaim.holds_of_wide 3 Try.f3 rfl rfl rfl rfl rfl rfl rfl ⟨rfl, rfl, rfl, rfl, rfl⟩ rfl rfl rfl rfl rfl (by kernel_rfl) Try.func3 (by kernel_rfl)
    (of_decide_eq_true (by kernel_rfl)) (by unfold Func.isWrapper; first | (rw [if_pos (by decide +kernel)]; kernel_rfl) | (rw [if_neg (by decide +kernel)]; exact ⟨rfl, rfl⟩))
    (fun os started H enc _ => lifted os started H enc)

end Go.Proofs.Ythfapajpmcmfeaa.bitsWrites
namespace Go.Proofs.Ythfapajpmcmfeaa
theorem bitsWrites_holds : Rows.BitsWritesSaid := bitsWrites.over
#print axioms bitsWrites_holds
end Go.Proofs.Ythfapajpmcmfeaa
