/-
  Statement 'WalPlays' of layer 6: the frame of the row, over the walk of ..WhW. The row's own reach bounds the lists.
-/
import Derived.Test.YtnfjhdedcnbdbaaGreatRows
import Derived.Test.YtnfjhdedcnbdbaaGreatWaB
import Derived.SizedLaws
import Derived.WalkKit
import Derived.ProofKit
import Derived.OpenShut
import Derived.ShutString
import Derived.ChangeOld
import Derived.Below
import Derived.Deep.Slices
namespace Go.Proofs.YtnfjhdedcnbdbaaGreat.walPlays
open Go.ChangeShapes Go.WideShapes Go.ChangeAt Go.RowKit
open Go.ChangeMaps (open_string shut_string)
set_option linter.unusedVariables false
set_option linter.unusedSimpArgs false

theorem own : ownKnob Tryz.prog.godebug = none := by kernel_rfl
theorem laidOut : laidOutB Tryz.prog = true := by kernel_rfl
theorem c3 : Tryz.prog.cellsOf 3 = 1 := by kernel_rfl
theorem c28 : Tryz.prog.cellsOf 28 = 1 := by kernel_rfl
theorem c30 : Tryz.prog.cellsOf 30 = 4 := by kernel_rfl
theorem bnds_u8 {n : Int} (h : (Lit.int .u8 n).wf = true) : 0 ≤ n ∧ n ≤ 255 := by
  simp [Lit.wf, IntKind.min, IntKind.max, IntKind.signed, IntKind.bits] at h
  omega
theorem bnds_i64 {n : Int} (h : (Lit.int .i64 n).wf = true) : -9223372036854775808 ≤ n ∧ n ≤ 9223372036854775807 := by
  simp [Lit.wf, IntKind.min, IntKind.max, IntKind.signed, IntKind.bits] at h
  omega

section
variable {H : Type} {enc : TypeId × Value → H} {w : World} {base : Nat} {n : Nat}
/-- A list of bytes. -/
theorem open_b {cs : List Value} {x : DataW H × List MemPlace} (h : DataW.trod enc Tryz.prog w base (fun _ => true) true n 28 cs = some x) :
    ∃ a len cap l, cs = [.slice a len cap] ∧ Sl w a len l ∧ (a = none → len = 0 ∧ cap = 0) ∧ len ≤ cap ∧ cap ≤ 9223372036854775807 := by
  rcases open_ints Tryz.underlying28 Tryz.underlying5 (by kernel_rfl) h with ⟨hcs, _⟩ | ⟨x', l, c, zs, hcs, _, hl, hm, hz, hx, hcell, hwz⟩
  · exact ⟨none, 0, 0, [], hcs, Sl.nil _ _, fun _ => ⟨rfl, rfl⟩, Nat.le_refl _, by omega⟩
  · simp only [if_true] at hz
    unfold maxLen at hm
    refine ⟨some x', l, c, zs.take l, hcs, ⟨by simp; omega, fun n hn => bnds_u8 (hwz n (List.mem_of_mem_take hn)), fun j hj => ⟨x', rfl, ?_⟩⟩, fun h => (by cases h), hl, by omega⟩
    rw [hcell j (by omega)]
    congr 2
    simp [List.getD, hj]
set_option maxRecDepth 100000 in
/-- One deed, from its four cells. -/
theorem open_step {a : Addr} {cs : List Value} {x : DataW H × List MemPlace} (h1 : w.cells? base a 4 = some cs) (h2 : DataW.trod enc Tryz.prog w base (fun _ => true) true n 30 cs = some x) :
    ∃ s : Opn, (∀ q u, s.cells[q]? = some u → w.cell? (a.add q) = some u) ∧ s.ok w := by
  obtain ⟨_, hlen, hcell⟩ := World.cells?_some h1
  obtain ⟨xs, k, hk, hxy, _, hxl, hf⟩ := DataW.trod_struct Tryz.underlying30 h2
  match xs, hxl, cs, hlen with
  | [y0, y1, y2, y3], _, [v0, v1, v2, v3], _ =>
    have g0 := hf 0 _ rfl
    have g1 := hf 1 _ rfl
    have g2 := hf 2 _ rfl
    have g3 := hf 3 _ rfl
    simp [c3, c28] at g0 g1 g2 g3
    subst hxy
    obtain ⟨n0, e0, _, b0⟩ := DataW.trod_int Tryz.underlying3 g0
    obtain ⟨n1, e1, _, b1⟩ := DataW.trod_int Tryz.underlying3 g1
    obtain ⟨n2, e2, _, b2⟩ := DataW.trod_int Tryz.underlying3 g2
    obtain ⟨ba, bn, bc, bs, e3, s3, q3, l3, m3⟩ := open_b g3
    simp at e0 e1 e2 e3
    subst e0 e1 e2 e3
    refine ⟨⟨n0, n1, n2, ba, bn, bc, bs⟩, fun q u hu => ?_, ⟨bnds_i64 b0, bnds_i64 b1, bnds_i64 b2, s3, q3, l3, m3⟩⟩
    have hq : q < 4 := (List.getElem?_eq_some_iff.1 hu).1
    have := hcell q (by simpa using hq)
    rw [← hu]
    simpa [Opn.cells] using this
end

/-! ### The row -/
set_option maxRecDepth 100000 in
theorem lifted (os : Os) (started : os.Started) (H : Type) (enc : TypeId × Value → H) :
    ReturnsInHanded {} Tryz.checked os 3 .any (Rows.walPlaysSpec.pre6 enc Tryz.prog Tryz.f3 Rows.walPlaysRow.domain false) (Rows.walPlaysSpec.post enc Tryz.prog Tryz.f3 false true false false) := by
  refine returnsInHanded_of_change_sized (C := Tryz.checked) own started (by kernel_rfl) Tryz.func3
    (ChangeSpec.witness6 (enc := enc) (C := Tryz.checked) false ⟨#[], #[.int .i64 0, .slice none 0 0], []⟩ 8 (by kernel_rfl) (by kernel_rfl) (by kernel_rfl) (by kernel_rfl)) ?_
  intro W base args ds gs before hval0 hW hcnd hsz0 _
  clear hsz0
  have hval : ∀ (j : Nat) t v, Tryz.f3.params[j]? = some t → args[j]? = some v → Value.okWide Tryz.prog W .any base t v := hval0
  have hW' := hW
  obtain ⟨p, q, hA0, hV, rfl, hfz, hnd⟩ := hW
  have hA : DataW.TrodAll enc Tryz.prog W 0 (fun _ => true) true Tryz.f3.params.toList args.toList ds p := hA0
  rw [Tryz.params3] at hA hval
  obtain ⟨v0, vs0, d0, ds0, p0, q0, hargs, rfl, rfl, h0, r0⟩ := trodAll_cons hA
  obtain ⟨v1, vs1, d1, ds1, p1, q1, rfl, rfl, rfl, h1, r1⟩ := trodAll_cons r0
  obtain ⟨rfl, rfl, rfl⟩ := trodAll_nil r1
  obtain rfl : args = #[v0, v1] := by cases args; simp_all
  obtain ⟨rfl, rfl⟩ := trodVars_none hV
  obtain ⟨size, rfl, rfl, rfl, w0⟩ := open_int Tryz.underlying3 (hval 0 3 v0 rfl rfl) h0
  obtain ⟨a2, len2, cap2, rfl⟩ := okWide_slice Tryz.underlying22 (hval 1 22 v1 rfl rfl)
  have k2 := h1
  have lt2 : ∀ x ∈ p1, x.block < W.heap.size := by obtain ⟨m, hm⟩ := k2; exact DataW.trod_lt m _ _ _ hm
  obtain ⟨D, hD, hl2⟩ : ∃ D : Nat → Opn, Opns W a2 len2 D ∧ len2 ≤ 9223372036854775807 := by
    obtain ⟨fuel, hf⟩ := h1
    rcases Go.Deep.open_slice Tryz.underlying22 hf with ⟨hcs, _⟩ | ⟨x, l, c, m, n, Dt, Pl, hcs, _, hl, hm, hmm, hxd, hx⟩
    · simp [Value.cells] at hcs
      obtain ⟨rfl, rfl, rfl⟩ := hcs
      exact ⟨fun _ => ⟨0, 0, 0, none, 0, 0, []⟩, fun h => absurd h (by omega), by omega⟩
    · simp [Value.cells] at hcs
      obtain ⟨rfl, rfl, rfl⟩ := hcs
      have hlm : len2 ≤ m := by
        rw [hmm]
        split <;> omega
      have each : ∀ i, i < len2 → ∃ s : Opn, (∀ q u, s.cells[q]? = some u → W.cell? ((x.add (i * 4)).add q) = some u) ∧ s.ok W := by
        intro i hi
        obtain ⟨cs', h1, h2⟩ := hx i (by omega)
        rw [c30] at h1
        exact open_step h1 h2
      haveI : Inhabited Opn := ⟨⟨0, 0, 0, none, 0, 0, []⟩⟩
      obtain ⟨y, hy⟩ := Go.Deep.choose_lt each
      refine ⟨y, fun h => ?_, by unfold maxLen at hm; omega⟩
      obtain ⟨b, off, sp⟩ := x
      have c := (hy 0 h).1 0 _ rfl
      have hs : sp = none := by simpa [Addr.add] using World.cell?_spot c
      subst hs
      refine ⟨b, off, rfl, fun i hi => ⟨fun q u hu => ?_, (hy i hi).2⟩⟩
      have := (hy i hi).1 q u hu
      simp only [Addr.add_lit] at this
      exact this
  clear hA0 hval0
  refine (plays_any size a2 len2 cap2 D W hD hl2).mono fun e W' ⟨he, bel⟩ => ?_
  subst he
  exact ⟨_, rfl, _, _, _, [], _, [], hW', trodAll_mk1 (shut_bool Tryz.underlying4 _), (trodAll_cons_mk (shut_int Tryz.underlying3 w0) (trodAll_cons_mk (Below.trod laidOut (by kernel_rfl) (of_decide_eq_true (by kernel_rfl)) k2 bel lt2) trodAll_mk0)), rfl, bel.frame _, fun h => by cases h⟩

theorem over : Rows.walPlaysRow.holds Tryz.pinned (OpenSpec.ofChange Rows.walPlaysSpec) :=
  OpenClaim.holds_of_wide 3 Tryz.f3 rfl rfl rfl rfl rfl rfl rfl ⟨rfl, rfl, rfl, rfl, rfl⟩ rfl rfl rfl rfl rfl (by kernel_rfl) Tryz.func3 (by kernel_rfl)
    (of_decide_eq_true (by kernel_rfl)) (by unfold Func.isWrapper; first | (rw [if_pos (by decide +kernel)]; kernel_rfl) | (rw [if_neg (by decide +kernel)]; exact ⟨rfl, rfl⟩))
    (fun os started H enc _ => lifted os started H enc)

end Go.Proofs.YtnfjhdedcnbdbaaGreat.walPlays
namespace Go.Proofs.YtnfjhdedcnbdbaaGreat
theorem walPlays_holds : Rows.WalPlaysSaid := walPlays.over
#print axioms walPlays_holds
end Go.Proofs.YtnfjhdedcnbdbaaGreat
