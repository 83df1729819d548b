/-
  Statement 'DiskPlays' of layer 4: the frame of the row, over the walk of ..PlW. The row's own reach bounds the lists within the steps.
-/
import Derived.Test.YtgmcfejmhlglkaaRows
import Derived.SizedLaws
import Derived.WalkKit
import Derived.ProofKit
import Derived.OpenShut
import Derived.ShutString
import Derived.ChangeOld
import Derived.Below
import Derived.Deep.Slices
import Derived.Test.YtgmcfejmhlglkaaPlW
namespace Go.Proofs.Ytgmcfejmhlglkaa.diskPlays
open Go.ChangeShapes Go.WideShapes Go.ChangeAt Go.RowKit
open Go.ChangeMaps (open_string shut_string)
set_option linter.unusedVariables false
set_option linter.unusedSimpArgs false

theorem own : ownKnob Try.prog.godebug = none := by kernel_rfl
theorem laidOut : laidOutB Try.prog = true := by kernel_rfl
theorem c3 : Try.prog.cellsOf 3 = 1 := by kernel_rfl
theorem c27 : Try.prog.cellsOf 27 = 1 := by kernel_rfl
theorem c28 : Try.prog.cellsOf 28 = 1 := by kernel_rfl
theorem c30 : Try.prog.cellsOf 30 = 7 := by kernel_rfl
theorem bytes5 : Try.prog.bytesOf 5 = 1 := by kernel_rfl
theorem bytes3 : Try.prog.bytesOf 3 = 8 := by kernel_rfl
theorem bnds_u8 {n : Int} (h : (Lit.int .u8 n).wf = true) : 0 ≤ n ∧ n ≤ 255 := by
  simp [Lit.wf, IntKind.min, IntKind.max, IntKind.signed, IntKind.bits] at h
  omega
theorem bnds_i64 {n : Int} (h : (Lit.int .i64 n).wf = true) : -9223372036854775808 ≤ n ∧ n ≤ 9223372036854775807 := by
  simp [Lit.wf, IntKind.min, IntKind.max, IntKind.signed, IntKind.bits] at h
  omega

theorem weights_mem_all {H : Type} {P : Program} {e : TypeId} : ∀ {ds : List (DataW H)} {d : DataW H}, d ∈ ds → ∀ n ∈ d.weights P e, n ∈ DataW.weightsAll P e ds
  | [], d, hd, _, _ => absurd hd (by simp)
  | d0 :: ds, d, hd, n, hn => by
    simp only [DataW.weightsAll, List.mem_append]
    rcases List.mem_cons.1 hd with rfl | hd
    · exact .inl hn
    · exact .inr (weights_mem_all hd n hn)

section
variable {H : Type} {enc : TypeId × Value → H} {w : World} {base : Nat} {n : Nat}
/-- A list of bytes within a step. -/
theorem open_b {v : Value} {x : DataW H × List MemPlace} (h : DataW.trod enc Try.prog w base (fun _ => true) true n 27 [v] = some x) (hwt : ∀ k ∈ x.1.weights Try.prog 27, k ≤ reachBytes) :
    ∃ a len cap l, v = .slice a len cap ∧ Sl w a len l ∧ (a = none → len = 0 ∧ cap = 0) ∧ len ≤ 140737488355328 := by
  rcases open_ints Try.underlying27 Try.underlying5 (by kernel_rfl) h with ⟨hcs, _⟩ | ⟨x', l, c, zs, hcs, _, hl, hm, hz, hx, hcell, hwz⟩
  · simp at hcs
    exact ⟨none, 0, 0, [], hcs, Sl.nil _ _, fun _ => ⟨rfl, rfl⟩, by omega⟩
  · simp at hcs
    simp only [if_true] at hz
    refine ⟨some x', l, c, zs.take l, hcs, ⟨by simp; omega, fun n hn => bnds_u8 (hwz n (List.mem_of_mem_take hn)), fun j hj => ⟨x', rfl, ?_⟩⟩, fun h => (by cases h), ?_⟩
    · rw [hcell j (by omega)]
      congr 2
      simp [List.getD, hj]
    · subst hx
      have := hwt ((lits .u8 (zs.take l) : List (DataW H)).length + (lits .u8 (zs.drop l) : List (DataW H)).length |>.mul (Try.prog.bytesOf 5)) (by simp [DataW.weights, Try.underlying27])
      rw [bytes5] at this
      simp only [lits, List.length_map, List.length_take, List.length_drop, reachBytes, Nat.mul_eq, Nat.mul_one] at this
      omega
/-- A list of numbers within a step. -/
theorem open_k {v : Value} {x : DataW H × List MemPlace} (h : DataW.trod enc Try.prog w base (fun _ => true) true n 28 [v] = some x) (hwt : ∀ k ∈ x.1.weights Try.prog 28, k ≤ reachBytes) :
    ∃ a len cap l, v = .slice a len cap ∧ Sn w a len l ∧ (a = none → len = 0 ∧ cap = 0) ∧ len ≤ 140737488355328 := by
  rcases open_ints Try.underlying28 Try.underlying3 (by kernel_rfl) h with ⟨hcs, _⟩ | ⟨x', l, c, zs, hcs, _, hl, hm, hz, hx, hcell, hwz⟩
  · simp at hcs
    exact ⟨none, 0, 0, [], hcs, ⟨rfl, fun n hn => absurd hn (by simp), fun j hj => absurd hj (by omega)⟩, fun _ => ⟨rfl, rfl⟩, by omega⟩
  · simp at hcs
    simp only [if_true] at hz
    refine ⟨some x', l, c, zs.take l, hcs, ⟨by simp; omega, fun n hn => bnds_i64 (hwz n (List.mem_of_mem_take hn)), fun j hj => ⟨x', rfl, ?_⟩⟩, fun h => (by cases h), ?_⟩
    · rw [hcell j (by omega)]
      congr 2
      simp [List.getD, hj]
    · subst hx
      have := hwt ((lits .i64 (zs.take l) : List (DataW H)).length + (lits .i64 (zs.drop l) : List (DataW H)).length |>.mul (Try.prog.bytesOf 3)) (by simp [DataW.weights, Try.underlying28])
      rw [bytes3] at this
      simp only [lits, List.length_map, List.length_take, List.length_drop, reachBytes, Nat.mul_eq] at this
      omega
/-- One step, from its seven cells. -/
theorem open_step {a : Addr} {cs : List Value} {x : DataW H × List MemPlace} (h1 : w.cells? base a 7 = some cs) (h2 : DataW.trod enc Try.prog w base (fun _ => true) true n 30 cs = some x) (hwt : ∀ k ∈ x.1.weights Try.prog 30, k ≤ reachBytes) :
    ∃ s : Stp, (∀ q u, s.cells[q]? = some u → w.cell? (a.add q) = some u) ∧ s.ok w := by
  obtain ⟨_, hlen, hcell⟩ := World.cells?_some h1
  obtain ⟨xs, k, hk, hxy, _, hxl, hf⟩ := DataW.trod_struct Try.underlying30 h2
  match xs, hxl, cs, hlen with
  | [y0, y1, y2, y3, y4, y5, y6], _, [v0, v1, v2, v3, v4, v5, v6], _ =>
    have g0 := hf 0 _ rfl
    have g1 := hf 1 _ rfl
    have g2 := hf 2 _ rfl
    have g3 := hf 3 _ rfl
    have g4 := hf 4 _ rfl
    have g5 := hf 5 _ rfl
    have g6 := hf 6 _ rfl
    simp [c3, c27, c28] at g0 g1 g2 g3 g4 g5 g6
    subst hxy
    have hw5 : ∀ k ∈ y5.1.weights Try.prog 27, k ≤ reachBytes := fun k hk => hwt k (by
      simp only [DataW.weights, Try.underlying30]
      exact DataW.weights_mem_each (j := 5) rfl rfl k hk)
    have hw6 : ∀ k ∈ y6.1.weights Try.prog 28, k ≤ reachBytes := fun k hk => hwt k (by
      simp only [DataW.weights, Try.underlying30]
      exact DataW.weights_mem_each (j := 6) rfl rfl k hk)
    obtain ⟨n0, e0, _, b0⟩ := DataW.trod_int Try.underlying3 g0
    obtain ⟨n1, e1, _, b1⟩ := DataW.trod_int Try.underlying3 g1
    obtain ⟨n2, e2, _, b2⟩ := DataW.trod_int Try.underlying3 g2
    obtain ⟨n3, e3, _, b3⟩ := DataW.trod_int Try.underlying3 g3
    obtain ⟨n4, e4, _, b4⟩ := DataW.trod_int Try.underlying3 g4
    obtain ⟨ba, bn, bc, bs, e5, s5, q5, l5⟩ := open_b g5 hw5
    obtain ⟨ka, kn, kc, kl, e6, s6, q6, l6⟩ := open_k g6 hw6
    simp at e0 e1 e2 e3 e4
    subst e0 e1 e2 e3 e4 e5 e6
    refine ⟨⟨n0, n1, n2, n3, n4, ba, bn, bc, bs, ka, kn, kc, kl⟩, fun q u hu => ?_, ⟨bnds_i64 b1, bnds_i64 b3, bnds_i64 b4, s5, q5, l5, s6, q6, l6⟩⟩
    have hq : q < 7 := (List.getElem?_eq_some_iff.1 hu).1
    have := hcell q (by simpa using hq)
    rw [← hu]
    simpa [Stp.cells] using this
end

/-! ### The row -/
set_option maxRecDepth 100000 in
theorem lifted (os : Os) (started : os.Started) (H : Type) (enc : TypeId × Value → H) :
    ReturnsInHanded {} Try.checked os 3 .any (Rows.diskPlaysSpec.pre6 enc Try.prog Try.f3 Rows.diskPlaysRow.domain false) (Rows.diskPlaysSpec.post enc Try.prog Try.f3 false true false false) := by
  refine returnsInHanded_of_change_sized (C := Try.checked) own started (by kernel_rfl) Try.func3
    (ChangeSpec.witness6 (enc := enc) (C := Try.checked) false ⟨#[], #[.int .i64 0, .slice none 0 0], []⟩ 8 (by kernel_rfl) (by kernel_rfl) (by kernel_rfl) (by kernel_rfl)) ?_
  intro W base args ds gs before hval0 hW hcnd hsz0 _
  have hsz : (DataW.weightsEach Try.prog (Try.f3.params.toList ++ Rows.diskPlaysSpec.plain.varTypes Try.prog) (ds ++ gs)).all (· ≤ reachBytes) = true := hsz0
  clear hsz0
  have hval : ∀ (j : Nat) t v, Try.f3.params[j]? = some t → args[j]? = some v → Value.okWide Try.prog W .any base t v := hval0
  have hW' := hW
  obtain ⟨p, q, hA0, hV, rfl, hfz, hnd⟩ := hW
  have hA : DataW.TrodAll enc Try.prog W 0 (fun _ => true) true Try.f3.params.toList args.toList ds p := hA0
  rw [Try.params3] at hA hval hsz
  obtain ⟨v0, vs0, d0, ds0, p0, q0, hargs, rfl, rfl, h0, r0⟩ := trodAll_cons hA
  obtain ⟨v1, vs1, d1, ds1, p1, q1, rfl, rfl, rfl, h1, r1⟩ := trodAll_cons r0
  obtain ⟨rfl, rfl, rfl⟩ := trodAll_nil r1
  obtain rfl : args = #[v0, v1] := by cases args; simp_all
  obtain ⟨rfl, rfl⟩ := trodVars_none hV
  obtain ⟨files, rfl, rfl, rfl, w0⟩ := open_int Try.underlying3 (hval 0 3 v0 rfl rfl) h0
  obtain ⟨a1, len1, cap1, rfl⟩ := okWide_slice Try.underlying22 (hval 1 22 v1 rfl rfl)
  have k1 := h1
  have lt1 : ∀ x ∈ p1, x.block < W.heap.size := by obtain ⟨m, hm⟩ := k1; exact DataW.trod_lt m _ _ _ hm
  have hwd : ∀ k ∈ d1.weights Try.prog 22, k ≤ reachBytes := fun k hk => by
    have := List.all_eq_true.1 hsz _ (DataW.weights_mem_each (j := 1) (t := 22) (d := d1) rfl rfl k hk)
    simpa using this
  obtain ⟨SS, hscr, hl⟩ : ∃ SS : Nat → Stp, (0 < len1 → ∃ b off, a1 = some ⟨b, off, none⟩ ∧ Scr W b off len1 SS) ∧ len1 ≤ 9223372036854775807 := by
    obtain ⟨fuel, hf⟩ := h1
    rcases Go.Deep.open_slice Try.underlying22 hf with ⟨hcs, _⟩ | ⟨x, l, c, m, n, D, Pl, hcs, _, hl, hm, hmm, hxd, hx⟩
    · simp [Value.cells] at hcs
      obtain ⟨rfl, rfl, rfl⟩ := hcs
      exact ⟨fun _ => ⟨0, 0, 0, 0, 0, none, 0, 0, [], none, 0, 0, []⟩, fun h => absurd h (by omega), by omega⟩
    · simp [Value.cells] at hcs
      obtain ⟨rfl, rfl, rfl⟩ := hcs
      have hlm : len1 ≤ m := by
        rw [hmm]
        split <;> omega
      simp only [Prod.mk.injEq] at hxd
      obtain ⟨hd, _⟩ := hxd
      subst hd
      have each : ∀ i, i < len1 → ∃ s : Stp, (∀ q u, s.cells[q]? = some u → W.cell? ((x.add (i * 7)).add q) = some u) ∧ s.ok W := by
        intro i hi
        obtain ⟨cs', h1, h2⟩ := hx i (by omega)
        rw [c30] at h1
        refine open_step h1 h2 (fun k hk => hwd k ?_)
        simp only [DataW.weights, Try.underlying22, List.mem_cons, List.mem_append]
        exact .inr (.inl (weights_mem_all (List.mem_map.2 ⟨i, List.mem_range.2 hi, rfl⟩) k hk))
      haveI : Inhabited Stp := ⟨⟨0, 0, 0, 0, 0, none, 0, 0, [], none, 0, 0, []⟩⟩
      obtain ⟨y, hy⟩ := Go.Deep.choose_lt each
      refine ⟨y, fun h => ?_, by unfold maxLen at hm; omega⟩
      obtain ⟨b, off, sp⟩ := x
      have c := (hy 0 h).1 0 _ rfl
      have hs : sp = none := by simpa [Addr.add] using World.cell?_spot c
      subst hs
      refine ⟨b, off, rfl, fun i hi => ⟨fun q u hu => ?_, (hy i hi).2⟩⟩
      have := (hy i hi).1 q u hu
      simp only [Addr.add_lit] at this
      exact this
  clear hA0 hval0
  refine (plays_any files a1 len1 cap1 SS W hl hscr).mono fun e W' ⟨he, bel⟩ => ?_
  subst he
  exact ⟨_, rfl, _, _, _, [], _, [], hW', trodAll_mk1 (shut_bool Try.underlying4 _), (trodAll_cons_mk (shut_int Try.underlying3 w0) (trodAll_cons_mk (Below.trod laidOut (by kernel_rfl) (of_decide_eq_true (by kernel_rfl)) k1 bel lt1) trodAll_mk0)), rfl, bel.frame _, fun h => by cases h⟩

theorem over : Rows.diskPlaysRow.holds Try.pinned (OpenSpec.ofChange Rows.diskPlaysSpec) :=
  OpenClaim.holds_of_wide 3 Try.f3 rfl rfl rfl rfl rfl rfl rfl ⟨rfl, rfl, rfl, rfl, rfl⟩ rfl rfl rfl rfl rfl (by kernel_rfl) Try.func3 (by kernel_rfl)
    (of_decide_eq_true (by kernel_rfl)) (by unfold Func.isWrapper; first | (rw [if_pos (by decide +kernel)]; kernel_rfl) | (rw [if_neg (by decide +kernel)]; exact ⟨rfl, rfl⟩))
    (fun os started H enc _ => lifted os started H enc)

end Go.Proofs.Ytgmcfejmhlglkaa.diskPlays
namespace Go.Proofs.Ytgmcfejmhlglkaa
theorem diskPlays_holds : Rows.DiskPlaysSaid := diskPlays.over
#print axioms diskPlays_holds
end Go.Proofs.Ytgmcfejmhlglkaa
