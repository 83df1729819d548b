/-
  Statement 'TopCodecs': the row over the walk of ..TcH, and its tied card.
-/
import Derived.Test.YtalmpmhnkilalaaGreatDoorCards
import Derived.Test.YtalmpmhnkilalaaGreatDoorTie
import Derived.Test.YtalmpmhnkilalaaGreatDoorBkL
import Derived.Test.YtalmpmhnkilalaaGreatDoorTcF
import Derived.Lay
import Derived.LaidOnce
import Derived.SevenTiedAt
namespace Go.Proofs.YtalmpmhnkilalaaGreatDoor.topCodecs
open Go.ChangeShapes Go.WideShapes Go.ChangeAt Go.RowKit
open Go.ChangeMaps (open_string shut_string)
set_option linter.unusedVariables false
set_option linter.unusedSimpArgs false

set_option maxRecDepth 100000 in
theorem lifted (os : Os) (started : os.Started) (H : Type) (enc : TypeId × Value → H) :
    ReturnsInHanded {} Tryz.checked os 8 .any (fun w args => (Rows.topCodecsSpec.pre enc Tryz.prog Tryz.f8 [] false w args ∧ laidMetH Tryz.prog Rows.topCodecsRow.laid w) ∧ sizedMet enc Tryz.prog Tryz.f8 (OpenSpec.ofChange Rows.topCodecsSpec) false w args)
      (Rows.topCodecsSpec.post enc Tryz.prog Tryz.f8 false true false false) := by
  refine returnsInHanded_of_change_and (C := Tryz.checked) (X := fun w _ => laidMetH Tryz.prog Rows.topCodecsRow.laid w) (fun _ _ _ hh h => h.of_heap hh) rw_own started (by kernel_rfl) Tryz.func8
    (ChangeSpec.witness_shaped (enc := enc) (C := Tryz.checked) (os := os) (X := fun w _ => laidMetH Tryz.prog Rows.topCodecsRow.laid w) false (World.laidAll Tryz.prog os Rows.topCodecsRow.laid)
      #[.agg #[.int .i64 0, .string ⟨#[]⟩, .slice none 0 0, .slice none 0 0, .slice none 0 0, .int .i64 0, .int .i64 0, .string ⟨#[]⟩, .string ⟨#[]⟩, .int .i64 0, .int .i64 0, .int .i64 0, .slice none 0 0], .agg #[.int .i64 0, .int .i64 0, .slice none 0 0, .slice none 0 0, .int .i64 0, .slice none 0 0], .slice none 0 0, .int .i64 0, .int .i64 0] 8 (World.laidAll_os _ _ _)
      (World.shaped_of_ZipB (by kernel_rfl) (by kernel_rfl)) (by kernel_rfl) (by kernel_rfl) (by kernel_rfl)
      (by rw [MakeChecks.laidMetH_plain _ _ _ (by kernel_rfl)]; exact laidMet_laidAll _ (by kernel_rfl) (by kernel_rfl))) ?_
  intro W base args ds gs before hval0 hW _ hsz0 hL _
  have hsz : (DataW.weightsEach Tryz.prog (Tryz.f8.params.toList ++ Rows.topCodecsSpec.plain.varTypes Tryz.prog) (ds ++ gs)).all (· ≤ reachBytes) = true := hsz0
  clear hsz0
  have hval : ∀ (j : Nat) t v, Tryz.f8.params[j]? = some t → args[j]? = some v → Value.okWide Tryz.prog W .any base t v := hval0
  have hW' := hW
  obtain ⟨p, q, hA0, hV, rfl, hfz, hnd⟩ := hW
  have hA : DataW.TrodAll enc Tryz.prog W 0 (fun _ => true) true Tryz.f8.params.toList args.toList ds p := hA0
  rw [Tryz.params8] at hA hval hsz
  obtain ⟨v0, vs0, d0, ds0, p0, q0, hargs, rfl, rfl, h0, r0⟩ := trodAll_cons hA
  obtain ⟨v1, vs1, d1, ds1, p1, q1, rfl, rfl, rfl, h1, r1⟩ := trodAll_cons r0
  obtain ⟨v2, vs2, d2, ds2, p2, q2, rfl, rfl, rfl, h2, r2⟩ := trodAll_cons r1
  obtain ⟨v3, vs3, d3, ds3, p3, q3, rfl, rfl, rfl, h3, r3⟩ := trodAll_cons r2
  obtain ⟨v4, vs4, d4, ds4, p4, q4, rfl, rfl, rfl, h4, r4⟩ := trodAll_cons r3
  obtain ⟨rfl, rfl, rfl⟩ := trodAll_nil r4
  obtain rfl : args = #[v0, v1, v2, v3, v4] := by cases args; simp_all
  obtain ⟨rfl, rfl⟩ := trodVars_none hV
  obtain ⟨u0, rfl, z0⟩ := okWide_struct Tryz.underlying26 (hval 0 26 v0 rfl rfl)
  obtain ⟨u1, rfl, z1⟩ := okWide_struct Tryz.underlying57 (hval 1 57 v1 rfl rfl)
  obtain ⟨a2, len2, c2, rfl⟩ := okWide_slice Tryz.underlying22 (hval 2 22 v2 rfl rfl)
  obtain ⟨n3x, rfl⟩ := okWide_int Tryz.underlying3 (hval 3 3 v3 rfl rfl)
  obtain ⟨n4x, rfl⟩ := okWide_int Tryz.underlying3 (hval 4 3 v4 rfl rfl)
  have k0 := h0
  have lt0 : ∀ x ∈ p0, x.block < W.heap.size := by obtain ⟨m, hm⟩ := k0; exact DataW.trod_lt m _ _ _ hm
  have k1 := h1
  have lt1 : ∀ x ∈ p1, x.block < W.heap.size := by obtain ⟨m, hm⟩ := k1; exact DataW.trod_lt m _ _ _ hm
  have k2 := h2
  have lt2 : ∀ x ∈ p2, x.block < W.heap.size := by obtain ⟨m, hm⟩ := k2; exact DataW.trod_lt m _ _ _ hm
  have k3 := h3
  have lt3 : ∀ x ∈ p3, x.block < W.heap.size := by obtain ⟨m, hm⟩ := k3; exact DataW.trod_lt m _ _ _ hm
  have k4 := h4
  have lt4 : ∀ x ∈ p4, x.block < W.heap.size := by obtain ⟨m, hm⟩ := k4; exact DataW.trod_lt m _ _ _ hm
  have hw0 : ∀ k ∈ d0.weights Tryz.prog 26, k ≤ reachBytes := fun k hk => by
    have := List.all_eq_true.1 hsz _ (DataW.weights_mem_each (j := 0) (t := 26) (d := d0) rfl rfl k hk)
    simpa using this
  have hw1 : ∀ k ∈ d1.weights Tryz.prog 57, k ≤ reachBytes := fun k hk => by
    have := List.all_eq_true.1 hsz _ (DataW.weights_mem_each (j := 1) (t := 57) (d := d1) rfl rfl k hk)
    simpa using this
  have hw2 : ∀ k ∈ d2.weights Tryz.prog 22, k ≤ reachBytes := fun k hk => by
    have := List.all_eq_true.1 hsz _ (DataW.weights_mem_each (j := 2) (t := 22) (d := d2) rfl rfl k hk)
    simpa using this
  have hw3 : ∀ k ∈ d3.weights Tryz.prog 3, k ≤ reachBytes := fun k hk => by
    have := List.all_eq_true.1 hsz _ (DataW.weights_mem_each (j := 3) (t := 3) (d := d3) rfl rfl k hk)
    simpa using this
  have hw4 : ∀ k ∈ d4.weights Tryz.prog 3, k ≤ reachBytes := fun k hk => by
    have := List.all_eq_true.1 hsz _ (DataW.weights_mem_each (j := 4) (t := 3) (d := d4) rfl rfl k hk)
    simpa using this
  obtain ⟨m0, f0⟩ := h0
  obtain ⟨m1, f1⟩ := h1
  obtain ⟨m2, f2⟩ := h2
  obtain ⟨m3, f3⟩ := h3
  obtain ⟨m4, f4⟩ := h4
  have R0 : Rd enc W 0 m0 26 u0.toList := ⟨_, f0, hw0⟩
  obtain ⟨kq0, fm0, e0, hq0⟩ := open_request R0
  obtain rfl : u0 = (cQ kq0 fm0).toArray := by rw [← e0]
  have R1 : Rd enc W 0 m1 57 u1.toList := ⟨_, f1, hw1⟩
  obtain ⟨er1, ka1, fa1, e1, hp1⟩ := open_response R1
  obtain rfl : u1 = (cA er1 ka1 fa1).toArray := by rw [← e1]
  have R2 : Rd enc W 0 m2 22 [.slice a2 len2 c2] := ⟨_, f2, hw2⟩
  obtain ⟨ad2, kk2, cc2, l2, e2, hs2, hc12, hc22, hno2⟩ := rd_bytes R2
  injection e2 with e2 e2' e2''
  subst e2 e2' e2''
  have R3 : Rd enc W 0 m3 3 [.int .i64 n3x] := ⟨_, f3, hw3⟩
  obtain ⟨n3y, e3, bn3⟩ := R3.int Tryz.underlying3
  injection e3 with _ e3
  subst e3
  have R4 : Rd enc W 0 m4 3 [.int .i64 n4x] := ⟨_, f4, hw4⟩
  obtain ⟨n4y, e4, bn4⟩ := R4.int Tryz.underlying3
  injection e4 with _ e4
  subst e4
  clear hA0 hval0
  have hG : Gv W := gv_laid hL
  refine (codecs_any kq0 fm0 er1 ka1 fa1 a2 len2 c2 l2 n3x n4x W hq0 hp1 hs2 hno2 ⟨hc12, hc22⟩ (bnds_i64 bn3) (bnds_i64 bn4) hG).mono fun e W' ⟨he, bel⟩ => ?_
  subst he
  exact ⟨_, rfl, _, _, _, [], _, [], hW', trodAll_mk1 (shut_bool Tryz.underlying4 _), (trodAll_cons_mk (Below.trod rw_laidOut (by kernel_rfl) (of_decide_eq_true (by kernel_rfl)) k0 bel lt0) (trodAll_cons_mk (Below.trod rw_laidOut (by kernel_rfl) (of_decide_eq_true (by kernel_rfl)) k1 bel lt1) (trodAll_cons_mk (Below.trod rw_laidOut (by kernel_rfl) (of_decide_eq_true (by kernel_rfl)) k2 bel lt2) (trodAll_cons_mk (Below.trod rw_laidOut (by kernel_rfl) (of_decide_eq_true (by kernel_rfl)) k3 bel lt3) (trodAll_cons_mk (Below.trod rw_laidOut (by kernel_rfl) (of_decide_eq_true (by kernel_rfl)) k4 bel lt4) trodAll_mk0))))), rfl, bel.frame _, fun h => by cases h⟩

theorem over : Rows.TopCodecsSaid :=
  OpenClaim.holds_of_wide 8 Tryz.f8 rfl rfl rfl rfl rfl rfl rfl ⟨rfl, rfl, rfl, rfl, rfl⟩ rfl rfl rfl rfl rfl (by kernel_rfl) Tryz.func8 (by kernel_rfl)
    (of_decide_eq_true (by kernel_rfl)) (by unfold Func.isWrapper; first | (rw [if_pos (by decide +kernel)]; kernel_rfl) | (rw [if_neg (by decide +kernel)]; exact ⟨rfl, rfl⟩))
    (fun os started H enc _ => lifted os started H enc)

end Go.Proofs.YtalmpmhnkilalaaGreatDoor.topCodecs
namespace Go.Proofs.YtalmpmhnkilalaaGreatDoor
theorem topCodecs_holds : Rows.TopCodecsCardSaid :=
  Claim7.holds_tied_plain_at .later [] [.data, .data] true (true, "68d9cb2a06e91145818c4ded62ad7f2604a9470e87c2ab1f97cf20be3593978e") true
    topCodecs.over (fun _ h => by cases h) (by kernel_rfl) (fun _ h => by cases h) topCodecs_row_tie rfl ⟨rfl, rfl⟩ (by kernel_rfl) rfl
    (fun f fn hf hfn => by
      obtain rfl : f = 8 := Option.some.inj ((show Tryz.prog.funcNamed "turnkey/turnkeytop.TopCodecs" = some 8 by kernel_rfl).symm.trans hf) |>.symm
      obtain rfl : fn = Tryz.f8 := (Option.some.inj (Tryz.func8.symm.trans hfn)).symm
      exact ⟨by kernel_rfl, fun j t ht => by
        rw [Tryz.params8] at ht
        have hm : t ∈ [26, 57, 22, 3, 3] := by simpa using Array.mem_of_getElem? ht
        have hall : ([26, 57, 22, 3, 3].all fun u => !Tryz.prog.wantsStandIn u) = true := by kernel_rfl
        exact (show Tryz.prog.wantsStandIn t = false by simpa using List.all_eq_true.1 hall t hm)⟩)
    (by kernel_rfl)
#print axioms topCodecs_holds
end Go.Proofs.YtalmpmhnkilalaaGreatDoor
