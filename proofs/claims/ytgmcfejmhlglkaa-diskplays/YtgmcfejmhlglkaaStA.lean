import Derived.Test.YtgmcfejmhlglkaaStM
import Derived.Test.YtgmcfejmhlglkaaStG
/-
  Steps of a pair: Sync, Truncate, Read, All.
-/
namespace Go.Proofs.Ytgmcfejmhlglkaa
open Go.RowKit
set_option linter.unusedVariables false
set_option linter.unusedSimpArgs false

theorem lat_cell7 {u v : World} {a : Addr} {x : Value} (h : u.cell? a = some x) (hl : Lat u v) : v.cell? a = some x := by
  have hlt : a.block < u.heap.size := by
    unfold World.cell? at h
    cases hb : u.heap[a.block]? with
    | none => simp [hb] at h
    | some o => exact (Array.getElem?_eq_some_iff.1 hb).1
  rw [← h]
  exact World.cell?_of_block (hl.block _ hlt)

set_option maxRecDepth 100000 in
set_option maxHeartbeats 4000000 in
theorem step_sync (w : World) (m : PM) (t : It) (st : List It) (ks : List Kp) (Z : Nat → Prop) (B : Nat) (h : PS w m t st ks Z) (hB : Fb B t st) (hB2 : B ≤ 1099511627776) (dd f a n : Int) (ba : Option Addr) (bn bc : Nat) (ka : Option Addr) (kn kc : Nat) :
    Calls Try.prog 7 #[.pointer (some ⟨m.pp, 0, none⟩), .agg #[.int .i64 2, .int .i64 dd, .int .i64 f, .int .i64 a, .int .i64 n, .slice ba bn bc, .slice ka kn kc]] w fun e w' => e = .returned (.bool true) ∧ PX w w' m t st ks Z B := by
  have HH := hidden h
  have HB := hidden hB
  have hfa := Nat.le_trans hB.1 hB2
  have HFA := hidden hfa
  clear h hB hfa
  obtain ⟨e0, he0⟩ : ∃ e0, (t.S.sync f).1 = e0 := ⟨_, rfl⟩
  have HE0 := hidden he0
  clear he0
  go_enter Try.func7, Try.ntmps7
  go_upto_region 1 with (first
    | (refine wpList_box_blk rfl 30 (.tmp 1) rfl [.int .i64 2, .int .i64 dd, .int .i64 f, .int .i64 a, .int .i64 n, .slice ba bn bc, .slice ka kn kc] rfl ?_; intro w0 B0 bl0 hzz; clear hzz))
  obtain ⟨ob, hob⟩ : ∃ ob, w.heap.size = ob := ⟨_, rfl⟩
  rw [hob] at B0 ⊢
  have HOB := hidden hob
  have k0 : w0.cell? ⟨ob, 0, none⟩ = some (.int .i64 2) := B0.cell 0
  have HB0 := hidden B0
  have HBL := hidden bl0
  have HP0 := hidden (HH.out.later bl0)
  clear hob B0 bl0
  go_wp2_with fail
  refine step_r15 m.pp t.p ob f (fun x w2 => x = .int .i64 e0 ∧ ∃ F1', Half w0 w2 t (t.S.sync f).2 F1') _ _ _ (by rfl) (by rfl) (by rfl) (fun w1 hl => lat_cell7 (HP0.out.1.blk.cell 0) hl) (fun w1 hl => lat_cell7 (HB0.out.cell 2) hl) (fun w1 hl => (syncP t.p t.F1 t.S w1 f (half_pre HP0.out hl) HFA.out).mono (by
    rintro e w2 ⟨rfl, hD⟩
    obtain ⟨F1', hH, _⟩ := half_a HP0.out hl hD
    exact ⟨_, rfl, by rw [HE0.out], F1', hH⟩)) ?_
  intro v85 v86 v87 v88 v89 v90 v91 v11 x w2 hR
  obtain ⟨rfl, F1', hH⟩ := hR
  simp only [Act.put, List.setIfInBounds_toArray, List.set_cons_succ, List.set_cons_zero]
  have HHf := hidden hH
  have hB2 := HHf.out.c.blk HB0.out (fun e => by have := HH.out.1.it.a.lt _ e; have := HOB.out; omega)
  have hP2 := HHf.out.c.blk HP0.out.1.blk (fun e => HP0.out.1.offI HP0.out.1.it _ (.inl e) (.inl rfl))
  have HB2 := hidden hB2
  have HP2 := hidden hP2
  clear hB2 hP2 hH k0
  go_wp2_with fail
  refine step_r16 m.pp t.q ob f e0 (fun w3 => PX w0 w3 m t st ks Z B) _ _ _ (by rfl) (by rfl) (by rfl) (by rfl) (fun w1 hl => lat_cell7 (HP2.out.cell 1) hl) (fun w1 hl => lat_cell7 (HB2.out.cell 2) hl) (fun w1 hl => (syncR t.q t.F2 t.S w1 f ((HHf.out.later hl).pre HP0.out) HFA.out).mono (by
    rintro e w3 ⟨rfl, hD⟩
    obtain ⟨F2', hS, hC, hn'⟩ := half_b (HHf.out.later hl) HP0.out hD
    exact ⟨by rw [HE0.out], px_set HB.out (Nat.le_trans (sync_falls _ _) (by omega)) hS hC hn'⟩)) ?_
  intro v92 v93 v94 v95 v96 v97 v98 v99 v100 v4 w3 hX
  have HX := hidden (hX.from HBL.out)
  clear hX
  simp only [Act.put, List.setIfInBounds_toArray, List.set_cons_succ, List.set_cons_zero]
  go_wp2_with fail
  go_ret
  exact ⟨rfl, HX.out⟩

set_option maxRecDepth 100000 in
set_option maxHeartbeats 4000000 in
theorem step_truncate (w : World) (m : PM) (t : It) (st : List It) (ks : List Kp) (Z : Nat → Prop) (B : Nat) (h : PS w m t st ks Z) (hB : Fb B t st) (hB2 : B ≤ 1099511627776) (dd f a n : Int) (ba : Option Addr) (bn bc : Nat) (ka : Option Addr) (kn kc : Nat) (hn : -9223372036854775808 ≤ n ∧ n ≤ 9223372036854775807) :
    Calls Try.prog 7 #[.pointer (some ⟨m.pp, 0, none⟩), .agg #[.int .i64 3, .int .i64 dd, .int .i64 f, .int .i64 a, .int .i64 n, .slice ba bn bc, .slice ka kn kc]] w fun e w' => e = .returned (.bool true) ∧ PX w w' m t st ks Z B := by
  have HH := hidden h
  have HB := hidden hB
  have hfa := Nat.le_trans hB.1 hB2
  have HFA := hidden hfa
  clear h hB hfa
  obtain ⟨e0, he0⟩ : ∃ e0, (t.S.truncate f n).1 = e0 := ⟨_, rfl⟩
  have HE0 := hidden he0
  clear he0
  go_enter Try.func7, Try.ntmps7
  go_upto_region 1 with (first
    | (refine wpList_box_blk rfl 30 (.tmp 1) rfl [.int .i64 3, .int .i64 dd, .int .i64 f, .int .i64 a, .int .i64 n, .slice ba bn bc, .slice ka kn kc] rfl ?_; intro w0 B0 bl0 hzz; clear hzz))
  obtain ⟨ob, hob⟩ : ∃ ob, w.heap.size = ob := ⟨_, rfl⟩
  rw [hob] at B0 ⊢
  have HOB := hidden hob
  have k0 : w0.cell? ⟨ob, 0, none⟩ = some (.int .i64 3) := B0.cell 0
  have HB0 := hidden B0
  have HBL := hidden bl0
  have HP0 := hidden (HH.out.later bl0)
  clear hob B0 bl0
  go_wp2_with fail
  refine step_r18 m.pp t.p ob f n (fun x w2 => x = .int .i64 e0 ∧ ∃ F1', Half w0 w2 t (t.S.truncate f n).2 F1') _ _ _ (by rfl) (by rfl) (by rfl) (fun w1 hl => lat_cell7 (HP0.out.1.blk.cell 0) hl) (fun w1 hl => lat_cell7 (HB0.out.cell 2) hl) (fun w1 hl => lat_cell7 (HB0.out.cell 4) hl) (fun w1 hl => (truncateP t.p t.F1 t.S w1 f n (half_pre HP0.out hl) HFA.out hn).mono (by
    rintro e w2 ⟨rfl, hD⟩
    obtain ⟨F1', hH, _⟩ := half_a HP0.out hl hD
    exact ⟨_, rfl, by rw [HE0.out], F1', hH⟩)) ?_
  intro v103 v104 v105 v106 v107 v108 v109 v110 v111 v12 x w2 hR
  obtain ⟨rfl, F1', hH⟩ := hR
  simp only [Act.put, List.setIfInBounds_toArray, List.set_cons_succ, List.set_cons_zero]
  have HHf := hidden hH
  have hB2 := HHf.out.c.blk HB0.out (fun e => by have := HH.out.1.it.a.lt _ e; have := HOB.out; omega)
  have hP2 := HHf.out.c.blk HP0.out.1.blk (fun e => HP0.out.1.offI HP0.out.1.it _ (.inl e) (.inl rfl))
  have HB2 := hidden hB2
  have HP2 := hidden hP2
  clear hB2 hP2 hH k0
  go_wp2_with fail
  refine step_r19 m.pp t.q ob f n e0 (fun w3 => PX w0 w3 m t st ks Z B) _ _ _ (by rfl) (by rfl) (by rfl) (by rfl) (fun w1 hl => lat_cell7 (HP2.out.cell 1) hl) (fun w1 hl => lat_cell7 (HB2.out.cell 2) hl) (fun w1 hl => lat_cell7 (HB2.out.cell 4) hl) (fun w1 hl => (truncateR t.q t.F2 t.S w1 f n ((HHf.out.later hl).pre HP0.out) HFA.out hn).mono (by
    rintro e w3 ⟨rfl, hD⟩
    obtain ⟨F2', hS, hC, hn'⟩ := half_b (HHf.out.later hl) HP0.out hD
    exact ⟨by rw [HE0.out], px_set HB.out (Nat.le_trans (truncate_falls _ _ _) (by omega)) hS hC hn'⟩)) ?_
  intro v112 v113 v114 v115 v116 v117 v118 v119 v120 v121 v122 v4 w3 hX
  have HX := hidden (hX.from HBL.out)
  clear hX
  simp only [Act.put, List.setIfInBounds_toArray, List.set_cons_succ, List.set_cons_zero]
  go_wp2_with fail
  go_ret
  exact ⟨rfl, HX.out⟩

set_option maxRecDepth 100000 in
set_option maxHeartbeats 4000000 in
theorem step_read (w : World) (m : PM) (t : It) (st : List It) (ks : List Kp) (Z : Nat → Prop) (B : Nat) (h : PS w m t st ks Z) (hB : Fb B t st) (hB2 : B ≤ 1099511627776) (dd f a n : Int) (ba : Option Addr) (bn bc : Nat) (ka : Option Addr) (kn kc : Nat) (ha : -9223372036854775808 ≤ a ∧ a ≤ 9223372036854775807) (hn : -9223372036854775808 ≤ n ∧ n ≤ 9223372036854775807) (hll : ks.length ≤ 1099511620000) :
    Calls Try.prog 7 #[.pointer (some ⟨m.pp, 0, none⟩), .agg #[.int .i64 4, .int .i64 dd, .int .i64 f, .int .i64 a, .int .i64 n, .slice ba bn bc, .slice ka kn kc]] w fun e w' => e = .returned (.bool true) ∧ PX w w' m t st ks Z B := by
  have HH := hidden h
  have HB := hidden hB
  have hfa := Nat.le_trans hB.1 hB2
  have HFA := hidden hfa
  clear h hB hfa
  have HLL := hidden hll
  clear hll
  go_enter Try.func7, Try.ntmps7
  go_upto_region 1 with (first
    | (refine wpList_box_blk rfl 30 (.tmp 1) rfl [.int .i64 4, .int .i64 dd, .int .i64 f, .int .i64 a, .int .i64 n, .slice ba bn bc, .slice ka kn kc] rfl ?_; intro w0 B0 bl0 hzz; clear hzz))
  obtain ⟨ob, hob⟩ : ∃ ob, w.heap.size = ob := ⟨_, rfl⟩
  rw [hob] at B0 ⊢
  have HOB := hidden hob
  have k0 : w0.cell? ⟨ob, 0, none⟩ = some (.int .i64 4) := B0.cell 0
  have HB0 := hidden B0
  have HBL := hidden bl0
  have HP0 := hidden (HH.out.later bl0)
  clear hob B0 bl0
  have k2 : w0.cell? ⟨ob, 2, none⟩ = some (.int .i64 f) := HB0.out.cell 2
  have k3 : w0.cell? ⟨ob, 3, none⟩ = some (.int .i64 a) := HB0.out.cell 3
  have k4 : w0.cell? ⟨ob, 4, none⟩ = some (.int .i64 n) := HB0.out.cell 4
  go_wp2_with fail
  refine (reads_any w0 m t st ks Z HP0.out f a n ha hn (Nat.le_trans HLL.out (by decide))).mono ?_
  rintro e w3 ⟨rfl, hS⟩
  have hX := px_pss (by decide) HB.out hS
  clear hS k0
  clear k2
  clear k3
  clear k4
  have HX := hidden (hX.from HBL.out)
  clear hX
  go_wp2_with fail
  go_ret
  exact ⟨rfl, HX.out⟩

set_option maxRecDepth 100000 in
set_option maxHeartbeats 4000000 in
theorem step_all (w : World) (m : PM) (t : It) (st : List It) (ks : List Kp) (Z : Nat → Prop) (B : Nat) (h : PS w m t st ks Z) (hB : Fb B t st) (hB2 : B ≤ 1099511627776) (dd f a n : Int) (ba : Option Addr) (bn bc : Nat) (ka : Option Addr) (kn kc : Nat) (hll : ks.length ≤ 1099511620000) :
    Calls Try.prog 7 #[.pointer (some ⟨m.pp, 0, none⟩), .agg #[.int .i64 5, .int .i64 dd, .int .i64 f, .int .i64 a, .int .i64 n, .slice ba bn bc, .slice ka kn kc]] w fun e w' => e = .returned (.bool true) ∧ PX w w' m t st ks Z B := by
  have HH := hidden h
  have HB := hidden hB
  have hfa := Nat.le_trans hB.1 hB2
  have HFA := hidden hfa
  clear h hB hfa
  have HLL := hidden hll
  clear hll
  go_enter Try.func7, Try.ntmps7
  go_upto_region 1 with (first
    | (refine wpList_box_blk rfl 30 (.tmp 1) rfl [.int .i64 5, .int .i64 dd, .int .i64 f, .int .i64 a, .int .i64 n, .slice ba bn bc, .slice ka kn kc] rfl ?_; intro w0 B0 bl0 hzz; clear hzz))
  obtain ⟨ob, hob⟩ : ∃ ob, w.heap.size = ob := ⟨_, rfl⟩
  rw [hob] at B0 ⊢
  have HOB := hidden hob
  have k0 : w0.cell? ⟨ob, 0, none⟩ = some (.int .i64 5) := B0.cell 0
  have HB0 := hidden B0
  have HBL := hidden bl0
  have HP0 := hidden (HH.out.later bl0)
  clear hob B0 bl0
  go_wp2_with fail
  refine (all_any w0 m t st ks Z HP0.out HLL.out).mono ?_
  rintro e w3 ⟨rfl, hS⟩
  have hX := px_pss (by decide) HB.out hS
  clear hS k0
  have HX := hidden (hX.from HBL.out)
  clear hX
  go_wp2_with fail
  go_ret
  exact ⟨rfl, HX.out⟩

set_option maxRecDepth 100000 in
set_option maxHeartbeats 4000000 in
theorem step_restart (w : World) (m : PM) (t : It) (st : List It) (ks : List Kp) (Z : Nat → Prop) (B : Nat) (h : PS w m t st ks Z) (hB : Fb B t st) (hB2 : B ≤ 1099511627776) (dd f a n : Int) (ba : Option Addr) (bn bc : Nat) (ka : Option Addr) (kn kc : Nat) :
    Calls Try.prog 7 #[.pointer (some ⟨m.pp, 0, none⟩), .agg #[.int .i64 8, .int .i64 dd, .int .i64 f, .int .i64 a, .int .i64 n, .slice ba bn bc, .slice ka kn kc]] w fun e w' => e = .returned (.bool true) ∧ PX w w' m t st ks Z B := by
  have HH := hidden h
  have HB := hidden hB
  have hfa := Nat.le_trans hB.1 hB2
  have HFA := hidden hfa
  clear h hB hfa
  go_enter Try.func7, Try.ntmps7
  go_upto_region 1 with (first
    | (refine wpList_box_blk rfl 30 (.tmp 1) rfl [.int .i64 8, .int .i64 dd, .int .i64 f, .int .i64 a, .int .i64 n, .slice ba bn bc, .slice ka kn kc] rfl ?_; intro w0 B0 bl0 hzz; clear hzz))
  obtain ⟨ob, hob⟩ : ∃ ob, w.heap.size = ob := ⟨_, rfl⟩
  rw [hob] at B0 ⊢
  have HOB := hidden hob
  have k0 : w0.cell? ⟨ob, 0, none⟩ = some (.int .i64 8) := B0.cell 0
  have HB0 := hidden B0
  have HBL := hidden bl0
  have HP0 := hidden (HH.out.later bl0)
  clear hob B0 bl0
  have c0 : w0.cell? ⟨m.pp, 0, none⟩ = some (.pointer (some ⟨t.p, 0, none⟩)) := HP0.out.1.blk.cell 0
  go_wp2_with fail
  refine (restartP t.p t.F1 t.S w0 (half_pre HP0.out (Lat.refl _))).mono ?_
  rintro e w2 ⟨rfl, hD⟩
  obtain ⟨F1', hH, _⟩ := half_a HP0.out (Lat.refl _) hD
  clear c0 hD
  have HHf := hidden hH
  have hB2 := HHf.out.c.blk HB0.out (fun e => by have := HH.out.1.it.a.lt _ e; have := HOB.out; omega)
  have hP2 := HHf.out.c.blk HP0.out.1.blk (fun e => HP0.out.1.offI HP0.out.1.it _ (.inl e) (.inl rfl))
  have HB2 := hidden hB2
  have HP2 := hidden hP2
  clear hB2 hP2 hH k0
  have c1 : w2.cell? ⟨m.pp, 1, none⟩ = some (.pointer (some ⟨t.q, 0, none⟩)) := HP2.out.cell 1
  go_wp2_with fail
  refine (restartR t.q t.F2 t.S w2 (HHf.out.pre HP0.out)).mono ?_
  rintro e w3 ⟨rfl, hD⟩
  obtain ⟨F2', hS, hC, hn'⟩ := half_b HHf.out HP0.out hD
  have hX := px_set HB.out (show t.S.restart.falls ≤ t.S.falls + 2 from Nat.le_add_right _ 2) hS hC hn'
  clear c1 hD hS hC hn'
  have HX := hidden (hX.from HBL.out)
  clear hX
  go_wp2_with fail
  go_ret
  exact ⟨rfl, HX.out⟩

theorem px_same {w w' : World} {m : PM} {t : It} {st : List It} {ks : List Kp} {Z : Nat → Prop} {B : Nat} (hB : Fb B t st) (h : PS w m t st ks Z) (hl : Lat w w') : PX w w' m t st ks Z B :=
  ⟨m, t, st, ks, Z, rfl, h.later hl, Nat.le_add_right _ _, Nat.le_succ _, ⟨Nat.le_trans hB.1 (by omega), fun i s hs => Nat.le_trans (hB.2 i s hs) (by omega)⟩, Chg.of_below hl, fun _ hk => .inl hk, fun _ hk => .inl hk⟩
set_option maxRecDepth 100000 in
set_option maxHeartbeats 4000000 in
theorem step_other (w : World) (m : PM) (t : It) (st : List It) (ks : List Kp) (Z : Nat → Prop) (B : Nat) (h : PS w m t st ks Z) (hB : Fb B t st) (hB2 : B ≤ 1099511627776) (dd f a n : Int) (ba : Option Addr) (bn bc : Nat) (ka : Option Addr) (kn kc : Nat) (kd : Int) (hkd : kd < 1 ∨ 11 < kd) :
    Calls Try.prog 7 #[.pointer (some ⟨m.pp, 0, none⟩), .agg #[.int .i64 kd, .int .i64 dd, .int .i64 f, .int .i64 a, .int .i64 n, .slice ba bn bc, .slice ka kn kc]] w fun e w' => e = .returned (.bool true) ∧ PX w w' m t st ks Z B := by
  have HH := hidden h
  have HB := hidden hB
  have hfa := Nat.le_trans hB.1 hB2
  have HFA := hidden hfa
  clear h hB hfa
  go_enter Try.func7, Try.ntmps7
  go_upto_region 1 with (first
    | (refine wpList_box_blk rfl 30 (.tmp 1) rfl [.int .i64 kd, .int .i64 dd, .int .i64 f, .int .i64 a, .int .i64 n, .slice ba bn bc, .slice ka kn kc] rfl ?_; intro w0 B0 bl0 hzz; clear hzz))
  obtain ⟨ob, hob⟩ : ∃ ob, w.heap.size = ob := ⟨_, rfl⟩
  rw [hob] at B0 ⊢
  have HOB := hidden hob
  have k0 : w0.cell? ⟨ob, 0, none⟩ = some (.int .i64 kd) := B0.cell 0
  have HB0 := hidden B0
  have HBL := hidden bl0
  have HP0 := hidden (HH.out.later bl0)
  clear hob B0 bl0
  have hX := px_same HB.out HP0.out (Lat.refl _)
  have d1 : kd ≠ 1 := by omega
  have d2 : kd ≠ 2 := by omega
  have d3 : kd ≠ 3 := by omega
  have d4 : kd ≠ 4 := by omega
  have d5 : kd ≠ 5 := by omega
  have d6 : kd ≠ 6 := by omega
  have d7 : kd ≠ 7 := by omega
  have d8 : kd ≠ 8 := by omega
  have d9 : kd ≠ 9 := by omega
  have d10 : kd ≠ 10 := by omega
  have d11 : kd ≠ 11 := by omega
  have HX := hidden (hX.from HBL.out)
  clear hX
  go_wp2_with fail
  go_ret
  exact ⟨rfl, HX.out⟩

end Go.Proofs.Ytgmcfejmhlglkaa

/-
  Steps of a pair: Fuse, Crash.
-/
namespace Go.Proofs.Ytgmcfejmhlglkaa
open Go.RowKit
set_option linter.unusedVariables false
set_option linter.unusedSimpArgs false

theorem ints_pad {l : List Int} (h : ∀ x ∈ l, -9223372036854775808 ≤ x ∧ x ≤ 9223372036854775807) : ∀ x ∈ l ++ [201, 201], -9223372036854775808 ≤ x ∧ x ≤ 9223372036854775807 := by
  intro x hx
  rcases List.mem_append.1 hx with e | e
  · exact h x e
  · simp at e
    omega

set_option maxRecDepth 100000 in
set_option maxHeartbeats 4000000 in
theorem step_fuse (w : World) (m : PM) (t : It) (st : List It) (ks : List Kp) (Z : Nat → Prop) (B : Nat) (h : PS w m t st ks Z) (hB : Fb B t st) (hB2 : B ≤ 1099511627776) (dd f a n : Int) (ba : Option Addr) (bn bc : Nat) (ka : Option Addr) (kn kc : Nat) (kl : List Int) (hS : Sn w ka kn kl) (hnone : ka = none → kn = 0 ∧ kc = 0) (hkn : kn ≤ 2147483648) (hko : ∀ x, ka = some x → 0 < kn → x.block < w.heap.size ∧ ¬ FPp m t st x.block) (hn : -9223372036854775808 ≤ n ∧ n ≤ 9223372036854775807) :
    Calls Try.prog 7 #[.pointer (some ⟨m.pp, 0, none⟩), .agg #[.int .i64 6, .int .i64 dd, .int .i64 f, .int .i64 a, .int .i64 n, .slice ba bn bc, .slice ka kn kc]] w fun e w' => e = .returned (.bool true) ∧ PX w w' m t st ks Z B := by
  have HH := hidden h
  have HB := hidden hB
  have hfa := Nat.le_trans hB.1 hB2
  have HFA := hidden hfa
  clear h hB hfa
  obtain ⟨e0, he0⟩ : ∃ e0, (t.S.setFuse n kl).1 = e0 := ⟨_, rfl⟩
  have HE0 := hidden he0
  clear he0
  have HSn := hidden hS
  have HKO := hidden hko
  have HNO := hidden hnone
  clear hS hko hnone
  go_enter Try.func7, Try.ntmps7
  go_upto_region 1 with (first
    | (refine wpList_box_blk rfl 30 (.tmp 1) rfl [.int .i64 6, .int .i64 dd, .int .i64 f, .int .i64 a, .int .i64 n, .slice ba bn bc, .slice ka kn kc] rfl ?_; intro w0 B0 bl0 hzz; clear hzz))
  obtain ⟨ob, hob⟩ : ∃ ob, w.heap.size = ob := ⟨_, rfl⟩
  rw [hob] at B0 ⊢
  have HOB := hidden hob
  have k0 : w0.cell? ⟨ob, 0, none⟩ = some (.int .i64 6) := B0.cell 0
  have HB0 := hidden B0
  have HBL := hidden bl0
  have HP0 := hidden (HH.out.later bl0)
  clear hob B0 bl0
  have k6 : w0.cell? ⟨ob, 6, none⟩ = some (.slice ka kn kc) := HB0.out.cell 6
  have HSn0 := hidden ((Chg.of_below (F := fun _ => False) HBL.out).sn HSn.out (fun _ _ _ e => e))
  go_wp2_with fail
  refine (numbers_any ka kn kc kl w0 HSn0.out HNO.out hkn).mono ?_
  rintro e w1 ⟨g, c, rfl, hg, hc, hO, hb1⟩
  have HG : Hid (w0.heap.size ≤ g ∧ g < w1.heap.size) := ⟨hg, (hO.lt g rfl).2⟩
  have HO1 := hidden (owns_zero hO)
  have HB1 := hidden ((Chg.of_below (F := fun _ => False) hb1).blk HB0.out (fun e => e))
  have HL1 : Hid (Lat w0 w1) := hb1
  have HSn1 := hidden ((Chg.of_below (F := fun _ => False) hb1).sn HSn0.out (fun _ _ _ e => e))
  have HC := hidden hc
  have HI : Hid (Sn w1 (some ⟨g, 0, none⟩) kn kl) := by
    have h1 := (sn_of_owns HO1.out (ints_pad HSn.out.int)).take (Nat.le_add_right kn 2)
    rw [List.take_append_of_le_length (Nat.le_of_eq HSn.out.len.symm), List.take_of_length_le (Nat.le_of_eq HSn.out.len)] at h1
    exact h1
  clear hg hc hO hb1 k6 k0
  go_wp2_with fail
  refine step_r26 m.pp t.p ob kn c (some ⟨g, 0, none⟩) n (fun x w2 => x = .int .i64 e0 ∧ ∃ F1', Half w0 w2 t (t.S.setFuse n kl).2 F1' ∧ (∀ k, F1' k → t.F1 k ∨ w1.heap.size ≤ k) ∧ Chg t.F1 w1 w2) _ _ _ (by rfl) (by rfl) (by rfl) (by rfl) (fun v hl => lat_cell7 (HP0.out.1.blk.cell 0) (Lat.trans _ _ _ HL1.out hl)) (fun v hl => lat_cell7 (HB1.out.cell 4) hl) (fun v hl => (fuseP t.p t.F1 t.S n (some ⟨g, 0, none⟩) kn c kl v (half_pre HP0.out (Lat.trans _ _ _ HL1.out hl)) ((Chg.of_below (F := fun _ => False) hl).sn HI.out (fun _ _ _ e => e)) (by have := HC.out; omega) hn).mono (by
    rintro e w2 ⟨rfl, hD⟩
    obtain ⟨F1', hH, hN⟩ := half_a HP0.out (Lat.trans _ _ _ HL1.out hl) hD
    obtain ⟨_, _, hc2, _⟩ := hD
    exact ⟨_, rfl, by rw [HE0.out], F1', hH, fun k hk => (hN k hk).imp id (fun e => Nat.le_trans hl.size e), (Chg.of_below hl).trans hc2 (fun _ _ e => e)⟩)) ?_
  intro v142 v143 v144 v145 v146 v147 v148 v149 v14 x w2 hR
  obtain ⟨rfl, F1', hH, hN, hc2⟩ := hR
  simp only [Act.put, List.setIfInBounds_toArray, List.set_cons_succ, List.set_cons_zero]
  have hgF : ¬ t.F1 g := fun e => by have := HP0.out.1.it.a.lt _ e; have := HG.out.1; omega
  have HO2 := hidden (hc2.owns HO1.out (fun b hb e => hgF (by have e1 : g = b := Option.some.inj hb; rw [e1]; exact e)))
  have HB2 := hidden (hc2.blk HB1.out (fun e => by have := HH.out.1.it.a.lt _ e; have := HOB.out; omega))
  have HSn2 := hidden (hc2.sn HSn1.out (fun x hx hk e => (HKO.out x hx hk).2 (.inr (.inl (.inl e)))))
  have hH3 : ∀ u, Chg (fun i => i = g) w2 u → Half w0 u t (t.S.setFuse n kl).2 F1' := fun u hu => hH.chg hu (fun k hk e => by
    subst e
    rcases hN k hk with f | f
    · exact hgF f
    · have := HG.out.2
      omega) (fun k hk e => by have := HG.out.1; omega)
  have HH3 := hidden hH3
  clear hH hN hc2 hgF hH3
  have k6 : w2.cell? ⟨ob, 6, none⟩ = some (.slice ka kn kc) := HB2.out.cell 6
  go_wp2_with fail
  refine (left_any g c ka kn kc kl w2 HO2.out HC.out HSn2.out (fun x hx hk e => by have := (HKO.out x hx hk).1; have := HG.out.1; have := HBL.out.size; omega) hkn).mono ?_
  rintro e w3 ⟨rfl, hcg, _⟩
  have HHf := hidden (HH3.out w3 hcg)
  have HB3 := hidden (hcg.blk HB2.out (fun e => by have := HG.out.1; have := HB0.out.lt; omega))
  have HP3 := hidden (HHf.out.c.blk HP0.out.1.blk (fun e => HP0.out.1.offI HP0.out.1.it _ (.inl e) (.inl rfl)))
  have HSn3 := hidden (HHf.out.c.sn HSn0.out (fun x hx hk e => (HKO.out x hx hk).2 (.inr (.inl (.inl e)))))
  clear hcg HH3 k6
  go_wp2_with fail
  refine step_r28 m.pp t.q ob kn kc ka n e0 (fun w4 => PX w0 w4 m t st ks Z B) _ _ _ (by rfl) (by rfl) (by rfl) (by rfl) (by rfl) (fun v hl => lat_cell7 (HP3.out.cell 1) hl) (fun v hl => lat_cell7 (HB3.out.cell 4) hl) (fun v hl => lat_cell7 (HB3.out.cell 6) hl) (fun v hl => (fuseR t.q t.F2 t.S n ka kn kc kl v ((HHf.out.later hl).pre HP0.out) ((Chg.of_below (F := fun _ => False) hl).sn HSn3.out (fun _ _ _ e => e)) HNO.out (Nat.le_trans hkn (by decide)) (fun x hx hk e => (HKO.out x hx hk).2 (.inr (.inl (.inr e)))) hn).mono (by
    rintro e w4 ⟨rfl, hD⟩
    obtain ⟨F2', hS, hC, hn'⟩ := half_b (HHf.out.later hl) HP0.out hD
    exact ⟨by rw [HE0.out], px_set HB.out (Nat.le_trans (fuse_falls _ _ _) (by omega)) hS hC hn'⟩)) ?_
  intro v154 v155 v156 v157 v158 v159 v160 v161 v162 v163 v164 v165 v166 v167 v4 w4 hX
  have HX := hidden (hX.from HBL.out)
  clear hX
  simp only [Act.put, List.setIfInBounds_toArray, List.set_cons_succ, List.set_cons_zero]
  go_wp2_with fail
  go_ret
  exact ⟨rfl, HX.out⟩

end Go.Proofs.Ytgmcfejmhlglkaa

/-
  Steps of a pair: Crash.
-/
namespace Go.Proofs.Ytgmcfejmhlglkaa
open Go.RowKit
set_option linter.unusedVariables false
set_option linter.unusedSimpArgs false

/-- As half_b; what is new in the document's disk is newer than the call. -/
theorem half_c {w w1 w2 : World} {m : PM} {t : It} {st : List It} {ks : List Kp} {Z : Nat → Prop} {S' : St} {F1' : Nat → Prop} (hH : Half w w1 t S' F1') (h : PS w m t st ks Z) (hD : Dks 75 86 w1 w2 t.q t.F2 S') : ∃ F2', PS w2 m ⟨t.p, t.q, F1', F2', S'⟩ st ks Z ∧ Chg t.F w w2 ∧ (∀ k, (F1' k ∨ F2' k) → t.F k ∨ w.heap.size ≤ k) ∧ (∀ k, F2' k → t.F2 k ∨ w1.heap.size ≤ k) ∧ Chg t.F2 w1 w2 := by
  obtain ⟨F2', h1, h2, h3⟩ := hD
  have hn2 : ∀ k, F1' k → ¬ t.F2 k := by
    intro k hk e
    rcases hH.n k hk with f | f
    · exact h.1.it.ne k f e
    · have := h.1.it.b.lt k e
      omega
  have hC : Chg t.F w w2 := (hH.c.mono (fun _ _ e => .inl e)).trans h2 (fun _ _ e => .inr e)
  have f1 : ∀ k, F1' k → t.F k ∨ w.heap.size ≤ k := fun k hk => (hH.n k hk).imp (fun e => .inl e) id
  have f2 : ∀ k, F2' k → t.F k ∨ w.heap.size ≤ k := fun k hk => (h3 k hk).imp (fun e => .inr e) (fun e => Nat.le_trans hH.c.size e)
  refine ⟨F2', h.set (X := fun _ => False) (hH.d.chg h2 hn2) h1 ?_ (hC.mono (fun _ _ e => .inl e)) (fun _ e => e.elim) f1 f2, hC, fun k hk => hk.elim (f1 k) (f2 k), h3, h2⟩
  intro k hk e
  rcases h3 k e with f | f
  · exact hn2 k hk f
  · have := hH.d.lt k hk
    omega
/-- A block that is none of the pair's is written. -/
theorem px_lent {w w2 w3 : World} {m : PM} {t : It} {st : List It} {ks : List Kp} {Z : Nat → Prop} {S' : St} {F1' F2' : Nat → Prop} {B g : Nat} (h0 : PS w m t st ks Z) (hB : Fb B t st) (hf : S'.falls ≤ t.S.falls + 2) (h : PS w2 m ⟨t.p, t.q, F1', F2', S'⟩ st ks Z) (hC : Chg t.F w w2) (hn : ∀ k, (F1' k ∨ F2' k) → t.F k ∨ w.heap.size ≤ k) (hc : Chg (fun i => i = g) w2 w3) (hg : w.heap.size ≤ g) (h1 : ¬ F1' g) (h2 : ¬ F2' g) : PX w w3 m t st ks Z B := by
  have hlt := h0.1.lt
  have hw : ∀ k, k < w.heap.size → ¬ k = g := fun k hk e => by omega
  refine px_set hB hf (h.chg hc ?_ (fun k hk => hw k (h0.1.zl k hk))) (hC.trans hc (fun k hk e => absurd e (hw k hk))) hn
  rintro k (e | e | ⟨i, s, hs, e⟩) rfl
  · exact hw _ (hlt _ (.inl e)) rfl
  · rcases e with e | e
    · exact h1 e
    · exact h2 e
  · exact hw _ (hlt _ (.inr (.inr ⟨i, s, hs, e⟩))) rfl

set_option maxRecDepth 100000 in
set_option maxHeartbeats 4000000 in
theorem step_crash (w : World) (m : PM) (t : It) (st : List It) (ks : List Kp) (Z : Nat → Prop) (B : Nat) (h : PS w m t st ks Z) (hB : Fb B t st) (hB2 : B ≤ 1099511627776) (dd f a n : Int) (ba : Option Addr) (bn bc : Nat) (ka : Option Addr) (kn kc : Nat) (kl : List Int) (hS : Sn w ka kn kl) (hnone : ka = none → kn = 0 ∧ kc = 0) (hkn : kn ≤ 2147483648) (hko : ∀ x, ka = some x → 0 < kn → x.block < w.heap.size ∧ ¬ FPp m t st x.block) :
    Calls Try.prog 7 #[.pointer (some ⟨m.pp, 0, none⟩), .agg #[.int .i64 7, .int .i64 dd, .int .i64 f, .int .i64 a, .int .i64 n, .slice ba bn bc, .slice ka kn kc]] w fun e w' => e = .returned (.bool true) ∧ PX w w' m t st ks Z B := by
  have HH := hidden h
  have HB := hidden hB
  have hfa := Nat.le_trans hB.1 hB2
  have HFA := hidden hfa
  clear h hB hfa
  have HSn := hidden hS
  have HKO := hidden hko
  have HNO := hidden hnone
  clear hS hko hnone
  go_enter Try.func7, Try.ntmps7
  go_upto_region 1 with (first
    | (refine wpList_box_blk rfl 30 (.tmp 1) rfl [.int .i64 7, .int .i64 dd, .int .i64 f, .int .i64 a, .int .i64 n, .slice ba bn bc, .slice ka kn kc] rfl ?_; intro w0 B0 bl0 hzz; clear hzz))
  obtain ⟨ob, hob⟩ : ∃ ob, w.heap.size = ob := ⟨_, rfl⟩
  rw [hob] at B0 ⊢
  have HOB := hidden hob
  have k0 : w0.cell? ⟨ob, 0, none⟩ = some (.int .i64 7) := B0.cell 0
  have HB0 := hidden B0
  have HBL := hidden bl0
  have HP0 := hidden (HH.out.later bl0)
  clear hob B0 bl0
  have k6 : w0.cell? ⟨ob, 6, none⟩ = some (.slice ka kn kc) := HB0.out.cell 6
  have HSn0 := hidden ((Chg.of_below (F := fun _ => False) HBL.out).sn HSn.out (fun _ _ _ e => e))
  go_wp2_with fail
  refine (numbers_any ka kn kc kl w0 HSn0.out HNO.out hkn).mono ?_
  rintro e w1 ⟨g, c, rfl, hg, hc, hO, hb1⟩
  have HG : Hid (w0.heap.size ≤ g ∧ g < w1.heap.size) := ⟨hg, (hO.lt g rfl).2⟩
  have HO1 := hidden (owns_zero hO)
  have HB1 := hidden ((Chg.of_below (F := fun _ => False) hb1).blk HB0.out (fun e => e))
  have HL1 : Hid (Lat w0 w1) := hb1
  have HSn1 := hidden ((Chg.of_below (F := fun _ => False) hb1).sn HSn0.out (fun _ _ _ e => e))
  have HC := hidden hc
  have HI : Hid (Sn w1 (some ⟨g, 0, none⟩) kn kl) := by
    have h1 := (sn_of_owns HO1.out (ints_pad HSn.out.int)).take (Nat.le_add_right kn 2)
    rw [List.take_append_of_le_length (Nat.le_of_eq HSn.out.len.symm), List.take_of_length_le (Nat.le_of_eq HSn.out.len)] at h1
    exact h1
  clear hg hc hO hb1 k6 k0
  have c0 : w1.cell? ⟨m.pp, 0, none⟩ = some (.pointer (some ⟨t.p, 0, none⟩)) := lat_cell7 (HP0.out.1.blk.cell 0) HL1.out
  go_wp2_with fail
  refine (crashP t.p t.F1 t.S (some ⟨g, 0, none⟩) kn c kl w1 (half_pre HP0.out HL1.out) HI.out (fun x hx _ e => by have e1 := Option.some.inj hx; subst e1; have e2 : g < w0.heap.size := HP0.out.1.it.a.lt _ e; have := HG.out.1; omega) HFA.out).mono ?_
  rintro e w2 ⟨rfl, hD⟩
  obtain ⟨F1', hH, hN⟩ := half_a HP0.out HL1.out hD
  obtain ⟨_, _, hc2, _⟩ := hD
  have hgF : ¬ t.F g := fun e => by have := HP0.out.1.it.lt _ e; have := HG.out.1; omega
  have HGF := hidden hgF
  have hg1 : ¬ F1' g := fun e => by
    rcases hN g e with f | f
    · exact hgF (.inl f)
    · have := HG.out.2
      omega
  have HG1 := hidden hg1
  have HC2 := hidden hc2
  have HB2 := hidden (hc2.blk HB1.out (fun e => by have := HH.out.1.it.a.lt _ e; have := HOB.out; omega))
  have HSn2 := hidden (hc2.sn HSn1.out (fun x hx hk e => (HKO.out x hx hk).2 (.inr (.inl (.inl e)))))
  have HHf := hidden hH
  have HP2 := hidden (HHf.out.c.blk HP0.out.1.blk (fun e => HP0.out.1.offI HP0.out.1.it _ (.inl e) (.inl rfl)))
  clear hH hN hc2 hgF hg1 c0
  go_wp2_with fail
  refine step_r32 m.pp t.q ob kn kc ka (fun x w3 => Chg t.F w1 w3 ∧ ∃ F2', PS w3 m ⟨t.p, t.q, F1', F2', t.S.crash kl⟩ st ks Z ∧ Chg t.F w0 w3 ∧ (∀ k, (F1' k ∨ F2' k) → t.F k ∨ w0.heap.size ≤ k) ∧ ¬ F2' g) _ _ _ (by rfl) (by rfl) (by rfl) (fun v hl => lat_cell7 (HP2.out.cell 1) hl) (fun v hl => lat_cell7 (HB2.out.cell 6) hl) (fun v hl => (crashR t.q t.F2 t.S ka kn kc kl v ((HHf.out.later hl).pre HP0.out) ((Chg.of_below (F := fun _ => False) hl).sn HSn2.out (fun _ _ _ e => e)) (fun x hx hk e => (HKO.out x hx hk).2 (.inr (.inl (.inr e)))) HFA.out).mono (by
    rintro e w3 ⟨rfl, hD⟩
    obtain ⟨F2', hS, hC, hn', hN2, hc3⟩ := half_c (HHf.out.later hl) HP0.out hD
    refine ⟨_, rfl, ((HC2.out.mono (fun _ _ e => .inl e)).trans (Chg.of_below (F := fun _ => False) hl) (fun _ _ e => e.elim)).trans hc3 (fun _ _ e => .inr e), F2', hS, hC, hn', fun e => ?_⟩
    rcases hN2 g e with f | f
    · exact HGF.out (.inr f)
    · have := HG.out.2
      have := HC2.out.size
      have := hl.size
      omega)) ?_
  intro v179 v180 v181 v182 v183 v184 v185 x w3 hR
  obtain ⟨hc3, F2', hS3, hC3, hn3, hg2⟩ := hR
  simp only [Act.put, List.setIfInBounds_toArray, List.set_cons_succ, List.set_cons_zero]
  have HO3 := hidden (hc3.owns HO1.out (fun b hb e => HGF.out (by have e1 : g = b := Option.some.inj hb; rw [e1]; exact e)))
  have HB3 := hidden (hc3.blk HB1.out (fun e => by have := HH.out.1.it.lt _ e; have := HOB.out; omega))
  have HSn3 := hidden (hc3.sn HSn1.out (fun x hx hk e => (HKO.out x hx hk).2 (.inr (.inl e))))
  have HX3 : Hid (∀ u, Chg (fun i => i = g) w3 u → PX w0 u m t st ks Z B) := fun u hu => px_lent HP0.out HB.out (Nat.le_trans (crash_falls _ _) (by omega)) hS3 hC3 hn3 hu HG.out.1 HG1.out hg2
  clear hc3 hS3 hC3 hn3 hg2
  have k6 : w3.cell? ⟨ob, 6, none⟩ = some (.slice ka kn kc) := HB3.out.cell 6
  go_wp2_with fail
  refine (left_any g c ka kn kc kl w3 HO3.out HC.out HSn3.out (fun x hx hk e => by have := (HKO.out x hx hk).1; have := HG.out.1; have := HBL.out.size; omega) hkn).mono ?_
  rintro e w4 ⟨rfl, hcg, _⟩
  have hX := HX3.out w4 hcg
  clear hcg k6
  have HX := hidden (hX.from HBL.out)
  clear hX
  go_wp2_with fail
  go_ret
  exact ⟨rfl, HX.out⟩

end Go.Proofs.Ytgmcfejmhlglkaa

/-
  Steps of a pair: Append.
-/
namespace Go.Proofs.Ytgmcfejmhlglkaa
open Go.RowKit
set_option linter.unusedVariables false
set_option linter.unusedSimpArgs false

theorem byte_pad {l : List Int} (h : Byte l) : Byte (l ++ [201, 201, 201, 201]) := by
  intro x hx
  rcases List.mem_append.1 hx with e | e
  · exact h x e
  · simp at e
    omega

set_option maxRecDepth 100000 in
set_option maxHeartbeats 4000000 in
theorem step_append (w : World) (m : PM) (t : It) (st : List It) (ks : List Kp) (Z : Nat → Prop) (B : Nat) (h : PS w m t st ks Z) (hB : Fb B t st) (hB2 : B ≤ 1099511627776) (dd f a n : Int) (ba : Option Addr) (bn bc : Nat) (ka : Option Addr) (kn kc : Nat) (bs : List Int) (hS : Sl w ba bn bs) (hnone : ba = none → bn = 0 ∧ bc = 0) (hbn : bn ≤ 2147483648) (hbo : ∀ x, ba = some x → 0 < bn → x.block < w.heap.size ∧ ¬ FPp m t st x.block) :
    Calls Try.prog 7 #[.pointer (some ⟨m.pp, 0, none⟩), .agg #[.int .i64 1, .int .i64 dd, .int .i64 f, .int .i64 a, .int .i64 n, .slice ba bn bc, .slice ka kn kc]] w fun e w' => e = .returned (.bool true) ∧ PX w w' m t st ks Z B := by
  have HH := hidden h
  have HB := hidden hB
  have hfa := Nat.le_trans hB.1 hB2
  have HFA := hidden hfa
  clear h hB hfa
  obtain ⟨e0, he0⟩ : ∃ e0, (t.S.append f bs).1 = e0 := ⟨_, rfl⟩
  have HE0 := hidden he0
  clear he0
  have HSl := hidden hS
  have HBO := hidden hbo
  have HNO := hidden hnone
  clear hS hbo hnone
  go_enter Try.func7, Try.ntmps7
  go_upto_region 1 with (first
    | (refine wpList_box_blk rfl 30 (.tmp 1) rfl [.int .i64 1, .int .i64 dd, .int .i64 f, .int .i64 a, .int .i64 n, .slice ba bn bc, .slice ka kn kc] rfl ?_; intro w0 B0 bl0 hzz; clear hzz))
  obtain ⟨ob, hob⟩ : ∃ ob, w.heap.size = ob := ⟨_, rfl⟩
  rw [hob] at B0 ⊢
  have HOB := hidden hob
  have k0 : w0.cell? ⟨ob, 0, none⟩ = some (.int .i64 1) := B0.cell 0
  have HB0 := hidden B0
  have HBL := hidden bl0
  have HP0 := hidden (HH.out.later bl0)
  clear hob B0 bl0
  have k5 : w0.cell? ⟨ob, 5, none⟩ = some (.slice ba bn bc) := HB0.out.cell 5
  have HSl0 := hidden ((Chg.of_below (F := fun _ => False) HBL.out).sl HSl.out (fun _ _ _ e => e))
  go_wp2_with fail
  refine (lent_any ba bn bc bs w0 HSl0.out HNO.out hbn).mono ?_
  rintro e w1 ⟨g, c, rfl, hg, hc, hO, hb1⟩
  have HG : Hid (w0.heap.size ≤ g ∧ g < w1.heap.size) := ⟨hg, (hO.lt g rfl).2⟩
  have HO1 := hidden (owns_zero hO)
  have HB1 := hidden ((Chg.of_below (F := fun _ => False) hb1).blk HB0.out (fun e => e))
  have HL1 : Hid (Lat w0 w1) := hb1
  have HSl1 := hidden ((Chg.of_below (F := fun _ => False) hb1).sl HSl0.out (fun _ _ _ e => e))
  have HC := hidden hc
  have HI : Hid (Sl w1 (some ⟨g, 0, none⟩) bn bs) := by
    have h1 := (sl_of_owns HO1.out (byte_pad HSl.out.byte)).take (Nat.le_add_right bn 4)
    rw [List.take_append_of_le_length (Nat.le_of_eq HSl.out.len.symm), List.take_of_length_le (Nat.le_of_eq HSl.out.len)] at h1
    exact h1
  clear hg hc hO hb1 k5 k0
  go_wp2_with fail
  refine step_r5 m.pp t.p ob bn c (some ⟨g, 0, none⟩) f (fun x w2 => x = .int .i64 e0 ∧ ∃ F1', Half w0 w2 t (t.S.append f bs).2 F1' ∧ (∀ k, F1' k → t.F1 k ∨ w1.heap.size ≤ k) ∧ Chg t.F1 w1 w2) _ _ _ (by rfl) (by rfl) (by rfl) (by rfl) (fun v hl => lat_cell7 (HP0.out.1.blk.cell 0) (Lat.trans _ _ _ HL1.out hl)) (fun v hl => lat_cell7 (HB1.out.cell 2) hl) (fun v hl => (appendP t.p t.F1 t.S v f (some ⟨g, 0, none⟩) bn c bs (half_pre HP0.out (Lat.trans _ _ _ HL1.out hl)) HFA.out ((Chg.of_below (F := fun _ => False) hl).sl HI.out (fun _ _ _ e => e)) (fun e => by cases e) (Nat.le_trans hbn (by decide))).mono (by
    rintro e w2 ⟨rfl, hD⟩
    obtain ⟨F1', hH, hN⟩ := half_a HP0.out (Lat.trans _ _ _ HL1.out hl) hD
    obtain ⟨_, _, hc2, _⟩ := hD
    exact ⟨_, rfl, by rw [HE0.out], F1', hH, fun k hk => (hN k hk).imp id (fun e => Nat.le_trans hl.size e), (Chg.of_below hl).trans hc2 (fun _ _ e => e)⟩)) ?_
  intro v29 v30 v31 v32 v33 v34 v35 v36 v6 x w2 hR
  obtain ⟨rfl, F1', hH, hN, hc2⟩ := hR
  simp only [Act.put, List.setIfInBounds_toArray, List.set_cons_succ, List.set_cons_zero]
  have hgF : ¬ t.F1 g := fun e => by have := HP0.out.1.it.a.lt _ e; have := HG.out.1; omega
  have HO2 := hidden (hc2.owns HO1.out (fun b hb e => hgF (by have e1 : g = b := Option.some.inj hb; rw [e1]; exact e)))
  have HB2 := hidden (hc2.blk HB1.out (fun e => by have := HH.out.1.it.a.lt _ e; have := HOB.out; omega))
  have HSl2 := hidden (hc2.sl HSl1.out (fun x hx hk e => (HBO.out x hx hk).2 (.inr (.inl (.inl e)))))
  have hH3 : ∀ u, Chg (fun i => i = g) w2 u → Half w0 u t (t.S.append f bs).2 F1' := fun u hu => hH.chg hu (fun k hk e => by
    subst e
    rcases hN k hk with f | f
    · exact hgF f
    · have := HG.out.2
      omega) (fun k hk e => by have := HG.out.1; omega)
  have HH3 := hidden hH3
  clear hH hN hc2 hgF hH3
  have k5 : w2.cell? ⟨ob, 5, none⟩ = some (.slice ba bn bc) := HB2.out.cell 5
  go_wp2_with fail
  refine (still_any g c ba bn bc bs w2 HO2.out HC.out HSl2.out (fun x hx hk e => by have := (HBO.out x hx hk).1; have := HG.out.1; have := HBL.out.size; omega) hbn).mono ?_
  rintro e w3 ⟨rfl, hcg, _⟩
  have HHf := hidden (HH3.out w3 hcg)
  have HB3 := hidden (hcg.blk HB2.out (fun e => by have := HG.out.1; have := HB0.out.lt; omega))
  have HP3 := hidden (HHf.out.c.blk HP0.out.1.blk (fun e => HP0.out.1.offI HP0.out.1.it _ (.inl e) (.inl rfl)))
  have HSl3 := hidden (HHf.out.c.sl HSl0.out (fun x hx hk e => (HBO.out x hx hk).2 (.inr (.inl (.inl e)))))
  clear hcg HH3 k5
  go_wp2_with fail
  refine step_r7 m.pp t.q ob bn bc ba f e0 (fun w4 => PX w0 w4 m t st ks Z B ∧ w4.cell? ⟨ob, 0, none⟩ = some (.int .i64 1)) _ _ _ (by rfl) (by rfl) (by rfl) (by rfl) (fun v hl => lat_cell7 (HP3.out.cell 1) hl) (fun v hl => lat_cell7 (HB3.out.cell 2) hl) (fun v hl => lat_cell7 (HB3.out.cell 5) hl) (fun v hl => (appendR t.q t.F2 t.S v f ba bn bc bs ((HHf.out.later hl).pre HP0.out) HFA.out ((Chg.of_below (F := fun _ => False) hl).sl HSl3.out (fun _ _ _ e => e)) HNO.out (Nat.le_trans hbn (by decide)) (fun x hx hk e => (HBO.out x hx hk).2 (.inr (.inl (.inr e))))).mono (by
    rintro e w4 ⟨rfl, hD⟩
    obtain ⟨F2', hS, hC, hn', _, hc4⟩ := half_c (HHf.out.later hl) HP0.out hD
    exact ⟨by rw [HE0.out], px_set HB.out (Nat.le_trans (append_falls _ _ _) (by omega)) hS hC hn', (hc4.blk ((Chg.of_below (F := fun _ => False) hl).blk HB3.out (fun e => e)) (fun e => by have := HH.out.1.it.b.lt _ e; have := HOB.out; omega)).cell 0⟩)) ?_
  intro v41 v42 v43 v44 v45 v46 v47 v48 v49 v50 v51 v8 w4 hR4
  obtain ⟨hX, k0⟩ := hR4
  have HX := hidden (hX.from HBL.out)
  clear hX
  simp only [Act.put, List.setIfInBounds_toArray, List.set_cons_succ, List.set_cons_zero]
  go_wp2_with fail
  go_ret
  exact ⟨rfl, HX.out⟩

end Go.Proofs.Ytgmcfejmhlglkaa

/-
  Steps of a pair: Back.
-/
namespace Go.Proofs.Ytgmcfejmhlglkaa
open Go.RowKit
set_option linter.unusedVariables false
set_option linter.unusedSimpArgs false

theorem px_swap {w w' : World} {m : PM} {t : It} {st : List It} {ks : List Kp} {Z : Nat → Prop} {B k : Nat} {s : It} (hB : Fb B t st) (hs : st[k]? = some s) (h : PS w' m s (st.set k t) ks Z) (hC : Chg m.D w w') : PX w w' m t st ks Z B := by
  refine ⟨m, s, _, ks, Z, rfl, h, Nat.le_add_right _ _, by rw [List.length_set]; exact Nat.le_succ _, ⟨Nat.le_trans (hB.2 k s hs) (by omega), fun i u hu => ?_⟩, hC.mono (fun _ _ e => .inl e.F), ?_, fun _ hk => .inl hk⟩
  · rcases set_at hu with ⟨_, rfl⟩ | ⟨_, e⟩
    · exact Nat.le_trans hB.1 (by omega)
    · exact Nat.le_trans (hB.2 i u e) (by omega)
  · rintro j (e | e | ⟨i, u, hu, e⟩)
    · exact .inl (.inl e)
    · exact .inl (.inr (.inr ⟨k, s, hs, e⟩))
    · rcases set_at hu with ⟨_, rfl⟩ | ⟨_, e2⟩
      · exact .inl (.inr (.inl e))
      · exact .inl (.inr (.inr ⟨i, u, e2, e⟩))

set_option maxRecDepth 100000 in
set_option maxHeartbeats 4000000 in
theorem step_back (w : World) (m : PM) (t : It) (st : List It) (ks : List Kp) (Z : Nat → Prop) (B : Nat) (h : PS w m t st ks Z) (hB : Fb B t st) (hB2 : B ≤ 1099511627776) (dd f a n : Int) (ba : Option Addr) (bn bc : Nat) (ka : Option Addr) (kn kc : Nat) (hsl : st.length ≤ 1099511627776) :
    Calls Try.prog 7 #[.pointer (some ⟨m.pp, 0, none⟩), .agg #[.int .i64 10, .int .i64 dd, .int .i64 f, .int .i64 a, .int .i64 n, .slice ba bn bc, .slice ka kn kc]] w fun e w' => e = .returned (.bool true) ∧ PX w w' m t st ks Z B := by
  have HH := hidden h
  have HB := hidden hB
  have hfa := Nat.le_trans hB.1 hB2
  have HFA := hidden hfa
  clear h hB hfa
  go_enter Try.func7, Try.ntmps7
  go_upto_region 1 with (first
    | (refine wpList_box_blk rfl 30 (.tmp 1) rfl [.int .i64 10, .int .i64 dd, .int .i64 f, .int .i64 a, .int .i64 n, .slice ba bn bc, .slice ka kn kc] rfl ?_; intro w0 B0 bl0 hzz; clear hzz))
  obtain ⟨ob, hob⟩ : ∃ ob, w.heap.size = ob := ⟨_, rfl⟩
  rw [hob] at B0 ⊢
  have HOB := hidden hob
  have k0 : w0.cell? ⟨ob, 0, none⟩ = some (.int .i64 10) := B0.cell 0
  have HB0 := hidden B0
  have HBL := hidden bl0
  have HP0 := hidden (HH.out.later bl0)
  clear hob B0 bl0
  have hlen : st.length ≤ 1099511627776 := hsl
  by_cases hst : st.length = 0
  · obtain ⟨da, dc, hdv⟩ := owns_form HP0.out.1.dv
    have c2 : w0.cell? ⟨m.pp, 2, none⟩ = some (.slice da 0 dc) := by rw [← hst, ← hdv]; exact HP0.out.1.blk.cell 2
    have HX := hidden ((px_same HB.out HP0.out (Lat.refl _)).from HBL.out)
    clear hdv
    go_wp2_with fail
    go_ret
    exact ⟨rfl, HX.out⟩
  obtain ⟨N, hN⟩ : ∃ N, st.length = N + 1 := ⟨st.length - 1, by omega⟩
  obtain ⟨s, hs⟩ : ∃ s, st[N]? = some s := ⟨_, List.getElem?_eq_getElem (by omega)⟩
  obtain ⟨rb, rc, hdv, _, _, hrb⟩ := owns_some HP0.out.1.dv (by omega)
  obtain ⟨xb, xc, hxv, _, _, hxb⟩ := owns_some HP0.out.1.xv (by omega)
  have hod := HP0.out.1.dv
  have hox := HP0.out.1.xv
  rw [hdv, hN] at hod
  rw [hxv, hN] at hox
  have hbl := HP0.out.1.blk
  rw [hN] at hdv hxv
  have c2 : w0.cell? ⟨m.pp, 2, none⟩ = some (.slice (some ⟨rb, 0, none⟩) (N + 1) rc) := by rw [← hdv]; exact hbl.cell 2
  have c3 : w0.cell? ⟨m.pp, 3, none⟩ = some (.slice (some ⟨xb, 0, none⟩) (N + 1) xc) := by rw [← hxv]; exact hbl.cell 3
  have d2 : w0.cell? ⟨rb, N, none⟩ = some (.pointer (some ⟨s.p, 0, none⟩)) := owns_cell hod N _ (by rw [List.getElem?_map, hs]; rfl)
  have d3 : w0.cell? ⟨xb, N, none⟩ = some (.pointer (some ⟨s.q, 0, none⟩)) := owns_cell hox N _ (by rw [List.getElem?_map, hs]; rfl)
  have hpr : rb ≠ m.pp := fun e => absurd ((owns_tg hod rb rfl).one (e ▸ hbl.tg)) (by decide)
  have hpx : xb ≠ m.pp := fun e => absurd ((owns_tg hox xb rfl).one (e ▸ hbl.tg)) (by decide)
  have hrx : rb ≠ xb := fun e => absurd ((owns_tg hod rb rfl).one (e ▸ owns_tg hox xb rfl)) (by decide)
  have HS := hidden hs
  have HOD := hidden hod
  have HOX := hidden hox
  have HBK := hidden hbl
  have HNN := hidden hN
  have HDV := hidden hdv
  have HXV := hidden hxv
  have HNE : Hid (rb ≠ m.pp ∧ xb ≠ m.pp ∧ rb ≠ xb) := ⟨hpr, hpx, hrx⟩
  have hNN : N ≤ 1099511627776 := by omega
  clear hs hod hox hbl hN hdv hxv hpr hpx hrx hrb hxb hst hlen
  go_wp2_with fail
  refine step_r51 m.pp t.p rb (N + 1) rc N (Nat.lt_succ_self N) _ _ _ (by rfl) (by rfl) (by rfl) (fun v hl => lat_cell7 (HBK.out.cell 0) hl) (fun v hl => lat_cell7 c2 hl) _ (fun v hl => lat_cell7 d2 hl) (fun v hl => owns_frozen ((Chg.of_below (F := fun _ => False) hl).owns HOD.out (fun _ _ e => e)) N) ?_
  intro v273 v274 v275 v276 v277 v278 v279 v280 v281 v282 w1 hl1
  simp only [Act.put, List.setIfInBounds_toArray, List.set_cons_succ, List.set_cons_zero]
  obtain ⟨wa, hwa⟩ : ∃ wa, w1.setCell ⟨rb, N, none⟩ (.pointer (some ⟨t.p, 0, none⟩)) = wa := ⟨_, rfl⟩
  rw [hwa]
  have hca : Chg (fun i => i = rb) w0 wa := by rw [← hwa]; exact (Chg.of_below hl1).trans (Chg.set ⟨rb, N, none⟩ _ w1) (fun _ _ e => e)
  have HOD1 : Hid (wa.ownsRow 0 33 1 (.slice (some ⟨rb, 0, none⟩) (N + 1) rc) (N + 1) ((st.map fun t => Value.pointer (some ⟨t.p, 0, none⟩)).set N (.pointer (some ⟨t.p, 0, none⟩)))) := by
    show World.ownsRow _ _ _ _ _ _ _
    rw [← hwa]
    exact owns_setv ((Chg.of_below (F := fun _ => False) hl1).owns HOD.out (fun _ _ e => e)) N _ (by rw [List.length_map, HNN.out]; omega)
  have HBK1 := hidden (hca.blk HBK.out (fun e => HNE.out.1 e.symm))
  have HOX1 := hidden (hca.owns HOX.out (fun b hb e => HNE.out.2.2 (by have e1 : xb = b := Option.some.inj hb; have e2 : b = rb := e; omega)))
  have HCA := hidden hca
  have c3 : wa.cell? ⟨m.pp, 3, none⟩ = some (.slice (some ⟨xb, 0, none⟩) (N + 1) xc) := by rw [← HXV.out]; exact HBK1.out.cell 3
  have d3 : wa.cell? ⟨xb, N, none⟩ = some (.pointer (some ⟨s.q, 0, none⟩)) := owns_cell HOX1.out N _ (by rw [List.getElem?_map, HS.out]; rfl)
  clear hca hwa hl1 c2 d2
  go_wp2_with fail
  refine step_r52 m.pp t.q xb (N + 1) xc N (Nat.lt_succ_self N) _ _ _ (by rfl) (by rfl) (by rfl) (fun v hl => lat_cell7 (HBK1.out.cell 1) hl) (fun v hl => lat_cell7 c3 hl) _ (fun v hl => lat_cell7 d3 hl) (fun v hl => owns_frozen ((Chg.of_below (F := fun _ => False) hl).owns HOX1.out (fun _ _ e => e)) N) ?_
  intro v283 v284 v285 v286 v287 v288 v289 v290 v291 v292 w2 hl2
  simp only [Act.put, List.setIfInBounds_toArray, List.set_cons_succ, List.set_cons_zero]
  obtain ⟨wb, hwb⟩ : ∃ wb, w2.setCell ⟨xb, N, none⟩ (.pointer (some ⟨t.q, 0, none⟩)) = wb := ⟨_, rfl⟩
  rw [hwb]
  have hcb : Chg (fun i => i = xb) wa wb := by rw [← hwb]; exact (Chg.of_below hl2).trans (Chg.set ⟨xb, N, none⟩ _ w2) (fun _ _ e => e)
  have HOX2 : Hid (wb.ownsRow 0 34 1 (.slice (some ⟨xb, 0, none⟩) (N + 1) xc) (N + 1) ((st.map fun t => Value.pointer (some ⟨t.q, 0, none⟩)).set N (.pointer (some ⟨t.q, 0, none⟩)))) := by
    show World.ownsRow _ _ _ _ _ _ _
    rw [← hwb]
    exact owns_setv ((Chg.of_below (F := fun _ => False) hl2).owns HOX1.out (fun _ _ e => e)) N _ (by rw [List.length_map, HNN.out]; omega)
  have HBK2 := hidden (hcb.blk HBK1.out (fun e => HNE.out.2.1 e.symm))
  have HOD2 := hidden (hcb.owns HOD1.out (fun b hb e => HNE.out.2.2 (by have e1 : rb = b := Option.some.inj hb; have e2 : b = xb := e; omega)))
  have HCB := hidden (HCA.out.mono (G := m.D) (fun k _ e => .inr (.inl (by rw [HDV.out]; have e2 : k = rb := e; rw [e2]; rfl))) |>.trans hcb (fun k _ e => .inr (.inr (by rw [HXV.out]; have e2 : k = xb := e; rw [e2]; rfl))))
  have e0 : wb.cell? ⟨m.pp, 0, none⟩ = some (.pointer (some ⟨t.p, 0, none⟩)) := HBK2.out.cell 0
  have f0 : wb.frozen? ⟨m.pp, 0, none⟩ = false := HBK2.out.frozen 0
  have e1 : (wb.setCell ⟨m.pp, 0, none⟩ (.pointer (some ⟨s.p, 0, none⟩))).cell? ⟨m.pp, 1, none⟩ = some (.pointer (some ⟨t.q, 0, none⟩)) := (HBK2.out.set 0 (.pointer (some ⟨s.p, 0, none⟩))).cell 1
  have f1 : (wb.setCell ⟨m.pp, 0, none⟩ (.pointer (some ⟨s.p, 0, none⟩))).frozen? ⟨m.pp, 1, none⟩ = false := (HBK2.out.set 0 (.pointer (some ⟨s.p, 0, none⟩))).frozen 1
  have HX : Hid (PX w ((wb.setCell ⟨m.pp, 0, none⟩ (.pointer (some ⟨s.p, 0, none⟩))).setCell ⟨m.pp, 1, none⟩ (.pointer (some ⟨s.q, 0, none⟩))) m t st ks Z B) := by
    have hC : Chg m.D w0 ((wb.setCell ⟨m.pp, 0, none⟩ (.pointer (some ⟨s.p, 0, none⟩))).setCell ⟨m.pp, 1, none⟩ (.pointer (some ⟨s.q, 0, none⟩))) := (HCB.out.trans (Chg.set ⟨m.pp, 0, none⟩ _ wb) (fun _ _ e => .inl e)).trans (Chg.set ⟨m.pp, 1, none⟩ _ _) (fun _ _ e => .inl e)
    have own : ∀ {ty : TypeId} {v : Value} {n : Nat} {xs : List Value}, wb.ownsRow 0 ty 1 v n xs → (v.ownBlock ≠ some m.pp) → ((wb.setCell ⟨m.pp, 0, none⟩ (.pointer (some ⟨s.p, 0, none⟩))).setCell ⟨m.pp, 1, none⟩ (.pointer (some ⟨s.q, 0, none⟩))).ownsRow 0 ty 1 v n xs := fun h hne => (Chg.set ⟨m.pp, 1, none⟩ _ _).owns ((Chg.set ⟨m.pp, 0, none⟩ _ wb).owns h (fun b hb e => hne (by have e2 : b = m.pp := e; rw [← e2]; exact hb))) (fun b hb e => hne (by have e2 : b = m.pp := e; rw [← e2]; exact hb))
    refine (px_swap HB.out HS.out (HP0.out.swap HS.out hC ?_ ?_ ?_) hC).from HBL.out
    · exact (HBK2.out.set 0 (.pointer (some ⟨s.p, 0, none⟩))).set 1 (.pointer (some ⟨s.q, 0, none⟩))
    · rw [HDV.out, HNN.out]
      exact own HOD2.out (fun e => HNE.out.1 (Option.some.inj e))
    · rw [HXV.out, HNN.out]
      exact own HOX2.out (fun e => HNE.out.2.1 (Option.some.inj e))
  clear hcb hwb hl2 c3 d3
  go_wp2_with fail
  go_ret
  exact ⟨rfl, HX.out⟩

end Go.Proofs.Ytgmcfejmhlglkaa
