import Derived.Test.YtfieglepljmmkaaShaA
namespace Go.Proofs.Ytfieglepljmmkaa
open Go.RowKit
set_option linter.unusedVariables false

theorem wpList_build_to {P : Program} {w : World} {ops : Array Oper} {rest : List Oper} {o : Oper} {a : Act} {Q : Exit → Act → World → Prop} (g : o.guard = none) (t : TypeId) (parts : Array (Nat × Operand)) (ho : o.op = .build t parts) (vals : List (Nat × Value)) (cells : Array Value)
    (hv : (parts.map fun (i, x) => (i, a.eval x)).toList = vals) (hc : P.built t vals = some cells) (h : wpList P ops Q rest (a.put o.dst (.agg cells)) w) : wpList P ops Q (o :: rest) a w := by
  refine wpList_plain g fun K hK => ?_
  have hr := run_build (P := P) w t (parts.map fun (i, x) => (i, a.eval x)) cells (by rw [hv]; exact hc)
  unfold Oper.wp
  simp only [execOp, ho, Sem.run_bind, hr, Result.andThen_ok, Sem.run_pure, Oper.upon]
  exact hK _ _ h

theorem info47 : (Try.prog.info? 47).map (·.size) = some 8 := by kernel_rfl
theorem new47 : (Try.prog.info? 47).map (fun i => i.zero.map (·.cells)) = some (some (wc (List.replicate 8 0)).toArray) := by kernel_rfl

def kVals : List (Nat × Value) := (List.range 64).map (fun i => (i, Value.int .u32 (N (KK.getD i 0))))
def hVals : List (Nat × Value) := (List.range 8).map (fun i => (i, Value.int .u32 (N (H0.l.getD i 0))))
theorem built57 : Try.prog.built 57 kVals = some (wc KK).toArray := by kernel_rfl
theorem built47 : Try.prog.built 47 hVals = some (wc H0.l).toArray := by kernel_rfl

set_option maxRecDepth 100000 in
set_option maxHeartbeats 1000000 in
theorem startWords_any (w : World) : Calls Try.prog 27 #[] w fun e w' => e = .returned (.agg (wc H0.l).toArray) ∧ Below w.heap.size w w' := by
  have hlen : (wc H0.l).length = 8 := rfl
  have hone := wc_one H0.l
  have hb := built47
  go_enter Try.func27, Try.ntmps27
  generalize hT : wc H0.l = T at *
  have HT := hidden hT
  clear hT
  go_wp2_with (first
    | (refine wpList_alloc_blk rfl 47 rfl 0 rfl _ new47 ?_; intro w1 B1 bl1 hz1)
    | refine wpList_build_to rfl 47 _ rfl hVals T.toArray (by kernel_rfl) hb ?_
    | refine wpList_store_blk rfl 47 (.tmp 0) (.tmp 1) rfl rfl w.heap.size B1 rfl rfl (by rw [hlen]; simp [wc]) (by rw [info47, hlen]) hone ?_)

  have hst := blk_stored (l := T) B1 (by rw [hlen]; simp [wc])
  refine bodyPost_ret (results_cell_row rfl _ _ w.heap.size 47 _ (0, 0) _ rfl hst Try.underlying47 rfl (by rw [info47]; simp [hlen])) rfl ?_
  exact ⟨rfl, bl1.trans (below_sets (Nat.le_refl _) T 0 w1)⟩

set_option maxRecDepth 100000 in
set_option maxHeartbeats 1000000 in
theorem roundWords_any (w : World) : Calls Try.prog 37 #[] w fun e w' => e = .returned (.agg (wc KK).toArray) ∧ Below w.heap.size w w' := by
  have hlen : (wc KK).length = 64 := rfl
  have hone := wc_one KK
  have hb := built57
  go_enter Try.func37, Try.ntmps37
  generalize hT : wc KK = T at *
  have HT := hidden hT
  clear hT
  go_wp2_with (first
    | (refine wpList_alloc_blk rfl 57 rfl 0 rfl _ new57 ?_; intro w1 B1 bl1 hz1)
    | refine wpList_build_to rfl 57 _ rfl kVals T.toArray (by kernel_rfl) hb ?_
    | refine wpList_store_blk rfl 57 (.tmp 0) (.tmp 1) rfl rfl w.heap.size B1 rfl rfl (by rw [hlen]; simp [wc]) (by rw [info57, hlen]) hone ?_)

  have hst := blk_stored (l := T) B1 (by rw [hlen]; simp [wc])
  refine bodyPost_ret (results_cell_row rfl _ _ w.heap.size 57 _ (0, 0) _ rfl hst Try.underlying57 rfl (by rw [info57]; simp [hlen])) rfl ?_
  exact ⟨rfl, bl1.trans (below_sets (Nat.le_refl _) T 0 w1)⟩

theorem zero57 : (Try.prog.info? 57).map (fun i => (i.zero.map (·.cells.size), i.size)) = some (some 64, 64) := by kernel_rfl

/-- An element of an array that is held by value. -/
theorem index_words (t : TypeId) (n : Nat) (ht : Try.prog.underlying t = some (.array n 25)) (w : World) (l : List (BitVec 32)) (hl : l.length = n) (i : Nat) (hi : i < n) (k : IntKind) :
    (Instr.index t (.agg (wc l).toArray) (.int k (i : Int))).run Try.prog w = .ok (.int .u32 (N (l.getD i 0))) w := by
  have h5 : (sizeOf 25).run Try.prog w = .ok 1 w := by
    have : (Try.prog.info? 25).map (·.size) = some 1 := by kernel_rfl
    cases hq : Try.prog.info? 25 with
    | none => rw [hq] at this; cases this
    | some i =>
      rw [hq] at this
      simp only [Option.map_some, Option.some.injEq] at this
      simp [sizeOf, typeInfo, hq, this]
  have hat : (wc l).toArray[i]? = some (.int .u32 (N (l.getD i 0))) := by
    rw [List.getElem?_toArray]
    exact wc_at l i (by omega)
  rw [List.getElem?_toArray] at hat
  simp [Instr.index, run_underlying ht, asIntOf, h5, hi, part]
  rw [hat]
  simp

theorem sum5 (a b c d e : BitVec 32) : ((N a + N b + N c + N d) % 4294967296 + N e) % 4294967296 = N (a + b + c + d + e) := by
  unfold N
  simp only [BitVec.toNat_add]
  omega
theorem not_if (x : BitVec 32) : bits .xor .u32 (if IntKind.u32.signed = true then -1 else IntKind.u32.max) (N x) = N (~~~x) := N_not x

def part (s r : St) (j : Nat) : List (BitVec 32) := (s.add r).l.take j ++ s.l.drop j
theorem part_step (s r : St) (j : Nat) (h : j < 8) : (wc (part s r j)).set j (.int .u32 (N (s.l.getD j 0 + r.l.getD j 0))) = wc (part s r (j + 1)) := by
  rcases (by omega : j = 0 ∨ j = 1 ∨ j = 2 ∨ j = 3 ∨ j = 4 ∨ j = 5 ∨ j = 6 ∨ j = 7) with rfl | rfl | rfl | rfl | rfl | rfl | rfl | rfl <;> rfl
theorem part_at (s r : St) (j : Nat) (h : j < 8) : (wc (part s r j))[j]? = some (.int .u32 (N (s.l.getD j 0))) := by
  rcases (by omega : j = 0 ∨ j = 1 ∨ j = 2 ∨ j = 3 ∨ j = 4 ∨ j = 5 ∨ j = 6 ∨ j = 7) with rfl | rfl | rfl | rfl | rfl | rfl | rfl | rfl <;> rfl

theorem rounds_succ (K W : List (BitVec 32)) (i : Nat) (s : St) : rounds K W (i + 1) s = rnd (rounds K W i s) (K.getD i 0) (W.getD i 0) := rfl

set_option maxRecDepth 100000 in
set_option maxHeartbeats 2000000 in
theorem mixed_any (s : St) (W : List (BitVec 32)) (w : World) (hW : W.length = 64) : Calls Try.prog 28 #[.agg (wc s.l).toArray, .agg (wc W).toArray] w fun e w' => e = .returned (.agg (wc (s.add (rounds KK W 64 s)).l).toArray) ∧ Below w.heap.size w w' := by
  go_enter Try.func28, Try.ntmps28
  go_wp2_with (first
    | (refine wpList_box_blk rfl 47 (.tmp 0) rfl (wc s.l) rfl ?_; intro w1 B1 bl1 hz1)
    | (refine wpList_box_blk rfl 57 (.tmp 1) rfl (wc W) rfl ?_; intro w2 B2 bl2 hz2)
    | (refine wpList_alloc_blk rfl 47 rfl 4 rfl _ new47 ?_; intro w3 B3 bl3 hz3))
  refine (roundWords_any w3).mono ?_
  rintro e w4 ⟨rfl, bl4⟩
  obtain ⟨g, hg⟩ : ∃ g, g = w.heap.size := ⟨_, rfl⟩
  rw [hz1] at B2 hz2 bl2
  rw [hz2] at B3 hz3 bl3
  rw [← hg] at B1 bl1 hz1 B2 bl2 hz2 B3 bl3 hz3 ⊢
  have HG := hidden hg
  have hz4 := bl4.size
  have HB : Hid (Below g w w4) := ((bl1.trans (bl2.mono (by omega))).trans (bl3.mono (by omega))).trans (bl4.mono (by omega))
  have h1 : Blk w4 g 47 (wc s.l) := ((B1.below bl2 (by omega)).below bl3 (by omega)).later bl4
  have h2 : Blk w4 (g + 1) 57 (wc W) := (B2.below bl3 (by omega)).later bl4
  have h3 : Blk w4 (g + 2) 47 (wc (List.replicate 8 0)) := B3.later bl4
  have hg4 : g + 3 ≤ w4.heap.size := by omega
  clear hg B1 bl1 hz1 B2 bl2 hz2 B3 bl3 hz3 bl4 hz4
  rw [show g + 1 + 1 = g + 2 by omega]
  have H1 := hidden h1
  have H2 := hidden h2
  have H3 := hidden h3
  clear h1 h2 h3
  have hlk : (wc KK).length = 64 := rfl
  have hok := wc_one KK
  have hlw : (wc W).length = 64 := by rw [wc_len, hW]
  have hatk : ∀ i, i < 64 → (wc KK)[i]? = some (.int .u32 (N (KK.getD i 0))) := fun i hi => wc_at KK i (by rw [wc_len] at hlk; omega)
  have HATK := hidden hatk
  clear hatk
  generalize hTK : wc KK = TK at *
  have HTK := hidden hTK
  clear hTK
  go_wp2_with (first
    | (refine wpList_new_var rfl rfl 57 5 (.tmp 20) rfl rfl rfl rfl 64 zero57 TK hlk hok (by simp) rfl ?_; intro w5 B5 bl5 hz5))
  obtain ⟨gk, hgk⟩ : ∃ gk, w4.heap.size = gk := ⟨_, rfl⟩
  have h1 := H1.out.later bl5
  have h2 := H2.out.later bl5
  have h3 := H3.out.later bl5
  have hB := HB.out.trans (bl5.mono (by omega))
  rw [hgk] at B5 hg4 ⊢
  clear H1 H2 H3 HB bl5 hz5 hgk
  have H1 := hidden h1
  have H2 := hidden h2
  have H3 := hidden h3
  have HB := hidden hB
  have HK := hidden B5
  clear h1 h2 h3 hB B5
  have c0 : w5.cell? ⟨g, 0, none⟩ = some (.int .u32 (N s.a)) := H1.out.cell 0
  have c1 : w5.cell? ⟨g, 1, none⟩ = some (.int .u32 (N s.b)) := H1.out.cell 1
  have c2 : w5.cell? ⟨g, 2, none⟩ = some (.int .u32 (N s.c)) := H1.out.cell 2
  have c3 : w5.cell? ⟨g, 3, none⟩ = some (.int .u32 (N s.d)) := H1.out.cell 3
  have c4 : w5.cell? ⟨g, 4, none⟩ = some (.int .u32 (N s.e)) := H1.out.cell 4
  have c5 : w5.cell? ⟨g, 5, none⟩ = some (.int .u32 (N s.f)) := H1.out.cell 5
  have c6 : w5.cell? ⟨g, 6, none⟩ = some (.int .u32 (N s.g)) := H1.out.cell 6
  have c7 : w5.cell? ⟨g, 7, none⟩ = some (.int .u32 (N s.h)) := H1.out.cell 7
  go_quiet (fail)
  clear c0 c1 c2 c3 c4 c5 c6 c7
  go_wp2_with (first
    | refine wpList_load_blk rfl 57 (.tmp 3) rfl (g + 1) (H2.out.drewN _) rfl Try.underlying57 rfl (by rw [info57, hlw]) ?_)
  clear hlw hok hlk hg4
  go_loopw [6, 7, 8, 9, 10, 11, 12, 13, 38] (fun va vb vc vd ve vf vg vh iv wr => ∃ (i : Nat) (r : St), i ≤ 64 ∧ iv = .int .i64 i ∧ r = rounds KK W i s ∧ va = .int .u32 (N r.a) ∧ vb = .int .u32 (N r.b) ∧ vc = .int .u32 (N r.c) ∧ vd = .int .u32 (N r.d) ∧ ve = .int .u32 (N r.e) ∧ vf = .int .u32 (N r.f) ∧ vg = .int .u32 (N r.g) ∧ vh = .int .u32 (N r.h) ∧ ∃ n, wr = w5.drewN n) (fun _ _ _ _ _ _ _ _ iv _ => 64 - (intOf iv).toNat)
  case atStart => exact ⟨0, s, by omega, rfl, rfl, rfl, rfl, rfl, rfl, rfl, rfl, rfl, rfl, nq, rfl⟩
  case round =>
    rename World => wr
    obtain ⟨i, r, hi, rfl, hr, rfl, rfl, rfl, rfl, rfl, rfl, rfl, rfl, hw⟩ := hrel
    have HRR := hidden hr
    have HW := hidden hw
    clear hr hw
    by_cases hlt : i < 64
    · have hix := index_words 57 64 Try.underlying57 wr W hW i hlt .i64
      have hck : wr.cell? ⟨gk, i, none⟩ = some (.int .u32 (N (KK.getD i 0))) := by
        obtain ⟨n, hn⟩ := HW.out
        rw [hn, (HK.out.drewN n).cell, HATK.out i hlt]
      have HST := hidden (rounds_succ KK W i s)
      obtain ⟨ki, hki⟩ : ∃ ki, KK.getD i 0 = ki := ⟨_, rfl⟩
      obtain ⟨wi, hwi⟩ : ∃ wi, W.getD i 0 = wi := ⟨_, rfl⟩
      rw [hki] at hck
      rw [hwi] at hix
      have HKI := hidden hki
      have HWI := hidden hwi
      clear hki hwi
      go_wp2_with fail
      go_quiet (first | exact Calls.quiet_of_same (turned_6 r.e _) | exact Calls.quiet_of_same (turned_11 r.e _) | exact Calls.quiet_of_same (turned_25 r.e _))
      simp only [N_xor, N_and, not_if, sum5]
      have ht : r.h + (rotr r.e 6 ^^^ rotr r.e 11 ^^^ rotr r.e 25) + (r.e &&& r.f ^^^ ~~~r.e &&& r.g) + ki + wi = tOf r ki wi := rfl
      rw [ht]
      have HT : Hid (rnd r ki wi = ⟨tOf r ki wi + uOf r, r.a, r.b, r.c, r.d + tOf r ki wi, r.e, r.f, r.g⟩) := rfl
      clear ht
      generalize tOf r ki wi = t at *
      clear hck hix
      go_wp2_with fail
      refine (turned_2 r.a _).mono ?_
      rintro e' w' ⟨rfl, rfl⟩
      go_wp2_with fail
      refine (turned_13 r.a _).mono ?_
      rintro e' w' ⟨rfl, rfl⟩
      go_wp2_with fail
      refine (turned_22 r.a _).mono ?_
      rintro e' w' ⟨rfl, rfl⟩
      go_wp2_with fail
      refine ⟨⟨i + 1, rnd r ki wi, by omega, rfl, by rw [HST.out, ← HRR.out, HKI.out, HWI.out], ?_, by rw [HT.out], by rw [HT.out], by rw [HT.out], by rw [HT.out, N_add'], by rw [HT.out], by rw [HT.out], by rw [HT.out], ?_⟩, ?_⟩
      · simp only [N_xor, N_and, N_add']
        rw [HT.out]
        rfl
      · obtain ⟨n, hn⟩ := HW.out
        exact ⟨n + nq, by rw [hn, World.drewN_drewN]⟩
      · simp only [intOf]; omega
    · have h64 : (64 : Int) ≤ i := by omega
      have e64 : i = 64 := by omega
      have h1 : Blk wr g 47 (wc (part s r 0)) := by
        obtain ⟨n, hn⟩ := HW.out
        rw [hn]
        exact H1.out.drewN n
      have h3 : Blk wr (g + 2) 47 (wc (List.replicate 8 0)) := by
        obtain ⟨n, hn⟩ := HW.out
        rw [hn]
        exact H3.out.drewN n
      have hB : Below g w wr := by
        obtain ⟨n, hn⟩ := HW.out
        rw [hn]
        exact below_drewN HB.out n
      have hr : Hid (r = rounds KK W 64 s) := by
        have := HRR.out
        rw [e64] at this
        exact this
      clear H1 H2 H3 HB HK HATK HTK HRR HW e64 hi
      have H1 := hidden h1
      have H3 := hidden h3
      have HB := hidden hB
      clear h1 h3 hB
      go_wp2_with fail
      go_loopw [109] (fun iv ws => ∃ j : Nat, j ≤ 8 ∧ iv = .int .i64 j ∧ Blk ws g 47 (wc (part s r j)) ∧ Blk ws (g + 2) 47 (wc (List.replicate 8 0)) ∧ Below g w ws) (fun iv _ => 8 - (intOf iv).toNat)
      case atStart => exact ⟨0, by omega, rfl, H1.out, H3.out, HB.out⟩
      case round =>
        rename World => ws
        obtain ⟨j, hj, rfl, h1, h3, hB⟩ := hrel
        clear H1 H3 HB
        have H1 := hidden h1
        have H3 := hidden h3
        have HB := hidden hB
        clear h1 h3 hB
        by_cases hlt : j < 8
        · have hix : (Instr.index 47 (.agg #[.int .u32 (N r.a), .int .u32 (N r.b), .int .u32 (N r.c), .int .u32 (N r.d), .int .u32 (N r.e), .int .u32 (N r.f), .int .u32 (N r.g), .int .u32 (N r.h)]) (.int .i64 (j : Int))).run Try.prog ws = .ok (.int .u32 (N (r.l.getD j 0))) ws := index_words 47 8 Try.underlying47 ws r.l rfl j hlt .i64
          have hc : ws.cell? ⟨g, j, none⟩ = some (.int .u32 (N (s.l.getD j 0))) := by rw [H1.out.cell, part_at s r j hlt]
          have hf := H1.out.frozen j
          have HS := hidden (part_step s r j hlt)
          generalize s.l.getD j 0 = x at *
          generalize r.l.getD j 0 = y at *
          go_wp2_with fail
          refine ⟨⟨j + 1, by omega, rfl, ?_, H3.out.setOff _ _ (by simp), HB.out.setCell (by simp) _⟩, ?_⟩
          · rw [← HS.out, ← N_add']
            exact H1.out.set j _
          · simp only [intOf]; omega
        · obtain rfl : j = 8 := by omega
          have h8 : (8 : Int) ≤ ((8 : Nat) : Int) := by decide
          have h1 : Blk ws g 47 (wc (s.add r).l) := H1.out
          have hlen : (wc (s.add r).l).length = 8 := rfl
          have hone := wc_one (s.add r).l
          have hst := blk_stored (l := wc (s.add r).l) H3.out rfl
          have hbb := HB.out.trans (below_sets (Nat.le_add_right g 2) (wc (s.add r).l) 0 ws)
          generalize hT : wc (s.add r).l = T at *
          have HT := hidden hT
          clear hT
          go_wp2_with (first
            | refine wpList_load_blk rfl 47 (.tmp 2) rfl g h1 rfl Try.underlying47 rfl (by rw [info47, hlen]) ?_
            | refine wpList_store_blk rfl 47 (.tmp 4) (.tmp 120) rfl rfl (g + 2) H3.out rfl rfl (by rw [hlen]; rfl) (by rw [info47, hlen]) hone ?_)
          refine bodyPost_ret (results_cell_row rfl _ _ (g + 2) 47 _ (0, 0) _ rfl hst Try.underlying47 rfl (by rw [info47]; simp [hlen])) rfl ?_
          rw [← HG.out, ← hr.out, HT.out]
          exact ⟨rfl, hbb⟩

end Go.Proofs.Ytfieglepljmmkaa
