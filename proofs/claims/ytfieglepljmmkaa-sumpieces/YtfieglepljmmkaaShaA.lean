import Derived.Test.YtfieglepljmmkaaRot
import Derived.Test.YtfieglepljmmkaaBlk
import Derived.Test.YtfieglepljmmkaaShaM
namespace Go.Proofs.Ytfieglepljmmkaa
open Go.RowKit
set_option linter.unusedVariables false

set_option maxHeartbeats 400000 in
theorem wordAt_any (b off n c : Nat) (p q r s : Int) (w : World) (h4 : 4 ≤ n) (hp : 0 ≤ p ∧ p ≤ 255) (hq : 0 ≤ q ∧ q ≤ 255) (hr : 0 ≤ r ∧ r ≤ 255) (hs : 0 ≤ s ∧ s ≤ 255)
    (h0 : w.cell? ⟨b, off, none⟩ = some (.int .u8 p)) (h1 : w.cell? ⟨b, off + 1, none⟩ = some (.int .u8 q)) (h2 : w.cell? ⟨b, off + 2, none⟩ = some (.int .u8 r)) (h3 : w.cell? ⟨b, off + 3, none⟩ = some (.int .u8 s)) :
    Calls Try.prog 39 #[.slice (some ⟨b, off, none⟩) n c] w fun e w' => e = .returned (.int .u32 (N (word p q r s))) ∧ ∃ m, w' = w.drewN m := by
  obtain ⟨p0, p1⟩ := hp
  obtain ⟨q0, q1⟩ := hq
  obtain ⟨r0, r1⟩ := hr
  obtain ⟨s0, s1⟩ := hs
  go_enter Try.func39, Try.ntmps39
  go_wp2_with fail
  go_quiet (fail)
  go_wp2
  go_ret
  refine ⟨congrArg Ending.returned (congrArg (Value.int IntKind.u32) ?_), _, rfl⟩
  exact word_or p q r s ⟨p0, p1⟩ ⟨q0, q1⟩ ⟨r0, r1⟩ ⟨s0, s1⟩

/-- The bytes of a word, as cells. -/
theorem outW_eq (x : BitVec 32) : N x / 16777216 % 256 = ((x.toNat / 16777216 % 256 : Nat) : Int) ∧ N x / 65536 % 256 = ((x.toNat / 65536 % 256 : Nat) : Int) ∧ N x / 256 % 256 = ((x.toNat / 256 % 256 : Nat) : Int) ∧ N x % 256 = ((x.toNat % 256 : Nat) : Int) := by
  unfold N
  omega

set_option maxHeartbeats 400000 in
theorem putWord_any (b off n c : Nat) (x : BitVec 32) (w : World) (h4 : 4 ≤ n) (ht : w.there b off 4) : Calls Try.prog 31 #[.slice (some ⟨b, off, none⟩) n c, .int .u32 (N x)] w fun e w' => e = .returned (.tuple #[]) ∧ w' = w.setCells b off (cells8 (outW x)) := by
  obtain ⟨a0, f0⟩ := ht 0 (by omega)
  obtain ⟨a1, f1⟩ := ht 1 (by omega)
  obtain ⟨a2, f2⟩ := ht 2 (by omega)
  obtain ⟨a3, f3⟩ := ht 3 (by omega)
  obtain ⟨v0, k0⟩ := Option.isSome_iff_exists.1 a0
  obtain ⟨v1, k1⟩ := Option.isSome_iff_exists.1 a1
  obtain ⟨v2, k2⟩ := Option.isSome_iff_exists.1 a2
  obtain ⟨v3, k3⟩ := Option.isSome_iff_exists.1 a3
  rw [Nat.add_zero] at f0 k0
  obtain ⟨x0, x1, x2, x3⟩ := outW_eq x
  clear ht a0 a1 a2 a3
  go_enter Try.func31, Try.ntmps31
  go_wp2
  go_end0
  exact ⟨rfl, rfl⟩

/-- 'a[l:]' of an array of bytes. -/
theorem slice_from (t : TypeId) (n : Nat) (ht : Try.prog.underlying t = some (.array n 5)) (w : World) (b o k : Nat) (kl : IntKind) (l : Int) (r q : Nat) (hl : l = (k : Int)) (hk : k < n) (hr : o + k = r) (hq : n - k = q) :
    (Instr.sliceAt t (.pointer (some ⟨b, o, none⟩)) (some (.int kl l)) none none).run Try.prog w = .ok (.slice (some ⟨b, r, none⟩) q q) w := by
  subst hr hq
  have e1 : Try.prog.arrayLen t = n := by unfold Program.arrayLen; rw [ht]
  have e2 : Try.prog.elem t = 5 := by unfold Program.elem; rw [ht]
  have h5 : (sizeOf 5).run Try.prog w = .ok 1 w := by
    have : (Try.prog.info? 5).map (·.size) = some 1 := by kernel_rfl
    cases hq : Try.prog.info? 5 with
    | none => rw [hq] at this; cases this
    | some i =>
      rw [hq] at this
      simp only [Option.map_some, Option.some.injEq] at this
      simp [sizeOf, typeInfo, hq, this]
  have h := run_sliceAt_array_l (P := Try.prog) w t ⟨b, o, none⟩ (by rw [e1, e2]; exact ht) kl l (by omega) (by omega)
  rw [h, e1, e2, h5, hl]
  simp only [Result.andThen_ok, slicedAt, Int.toNat_natCast, if_neg (show ¬ n = k by omega), Addr.add_mid, Nat.mul_one]
theorem info57 : (Try.prog.info? 57).map (·.size) = some 64 := by kernel_rfl
theorem new57 : (Try.prog.info? 57).map (fun i => i.zero.map (·.cells)) = some (some (wc (List.replicate 64 0)).toArray) := by kernel_rfl

theorem words_step (m : List Int) (i : Nat) (h : i < 16) : (wc (words i m) ++ wc (List.replicate (64 - i) 0)).set i (.int .u32 (N (word (m.getD (4 * i) 0) (m.getD (4 * i + 1) 0) (m.getD (4 * i + 2) 0) (m.getD (4 * i + 3) 0)))) = wc (words (i + 1) m) ++ wc (List.replicate (64 - (i + 1)) 0) := by
  rw [List.set_append, if_neg (by simp [wc_len, words_len]), wc_len, words_len, Nat.sub_self, show 64 - i = (64 - (i + 1)) + 1 by omega, List.replicate_succ]
  simp [wc, words, List.range_succ]
theorem sched_step (v : List (BitVec 32)) (k : Nat) (hv : v.length = 16) (h : k < 48) : (wc (sched k v) ++ wc (List.replicate (48 - k) 0)).set (16 + k) (.int .u32 (N (wNext (sched k v)))) = wc (sched (k + 1) v) ++ wc (List.replicate (48 - (k + 1)) 0) := by
  rw [List.set_append, if_neg (by simp [wc_len, sched_len]; omega), wc_len, sched_len, hv, Nat.sub_self, show 48 - k = (48 - (k + 1)) + 1 by omega, List.replicate_succ]
  simp [wc, sched]
theorem sched_at (v : List (BitVec 32)) (k j : Nat) (hv : v.length = 16) (h : j < 16 + k) : (wc (sched k v) ++ wc (List.replicate (48 - k) 0))[j]? = some (.int .u32 (N ((sched k v).getD j 0))) := by
  rw [List.getElem?_append_left (by rw [wc_len, sched_len]; omega), wc_at _ _ (by rw [sched_len]; omega)]

set_option maxRecDepth 100000 in
set_option maxHeartbeats 1000000 in
theorem spread_any (m : List Int) (w : World) (hl : m.length = 64) (hb : Byte m) : Calls Try.prog 29 #[.agg (cells8 m).toArray] w fun e w' => e = .returned (.agg (wc (sched 48 (words 16 m))).toArray) ∧ Below w.heap.size w w' := by
  go_enter Try.func29, Try.ntmps29
  go_wp2_with (first
    | (refine wpList_box_blk rfl 50 (.tmp 0) rfl (cells8 m) rfl ?_; intro w1 B1 bl1 hz1)
    | (refine wpList_alloc_blk rfl 57 rfl 2 rfl _ new57 ?_; intro w2 B2 bl2 hz2)
    | (refine wpList_alloc_blk rfl 57 rfl 3 rfl _ new57 ?_; intro w3 B3 bl3 hz3))
  obtain ⟨g, hg⟩ : ∃ g, g = w.heap.size := ⟨_, rfl⟩
  rw [hz1] at B2 hz2 bl2
  rw [hz2] at B3 hz3 bl3
  rw [← hg] at B1 bl1 hz1 B2 bl2 hz2 B3 bl3 hz3 ⊢
  have HG := hidden hg
  have HM : Hid (Blk w3 g 50 (cells8 m)) := (B1.below bl2 (by omega)).below bl3 (by omega)
  have HR : Hid (Blk w3 (g + 1) 57 (wc (List.replicate 64 0))) := B2.below bl3 (by omega)
  have HV : Hid (Blk w3 (g + 2) 57 (wc (List.replicate 64 0))) := B3
  have HB : Hid (Below g w w3) := (bl1.trans (bl2.mono (by omega))).trans (bl3.mono (by omega))
  clear hg B1 bl1 hz1 B2 bl2 hz2 B3 bl3
  rw [show g + 1 + 1 = g + 2 by omega]
  go_loopw [10] (fun iv wr => ∃ i : Nat, i ≤ 16 ∧ iv = .int .i64 i ∧ Blk wr g 50 (cells8 m) ∧ Blk wr (g + 1) 57 (wc (List.replicate 64 0)) ∧ Blk wr (g + 2) 57 (wc (words i m) ++ wc (List.replicate (64 - i) 0)) ∧ Below g w wr) (fun iv _ => 16 - (intOf iv).toNat)
  case atStart => exact ⟨0, by omega, rfl, HM.out, HR.out, HV.out, HB.out⟩
  case round =>
    rename World => wr
    obtain ⟨i, hi, rfl, b1, b2, b3, bb⟩ := hrel
    clear HM HR HV HB hz3
    have HM := hidden b1
    have HR := hidden b2
    have HV := hidden b3
    have HB := hidden bb
    clear b1 b2 b3 bb
    by_cases hlt : i < 16
    · have hc : ∀ j, j < 64 → wr.cell? ⟨g, j, none⟩ = some (.int .u8 (m.getD j 0)) := fun j hj => by
        rw [HM.out.cell]
        simp [cells8, List.getD, show j < m.length by omega]
      have HC := hidden hc
      have hv : (wr.cell? ⟨g + 2, i, none⟩).isSome = true := by
        rw [HV.out.cell]
        simp [wc_len, words_len]
        omega
      obtain ⟨v, hv⟩ := Option.isSome_iff_exists.1 hv
      have hf := HV.out.frozen i
      clear hc
      obtain ⟨q, hq⟩ : ∃ q, 64 - 4 * i = q := ⟨_, rfl⟩
      obtain ⟨r, hr⟩ : ∃ r, 4 * i = r := ⟨_, rfl⟩
      have hsl := slice_from 50 64 Try.underlying50 wr g 0 (4 * i) .i64 ((i : Int) * 4) r q (by omega) (by omega) (by omega) hq
      have HQ := hidden hq
      have HRR := hidden hr
      clear hq hr
      go_wp2_with fail
      have hq := HQ.out
      have hr := HRR.out
      refine (wordAt_any g r q q (m.getD r 0) (m.getD (r + 1) 0) (m.getD (r + 2) 0) (m.getD (r + 3) 0) wr (by omega) (hb.at _) (hb.at _) (hb.at _) (hb.at _) (HC.out _ (by omega)) (HC.out _ (by omega)) (HC.out _ (by omega)) (HC.out _ (by omega))).mono ?_
      clear hq hr
      obtain ⟨X, hX⟩ : ∃ X, word (m.getD r 0) (m.getD (r + 1) 0) (m.getD (r + 2) 0) (m.getD (r + 3) 0) = X := ⟨_, rfl⟩
      rw [hX]
      have HX := hidden hX
      clear hX
      rintro e w' ⟨rfl, nd, rfl⟩
      clear hsl
      go_wp2_with fail
      have hr := HRR.out
      subst hr
      refine ⟨⟨i + 1, by omega, rfl, (HM.out.drewN nd).setOff _ _ (by simp), (HR.out.drewN nd).setOff _ _ (by simp), ?_, (below_drewN HB.out nd).setCell (by simp) _⟩, ?_⟩
      · rw [← words_step m i hlt, HX.out]
        exact (HV.out.drewN nd).set i _
      · simp only [intOf]; omega
    · have e16 : i = 16 := by omega
      have h16 : (16 : Int) ≤ i := by omega
      have hv16 := words_len 16 m
      have h3 : Blk wr (g + 2) 57 (wc (sched 0 (words 16 m)) ++ wc (List.replicate (48 - 0) 0)) := by
        have := HV.out
        rw [e16] at this
        exact this
      clear e16 hi hlt
      clear HV
      have HV := hidden h3
      clear h3
      generalize hvv : words 16 m = v at *
      have HVV := hidden hvv
      clear hvv HM
      go_wp2_with fail
      go_loopw [5] (fun iv ws => ∃ k : Nat, k ≤ 48 ∧ iv = .int .i64 ((16 + k : Nat) : Int) ∧ Blk ws (g + 1) 57 (wc (List.replicate 64 0)) ∧ Blk ws (g + 2) 57 (wc (sched k v) ++ wc (List.replicate (48 - k) 0)) ∧ Below g w ws) (fun iv _ => 64 - (intOf iv).toNat)
      case atStart => exact ⟨0, by omega, rfl, HR.out, HV.out, HB.out⟩
      case round =>
        rename World => ws
        obtain ⟨k, hk, rfl, b2, b3, bb⟩ := hrel
        clear HR HV HB
        have HR := hidden b2
        have HV := hidden b3
        have HB := hidden bb
        clear b2 b3 bb
        by_cases hlt : k < 48
        · have hc : ∀ j, j < 16 + k → ws.cell? ⟨g + 2, j, none⟩ = some (.int .u32 (N ((sched k v).getD j 0))) := fun j hj => by
            rw [HV.out.cell, sched_at v k j hv16 hj]
          have hv : (ws.cell? ⟨g + 2, 16 + k, none⟩).isSome = true := by
            rw [HV.out.cell]
            simp [wc_len, sched_len]
            omega
          obtain ⟨z, hv⟩ := Option.isSome_iff_exists.1 hv
          have hf := HV.out.frozen (16 + k)
          have hn : wNext (sched k v) = s1 ((sched k v).getD (14 + k) 0) + (sched k v).getD (9 + k) 0 + s0 ((sched k v).getD (1 + k) 0) + (sched k v).getD k 0 := by
            unfold wNext
            rw [sched_len, hv16, show 16 + k - 2 = 14 + k by omega, show 16 + k - 7 = 9 + k by omega, show 16 + k - 15 = 1 + k by omega, show 16 + k - 16 = k by omega]
          have HN := hidden hn
          have c14 := hc (14 + k) (by omega)
          have c9 := hc (9 + k) (by omega)
          have c1 := hc (1 + k) (by omega)
          have c0 := hc k (by omega)
          clear hc hn
          generalize (sched k v).getD (14 + k) 0 = x14 at *
          generalize (sched k v).getD (9 + k) 0 = x9 at *
          generalize (sched k v).getD (1 + k) 0 = x1 at *
          generalize (sched k v).getD k 0 = x0 at *
          obtain ⟨i, hi⟩ : ∃ i, 16 + k = i := ⟨_, rfl⟩
          have hi16 : 16 ≤ i := by omega
          have hi64 : i < 64 := by omega
          rw [show 14 + k = i - 2 by omega] at c14
          rw [show 9 + k = i - 7 by omega] at c9
          rw [show 1 + k = i - 15 by omega] at c1
          rw [show k = i - 16 by omega] at c0
          rw [hi] at hv hf ⊢
          have HI := hidden hi
          clear hi
          go_wp2_with fail
          go_quiet (fail)
          have n1 := N_xor
          have n2 := N_add'
          have n3 := shr_10
          have n4 := shr_3
          go_wp2_with fail
          refine (turned_17 x14 _).mono ?_
          rintro e w' ⟨rfl, rfl⟩
          go_wp2_with fail
          refine (turned_19 x14 _).mono ?_
          rintro e w' ⟨rfl, rfl⟩
          go_wp2_with fail
          refine (turned_7 x1 _).mono ?_
          rintro e w' ⟨rfl, rfl⟩
          go_wp2_with fail
          refine (turned_18 x1 _).mono ?_
          rintro e w' ⟨rfl, rfl⟩
          have hs1 : rotr x14 17 ^^^ rotr x14 19 ^^^ (x14 >>> 10) = s1 x14 := rfl
          have hs0 : rotr x1 7 ^^^ rotr x1 18 ^^^ (x1 >>> 3) = s0 x1 := rfl
          go_wp2_with fail
          go_region
          clear n1 n2 n3 n4 hs1 hs0
          go_wp2_with fail
          have hi := HI.out
          refine ⟨⟨k + 1, by omega, by rw [← hi]; push_cast; rfl, (HR.out.drewN _).setOff _ _ (by simp), ?_, (below_drewN HB.out _).setCell (by simp) _⟩, ?_⟩
          · rw [← sched_step v k hv16 hlt, HN.out, hi]
            exact (HV.out.drewN _).set i _
          · simp only [intOf]; omega
        · obtain rfl : k = 48 := by omega
          have h64 : (64 : Int) ≤ ((16 + 48 : Nat) : Int) := by decide
          have h3 : Blk ws (g + 2) 57 (wc (sched 48 v)) := by simpa [wc] using HV.out
          have hlen : (wc (sched 48 v)).length = 64 := by rw [wc_len, sched_len, hv16]
          have hone := wc_one (sched 48 v)
          have hst := blk_stored (l := wc (sched 48 v)) HR.out (by rw [hlen]; simp [wc])
          have hbb := HB.out.trans (below_sets (Nat.le_succ g) (wc (sched 48 v)) 0 ws)
          rw [← HVV.out] at *
          generalize hT : wc (sched 48 (words 16 m)) = T at *
          have HT := hidden hT
          clear hT
          go_wp2_with (first
            | refine wpList_load_blk rfl 57 (.tmp 3) rfl (g + 2) h3 rfl Try.underlying57 rfl (by rw [info57, hlen]) ?_
            | refine wpList_store_blk rfl 57 (.tmp 2) (.tmp 63) rfl rfl (g + 1) HR.out rfl rfl (by rw [hlen]; simp [wc]) (by rw [info57, hlen]) hone ?_)
          refine bodyPost_ret (results_cell_row rfl _ _ (g + 1) 57 _ (0, 0) _ rfl hst Try.underlying57 rfl (by rw [info57]; simp [hlen])) rfl ?_
          rw [← HG.out, HT.out]
          exact ⟨rfl, hbb⟩

end Go.Proofs.Ytfieglepljmmkaa
