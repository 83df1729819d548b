import Derived.Test.YtfieglepljmmkaaRefR6
namespace Go.Proofs.Ytfieglepljmmkaa
open Go.RowKit
set_option linter.unusedVariables false

theorem under22' : Try.prog.underlying 22 = some (.slice (Try.prog.elem 22)) := by kernel_rfl
theorem size22' (w : World) : (sizeOf (Try.prog.elem 22)).run Try.prog w = .ok 1 w := by kernel_rfl
theorem run_slice_64 (w : World) (b off n c i : Nat) (hin : i + 64 ≤ n) (hnc : n ≤ c) :
    (Instr.sliceAt 22 (.slice (some ⟨b, off, none⟩) n c) (some (.int .i64 (i : Int))) (some (.int .i64 ((i : Int) + 64))) Option.none).run Try.prog w = .ok (.slice (some ⟨b, off + i, none⟩) 64 (c - i)) w := by
  rw [run_sliceAt_slice w 22 _ _ _ _ under22', run_slice_lh w 22 _ n c under22' .i64 .i64 (i : Int) ((i : Int) + 64) (by omega) (by omega) (by omega), size22']
  simp [Result.andThen, sliced, Addr.add_lit]
  refine ⟨?_, by omega⟩
  intro h
  omega

/-- The bytes of words, as far as they are laid. -/
def bpart (s : St) (i : Nat) : List Int := (outSt s).take i ++ List.replicate (32 - i) 0
theorem outSt_len (s : St) : (outSt s).length = 32 := by simp [outSt, St.l, outW]
theorem bpart_len (s : St) (i : Nat) (h : i ≤ 32) : (bpart s i).length = 32 := by
  simp [bpart, outSt_len]
  omega
theorem bpart_step (s : St) (i : Nat) (h : i < 32) : (bpart s i).set i ((outSt s).getD i 0) = bpart s (i + 1) := by
  have hl := outSt_len s
  unfold bpart
  rw [show 32 - i = (32 - (i + 1)) + 1 by omega, List.replicate_succ, List.take_add_one]
  have ht : ((outSt s).take i).length = i := by simp; omega
  have e : (outSt s)[i]? = some ((outSt s).getD i 0) := by simp [List.getD, show i < (outSt s).length by omega]
  rw [e, List.set_append, if_neg (by omega), ht, Nat.sub_self, List.set_cons_zero]
  simp
theorem out_byte (s : St) (i : Nat) (h : i < 32) : (outSt s).getD i 0 = (((s.l.getD (i / 4) 0).toNat / 2 ^ (24 - 8 * (i % 4)) % 256 : Nat) : Int) := by
  have : ∀ i, i < 32 → (outSt s).getD i 0 = (((s.l.getD (i / 4) 0).toNat / 2 ^ (24 - 8 * (i % 4)) % 256 : Nat) : Int) := by
    intro i hi
    rcases (by omega : i = 0 ∨ i = 1 ∨ i = 2 ∨ i = 3 ∨ i = 4 ∨ i = 5 ∨ i = 6 ∨ i = 7 ∨ i = 8 ∨ i = 9 ∨ i = 10 ∨ i = 11 ∨ i = 12 ∨ i = 13 ∨ i = 14 ∨ i = 15 ∨ i = 16 ∨ i = 17 ∨ i = 18 ∨ i = 19 ∨ i = 20 ∨ i = 21 ∨ i = 22 ∨ i = 23 ∨ i = 24 ∨ i = 25 ∨ i = 26 ∨ i = 27 ∨ i = 28 ∨ i = 29 ∨ i = 30 ∨ i = 31) with rfl | rfl | rfl | rfl | rfl | rfl | rfl | rfl | rfl | rfl | rfl | rfl | rfl | rfl | rfl | rfl | rfl | rfl | rfl | rfl | rfl | rfl | rfl | rfl | rfl | rfl | rfl | rfl | rfl | rfl | rfl | rfl <;> simp [outSt, St.l, outW]
  exact this i h
theorem ending_mod (n : Nat) : (n + (ending n).length) % 64 = 0 := by
  simp [ending, tail8]
  omega

set_option maxRecDepth 100000 in
set_option maxHeartbeats 2000000 in
theorem refOf_any (ad : Option Addr) (len cap : Nat) (l : List Int) (w : World) (hs : Sl w ad len l) (hn0 : ad = none → len = 0 ∧ cap = 0) (hb : len ≤ 140737488351232) :
    Calls Try.prog 13 #[.slice ad len cap] w fun e w' => e = .returned (.agg (cells8 (digest l)).toArray) ∧ Below w.heap.size w w' := by
  have hlenH : (wc H0.l).length = 8 := rfl
  have hone := wc_one H0.l
  have hbt := built47
  have hlen := hs.len
  obtain ⟨M, hM⟩ : ∃ M, l ++ ending len = M := ⟨_, rfl⟩
  have hMm : M.length % 64 = 0 := by
    rw [← hM, List.length_append, hlen]
    exact ending_mod len
  have hMb : M.length ≤ 140737488351424 := by
    have := ending_len len
    rw [← hM, List.length_append, hlen]
    omega
  have HD : Hid (digest l = outSt (absorb (M.length / 64) M)) := by
    show digest l = _
    rw [← hM, ← hlen]
    rfl
  have HS := hidden hs
  have HN0 := hidden hn0
  clear hs hn0 hlen
  go_enter Try.func13, Try.ntmps13
  generalize hT : wc H0.l = TH at *
  have HTH : Unit → wc H0.l = TH := fun _ => hT
  clear hT
  have HBT : Unit → _ := fun _ => hbt
  clear hbt
  go_wp2_with (first
    | (refine wpList_alloc_blk rfl 27 rfl 2 rfl _ new27 ?_; intro w1 B1 bl1 hz1)
    | refine wpList_build_to rfl 47 _ rfl hVals TH.toArray (by kernel_rfl) (HBT ()) ?_
    | (refine wpList_new_var rfl rfl 47 3 (.tmp 8) rfl rfl rfl rfl 8 zero47 TH hlenH hone (by simp [Act.put]) rfl ?_; intro w2 B2 bl2 hz2))
  obtain ⟨g, hg⟩ : ∃ g, w.heap.size = g := ⟨_, rfl⟩
  rw [hg] at B1 bl1 hz1 ⊢
  have hz1' : w1.heap.size = g + 1 := by omega
  rw [hz1'] at B2 bl2 hz2
  have HR2 : Hid (Blk w2 g 27 (cells8 (List.replicate 32 0))) := B1.below bl2 (by omega)
  have HX2 := hidden B2
  have HBL2 : Hid (Below g w w2) := bl1.trans (bl2.mono (by omega))
  have HS2 : Hid (Sl w2 ad len l) := HS.out.later (by rw [hg]; exact HBL2.out)
  have HG := hidden hg
  have hsz2 : g + 2 ≤ w2.heap.size := by omega
  have HSZ2 := hidden hsz2
  clear B1 bl1 hz1 B2 bl2 hz2 hz1' hsz2 hg hone hlenH
  refine (padded_any ad len cap l w2 HS2.out HN0.out hb).mono ?_
  rintro e w3 ⟨pa, pc, rfl, hP, hpc1, hpc2, bl3⟩
  rw [hM] at hP hpc1 ⊢
  have hMp : 0 < M.length := by
    rw [← hM]
    simp [ending]
    omega
  obtain ⟨b, off, rfl, hbl, hcell⟩ := hP.at hMp
  obtain ⟨n, hn⟩ : ∃ n, M.length = n := ⟨_, rfl⟩
  rw [hn] at hMm hMb hpc1 hMp hcell ⊢
  rw [hn] at HD
  have HMB := hidden hP.byte
  have HCELL := hidden hcell
  have HR3 : Hid (Blk w3 g 27 (cells8 (List.replicate 32 0))) := HR2.out.later bl3
  have HX3 : Hid (Blk w3 (g + 1) 47 (wc (absorb 0 M).l)) := by
    show Blk w3 (g + 1) 47 (wc H0.l)
    rw [HTH ()]
    exact HX2.out.later bl3
  have HBL3 : Hid (Below g w w3) := HBL2.out.trans (bl3.mono (by have := HSZ2.out; omega))
  have hb1 : b ≠ g + 1 := by
    rintro rfl
    have h0 := hcell 0 hMp
    rw [HX3.out.cell] at h0
    have : ∀ (k : Nat) (x : Int) (L : List (BitVec 32)), (wc L)[k]? = some (.int .u8 x) → False := by
      intro k x L h
      simp [wc] at h
    exact this _ _ _ h0
  have HN := hidden hn
  have HBLT := hidden hbl
  have hb1 := hb1
  have HB1 := hidden hb1
  clear hP hcell hn bl3 HR2 HX2 HBL2 HS2 hbl hb1 hM
  go_wp2_with fail
  go_loopw [5] (fun iv wr => ∃ k : Nat, 64 * k ≤ n ∧ iv = .int .i64 ((64 * k : Nat) : Int) ∧ Blk wr (g + 1) 47 (wc (absorb k M).l) ∧ Blk wr g 27 (cells8 (List.replicate 32 0)) ∧ (∀ j, j < n → wr.cell? ⟨b, off + j, none⟩ = some (.int .u8 (M.getD j 0))) ∧ w3.heap.size ≤ wr.heap.size ∧ Below g w wr) (fun iv _ => n - (intOf iv).toNat)
  case atStart => exact ⟨0, by omega, rfl, HX3.out, HR3.out, HCELL.out, Nat.le_refl _, HBL3.out⟩
  case round =>
    rename World => wr
    obtain ⟨k, hk, rfl, hX, hR, hC, hsz, hbl⟩ := hrel
    clear HX3 HR3 HCELL HBL3
    have HX := hidden hX
    have HR := hidden hR
    have HC := hidden hC
    have HBL := hidden hbl
    have HSZ := hidden hsz
    clear hX hR hC hbl hsz
    obtain ⟨i, hi⟩ : ∃ i, 64 * k = i := ⟨_, rfl⟩
    rw [hi] at hk ⊢
    have HI := hidden hi
    clear hi
    by_cases hlt : i < n
    · have hi64 : i + 64 ≤ n := by have := HI.out; omega
      obtain ⟨m, hm⟩ : ∃ m, (M.drop i).take 64 = m := ⟨_, rfl⟩
      have hmb : Byte m := by
        rw [← hm]
        exact (HMB.out.drop i).take 64
      have hmc : ∀ j, j < 64 → ∀ w1, Lat wr w1 → w1.cell? ⟨b, off + i + j, none⟩ = some (.int .u8 (m.getD j 0)) := fun j hj w1 hL => by
        have hbw : b < wr.heap.size := Nat.lt_of_lt_of_le HBLT.out HSZ.out
        rw [hL.cell (p := ⟨b, off + i + j, none⟩) hbw, Nat.add_assoc, HC.out (i + j) (by omega), ← hm]
        simp [List.getD, List.getElem?_drop, hj]
      obtain ⟨S, hS⟩ : ∃ S, absorb k M = S := ⟨_, rfl⟩
      rw [hS] at HX
      have hS2 : absorb (k + 1) M = comp S m := by
        rw [absorb, hS, ← hm, HI.out]
      have HS2 : Unit → absorb (k + 1) M = comp S m := fun _ => hS2
      have h26 : ∀ w1, Lat wr w1 → Calls Try.prog 26 #[.agg (wc S.l).toArray, .slice (some ⟨b, off + i, none⟩) 64 (pc - i)] w1 fun e w2 => e = .returned (.agg (wc (comp S m).l).toArray) ∧ Below w1.heap.size w1 w2 := fun w1 hL =>
        block_any S m b (off + i) (pc - i) w1 hmb (Nat.lt_of_lt_of_le (Nat.lt_of_lt_of_le HBLT.out HSZ.out) hL.size) (fun j hj => hmc j hj w1 hL)
      have hD8 : (wc (comp S m).l).length = 8 := rfl
      have hS8 : (wc S.l).length = 8 := rfl
      have honeD := wc_one (comp S m).l
      have H26 := hidden h26
      clear h26 hS hS2 hm hmc hmb
      generalize hDD : wc (comp S m).l = D at *
      have HDD : Unit → wc (comp S m).l = D := fun _ => hDD
      clear hDD
      have HO := hidden honeD
      have HD8 := hidden hD8
      clear honeD hD8
      go_wp2_with fail
      refine of_r6 (g + 1) b off n pc i (pc - i) (wc S.l) D wr _ _ (by rfl) (by rfl) (by rfl) (by rfl) (fun w1 hL => (HX.out.later hL).all) (by rw [info47]; rfl) (by rw [IntKind.wrap_i64]; omega) (fun w1 => run_slice_64 w1 b off n pc i hi64 hpc1) H26.out (fun w1 hL => (HX.out.later hL).there 0 _ (by rw [HD8.out, hS8]; omega)) (by rw [info47, HD8.out]) HO.out ?_
      intro v17 v18 v19 v20 v21 v22 v23 w4 hL4
      have q1 : Blk (w4.setCells (g + 1) 0 D) (g + 1) 47 (wc (absorb (k + 1) M).l) := by
        rw [HS2 (), HDD ()]
        exact blk_stored (l := D) (HX.out.later hL4) (by rw [HD8.out, hS8])
      have q2 : Blk (w4.setCells (g + 1) 0 D) g 27 (cells8 (List.replicate 32 0)) := Blk.setsOff D 0 (g + 1) w4 _ (HR.out.later hL4) (by omega)
      have q3 : ∀ j, j < n → (w4.setCells (g + 1) 0 D).cell? ⟨b, off + j, none⟩ = some (.int .u8 (M.getD j 0)) := fun j hj => by
        have hb1 := HB1.out
        have hbw : b < wr.heap.size := Nat.lt_of_lt_of_le HBLT.out HSZ.out
        rw [← HC.out j hj, ← hL4.cell (p := ⟨b, off + j, none⟩) hbw]
        exact World.cell?_of_block ((sets_grown (g + 1) D 0 w4).block b (Nat.lt_of_lt_of_le hbw hL4.size) (by simpa using hb1))
      have q4 : w3.heap.size ≤ (w4.setCells (g + 1) 0 D).heap.size := by
        rw [size_setCells]
        exact Nat.le_trans HSZ.out hL4.size
      have q5 : Below g w (w4.setCells (g + 1) 0 D) := (HBL.out.trans (hL4.mono (by have := HR.out.lt; omega))).trans (below_sets (by omega) D 0 w4)
      generalize w4.setCells (g + 1) 0 D = w5 at *
      have Q1 := hidden q1
      have Q2 := hidden q2
      have Q3 := hidden q3
      have Q4 := hidden q4
      have Q5 := hidden q5
      clear q1 q2 q3 q4 q5 hL4 H26 HX HR HC HBL HSZ hS8
      simp only [Act.put, List.setIfInBounds_toArray, List.set_cons_succ, List.set_cons_zero]
      go_wp2_with fail
      have hi := HI.out
      refine ⟨⟨k + 1, by omega, ?_, Q1.out, Q2.out, Q3.out, Q4.out, Q5.out⟩, ?_⟩
      · congr 1
        omega
      · simp only [intOf]; omega
    · have hin : n = i := by omega
      subst hin
      obtain ⟨S, hS⟩ : ∃ S, absorb k M = S := ⟨_, rfl⟩
      have hD := HD.out
      rw [show n / 64 = k by have := HI.out; omega, hS] at hD
      rw [hS] at HX
      clear HD
      have HD := hidden hD
      clear hD hS HC HMB
      have hg1 : g + 1 < wr.heap.size := HX.out.lt
      go_wp2_with (first
        | (refine wpList_alloc_blk rfl 27 rfl 6 rfl _ new27 ?_; intro w4 B4 bl4 hz4))
      obtain ⟨gd, hgd⟩ : ∃ gd, wr.heap.size = gd := ⟨_, rfl⟩
      rw [hgd] at B4 hg1 ⊢
      have HX4 : Hid (Blk w4 (g + 1) 47 (wc S.l)) := HX.out.later bl4
      have HR4 : Hid (Blk w4 g 27 (cells8 (List.replicate 32 0))) := HR.out.later bl4
      have HBL4 : Hid (Below g w w4) := HBL.out.trans (bl4.mono (by omega))
      have HB4 : Hid (Blk w4 gd 27 (cells8 (bpart S 0))) := B4
      clear B4 bl4 hz4 HX HR HBL hgd HSZ
      go_loopw [7] (fun iv ws => ∃ i : Nat, i ≤ 32 ∧ iv = .int .i64 (i : Int) ∧ Blk ws gd 27 (cells8 (bpart S i)) ∧ Blk ws (g + 1) 47 (wc S.l) ∧ Blk ws g 27 (cells8 (List.replicate 32 0)) ∧ Below g w ws) (fun iv _ => 32 - (intOf iv).toNat)
      case atStart => exact ⟨0, by omega, rfl, HB4.out, HX4.out, HR4.out, HBL4.out⟩
      case round =>
        rename World => ws
        obtain ⟨i, hi32, rfl, h1, h2, h3, h4⟩ := hrel
        clear HX4 HR4 HBL4 HB4
        have H1 := hidden h1
        have H2 := hidden h2
        have H3 := hidden h3
        have H4 := hidden h4
        clear h1 h2 h3 h4
        by_cases hlt2 : i < 32
        · obtain ⟨qq, hq⟩ : ∃ qq, i / 4 = qq := ⟨_, rfl⟩
          obtain ⟨rr, hr⟩ : ∃ rr, i % 4 = rr := ⟨_, rfl⟩
          obtain ⟨sh, hsh⟩ : ∃ sh, 24 - 8 * rr = sh := ⟨_, rfl⟩
          have hqi : (i : Int) / 4 = (qq : Int) := by omega
          have hri : (i : Int) % 4 = (rr : Int) := by omega
          have hrr : rr < 4 := by omega
          have hqq : qq < 8 := by omega
          have hshi : 24 - 8 * (rr : Int) = (sh : Int) := by omega
          have hob := out_byte S i hlt2
          rw [hq, hr, hsh] at hob
          have cx : ws.cell? ⟨g + 1, qq, none⟩ = some (.int .u32 (N (S.l.getD qq 0))) := by
            rw [H2.out.cell]
            exact wc_at S.l qq hqq
          obtain ⟨x, hx⟩ : ∃ x, S.l.getD qq 0 = x := ⟨_, rfl⟩
          rw [hx] at cx hob
          obtain ⟨y, hy⟩ : ∃ y, (outSt S).getD i 0 = y := ⟨_, rfl⟩
          rw [hy] at hob
          have hval : N x / 2 ^ sh % 256 = y := by
            rw [hob]
            simp [N]
          have hbl := bpart_len S i hi32
          have cd : ws.cell? ⟨gd, i, none⟩ = some (.int .u8 ((bpart S i).getD i 0)) := by
            rw [H1.out.cell]
            simp [cells8, List.getD, show i < (bpart S i).length by omega]
          have fd := H1.out.frozen i
          have q1 : Blk (ws.setCell ⟨gd, i, none⟩ (.int .u8 y)) gd 27 (cells8 (bpart S (i + 1))) := by
            have := H1.out.set i (.int .u8 y)
            rw [cells8, ← List.map_set, ← hy, bpart_step S i hlt2] at this
            rw [← hy]
            exact this
          have q2 : Blk (ws.setCell ⟨gd, i, none⟩ (.int .u8 y)) (g + 1) 47 (wc S.l) := H2.out.setOff _ _ (by simp only; omega)
          have q3 : Blk (ws.setCell ⟨gd, i, none⟩ (.int .u8 y)) g 27 (cells8 (List.replicate 32 0)) := H3.out.setOff _ _ (by simp only; omega)
          have q4 : Below g w (ws.setCell ⟨gd, i, none⟩ (.int .u8 y)) := H4.out.setCell (p := ⟨gd, i, none⟩) (by simp only; omega) _
          have Q1 := hidden q1
          have Q2 := hidden q2
          have Q3 := hidden q3
          have Q4 := hidden q4
          have HVAL : Unit → N x / 2 ^ sh % 256 = y := fun _ => hval
          clear q1 q2 q3 q4 hq hr hsh hob hx hy hbl hval
          go_wp2_with fail
          rw [HVAL ()]
          refine ⟨⟨i + 1, by omega, ?_, Q1.out, Q2.out, Q3.out, Q4.out⟩, ?_⟩
          · go_num
          · simp only [intOf]; omega
        · have e32 : i = 32 := by omega
          have h1 : Blk ws gd 27 (cells8 (digest l)) := by
            have := H1.out
            rw [e32] at this
            unfold bpart at this
            rw [List.take_of_length_le (by rw [outSt_len]; omega), Nat.sub_self, List.replicate_zero, List.append_nil, ← HD.out] at this
            exact this
          have hlen : (cells8 (digest l)).length = 32 := by
            rw [cells8_length, HD.out, outSt_len]
          have hone := cells8_one (digest l)
          have hst := blk_stored (l := cells8 (digest l)) H3.out (by rw [hlen]; rfl)
          have hbb := H4.out.trans (below_sets (Nat.le_refl g) (cells8 (digest l)) 0 ws)
          generalize hT : cells8 (digest l) = T3 at *
          have HT : Unit → cells8 (digest l) = T3 := fun _ => hT
          clear hT
          have h32 : (32 : Int) ≤ (i : Int) := by omega
          clear e32 HD
          go_wp2_with (first
            | refine wpList_load_blk rfl 27 (.tmp 6) rfl gd h1 rfl Try.underlying27 rfl (by rw [info27, hlen]) ?_
            | refine wpList_store_blk rfl 27 (.tmp 2) (.tmp 40) rfl rfl g H3.out rfl rfl (by rw [hlen]; rfl) (by rw [info27, hlen]) hone ?_)
          refine bodyPost_ret (results_cell_row rfl _ _ g 27 _ (0, 0) _ rfl hst Try.underlying27 rfl (by rw [info27]; simp [hlen])) rfl ?_
          rw [HG.out, HT ()]
          exact ⟨rfl, hbb⟩

end Go.Proofs.Ytfieglepljmmkaa
