/-
  Reads.
-/
import Derived.Test.YtgmcfejmhlglkaaPrB
namespace Go.Proofs.Ytgmcfejmhlglkaa
open Go.RowKit
set_option linter.unusedVariables false
set_option linter.unusedSimpArgs false

theorem read_len {dt ft : TypeId} {w : World} {p : Nat} {F : Nat → Prop} {S : St} (h : Dk dt ft w p F S) (f a n : Int) : (S.read f a n).2.length ≤ 16777216 := by
  unfold St.read
  split
  · simp
  · rename_i h0
    have h0' : S.refuse f = 0 := Classical.not_not.1 h0
    obtain ⟨_, hf0, hf1⟩ := refuse_no h0'
    obtain ⟨fb, fc, ad, c, x, hx, c0, c1, c2, ho, hb, ht, hl, h8, hF⟩ := h.at f.toNat (by omega)
    rw [hx]
    simp only
    split
    · simp
    · simp only [List.length_take, List.length_drop]
      omega

/-- What a call does to a pair that keeps its disks. -/
def PSs (w w' : World) (m : PM) (t : It) (st : List It) (ks : List Kp) (Z : Nat → Prop) (d : Nat) : Prop := ∃ m' ks' Z', m'.pp = m.pp ∧ PS w' m' t st ks' Z' ∧ ks'.length ≤ ks.length + d ∧ Chg (fun k => m.F k) w w' ∧ (∀ k, m'.F k → m.F k ∨ w.heap.size ≤ k) ∧ (∀ k, Z k → Z' k) ∧ (∀ k, Z' k → Z k ∨ w.heap.size ≤ k)

set_option maxRecDepth 10000 in
set_option maxHeartbeats 4000000 in
theorem reads_any (w : World) (m : PM) (t : It) (st : List It) (ks : List Kp) (Z : Nat → Prop) (h : PS w m t st ks Z) (f at_ n : Int) (ha : -9223372036854775808 ≤ at_ ∧ at_ ≤ 9223372036854775807) (hn : -9223372036854775808 ≤ n ∧ n ≤ 9223372036854775807) (hll : ks.length ≤ 1099511627770) :
    Calls Try.prog 30 #[.pointer (some ⟨m.pp, 0, none⟩), .int .i64 f, .int .i64 at_, .int .i64 n] w fun e w' => e = .returned (.bool true) ∧ PSs w w' m t st ks Z 4 := by
  obtain ⟨er, her⟩ : ∃ er, (t.S.read f at_ n).1 = er := ⟨_, rfl⟩
  obtain ⟨l, hl⟩ : ∃ l, (t.S.read f at_ n).2 = l := ⟨_, rfl⟩
  have hlen := read_len h.1.it.a f at_ n
  rw [hl] at hlen
  have c0 := h.1.blk.cell 0
  have c1 := h.1.blk.cell 1
  simp only [List.getElem?_cons_succ, List.getElem?_cons_zero] at c0 c1
  have HH := hidden h
  have HER := hidden her
  have HLL := hidden hl
  have HLT := hidden h.1.lt
  have HZL := hidden h.1.zl
  obtain ⟨pp, hpp⟩ : ∃ pp, m.pp = pp := ⟨_, rfl⟩
  have HPP := hidden hpp
  have hppl : pp < w.heap.size := by rw [← hpp]; exact h.1.blk.lt
  rw [hpp] at c0 c1
  simp only [hpp]
  clear h her hl hpp
  go_enter Try.func30, Try.ntmps30
  go_wp2_with fail
  refine (readP t.p t.F1 t.S w f at_ n HH.out.1.it.a ha hn).mono ?_
  rintro e w1 ⟨a1, n1, k1, rfl, ho1, hb1, bl1⟩
  rw [HLL.out] at ho1 hb1
  rw [HER.out]
  have HO1 := hidden ho1
  have HB1 := hidden hb1
  have BL1 := hidden bl1
  have d0 := below_cell bl1 hppl c0
  have d1 := below_cell bl1 hppl c1
  have HP1 := hidden (HH.out.later bl1)
  clear ho1 hb1 bl1 c0 c1
  go_wp2_with fail
  refine (readP t.p t.F1 t.S w1 f at_ n HP1.out.1.it.a ha hn).mono ?_
  rintro e w2 ⟨a2, n2, k2, rfl, ho2, hb2, bl2⟩
  rw [HLL.out] at ho2 hb2
  rw [HER.out]
  have HO2 := hidden ho2
  have BL2 := hidden bl2
  have hpp1 : pp < w1.heap.size := Nat.lt_of_lt_of_le hppl BL1.out.size
  have e1 := below_cell bl2 hpp1 d1
  have HP2 := hidden (HP1.out.later bl2)
  clear ho2 hb2 bl2 d0 d1
  go_wp2_with fail
  refine (readR t.q t.F2 t.S w2 f at_ n HP2.out.1.it.b ha hn).mono ?_
  rintro e w3 ⟨a3, n3, k3, rfl, ho3, hb3, bl3⟩
  rw [HLL.out] at ho3 hb3
  rw [HER.out]
  have HO3 := hidden ho3
  have BL3 := hidden bl3
  have HP3 := hidden (HP2.out.later bl3)
  clear ho3 hb3 bl3 e1
  have en1 : l.length = n1 := by have := HO1.out.1; rw [cells8_length] at this; omega
  have en2 : l.length = n2 := by have := HO2.out.1; rw [cells8_length] at this; omega
  have en3 : l.length = n3 := by have := HO3.out.1; rw [cells8_length] at this; omega
  have p1 : w3.ownsRow w.heap.size 5 1 (.slice a1 n1 k1) n1 (cells8 l) := (Chg.of_below (F := fun _ => False) BL3.out).owns ((Chg.of_below (F := fun _ => False) BL2.out).owns HO1.out (fun _ _ h => h)) (fun _ _ h => h)
  have p2 : w3.ownsRow w1.heap.size 5 1 (.slice a2 n2 k2) n2 (cells8 l) := (Chg.of_below (F := fun _ => False) BL3.out).owns HO2.out (fun _ _ h => h)
  have s1 := sl_of_owns p1 HB1.out
  have s2 := sl_of_owns p2 HB1.out
  have s3 := sl_of_owns HO3.out HB1.out
  have st1 := str_run (c := k1) s1
  have st2 := str_run (c := k2) s2
  have st3 := str_run (c := k3) s3
  obtain ⟨sv, hsv⟩ : ∃ sv, strOfNums l = sv := ⟨_, rfl⟩
  rw [hsv] at st1 st2 st3
  have HSV := hidden hsv
  have P1 := hidden p1
  have P2 := hidden p2
  have S2 := hidden s2
  have S3 := hidden s3
  have z1 := BL1.out.size
  have z2 := BL2.out.size
  have z3 := BL3.out.size
  have HEN := hidden en1
  have b1lt : ∀ g, (Value.slice a1 n1 k1).ownBlock = some g → w.heap.size ≤ g ∧ g < w1.heap.size := HO1.out.lt
  have b2lt : ∀ g, (Value.slice a2 n2 k2).ownBlock = some g → w1.heap.size ≤ g ∧ g < w2.heap.size := HO2.out.lt
  have b3lt : ∀ g, (Value.slice a3 n3 k3).ownBlock = some g → w2.heap.size ≤ g ∧ g < w3.heap.size := HO3.out.lt
  have HB1' := hidden b1lt
  have HB2' := hidden b2lt
  have HB3' := hidden b3lt
  clear p1 p2 s1 s2 s3 hsv b1lt b2lt b3lt
  go_wp2_with fail
  rw [← HPP.out]
  refine (keep_ps w3 m t st ks Z HP3.out a1 n1 k1 l (owns_zero P1.out) (by omega) (by omega) (fun g hg => ?_)).mono ?_
  · have := HB1'.out g hg
    exact ⟨fun hk => by have := HLT.out g hk; omega, fun hk => by have := HZL.out g hk; omega⟩
  rintro e w4 ⟨rfl, m4, ka, kb, Z4, hq1, hq2, hq3, hq4, hq5, hq6⟩
  have blkOf : ∀ (a : Option Addr) (nn kk : Nat) (y : Addr), a = some y → (Value.slice a nn kk).ownBlock = some y.block := by
    rintro a nn kk y rfl
    rfl
  have off2 : ∀ g, w1.heap.size ≤ g → ¬ (m.F g ∨ (Value.slice a1 n1 k1).ownBlock = some g) := by
    rintro g hg (e | e)
    · have := HLT.out g (.inl e)
      omega
    · have := HB1'.out g e
      omega
  have t2 : Sl w4 a2 n2 l := hq5.sl S2.out (fun y hy _ => off2 _ (HB2'.out _ (blkOf a2 n2 k2 y hy)).1)
  have t3 : Sl w4 a3 n3 l := hq5.sl S3.out (fun y hy _ => off2 _ (by have := (HB3'.out _ (blkOf a3 n3 k3 y hy)).1; omega))
  have st2 := str_run (c := k2) t2
  have st3 := str_run (c := k3) t3
  rw [HSV.out] at st2 st3
  have p4 : w4.ownsRow 0 5 1 (.slice a2 n2 k2) n2 (cells8 l) := hq5.owns (owns_zero P2.out) (fun g hg => off2 g (HB2'.out g hg).1)
  have P4 := hidden p4
  have Q1 := hidden hq1
  have Q2 := hidden hq2
  have Q3 := hidden hq3
  have Q4 := hidden hq4
  have Q5 := hidden hq5
  have Q6 := hidden hq6
  have z4 := hq5.size
  clear hq1 hq2 hq3 hq4 hq5 hq6 t2 t3 p4
  go_wp2_with fail
  rw [HPP.out, ← Q1.out.trans HPP.out]
  refine (keep_ps w4 m4 t st (ks ++ [ka] ++ [kb]) Z4 Q2.out a2 n2 k2 l P4.out (by omega) (by simp; omega) (fun g hg => ?_)).mono ?_
  · have hg2 := HB2'.out g hg
    refine ⟨?_, ?_⟩
    · rintro (e | e)
      · rcases Q6.out g e with f | f
        · have := HLT.out g (.inl f)
          omega
        · omega
      · have := HLT.out g (.inr e)
        omega
    · intro e
      rcases Q4.out g e with f | f | f
      · have := HZL.out g f
        omega
      · have := HB1'.out g f
        omega
      · omega
  rintro e w5 ⟨rfl, m5, kc, kd, Z5, r1, r2, r3, r4, r5, r6⟩
  have R1 := hidden r1
  have R2 := hidden r2
  have R3 := hidden r3
  have R4 := hidden r4
  have R5 := hidden r5
  have R6 := hidden r6
  clear r1 r2 r3 r4 r5 r6 st1 st2 st3
  go_wp2_with fail
  go_ret
  refine ⟨?_, m5, _, Z5, R1.out.trans Q1.out, R2.out, by first | (simp; done) | (simp; omega), ?_, ?_, fun k hk => R3.out k (Q3.out k hk), ?_⟩
  · first | rfl | simp
  · have b3 : Below w.heap.size w w3 := (BL1.out.trans (BL2.out.mono BL1.out.size)).trans (BL3.out.mono (by omega))
    refine ((Chg.of_below (F := fun k => m.F k) b3).trans Q5.out (fun k hk e => ?_)).trans R5.out (fun k hk e => ?_)
    · rcases e with e | e
      · exact e
      · have := HB1'.out k e
        omega
    · rcases e with e | e
      · rcases Q6.out k e with f | f
        · exact f
        · omega
      · have := HB2'.out k e
        omega
  · intro k hk
    rcases R6.out k hk with f | f
    · rcases Q6.out k f with f | f
      · exact .inl f
      · exact .inr (by omega)
    · exact .inr (by omega)
  · intro k hk
    rcases R4.out k hk with f | f | f
    · rcases Q4.out k f with f | f | f
      · exact .inl f
      · exact .inr (HB1'.out k f).1
      · exact .inr (by omega)
    · exact .inr (by have := (HB2'.out k f).1; omega)
    · exact .inr (by omega)

end Go.Proofs.Ytgmcfejmhlglkaa
