/-
  Checkpoint.
-/
import Derived.Test.YtnfjhdedcnbdbaaWlF
import Derived.Test.YtnfjhdedcnbdbaaWlG
namespace Go.Proofs.Ytnfjhdedcnbdbaa
open Go.RowKit
set_option linter.unusedVariables false
set_option linter.unusedSimpArgs false

theorem sync_ok {S : St} {f : Int} (h : (S.sync f).1 = 0) : (S.sync f).2.falls = S.falls := by
  unfold St.sync at h ⊢
  split at h <;> rename_i h1
  · exact absurd h h1
  · rw [if_neg h1]
    split at h <;> rename_i h2
    · exact absurd h h2
    · rw [if_neg h2]
      have h3 := op_ok (S := S) (by simpa using h2)
      cases hx : S.op.2.L[f.toNat]? with
      | none => rfl
      | some x => exact h3.2.1
theorem put_ok {S : St} {f k : Int} {l : List Int} (h : (S.put f k l).1 = 0) : (S.put f k l).2.falls = S.falls := by
  unfold St.put at h ⊢
  split at h <;> rename_i h1
  · exact absurd h h1
  · rw [if_neg h1]
    have h2 := append_ok (S := S) (f := f) (b := made k l) (by simpa using h1)
    rw [← h2]
    exact sync_ok h

theorem Blk.outD {w : World} {g p : Nat} {t : TypeId} {L : List Value} {F : Nat → Prop} {S : St} (hB : Blk w g t L) (h : Dk 71 66 w p F S) (ht : t ≠ 71 ∧ t ≠ 66 ∧ t ≠ 5 ∧ t ≠ 3) : ¬ F g := by
  intro hF
  have hg : Tg w g t := hB.tg
  rcases h.tg g hF with k | k | k | k
  · exact ht.1 (hg.one k)
  · exact ht.2.1 (hg.one k)
  · exact ht.2.2.1 (hg.one k)
  · exact ht.2.2.2 (hg.one k)

set_option maxRecDepth 100000 in
set_option maxHeartbeats 1000000 in
theorem wcheckP (lp p : Nat) (F : Nat → Prop) (S : St) (l : Lw) (ad : Option Addr) (n c : Nat) (s : List Int) (w : World) (h : Dk 71 66 w p F S) (hl : Lg 94 w lp p l) (hfn : l.fine) (hf : S.falls ≤ 1099511627776) (hS : Sl w ad n s) (hno : ad = none → n = 0 ∧ c = 0) (hap : ∀ x, ad = some x → 0 < n → ¬ F x.block) (hn : n ≤ 9223372036854775807) :
    Calls Try.prog 20 #[.pointer (some ⟨lp, 0, none⟩), .slice ad n c] w fun e w' => e = .returned (.int .i64 (S.wcheck l s).1) ∧ ∃ F', Dk 71 66 w' p F' (S.wcheck l s).2.1 ∧ Chg (fun i => F i ∨ i = lp) w w' ∧ New w F F' ∧ Lg 94 w' lp p (S.wcheck l s).2.2 := by
  have H := hidden h
  have HL := hidden hl
  have HS := hidden hS
  have HNO := hidden hno
  have HF := hidden hf
  have HAP := hidden hap
  have HFN := hidden hfn
  have HD := hidden (deadP lp p F S l w h hl)
  have HOUT := hidden (hl.out h)
  have hlen := hidden hS.len
  have HLP := hidden (Blk.lt hl)
  clear h hl hS hno hf hap hfn
  have hq : Hid (S.wcheck l s = if S.falls ≠ l.falls then (40, S, l) else if fitsU l.h.cap s.length = false then (60, S, l) else
    if (S.check1 l).1 ≠ 0 then ((S.check1 l).1, (S.check1 l).2, l) else
    if (S.check2 l s).1 ≠ 0 then ((S.check2 l s).1, (S.check2 l s).2, l) else
    if (S.check3 l s).1 ≠ 0 then ((S.check3 l s).1, (S.check3 l s).2, l) else
    (0, (S.check3 l s).2, ⟨l.falls, 1 - l.live, l.h.next⟩)) := rfl
  obtain ⟨q, hqq⟩ : ∃ q, S.wcheck l s = q := ⟨_, rfl⟩
  rw [hqq] at hq ⊢
  rw [hlen.out] at hq
  clear hqq
  have HW : Hid (∀ w1 S1, Dks 71 66 w w1 p F S1 → ∃ F', Dk 71 66 w1 p F' S1 ∧ Chg (fun i => F i ∨ i = lp) w w1 ∧ New w F F' ∧ Lg 94 w1 lp p l) := fun w1 S1 hd => by
    obtain ⟨F', k1, k2, k3⟩ := hd
    exact ⟨F', k1, k2.mono (fun _ _ h => .inl h), k3, HL.out.chg k2 HOUT.out⟩
  by_cases hx : S.falls = l.falls
  · rw [if_neg (fun k => k hx)] at hq
    rw [decide_eq_false (fun k => k hx)] at HD
    go_enter Try.func20, Try.ntmps20
    go_wp2_with fail
    refine HD.out.mono ?_
    rintro e w1 ⟨rfl, hL1⟩
    have HL1 := hidden hL1
    obtain ⟨c0, c1, c2, c3, c4, c5⟩ := (HL.out.lat hL1).head
    have hth := (Blk.there (HL.out.lat hL1) 3 3 (by simp))
    clear hL1
    go_wp2_with fail
    refine (fitsUnderP l.h.cap ad n c w1 (by omega)).mono ?_
    rintro e w2 ⟨rfl, rfl⟩
    have hfit : Hid (fitsU l.h.cap n = true → n ≤ 4194304) := fun h => by
      unfold fitsU at h
      have h3 := (of_decide_eq_true h).1
      unfold weight at h3
      split at h3 <;> omega
    have hfitw : Hid (fitsU l.h.cap n = true → 24 + n ≤ 4194304) := fun h => by
      have := HFN.out.cap
      unfold fitsU at h
      have h3 := of_decide_eq_true h
      unfold weight at h3
      split at h3 <;> omega
    obtain ⟨b, hb⟩ : ∃ b, fitsU l.h.cap n = b := ⟨_, rfl⟩
    rw [hb] at hq hfit hfitw ⊢
    clear hb
    cases b with
    | false =>
      rw [if_pos rfl] at hq
      go_wp2_with fail
      go_ret
      rw [hq.out]
      exact ⟨rfl, HW.out _ _ (Dks.lat HL1.out (Dks.same (H.out.lat HL1.out)))⟩
    | true =>
      rw [if_neg (by simp)] at hq
      have hn4 : n ≤ 4194304 := hfit.out rfl
      have hn24 : 24 + n ≤ 4194304 := hfitw.out rfl
      clear hfit hfitw
      have hw1 : IntKind.i64.wrap (1 - (l.live : Int)) = 1 - (l.live : Int) := wrapI _ (by have := HFN.out.live; omega) (by have := HFN.out.live; omega)
      have hlt : lp < w2.heap.size := Blk.lt (HL.out.lat HL1.out)
      obtain ⟨i3, hi3⟩ : ∃ i, Try.prog.info? 83 = some i := by
        have : (Try.prog.info? 83).isSome = true := by kernel_rfl
        exact Option.isSome_iff_exists.1 this
      go_wp2_with fail
      go_region
      have HBN : Hid (Blk (w2.alloc (.cells #[.int .u64 (l.h.g : Int), .int .i64 (l.h.cap : Int), .int .i64 (l.h.slots : Int)] 83)).drew w2.heap.size 83 [.int .u64 (l.h.g : Int), .int .i64 (l.h.cap : Int), .int .i64 (l.h.slots : Int)]) := Blk.new w2 83 _
      have HLN : Hid (Lat w2 (w2.alloc (.cells #[.int .u64 (l.h.g : Int), .int .i64 (l.h.cap : Int), .int .i64 (l.h.slots : Int)] 83)).drew) := Lat.trans _ _ _ ((Below.refl _ w2).alloc (Nat.le_refl _) _) (Lat.draw _)
      have HSZ : Hid ((w2.alloc (.cells #[.int .u64 (l.h.g : Int), .int .i64 (l.h.cap : Int), .int .i64 (l.h.slots : Int)] 83)).drew.heap.size = w2.heap.size + 1) := World.size_alloc _ _
      generalize (w2.alloc (.cells #[.int .u64 (l.h.g : Int), .int .i64 (l.h.cap : Int), .int .i64 (l.h.slots : Int)] 83)).drew = w3 at *
      obtain ⟨hb, hhb⟩ : ∃ hb, w2.heap.size = hb := ⟨_, rfl⟩
      rw [hhb] at HBN HSZ hlt ⊢
      have HHB := hidden hhb
      clear hhb c0 c1 c2 c3 c4 c5 hth
      have HL3 := hidden (Lat.trans _ _ _ HL1.out HLN.out)
      obtain ⟨c0, c1, c2, c3, c4, c5⟩ := (HL.out.lat HL3.out).head
      have d0 := HBN.out.cell 0
      have e0 := HBN.out.frozen 0
      simp only [List.getElem?_cons_succ, List.getElem?_cons_zero] at d0
      have hne : ¬ lp = hb := by omega
      go_wp2_with fail
      have hwr : IntKind.u64.wrap ((l.h.g : Int) + 1) = ((l.h.next.g : Nat) : Int) := by
        rw [IntKind.wrap_u64]
        show _ = (((l.h.g + 1) % 18446744073709551616 : Nat) : Int)
        omega
      rw [hwr]
      clear hwr
      have HB4 : Hid (Blk (w3.setCell ⟨hb, 0, none⟩ (.int .u64 ((l.h.next.g : Nat) : Int))) hb 83 [.int .u64 ((l.h.next.g : Nat) : Int), .int .i64 (l.h.cap : Int), .int .i64 (l.h.slots : Int)]) := HBN.out.set 0 _
      have HL4 : Hid (Lat w (w3.setCell ⟨hb, 0, none⟩ (.int .u64 ((l.h.next.g : Nat) : Int)))) := Below.trans HL3.out ((Chg.set ⟨hb, 0, none⟩ (.int .u64 ((l.h.next.g : Nat) : Int)) w3).below HL3.out.size (fun i hi => by have := HHB.out; have := HL1.out.size; dsimp only at hi; omega))
      generalize w3.setCell ⟨hb, 0, none⟩ (.int .u64 ((l.h.next.g : Nat) : Int)) = w4 at *
      clear c0 c1 c2 c3 c4 c5 d0 e0
      have hl1 := HFN.out.live
      refine (truncateP p F S w4 (1 - (l.live : Int)) 0 (H.out.lat HL4.out) HF.out (by omega)).mono ?_
      rintro e w5 ⟨rfl, hD5⟩
      have HB5 : Hid (Blk w5 hb 83 [.int .u64 ((l.h.next.g : Nat) : Int), .int .i64 (l.h.cap : Int), .int .i64 (l.h.slots : Int)]) := by
        obtain ⟨F', k1, k2, k3⟩ := hD5
        exact k2.blk HB4.out (HB4.out.outD (H.out.lat HL4.out) (by decide))
      have HD5 := hidden (Dks.lat HL4.out hD5)
      clear hD5
      have HK1 : Hid ((S.check1 l).1 = 0 → (S.check1 l).2.falls = S.falls) := truncate_ok
      have HK2 : Hid ((S.check2 l s).1 = 0 → (S.check2 l s).2.falls = (S.check1 l).2.falls) := put_ok
      have h1 : (S.truncate (1 - (l.live : Int)) 0) = S.check1 l := rfl
      rw [h1] at HD5 ⊢
      clear h1
      have H2d : Hid (S.check2 l s = (S.check1 l).2.put (1 - l.live : Int) 1 (hdata l.h.next s)) := rfl
      have H3d : Hid (S.check3 l s = (S.check2 l s).2.truncate l.live 0) := rfl
      generalize S.check1 l = q1 at *
      generalize S.check2 l s = q2 at *
      generalize S.check3 l s = q3 at *
      obtain ⟨e1, S1⟩ := q1
      obtain ⟨e2, S2⟩ := q2
      obtain ⟨e3, S3⟩ := q3
      dsimp only at *
      by_cases hz1 : e1 = 0
      · subst hz1
        rw [if_neg (by simp)] at hq
        have HF1 : Hid (S1.falls = S.falls) := HK1.out rfl
        clear HK1
        go_wp2_with fail
        obtain ⟨F5, j1, j2, j3⟩ := HD5.out
        have HJ1 := hidden j1
        have HJ2 := hidden j2
        have HJ3 := hidden j3
        clear j1 j2 j3
        have HLG5 := hidden (HL.out.chg HJ2.out HOUT.out)
        refine check_r10 lp p hb l.h.next.g l.h.cap l.h.slots n c w5.heap.size (24 + n) (1 - (l.live : Int)) ad (hdata l.h.next s) (fun x w6 => x = .int .i64 e2 ∧ Dks 71 66 w w6 p F S2 ∧ Lg 94 w6 lp p l ∧ Blk w6 hb 83 [.int .u64 ((l.h.next.g : Nat) : Int), .int .i64 (l.h.cap : Int), .int .i64 (l.h.slots : Int)]) w5 _ _ (by rfl) (by rfl) (by rfl) (by rfl) (by rfl) (fun w6 hL => (HLG5.out.lat hL).head.1) (fun w6 hL => HB5.out.later hL) (fun w6 hL => ?_) (fun w6 hL ag cg hR => ?_) ?_
        · refine (withP l.h.next ad n c s w6 ((HJ2.out.sl HS.out HAP.out).later hL) HNO.out hn4 HFN.out.next.g HFN.out.cap HFN.out.slots).mono ?_
          rintro e w7 ⟨ag, c7, rfl, hb7⟩
          exact ⟨_, rfl, hb7.bel, ag, c7, rfl, owns_lower hb7.base hL.size⟩
        · obtain ⟨a7, c7, hv7, ho7⟩ := hR
          have hby := hdata_byte l.h.next s HS.out.byte
          refine (putP p F5 S1 w6 (1 - (l.live : Int)) 1 ag (24 + n) cg _ (HJ1.out.lat hL) (by rw [HF1.out]; exact HF.out) (sl_of_owns ho7 hby) (fun e => by
            obtain ⟨g, hg⟩ := owns_addr ho7 (by omega)
            rw [hg] at e; cases e) hn24 (by omega)).mono ?_
          rintro e w7 ⟨rfl, hD7⟩
          rw [← H2d.out] at hD7 ⊢
          refine ⟨_, rfl, rfl, Dks.trans HJ2.out HJ3.out (Dks.lat hL hD7), ?_, ?_⟩
          · obtain ⟨F', k1, k2, k3⟩ := hD7
            exact (HLG5.out.lat hL).chg k2 ((HLG5.out.lat hL).out (HJ1.out.lat hL))
          · obtain ⟨F', k1, k2, k3⟩ := hD7
            exact k2.blk (HB5.out.later hL) ((HB5.out.later hL).outD (HJ1.out.lat hL) (by decide))
        · intros
          rename_i x w6 hR
          obtain ⟨rfl, r1, r2, r3⟩ := hR
          have HD6 := hidden r1
          have HLG6 := hidden r2
          have HB6 := hidden r3
          clear r1 r2 r3
          simp only [Act.put, List.setIfInBounds_toArray, List.set_cons_succ, List.set_cons_zero]
          by_cases hz2 : e2 = 0
          · subst hz2
            rw [if_neg (by simp)] at hq
            have HF2 : Hid (S2.falls = S1.falls) := HK2.out rfl
            clear HK2
            obtain ⟨F6, j1, j2, j3⟩ := HD6.out
            have HI1 := hidden j1
            have HI2 := hidden j2
            have HI3 := hidden j3
            clear j1 j2 j3
            go_wp2_with fail
            refine check_r13 lp p l.live (fun x w7 => x = .int .i64 e3 ∧ Dks 71 66 w w7 p F S3 ∧ Lg 94 w7 lp p l ∧ Blk w7 hb 83 [.int .u64 ((l.h.next.g : Nat) : Int), .int .i64 (l.h.cap : Int), .int .i64 (l.h.slots : Int)]) w6 _ _ (by rfl) (by rfl) (fun w7 hL => (HLG6.out.lat hL).head.1) (fun w7 hL => (HLG6.out.lat hL).head.2.2.1) (fun w7 hL => ?_) ?_
            · refine (truncateP p F6 S2 w7 l.live 0 (HI1.out.lat hL) (by rw [HF2.out, HF1.out]; exact HF.out) (by omega)).mono ?_
              rintro e w8 ⟨rfl, hD8⟩
              rw [← H3d.out] at hD8 ⊢
              refine ⟨_, rfl, rfl, Dks.trans HI2.out HI3.out (Dks.lat hL hD8), ?_, ?_⟩
              · obtain ⟨F', k1, k2, k3⟩ := hD8
                exact (HLG6.out.lat hL).chg k2 ((HLG6.out.lat hL).out (HI1.out.lat hL))
              · obtain ⟨F', k1, k2, k3⟩ := hD8
                exact k2.blk (HB6.out.later hL) ((HB6.out.later hL).outD (HI1.out.lat hL) (by decide))
            · intros
              rename_i x w7 hR
              obtain ⟨rfl, r1, r2, r3⟩ := hR
              have HD7 := hidden r1
              have HLG7 := hidden r2
              have HB7 := hidden r3
              clear r1 r2 r3
              simp only [Act.put, List.setIfInBounds_toArray, List.set_cons_succ, List.set_cons_zero]
              by_cases hz3 : e3 = 0
              · subst hz3
                rw [if_neg (by simp)] at hq
                have c2 := HLG7.out.head.2.2.1
                have c3 := HLG7.out.head.2.2.2.1
                have c4 := HLG7.out.head.2.2.2.2.1
                have c5 := HLG7.out.head.2.2.2.2.2
                have f2 := Blk.frozen HLG7.out 2
                have f3 := Blk.frozen HLG7.out 3
                have f4 := Blk.frozen HLG7.out 4
                have f5 := Blk.frozen HLG7.out 5
                have d0 := HB7.out.cell 0
                have d1 := HB7.out.cell 1
                have d2 := HB7.out.cell 2
                simp only [List.getElem?_cons_succ, List.getElem?_cons_zero] at d0 d1 d2
                go_wp2_with fail
                go_region
                go_wp2_with fail
                go_ret
                rw [hq.out]
                obtain ⟨F7, j1, j2, j3⟩ := HD7.out
                have HC := (((((Chg.set ⟨lp, 2, none⟩ (.int .i64 (1 - (l.live : Int))) w7).trans (Chg.set ⟨lp, 3, none⟩ (.int .u64 (l.h.next.g : Int)) _) (fun _ _ h => h)).trans (Chg.set ⟨lp, 4, none⟩ (.int .i64 (l.h.cap : Int)) _) (fun _ _ h => h)).trans (Chg.set ⟨lp, 5, none⟩ (.int .i64 (l.h.slots : Int)) _) (fun _ _ h => h))).trans (Chg.drew _ _) (fun _ _ h => h)
                have hB := (((Blk.set HLG7.out 2 (.int .i64 (1 - (l.live : Int)))).set 3 (.int .u64 (l.h.next.g : Int))).set 4 (.int .i64 (l.h.cap : Int))).set 5 (.int .i64 (l.h.slots : Int))
                simp only [List.set_cons_succ, List.set_cons_zero] at hB
                refine ⟨rfl, F7, j1.chg HC (fun i hi e => ?_), (j2.mono (fun _ _ h => .inl h)).trans (HC.mono (fun _ _ h => .inr h)) (fun _ _ h => h), j3, ?_⟩
                · dsimp only at e
                  subst e
                  exact HLG7.out.out j1 hi
                · show Blk _ lp 94 [.pointer (some ⟨p, 0, none⟩), .int .i64 (l.falls : Int), .int .i64 ((1 - l.live : Nat) : Int), .int .u64 (l.h.next.g : Int), .int .i64 (l.h.cap : Int), .int .i64 (l.h.slots : Int)]
                  rw [show ((1 - l.live : Nat) : Int) = 1 - (l.live : Int) by omega]
                  exact hB
              · rw [if_pos hz3] at hq
                go_wp2_with fail
                go_ret
                rw [hq.out]
                exact ⟨rfl, HW.out _ _ HD7.out⟩
          · rw [if_pos hz2] at hq
            go_wp2_with fail
            go_ret
            rw [hq.out]
            exact ⟨rfl, HW.out _ _ HD6.out⟩
      · rw [if_pos hz1] at hq
        go_wp2_with fail
        go_ret
        rw [hq.out]
        exact ⟨rfl, HW.out _ _ HD5.out⟩
  · rw [if_pos hx] at hq
    rw [decide_eq_true (show S.falls ≠ l.falls from hx)] at HD
    go_enter Try.func20, Try.ntmps20
    go_wp2_with fail
    refine HD.out.mono ?_
    rintro e w1 ⟨rfl, hL1⟩
    have HL1 := hidden hL1
    clear hL1
    go_wp2_with fail
    go_ret
    rw [hq.out]
    exact ⟨rfl, HW.out _ _ (Dks.lat HL1.out (Dks.same (H.out.lat HL1.out)))⟩

end Go.Proofs.Ytnfjhdedcnbdbaa
