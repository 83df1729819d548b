import Derived.Test.YtfieglepljmmkaaShaC
import Derived.Test.YtfieglepljmmkaaShaN
import Derived.Deep.RegionLaw
namespace Go.Proofs.Ytfieglepljmmkaa
open Go.RowKit
set_option linter.unusedVariables false

theorem size5 : (Try.prog.info? 5).map (·.size) = some 1 := by kernel_rfl

theorem write_end {w wr W3 : World} {p k q n cc len cap b off : Nat} {l m M lr c : List Int} (A' : Option Addr) (hA : 0 < n - q → A' = some ⟨b, off + q, none⟩) (hM : m ++ l.take k = M) (hlr : l.drop k = lr) (hn : len - k = n) (hcc : cap - k = cc) (hc : lr.take q = c)
    (hq : q ≤ n) (hq3 : 0 < q) (hl : l.length = len) (hs : Sl wr (some ⟨b, off, none⟩) n lr) (hg : wr.grownBy W3 (some p)) (hwg : w.grownBy wr (some p)) (hpb : b ≠ p) (hH : HS W3 p (M ++ c)) :
    ∃ k adk, k ≤ len ∧ Value.slice A' (n - q) (cc - q) = .slice adk (len - k) (cap - k) ∧ Sl W3 adk (len - k) (l.drop k) ∧ (∀ x, adk = some x → 0 < len - k → x.block ≠ p) ∧ HS W3 p (m ++ l.take k) ∧ w.grownBy W3 (some p) := by
  have e1 : len - (k + q) = n - q := by omega
  have e2 : cap - (k + q) = cc - q := by omega
  have e3 : l.drop (k + q) = lr.drop q := by rw [← hlr, List.drop_drop]
  have e4 : m ++ l.take (k + q) = M ++ c := by rw [← hM, ← hc, ← hlr, List.append_assoc, List.take_add]
  refine ⟨k + q, A', by omega, by rw [e1, e2], ?_, ?_, by rw [e4]; exact hH, grown_trans hwg hg⟩
  · rw [e1, e3]
    have h1 := hs.cut (K := q) (N := n - q) (by omega) (ad := A') hA
    rw [List.take_of_length_le (by rw [List.length_drop, hs.len]; omega)] at h1
    refine h1.grown hg (fun x hx hp => ?_)
    rw [hA hp] at hx
    obtain rfl := Option.some.inj hx
    exact hpb
  · intro x hx hp
    rw [hA (by omega)] at hx
    obtain rfl := Option.some.inj hx
    exact hpb

set_option maxRecDepth 100000 in
set_option maxHeartbeats 2000000 in
theorem write_any (p : Nat) (ad : Option Addr) (len cap : Nat) (l m : List Int) (w : World) (hs : Sl w ad len l) (hlc : len ≤ cap) (hcm : cap ≤ 9223372036854775807) (hne : ∀ x, ad = some x → 0 < len → x.block ≠ p) (hH : HS w p m) (hb : m.length + len ≤ 1152921504606846976) :
    Calls Try.prog 16 #[.pointer (some ⟨p, 0, none⟩), .slice ad len cap] w fun e w' => e = .returned (.tuple #[]) ∧ HS w' p (m ++ l) ∧ w.grownBy w' (some p) := by
  have hlen := hs.len
  have HLEN := hidden hlen
  have HHH := hidden hH
  have HSS := hidden hs
  have HNE := hidden hne
  clear hs hH hlen hne
  go_enter Try.func16, Try.ntmps16
  go_wp2_with fail
  go_loopw [1] (fun bv wr => ∃ (k : Nat) (adk : Option Addr), k ≤ len ∧ bv = .slice adk (len - k) (cap - k) ∧ Sl wr adk (len - k) (l.drop k) ∧ (∀ x, adk = some x → 0 < len - k → x.block ≠ p) ∧ HS wr p (m ++ l.take k) ∧ w.grownBy wr (some p)) (fun bv _ => match bv with | .slice _ n _ => n | _ => 0)
  case atStart => exact ⟨0, ad, Nat.zero_le _, rfl, by simpa using HSS.out, HNE.out, by simpa using HHH.out, World.grownBy.refl _ _⟩
  case round =>
    rename World => wr
    obtain ⟨k, adk, hk, rfl, hs, hne, ⟨hMb, blk, hbl, hbb, hB, htk⟩, hg⟩ := hrel
    have hMl : (m ++ l.take k).length = m.length + k := by
      rw [List.length_append, List.length_take, HLEN.out]
      omega
    have hdl := hs.len
    by_cases hlt : 0 < len - k
    · obtain ⟨b, off, rfl, hbl2, hc⟩ := hs.at hlt
      have hpb := hne _ rfl hlt
      obtain ⟨M, hM⟩ : ∃ M, m ++ l.take k = M := ⟨_, rfl⟩
      obtain ⟨lr, hlr⟩ : ∃ lr, l.drop k = lr := ⟨_, rfl⟩
      obtain ⟨n, hn⟩ : ∃ n, len - k = n := ⟨_, rfl⟩
      obtain ⟨cc, hcc⟩ : ∃ cc, cap - k = cc := ⟨_, rfl⟩
      rw [hM] at hMb hB htk hMl
      rw [hlr] at hs hc hdl
      rw [hn] at hs hc hlt hdl ⊢
      rw [hcc] at ⊢
      have hcn : n ≤ cc := by omega
      have hc63 : cc ≤ 9223372036854775807 := by omega
      obtain ⟨L, hL⟩ : ∃ L, M.length = L := ⟨_, rfl⟩
      have hL60 : L + n ≤ 1152921504606846976 := by omega
      rw [hL] at hB htk hMl
      have HM := hidden hM
      have HLR := hidden hlr
      have HN := hidden hn
      have HCC := hidden hcc
      have HLL := hidden hL
      have HMB := hidden hMb
      have HTK := hidden htk
      have HG := hidden hg
      have HS1 := hidden hs
      have HC := hidden hc
      have HBB := hidden hbb
      have HB := hidden hB
      have HML := hidden hMl
      have c72 : wr.cell? ⟨p, 72, none⟩ = some (.int .u64 (L : Int)) := by rw [hB.cell, hcells_size _ _ _ hbl]
      have f72 := hB.frozen 72
      clear hM hlr hn hcc hL hMb htk hg hs hc hbb hB hMl hne HHH HSS HNE hk
      obtain ⟨r, hr⟩ : ∃ r, L % 64 = r := ⟨_, rfl⟩
      have hr64 : r < 64 := by omega
      have htm : (L : Int).tmod 64 = (r : Int) := by
        rw [Int.tmod_eq_emod_of_nonneg (by omega)]
        omega
      have hsl := fun w => slice_from 50 64 Try.underlying50 w p 8 r .u64 ((L : Int).tmod 64) (8 + r) (64 - r) htm hr64 rfl rfl
      clear htm
      obtain ⟨q, hq⟩ : ∃ q, min n (64 - r) = q := ⟨_, rfl⟩
      have hq1 : q ≤ n := by omega
      have hq2 : r + q ≤ 64 := by omega
      have hq3 : 0 < q := by omega
      have HQ4 : Hid (q = n ∨ r + q = 64) := by
        show q = n ∨ r + q = 64
        omega
      obtain ⟨c, hcdef⟩ : ∃ c, lr.take q = c := ⟨_, rfl⟩
      have hcl : c.length = q := by rw [← hcdef, List.length_take, hdl]; omega
      have hcb : Byte c := by rw [← hcdef]; exact HS1.out.byte.take q
      have HR := hidden hr
      have HCD := hidden hcdef
      have HQ := hidden hq
      have HCB := hidden hcb
      have HCL := hidden hcl
      have HSRC : Hid (∀ j v, (cells8 c)[j]? = some v → wr.drew.cell? ((⟨b, off, none⟩ : Addr).add j) = some v) := by
        intro j v hv
        have hj := (List.getElem?_eq_some_iff.1 hv).1
        rw [cells8_length, hcl] at hj
        show wr.cell? _ = _
        rw [Addr.add_mid, HC.out j (by omega)]
        rw [← hv, ← hcdef]
        simp [cells8, hj, List.getD, show j < lr.length by omega]
      clear hr hcdef hq hcl hcb hdl
      obtain ⟨S, hS⟩ : ∃ S, absorb (L / 64) M = S := ⟨_, rfl⟩
      have HB2 : Hid (Blk wr.drew p 53 (hcells S blk L)) := by
        rw [← hS]
        exact HB.out.drew
      have HSE := hidden hS
      clear hS HB
      go_wp2_with fail
      go_region_law ((refine step_copy_blk (by rfl) (.tmp 16) (.tmp 17) 22 22 (by rfl) 5 Try.underlying22 size5 p (8 + r) (64 - r) (64 - r) ⟨b, off, none⟩ n cc (by rfl) (by rfl) (hcells S blk L) 53 HB2.out (cells8 c) ?_ HSRC.out ?_ (cells8_one c) ?_; (rw [cells8_length, HCL.out]; exact HQ.out.symm); (rw [hcells_len _ _ _ hbl, cells8_length, HCL.out]; omega); intro w2 hB2 hg2))
      rw [hcells_splice S blk c L r hbl (by rw [HCL.out]; exact hq2)] at hB2
      have hsp : (splice blk r c).length = 64 := by rw [length_splice _ _ _ (by rw [HCL.out]; omega), hbl]
      have hspb : Byte (splice blk r c) := splice_byte HBB.out HCB.out
      simp only [cells8_length, HCL.out]
      obtain ⟨nb, hnb⟩ : ∃ nb, splice blk r c = nb := ⟨_, rfl⟩
      rw [hnb] at hB2 hsp hspb
      have HNB := hidden hnb
      have HSPB := hidden hspb
      have HSP := hidden hsp
      have HG2 : Hid (wr.grownBy w2 (some p)) := grown_trans (drew_grown wr _) hg2
      have e72 : w2.cell? ⟨p, 72, none⟩ = some (.int .u64 (L : Int)) := by rw [hB2.cell, hcells_size _ _ _ hsp]
      have g72 := hB2.frozen 72
      have hB3 : Blk (w2.setCell ⟨p, 72, none⟩ (.int .u64 ((L : Int) + (q : Int)))) p 53 (hcells S nb (L + q)) := by
        have := hB2.set 72 (.int .u64 ((L + q : Nat) : Int))
        rw [hcells_set _ _ _ _ hsp] at this
        exact this
      have HB3 := hidden hB3
      have HBL := hidden hbl
      clear hnb hsp hspb hg2 hB2 hB3 hsl c72 f72 HB2 HSRC hbl HBB
      have hrr := HR.out
      by_cases hfull : r + q = 64
      · have hm : (((L : Int) + (q : Int)) % 64 == 0) = true := by
          rw [beq_iff_eq]; omega
        have HF := hidden hfull
        clear hfull hrr
        have HH : Hid (∀ W, Blk W p 53 (hcells (comp S nb) nb (L + q)) → HS W p (M ++ c)) := by
          intro W hW
          have hLL := HLL.out
          have htk := HTK.out
          rw [← hLL] at htk
          have hr := HR.out
          rw [← hLL] at hr
          have hbl : blk.length = 64 := HBL.out
          obtain ⟨f1, f2⟩ := step_full (c := c) hbl htk (by rw [hr, HCL.out]; exact HF.out)
          rw [hr, HNB.out] at f1 f2
          refine ⟨HMB.out.append HCB.out, nb, HSP.out, HSPB.out, ?_, f2⟩
          rw [f1, hLL, HSE.out, List.length_append, hLL, HCL.out]
          exact hW
        have hone := wc_one (comp S nb).l
        have h28 := fun w => mixed_any S (sched 48 (words 16 nb)) w (by rw [sched_len, words_len])
        have h29 := fun w => spread_any nb w HSP.out HSPB.out
        have HWS : Hid (∀ W, Blk W p 53 (hcells S nb (L + q)) → Blk (W.setCells p 0 (wc (comp S nb).l)) p 53 (hcells (comp S nb) nb (L + q))) := fun W hW => hW.setWords (comp S nb)
        have H28 : Hid (∀ w, Calls Try.prog 28 #[.agg (wc S.l).toArray, .agg (wc (sched 48 (words 16 nb))).toArray] w fun e w' => e = .returned (.agg (wc (comp S nb).l).toArray) ∧ Below w.heap.size w w') := h28
        have H29 := hidden h29
        clear h28 h29
        have hDl : (wc (comp S nb).l).length = 8 := rfl
        obtain ⟨D, hD⟩ : ∃ D, wc (comp S nb).l = D := ⟨_, rfl⟩
        obtain ⟨C, hC⟩ : ∃ C, wc (sched 48 (words 16 nb)) = C := ⟨_, rfl⟩
        rw [hD] at hone H28 HWS hDl
        rw [hC] at H28 H29
        have HONE := hidden hone
        have HDL := hidden hDl
        clear hD hC hone hDl
        go_wp2_with fail
        all_goals
          refine write_r5 p (wc S.l) (cells8 nb) C D _ _ _ (by rfl) (by rfl) (fun W hL => (HB3.out.later hL).words) (by rw [info47]; rfl) (fun W hL => (HB3.out.later hL).bytes) (by rw [info50, cells8_length, HSP.out]) H29.out H28.out (fun W hL => (HB3.out.later hL).there 0 _ (by rw [hcells_len _ _ _ HSP.out, HDL.out]; decide)) (by rw [info47, HDL.out]) HONE.out ?_
          intro v37 v38 v39 v40 v41 v42 v43 v44 v45 v46 v47 v48 v49 w3 hL3
          have HG3 : Hid (wr.grownBy (w3.setCells p 0 D) (some p)) := grown_trans (grown_trans (grown_trans HG2.out (set_grown p 72 _ w2)) (below_grown hL3)) (sets_grown p D 0 w3)
          have HH3 : Hid (HS (w3.setCells p 0 D) p (M ++ c)) := HH.out _ (HWS.out _ (HB3.out.later hL3))
          generalize w3.setCells p 0 D = w4 at *
          clear hL3 HB3 H28 H29 HWS HH
          simp only [Act.put, List.setIfInBounds_toArray, List.set_cons_succ, List.set_cons_zero]
          go_wp2_with fail
        · have hcq : cc = q := by assumption
          refine ⟨?_, ?_⟩
          · have h := write_end (some ⟨b, off, none⟩) (fun hp => by omega) HM.out HLR.out HN.out HCC.out HCD.out hq1 hq3 HLEN.out HS1.out HG3.out HG.out hpb HH3.out
            rw [show cc - q = 0 by omega] at h
            exact h
          · show n - q < n
            omega
        · refine ⟨write_end _ (fun _ => rfl) HM.out HLR.out HN.out HCC.out HCD.out hq1 hq3 HLEN.out HS1.out HG3.out HG.out hpb HH3.out, ?_⟩
          show n - q < n
          omega
      · have hm : (((L : Int) + (q : Int)) % 64 == 0) = false := by
          rw [beq_eq_false_iff_ne]; omega
        have HF := hidden hfull
        clear hfull hrr
        have HH : Hid (HS (w2.setCell ⟨p, 72, none⟩ (.int .u64 ((L : Int) + (q : Int)))) p (M ++ c)) := by
          have hLL := HLL.out
          have htk := HTK.out
          rw [← hLL] at htk
          have hr := HR.out
          rw [← hLL] at hr
          have hbl : blk.length = 64 := HBL.out
          have hlt : M.length % 64 + c.length < 64 := by
            have := HF.out
            rw [hr, HCL.out]
            omega
          obtain ⟨f1, f2⟩ := step_some (c := c) hbl htk hlt
          rw [hr, HNB.out] at f2
          refine ⟨HMB.out.append HCB.out, nb, HSP.out, HSPB.out, ?_, f2⟩
          rw [f1, hLL, HSE.out, List.length_append, hLL, HCL.out]
          exact HB3.out
        have HG3 : Hid (wr.grownBy (w2.setCell ⟨p, 72, none⟩ (.int .u64 ((L : Int) + (q : Int)))) (some p)) := grown_trans HG2.out (set_grown p 72 _ w2)
        go_wp2_with fail
        refine ⟨write_end _ ?_ HM.out HLR.out HN.out HCC.out HCD.out hq1 hq3 HLEN.out HS1.out HG3.out HG.out hpb HH.out, ?_⟩
        · intro hp
          rw [if_neg (by omega)]
        · show n - q < n
          omega
    · have h0 : len - k = 0 := by omega
      have HH : Hid (HS wr p (m ++ l)) := by
        have e : l.take k = l := List.take_of_length_le (by rw [HLEN.out]; omega)
        rw [e] at hMb hB htk
        exact ⟨hMb, blk, hbl, hbb, hB, htk⟩
      have HG := hidden hg
      rw [h0]
      clear hMb hB htk hg hs hdl hMl hne hlt
      go_wp2_with fail
      go_end0
      exact ⟨rfl, HH.out, HG.out⟩

end Go.Proofs.Ytfieglepljmmkaa
