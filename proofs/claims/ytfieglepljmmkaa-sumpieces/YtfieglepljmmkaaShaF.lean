import Derived.Test.YtfieglepljmmkaaShaD
import Derived.Test.YtfieglepljmmkaaShaE
namespace Go.Proofs.Ytfieglepljmmkaa
open Go.RowKit
set_option linter.unusedVariables false

theorem info27 : (Try.prog.info? 27).map (·.size) = some 32 := by kernel_rfl
theorem new27 : (Try.prog.info? 27).map (fun i => i.zero.map (·.cells)) = some (some (cells8 (List.replicate 32 0)).toArray) := by kernel_rfl
theorem info53 : (Try.prog.info? 53).map (·.size) = some 73 := by kernel_rfl
theorem zero53 : (Try.prog.info? 53).map (fun i => (i.zero.map (·.cells.size), i.size)) = some (some 73, 73) := by kernel_rfl

theorem hcells_one (s : St) (m : List Int) (n : Nat) : ∀ v ∈ hcells s m n, v.oneCell' = true := by
  intro v hv
  simp only [hcells, List.mem_append, List.mem_cons, List.not_mem_nil, or_false] at hv
  rcases hv with h | h | rfl
  · exact wc_one _ v h
  · exact cells8_one _ v h
  · rfl
/-- The digest's bytes, as far as they are laid. -/
def dpart (s : St) (j : Nat) : List Int := (s.l.take j).flatMap outW ++ List.replicate (32 - 4 * j) 0
theorem dpart_step (s : St) (j : Nat) (h : j < 8) : (cells8 (dpart s j)).take (4 * j) ++ cells8 (outW (s.l.getD j 0)) ++ (cells8 (dpart s j)).drop (4 * j + (cells8 (outW (s.l.getD j 0))).length) = cells8 (dpart s (j + 1)) := by
  rcases (by omega : j = 0 ∨ j = 1 ∨ j = 2 ∨ j = 3 ∨ j = 4 ∨ j = 5 ∨ j = 6 ∨ j = 7) with rfl | rfl | rfl | rfl | rfl | rfl | rfl | rfl <;> rfl
theorem dpart_len (s : St) (j : Nat) (h : j ≤ 8) : (cells8 (dpart s j)).length = 32 := by
  rcases (by omega : j = 0 ∨ j = 1 ∨ j = 2 ∨ j = 3 ∨ j = 4 ∨ j = 5 ∨ j = 6 ∨ j = 7 ∨ j = 8) with rfl | rfl | rfl | rfl | rfl | rfl | rfl | rfl | rfl <;> rfl
theorem dpart_full (s : St) : dpart s 8 = outSt s := by
  unfold dpart outSt
  simp [St.l]
theorem ending_len (n : Nat) : (ending n).length ≤ 73 := by
  simp [ending, tail8]
  omega

theorem range_below {w w' : World} {b o B : Nat} {cs : List Value} (h : w.rangeAt b o cs) (hb : Below B w w') (hlt : b < B) : w'.rangeAt b o cs := fun j v hv => by
  rw [hb.cell (p := ⟨b, o + j, none⟩) hlt]
  exact h j v hv
theorem cell72 {w w1 w2 : World} {p : Nat} {T : List Value} {v : Value} (h : Blk w p 53 T) (b1 : Below w.heap.size w w1) (hlt : p < w.heap.size) (b2 : Below w1.heap.size w1 w2) (hv : T[72]? = some v) : w2.cell? ⟨p, 72, none⟩ = some v := by
  rw [((h.below b1 hlt).later b2).cell, hv]

set_option maxRecDepth 100000 in
set_option maxHeartbeats 1000000 in
theorem sum_any (p : Nat) (m : List Int) (w : World) (hH : HS w p m) (hb : m.length ≤ 1152921504606846000) : Calls Try.prog 18 #[.pointer (some ⟨p, 0, none⟩)] w fun e w' => e = .returned (.agg (cells8 (digest m)).toArray) ∧ Below w.heap.size w w' := by
  obtain ⟨hMb, blk, hbl, hbb, hB, htk⟩ := hH
  obtain ⟨S, hS⟩ : ∃ S, absorb (m.length / 64) m = S := ⟨_, rfl⟩
  obtain ⟨L, hL⟩ : ∃ L, m.length = L := ⟨_, rfl⟩
  have HHS : Hid (∀ W q, Blk W q 53 (hcells S blk L) → HS W q m) := by
    intro W q hW
    rw [← hS, ← hL] at hW
    exact ⟨hMb, blk, hbl, hbb, hW, htk⟩
  rw [hS, hL] at hB
  rw [hL] at hb
  have HL := hidden hL
  have hone := hcells_one S blk L
  have hlen := hcells_len S blk L hbl
  have hsz := hcells_size S blk L hbl
  clear hMb htk hbb hbl hS hL
  generalize hcells S blk L = T at *
  have HB := hidden hB
  have HSZ := hidden hsz
  clear hB hsz
  have HONE := hidden hone
  have HLEN := hidden hlen
  clear hone hlen
  go_enter Try.func18, Try.ntmps18
  have HLT : Hid (p < w.heap.size) := HB.out.lt
  have c72 : w.cell? ⟨p, 72, none⟩ = some (.int .u64 (L : Int)) := by rw [HB.out.cell, HSZ.out]
  go_wp2_with (first
    | (refine wpList_alloc_blk rfl 27 rfl 2 rfl _ new27 ?_; intro w1 B1 bl1 hz1; have HB1 := hidden B1; have HBL1 := hidden bl1; clear B1 bl1)
    | (refine wpList_load_blk rfl 53 (.tmp 8) rfl p (HB.out.below HBL1.out HLT.out) rfl Try.underlying53 rfl ?_ ?_; (rw [info53, HLEN.out]))
    | (refine wpList_new_var rfl rfl 53 3 (.tmp 9) rfl rfl rfl rfl 73 zero53 T HLEN.out HONE.out (by simp [Act.put]) rfl ?_; intro w2 B2 bl2 hz2; have c72' := cell72 HB.out HBL1.out HLT.out bl2 HSZ.out))
  refine (ending_any L w2 (by omega)).mono ?_
  rintro e w3 ⟨rfl, hs3, bl3⟩
  obtain ⟨g, hg⟩ : ∃ g, g = w.heap.size := ⟨_, rfl⟩
  have hb1 := HBL1.out
  have B1 := HB1.out
  rw [hz1] at B2 bl2 hz2
  rw [hz2] at hs3 bl3
  rw [hz2]
  rw [← hg] at B1 hb1 hz1 B2 bl2 hz2 hs3 bl3 ⊢
  have hw12 : Below g w w2 := hb1.trans (bl2.mono (by omega))
  have HB3 : Hid (Below g w w3) := hw12.trans (bl3.mono (by omega))
  have HR3 : Hid (Blk w3 g 27 (cells8 (List.replicate 32 0))) := (B1.below bl2 (by omega)).below bl3 (by omega)
  have HH3 : Hid (HS w3 (g + 1) m) := HHS.out w3 (g + 1) (B2.below bl3 (by omega))
  have HS3 := hidden hs3
  have hel := ending_len L
  have hz3 := bl3.size
  have HG := hidden hg
  clear HB HBL1 HB1 B1 B2 bl2 bl3 hb1 hw12 hs3 hz1 c72 c72' HHS HSZ HLEN HONE HLT hg
  go_wp2_with fail
  refine (write_any (g + 1) _ _ _ (ending L) m w3 HS3.out (Nat.le_refl _) (by omega) (fun x hx _ => by obtain rfl := Option.some.inj hx; simp) HH3.out (by rw [HL.out]; omega)).mono ?_
  rintro e w4 ⟨rfl, hH4, hg4⟩
  obtain ⟨hMb, blk4, hbl4, hbb4, hB4, htk4⟩ := hH4
  obtain ⟨S4, hS4⟩ : ∃ S4, absorb ((m ++ ending L).length / 64) (m ++ ending L) = S4 := ⟨_, rfl⟩
  have HD : Hid (digest m = outSt S4) := by
    show digest m = outSt S4
    unfold digest
    rw [HL.out, hS4]
  rw [hS4] at hB4
  have HR4 : Hid (Blk w4 g 27 (cells8 (List.replicate 32 0))) := HR3.out.grown hg4 (by omega)
  have HB4 : Hid (Below g w w4) := HB3.out.trans ⟨hg4.os, hg4.tape, hg4.output, hg4.size, fun k hk => hg4.block k (by omega) (by simp; omega)⟩
  have HW4 : Hid (w4.rangeAt (g + 1) 0 (wc S4.l)) := hB4.words
  have hz4 := hg4.size
  clear hMb hbl4 hbb4 hB4 htk4 hS4 hg4 HR3 HB3 HS3 HH3
  go_wp2_with (first
    | (refine wpList_alloc_blk rfl 27 rfl 4 rfl _ new27 ?_; intro w5 B5 bl5 hz5)
    | (refine wpList_load_mid rfl 47 (.tmp 16) rfl (g + 1) 0 rfl (wc S4.l) _ (range_below HW4.out bl5 (by omega)) Try.underlying47 rfl (by rw [info47]; rfl) ?_))
  obtain ⟨gd, hgd⟩ : ∃ gd, w4.heap.size = gd := ⟨_, rfl⟩
  have hgd2 : g + 2 ≤ gd := by omega
  have HR5 : Hid (Blk w5 g 27 (cells8 (List.replicate 32 0))) := HR4.out.later bl5
  have HB5 : Hid (Below g w w5) := HB4.out.trans (bl5.mono (by omega))
  rw [hgd] at B5 ⊢
  have HD5 : Hid (Blk w5 gd 27 (cells8 (dpart S4 0))) := B5
  clear B5 bl5 hz5 HR4 HB4 HW4 hgd hz4 hz3 hz2
  go_loopw [18] (fun iv ws => ∃ j : Nat, j ≤ 8 ∧ iv = .int .i64 j ∧ Blk ws gd 27 (cells8 (dpart S4 j)) ∧ Blk ws g 27 (cells8 (List.replicate 32 0)) ∧ Below g w ws) (fun iv _ => 8 - (intOf iv).toNat)
  case atStart => exact ⟨0, by omega, rfl, HD5.out, HR5.out, HB5.out⟩
  case round =>
    rename World => ws
    obtain ⟨j, hj, rfl, h1, h2, h3⟩ := hrel
    clear HD5 HR5 HB5
    have H1 := hidden h1
    have H2 := hidden h2
    have H3 := hidden h3
    clear h1 h2 h3
    by_cases hlt : j < 8
    · have hix := index_words 47 8 Try.underlying47 ws S4.l rfl j hlt .i64
      obtain ⟨r, hr⟩ : ∃ r, 4 * j = r := ⟨_, rfl⟩
      obtain ⟨q, hq⟩ : ∃ q, 32 - 4 * j = q := ⟨_, rfl⟩
      have hsl := slice_from 27 32 Try.underlying27 ws gd 0 (4 * j) .i64 ((j : Int) * 4) r q (by omega) (by omega) (by omega) hq
      have HST := hidden (dpart_step S4 j hlt)
      have HLN := hidden (dpart_len S4 j hj)
      have hq4 : 4 ≤ q := by omega
      have HRR := hidden hr
      have HQ := hidden hq
      clear hr hq
      obtain ⟨x, hx⟩ : ∃ x, S4.l.getD j 0 = x := ⟨_, rfl⟩
      rw [hx] at hix HST
      clear hx
      go_wp2_with fail
      refine (putWord_any gd r q q x ws hq4 (H1.out.there r 4 (by rw [HLN.out, ← HRR.out]; omega))).mono ?_
      rintro e w' ⟨rfl, rfl⟩
      have hB := Blk.sets (cells8 (outW x)) (4 * j) ws _ H1.out (by rw [HLN.out]; simp [cells8, outW]; omega)
      rw [HST.out, HRR.out] at hB
      have H1' := hidden hB
      have H2' : Hid (Blk (ws.setCells gd r (cells8 (outW x))) g 27 (cells8 (List.replicate 32 0))) := Blk.setsOff _ _ _ _ _ H2.out (by omega)
      have H3' : Hid (Below g w (ws.setCells gd r (cells8 (outW x)))) := H3.out.trans (below_sets (by omega) _ _ _)
      clear hB hsl hix
      generalize ws.setCells gd r (cells8 (outW x)) = w6 at *
      go_wp2_with fail
      refine ⟨⟨j + 1, by omega, rfl, H1'.out, H2'.out, H3'.out⟩, ?_⟩
      simp only [intOf]; omega
    · have e8 : j = 8 := by omega
      have h8 : (8 : Int) ≤ j := by omega
      have h1 : Blk ws gd 27 (cells8 (digest m)) := by
        have := H1.out
        rw [e8, dpart_full, ← HD.out] at this
        exact this
      have hlen : (cells8 (digest m)).length = 32 := by
        have := dpart_len S4 8 (by omega)
        rw [dpart_full, ← HD.out] at this
        exact this
      have hone := cells8_one (digest m)
      have hst := blk_stored (l := cells8 (digest m)) H2.out (by rw [hlen]; rfl)
      have hbb := H3.out.trans (below_sets (Nat.le_refl g) (cells8 (digest m)) 0 ws)
      generalize hT : cells8 (digest m) = T3 at *
      have HT := hidden hT
      clear hT e8
      go_wp2_with (first
        | refine wpList_load_blk rfl 27 (.tmp 4) rfl gd h1 rfl Try.underlying27 rfl (by rw [info27, hlen]) ?_
        | refine wpList_store_blk rfl 27 (.tmp 2) (.tmp 28) rfl rfl g H2.out rfl rfl (by rw [hlen]; rfl) (by rw [info27, hlen]) hone ?_)
      refine bodyPost_ret (results_cell_row rfl _ _ g 27 _ (0, 0) _ rfl hst Try.underlying27 rfl (by rw [info27]; simp [hlen])) rfl ?_
      rw [← HG.out, HT.out]
      exact ⟨rfl, hbb⟩

set_option maxRecDepth 100000 in
set_option maxHeartbeats 1000000 in
theorem of_any (ad : Option Addr) (len cap : Nat) (l : List Int) (w : World) (hs : Sl w ad len l) (hlc : len ≤ cap) (hcm : cap ≤ 9223372036854775807) (hb : len ≤ 1125899906842624) : Calls Try.prog 10 #[.slice ad len cap] w fun e w' => e = .returned (.agg (cells8 (digest l)).toArray) ∧ Below w.heap.size w w' := by
  have hlen := hs.len
  have hdl : (cells8 (digest l)).length = 32 := by
    rw [cells8_length]
    unfold digest
    generalize absorb ((l ++ ending l.length).length / 64) (l ++ ending l.length) = S
    rfl
  have hone := cells8_one (digest l)
  go_enter Try.func10, Try.ntmps10
  go_wp2_with (first
    | (refine wpList_alloc_blk rfl 27 rfl 2 rfl _ new27 ?_; intro w1 B1 bl1 hz1))
  refine (new_any w1).mono ?_
  rintro e w2 ⟨p, rfl, hp, hH2, bl2⟩
  have hs2 := (hs.later bl1).later bl2
  have hB2 := B1.later bl2
  have hbl2 := bl1.trans (bl2.mono bl1.size)
  have hlt := hs.lt
  go_wp2_with fail
  refine (write_any p ad len cap l [] w2 hs2 hlc hcm (fun x hx h0 => by have := hlt x hx h0; omega) hH2 (by simp; omega)).mono ?_
  rintro e w3 ⟨rfl, hH3, hg3⟩
  rw [List.nil_append] at hH3
  have hB3 := hB2.grown hg3 (by omega)
  have hbl3 : Below w.heap.size w w3 := hbl2.trans ⟨hg3.os, hg3.tape, hg3.output, hg3.size, fun k hk => hg3.block k (by have := hbl2.size; omega) (by simp; omega)⟩
  go_wp2_with fail
  refine (sum_any p l w3 hH3 (by omega)).mono ?_
  rintro e w4 ⟨rfl, bl4⟩
  have hB4 := hB3.later bl4
  have hbl4 := hbl3.trans (bl4.mono hbl3.size)
  have hst := blk_stored (l := cells8 (digest l)) hB4 (by rw [hdl]; rfl)
  have hbb := hbl4.trans (below_sets (Nat.le_refl _) (cells8 (digest l)) 0 w4)
  generalize hT : cells8 (digest l) = T3 at *
  have HT := hidden hT
  clear hT
  go_wp2_with (first
    | refine wpList_store_blk rfl 27 (.tmp 2) (.tmp 9) rfl rfl w.heap.size hB4 rfl rfl (by rw [hdl]; rfl) (by rw [info27, hdl]) hone ?_)
  refine bodyPost_ret (results_cell_row rfl _ _ w.heap.size 27 _ (0, 0) _ rfl hst Try.underlying27 rfl (by rw [info27]; simp [hdl])) rfl ?_
  rw [HT.out]
  exact ⟨rfl, hbb⟩

end Go.Proofs.Ytfieglepljmmkaa
