import Derived.Test.YtnfjhdedcnbdbaaGreatWaC
import Derived.Test.YtnfjhdedcnbdbaaGreatWgY
/-
  shown.
-/
namespace Go.Proofs.YtnfjhdedcnbdbaaGreat
open Go.RowKit
set_option linter.unusedVariables false
set_option linter.unusedSimpArgs false

theorem byteAB : Byte [97, 98] := byte_of (by decide)
theorem byteXYZ : Byte [120, 121, 122] := byte_of (by decide)
theorem byteQ : Byte [113] := byte_of (by decide)

set_option maxRecDepth 100000 in
set_option maxHeartbeats 4000000 in
theorem shown_any (w : World) : Calls Tryz.prog 4 #[] w fun e w' => e = .returned (.bool true) ∧ Below w.heap.size w w' := by
  obtain ⟨i0, hi0, hz0, hz1, hz2⟩ := info_parts info5
  go_enter Tryz.func4, Tryz.ntmps4
  go_wp2_with fail
  refine (newP 2 w (by decide) (by decide)).mono ?_
  rintro e w1 ⟨p, F, rfl, hk1, hF1, hb1⟩
  have HK1 : Hid (Dk 64 79 w1 p F (St.fresh 2)) := hk1
  have HF1 := hidden hF1
  have HL1 : Hid (Lat w w1) := hb1
  clear hk1 hF1 hb1
  go_wp2_with fail
  refine open_walk p F (St.fresh 2) w1 HK1.out (by decide) _ ?_
  rintro e w2 ⟨F2, hk2, hc2, hn2, hcase⟩
  rw [fresh_opens] at hk2 hcase
  rcases hcase with ⟨er, he, hne, rfl⟩ | ⟨f, lp, x, r, sv, rv, he, _⟩
  · have he2 : (61 : Int) = er := by simpa using he
    subst he2
    have HK2 := hidden hk2
    have HC2 := hidden hc2
    have HN2 := hidden hn2
    clear hk2 hc2 hn2 he hne
    have HF2 : Hid (∀ i, F2 i → w.heap.size ≤ i) := fun i hi => by
      rcases HN2.out i hi with h | h
      · exact HF1.out i h
      · have := HL1.out.size; omega
    have HL2 : Hid (Lat w w2) := Below.trans HL1.out (HC2.out.below HL1.out.size (fun i hi => HF1.out i hi))
    have hcb := constBytes w2 #[.int .u8 97, .int .u8 98] 2 2 w2.heap.size rfl
    go_wp2_with fail
    have HS3 : Hid (Sl (w2.alloc (.cells #[.int .u8 97, .int .u8 98] 5 (2, 3))) (some ⟨w2.heap.size, 0, none⟩) 2 [97, 98]) := sl_lit w2 [97, 98] byteAB 5 (2, 3) 2 rfl _ rfl _ rfl
    have HL23 : Hid (Lat w2 (w2.alloc (.cells #[.int .u8 97, .int .u8 98] 5 (2, 3)))) := (Below.refl _ w2).alloc (Nat.le_refl _) _
    generalize w2.alloc (.cells #[.int .u8 97, .int .u8 98] 5 (2, 3)) = w3 at *
    clear hcb
    refine (formatP p F2 (St.fresh 2) 1024 4 (some ⟨w2.heap.size, 0, none⟩) 2 2 [97, 98] w3 (HK2.out.lat HL23.out) (by decide) HS3.out (fun e => by cases e) (fun x hx _ hF => by cases hx; have := HK2.out.lt _ hF; exact absurd this (Nat.lt_irrefl _)) (by decide)).mono ?_
    rintro e w4 ⟨rfl, hd4⟩
    rw [fresh_format] at hd4 ⊢
    dsimp only at hd4 ⊢
    obtain ⟨F4, k1, k2, k3⟩ := Dks.lat HL23.out hd4
    have HK4 := hidden k1
    have HC4 := hidden k2
    have HN4 := hidden k3
    clear hd4 k1 k2 k3
    have HF4 : Hid (∀ i, F4 i → w.heap.size ≤ i) := fun i hi => by
      rcases HN4.out i hi with h | h
      · exact HF2.out i h
      · have := HL2.out.size; omega
    have HL4 : Hid (Lat w w4) := Below.trans HL2.out (HC4.out.below HL2.out.size (fun i hi => HF2.out i hi))
    go_wp2_with fail
    refine open_walk p F4 (LS 0 0 hA [97, 98] []) w4 HK4.out (by decide) _ ?_
    rintro e w5 ⟨F5, hk5, hc5, hn5, hcase⟩
    rw [open_A] at hk5 hcase
    rcases hcase with ⟨er, he, hne, rfl⟩ | ⟨f, lp, x, r, sv, rv, he, hfl, hfine, hok, hlg, hlp, hst, hrc, hfd, hap, rfl⟩
    · cases he
    · have he2 : (⟨0, hA, [97, 98], [], (laid hA [97, 98] []).length⟩ : Fnd) = f := by simpa using he
      subst he2
      dsimp only at hfine hok hlg hst hrc
      have hr0 : r = [] := by
        cases r with
        | nil => rfl
        | cons a b => simp at hrc
      subst hr0
      rw [show (LS 0 0 hA [97, 98] []).falls = 0 from rfl] at hlg hfine
      obtain ⟨sa, sn, sc, rfl, hsn, hsl, hsno⟩ := hfd.sl (by rw [← hst]; exact byteAB)
      obtain ⟨ra, rc, rfl⟩ := owns_formG hfd.2.2.2.2.2
      rw [← hst] at hsl hsn
      have hsn2 : sn = 2 := hsn
      subst hsn2
      have HK5 := hidden hk5
      have HC5 := hidden hc5
      have HN5 := hidden hn5
      have HLG5 := hidden hlg
      have HFINE := hidden hfine
      have HSL5 := hidden hsl
      have HLP := hidden hlp
      clear hk5 hc5 hn5 hlg hfine hsl hlp hok he hfl hst hrc
      have HF5 : Hid (∀ i, F5 i → w.heap.size ≤ i) := fun i hi => by
        rcases HN5.out i hi with h | h
        · exact HF4.out i h
        · have := HL4.out.size; omega
      have HL5 : Hid (Lat w w5) := Below.trans HL4.out (HC5.out.below HL4.out.size (fun i hi => HF4.out i hi))
      have HSA : Hid (∀ y, sa = some y → ¬ F5 y.block) := fun y hy => by
        obtain ⟨_, _, _, ⟨g, n', c', off, hv, _, _, _, e⟩, _⟩ := hfd
        have e1 : sa = some ⟨g, off, none⟩ := by simp only [Value.slice.injEq] at e; exact e.1
        rw [e1] at hy
        have : y = ⟨g, off, none⟩ := (Option.some.inj hy).symm
        subst this
        exact hap x (by simp) g (by rw [hv]; rfl)
      have HSB : Hid (∀ y, sa = some y → y.block < w5.heap.size ∧ y.block ≠ lp) := fun y hy => by
        obtain ⟨q1, _, _, ⟨g, n', c', off, hv, _, _, _, e⟩, _⟩ := hfd
        have e1 : sa = some ⟨g, off, none⟩ := by simp only [Value.slice.injEq] at e; exact e.1
        rw [e1] at hy
        have : y = ⟨g, off, none⟩ := (Option.some.inj hy).symm
        subst this
        have := q1.2.lt g (by rw [hv]; rfl)
        refine ⟨this.2, fun e3 => ?_⟩
        dsimp only at e3
        subst e3
        exact absurd ((Blk.tg HLG5.out).one (owns_tg q1.2 _ (by rw [hv]; rfl))) (by decide)
      clear hfd hap hsno
      go_wp2_with fail
      refine (bytesP lp p F5 _ ⟨0, 0, hA⟩ w5 HK5.out HLG5.out).mono ?_
      rintro e w6 ⟨rfl, hl6⟩
      rw [bytes_A]
      have HL6 : Hid (Lat w5 w6) := hl6
      clear hl6
      have hcb := constBytes w6 #[.int .u8 120, .int .u8 121, .int .u8 122] 3 3 w6.heap.size rfl
      go_wp2_with fail
      have HS7 : Hid (Sl (w6.alloc (.cells #[.int .u8 120, .int .u8 121, .int .u8 122] 5 (3, 4))) (some ⟨w6.heap.size, 0, none⟩) 3 [120, 121, 122]) := sl_lit w6 [120, 121, 122] byteXYZ 5 (3, 4) 3 rfl _ rfl _ rfl
      have HL67 : Hid (Lat w5 (w6.alloc (.cells #[.int .u8 120, .int .u8 121, .int .u8 122] 5 (3, 4)))) := Lat.trans _ _ _ HL6.out ((Below.refl _ w6).alloc (Nat.le_refl _) _)
      generalize w6.alloc (.cells #[.int .u8 120, .int .u8 121, .int .u8 122] 5 (3, 4)) = w7 at *
      clear hcb
      refine (wappendP lp p F5 _ ⟨0, 0, hA⟩ (some ⟨w6.heap.size, 0, none⟩) 3 3 [120, 121, 122] w7 (HK5.out.lat HL67.out) (HLG5.out.lat HL67.out) (by decide) HS7.out (fun e => by cases e) (by decide)).mono ?_
      rintro e w8 ⟨rfl, hd8, hlg8⟩
      rw [app_A] at hd8 ⊢
      dsimp only at hd8 ⊢
      obtain ⟨F8, k1, k2, k3⟩ := Dks.lat HL67.out hd8
      have HK8 := hidden k1
      have HC8 := hidden k2
      have HN8 := hidden k3
      have HLG8 := hidden hlg8
      clear hd8 k1 k2 k3 hlg8
      go_wp2_with fail
      refine (bytesP lp p F8 _ ⟨0, 0, hA⟩ w8 HK8.out HLG8.out).mono ?_
      rintro e w9 ⟨rfl, hl9⟩
      rw [bytes_B]
      have HL9 : Hid (Lat w8 w9) := hl9
      clear hl9
      go_wp2_with fail
      refine (fitsP lp p F8 _ ⟨0, 0, hA⟩ 968 w9 (HK8.out.lat HL9.out) (HLG8.out.lat HL9.out) (by decide)).mono ?_
      rintro e w10 ⟨rfl, hl10⟩
      rw [fits_B, show decide ((0 : Int) ≤ 968 ∧ (968 : Int) ≤ 4194304 ∧ (47 : Int) + (968 + 9) ≤ 1024) = true by decide]
      have HL10 := hidden (Lat.trans _ _ _ HL9.out hl10)
      clear hl10
      go_wp2_with fail
      refine (fitsP lp p F8 _ ⟨0, 0, hA⟩ 969 w10 (HK8.out.lat HL10.out) (HLG8.out.lat HL10.out) (by decide)).mono ?_
      rintro e w11 ⟨rfl, hl11⟩
      rw [fits_B, show decide ((0 : Int) ≤ 969 ∧ (969 : Int) ≤ 4194304 ∧ (47 : Int) + (969 + 9) ≤ 1024) = false by decide]
      have HL11 := hidden (Lat.trans _ _ _ HL10.out hl11)
      clear hl11
      have hcb := constBytes w11 #[.int .u8 113] 1 1 w11.heap.size rfl
      go_wp2_with fail
      have HS12 : Hid (Sl (w11.alloc (.cells #[.int .u8 113] 5 (1, 2))) (some ⟨w11.heap.size, 0, none⟩) 1 [113]) := sl_lit w11 [113] byteQ 5 (1, 2) 1 rfl _ rfl _ rfl
      have HL12 : Hid (Lat w8 (w11.alloc (.cells #[.int .u8 113] 5 (1, 2)))) := Lat.trans _ _ _ HL11.out ((Below.refl _ w11).alloc (Nat.le_refl _) _)
      generalize w11.alloc (.cells #[.int .u8 113] 5 (1, 2)) = w12 at *
      clear hcb
      refine (wcheckP lp p F8 _ ⟨0, 0, hA⟩ (some ⟨w11.heap.size, 0, none⟩) 1 1 [113] w12 (HK8.out.lat HL12.out) (HLG8.out.lat HL12.out) HFINE.out (by decide) HS12.out (fun e => by cases e) (fun x hx _ hF => by cases hx; have := HK8.out.lt _ hF; have := HL11.out.size; dsimp only at *; omega) (by decide)).mono ?_
      rintro e w13 ⟨rfl, F13, k1, k2, k3, k4⟩
      rw [chk_B] at k1 k4 ⊢
      dsimp only at k1 k4 ⊢
      have HK13 := hidden k1
      have HC13 := hidden k2
      have HN13 := hidden k3
      have HLG13 := hidden k4
      clear k1 k2 k3 k4
      go_wp2_with (at_make; refine wpList_make_any _ rfl (.const (.int .i64 992)) (.const (.int .i64 992)) 28 rfl 5 (.int .u8 0) 1 1 Tryz.underlying28 info5 992 rfl rfl (by decide) (by decide) ?_; intro w14 hB14 hz14 hb14; rw [made5] at hB14; have HB14 := hidden hB14; have HL14 : Hid (Lat w13 w14) := hb14; clear hB14 hz14 hb14)
      have hrl : (List.replicate 992 (0 : Int)).length = 992 := List.length_replicate ..
      have HS14 : Hid (Sl w14 (some ⟨w13.heap.size, 0, none⟩) 992 (List.replicate 992 0)) := sl_of_owns (HB14.out.owns (by rw [cells8_length, hrl]) (by decide) 0 (Nat.zero_le _)) (fun x hx => by have := List.eq_of_mem_replicate hx; omega)
      have HRL := hidden hrl
      clear hrl
      have HFINE2 : Hid ((⟨0, 1, hB⟩ : Lw).fine) := ⟨by decide, by decide, by decide, by decide, by decide⟩
      generalize List.replicate 992 (0 : Int) = z992 at *
      refine (wcheckP lp p F13 _ ⟨0, 1, hB⟩ (some ⟨w13.heap.size, 0, none⟩) 992 992 z992 w14 (HK13.out.lat HL14.out) (HLG13.out.lat HL14.out) HFINE2.out (by decide) HS14.out (fun e => by cases e) (fun x hx _ hF => by cases hx; have := HK13.out.lt _ hF; exact absurd this (Nat.lt_irrefl _)) (by decide)).mono ?_
      rintro e w15 ⟨rfl, F15, k1, k2, k3, k4⟩
      rw [chk_C z992 HRL.out] at k1 k4 ⊢
      dsimp only at k1 k4 ⊢
      have HK15 := hidden k1
      have HC15 := hidden k2
      have HN15 := hidden k3
      have HLG15 := hidden k4
      clear k1 k2 k3 k4
      have HNO8 : Hid (∀ y, sa = some y → ¬ F8 y.block) := fun y hy k => by
        rcases HN8.out _ k with f | f
        · exact HSA.out y hy f
        · have := (HSB.out y hy).1; omega
      have hs8 := HC8.out.sl HSL5.out (fun y hy _ => HSA.out y hy)
      have hs13 := HC13.out.sl (hs8.later HL12.out) (fun y hy _ k => by
        rcases k with k | k
        · exact HNO8.out y hy k
        · exact (HSB.out y hy).2 k)
      have hs15 := HC15.out.sl (hs13.later HL14.out) (fun y hy _ k => by
        rcases k with k | k
        · rcases HN13.out _ k with f | f
          · exact HNO8.out y hy f
          · have := (HSB.out y hy).1
            have := HC8.out.size
            have := HL12.out.size
            omega
        · exact (HSB.out y hy).2 k)
      have hcv := convS (cap := sc) hs15
      rw [str2] at hcv
      have HLF : Hid (Below w.heap.size w w15) := by
        have b8 : Below w.heap.size w w8 := Below.trans HL5.out (HC8.out.below HL5.out.size (fun i hi => HF5.out i hi))
        have g8 : ∀ i, F8 i → w.heap.size ≤ i := fun i hi => by
          rcases HN8.out i hi with f | f
          · exact HF5.out i f
          · have := HL5.out.size; omega
        have b12 : Below w.heap.size w w12 := b8.trans (HL12.out.mono b8.size)
        have lpg : w.heap.size ≤ lp := Nat.le_trans HL4.out.size HLP.out
        have b13 : Below w.heap.size w w13 := b12.trans (HC13.out.below b12.size (fun i hi => by
          rcases hi with h | h
          · exact g8 i h
          · omega))
        have b14 : Below w.heap.size w w14 := b13.trans (HL14.out.mono b13.size)
        exact b14.trans (HC15.out.below b14.size (fun i hi => by
          rcases hi with h | h
          · rcases HN13.out i h with f | f
            · exact g8 i f
            · have := b12.size; omega
          · omega))
      clear hs8 hs13 hs15
      go_wp2_with fail
      refine (bytesP lp p F15 _ ⟨0, 1, hB⟩ w15 HK15.out HLG15.out).mono ?_
      rintro e w16 ⟨rfl, hl16⟩
      rw [bytes_C]
      have HL16 : Hid (Lat w15 w16) := hl16
      clear hl16 hcv
      go_wp2_with fail
      refine (generationP lp p ⟨0, 1, hB⟩ w16 (HLG15.out.lat HL16.out)).mono ?_
      rintro e w17 ⟨rfl, rfl⟩
      rw [show (((⟨0, 1, hB⟩ : Lw).h.g : Nat) : Int) = 2 from rfl]
      go_wp2_with fail
      refine (slotsP lp p ⟨0, 1, hB⟩ w17 (HLG15.out.lat HL16.out)).mono ?_
      rintro e w18 ⟨rfl, rfl⟩
      rw [show (((⟨0, 1, hB⟩ : Lw).h.slots : Nat) : Int) = 4 from rfl]
      go_wp2_with fail
      refine (capP lp p ⟨0, 1, hB⟩ w18 (HLG15.out.lat HL16.out)).mono ?_
      rintro e w19 ⟨rfl, rfl⟩
      rw [show (((⟨0, 1, hB⟩ : Lw).h.cap : Nat) : Int) = 1024 from rfl]
      go_wp2_with fail
      refine (sizeP p F15 _ w19 0 (HK15.out.lat HL16.out)).mono ?_
      rintro e w20 ⟨rfl, rfl⟩
      rw [size_C]
      go_wp2_with fail
      refine (weightP 2 w20 (by decide)).mono ?_
      rintro e w21 ⟨rfl, rfl⟩
      rw [show weight 2 = 35 by decide]
      go_wp2_with fail
      go_ret
      exact ⟨rfl, HLF.out.trans (HL16.out.mono HLF.out.size)⟩
  · cases he

end Go.Proofs.YtnfjhdedcnbdbaaGreat

/-
  WalPlays: the walk.
-/
namespace Go.Proofs.YtnfjhdedcnbdbaaGreat
open Go.RowKit
set_option linter.unusedVariables false
set_option linter.unusedSimpArgs false

theorem and64_3 (n : Int) : bits .and .i64 n 3 = n % 4 := by
  have h1 : (BitVec.ofInt 64 3).toNat = 2 ^ 2 - 1 := by decide
  have key : (BitVec.ofInt 64 n &&& BitVec.ofInt 64 3).toNat = (n % ((2 ^ 64 : Nat) : Int)).toNat % 2 ^ 2 := by
    rw [BitVec.toNat_and, BitVec.toNat_ofInt, h1, Nat.and_two_pow_sub_one_eq_mod]
  show IntKind.i64.wrap ((BitVec.ofInt 64 n &&& BitVec.ofInt 64 3).toNat : Nat) = n % 4
  rw [key, IntKind.wrap_i64]
  omega

set_option maxRecDepth 100000 in
theorem bornN (n : Int) (hn : 1 ≤ n) (hn8 : n ≤ 8) (w : World) : Calls Tryz.prog 5 #[.int .i64 n] w fun e w' => ∃ wp p x F G, e = .returned (.tuple #[.pointer (some ⟨wp, 0, none⟩), .bool true]) ∧ WW w' wp p x F G (St.fresh n.toNat) (.pointer none) (.pointer none) ∧ w.heap.size ≤ wp ∧ (∀ i, F i → w.heap.size ≤ i) ∧ (∀ i, G i → w.heap.size ≤ i) ∧ Below w.heap.size w w' := by
  go_enter Tryz.func5, Tryz.ntmps5
  go_wp2_with fail
  refine (newP n w hn hn8).mono ?_
  rintro e w1 ⟨p, F, rfl, hk1, hF1, hb1⟩
  have HK1 : Hid (Dk 64 79 w1 p F (St.fresh n.toNat)) := hk1
  have HF1 := hidden hF1
  have HL1 : Hid (Lat w w1) := hb1
  clear hk1 hF1 hb1
  go_wp2_with fail
  refine (newR n w1 hn hn8).mono ?_
  rintro e w2 ⟨x, G, rfl, hk2, hG2, hb2⟩
  have HK2 : Hid (Dk 82 97 w2 x G (St.fresh n.toNat)) := hk2
  have HG2 := hidden hG2
  have HL2 : Hid (Lat w1 w2) := hb2
  clear hk2 hG2 hb2
  go_wp2_with (first
    | (refine wpList_build_to rfl 52 #[(0, .tmp 18), (2, .tmp 19)] rfl [(0, .pointer (some ⟨p, 0, none⟩)), (2, .pointer (some ⟨x, 0, none⟩))] #[.pointer (some ⟨p, 0, none⟩), .pointer none, .pointer (some ⟨x, 0, none⟩), .pointer none] ?_ (built33 p x) ?_; kernel_rfl)
    | (refine wpList_box_blk rfl 52 (.tmp 20) rfl [.pointer (some ⟨p, 0, none⟩), .pointer none, .pointer (some ⟨x, 0, none⟩), .pointer none] rfl ?_; intro w3 B3 bl3 hz3; have HB3 := hidden B3; have HL3 : Hid (Lat w2 w3) := bl3; clear B3 bl3 hz3))
  go_ret2
  refine ⟨w2.heap.size, p, x, F, G, rfl, ⟨HB3.out, (HK1.out.lat HL2.out).lat HL3.out, HK2.out.lat HL3.out, fun i hi hg => ?_⟩, ?_, HF1.out, fun i hi => Nat.le_trans HL1.out.size (HG2.out i hi), Lat.trans _ _ _ HL1.out (Lat.trans _ _ _ HL2.out HL3.out)⟩
  · have := HK1.out.lt i hi
    have := HG2.out i hg
    omega
  · exact Nat.le_trans HL1.out.size HL2.out.size


theorem Stepd.up {W : World} {wp p x nf nl nf' nl' : Nat} {e : Ending} {w : World} (h : Stepd W wp p x nf nl e w) (h1 : nf ≤ nf') (h2 : nl ≤ nl') : Stepd W wp p x nf' nl' e w := by
  obtain ⟨rfl, F, G, S, lo, mo, ll, k1, k2, k3⟩ := h
  exact ⟨rfl, F, G, S, lo, mo, ll, k1, Nat.le_trans k2 h1, k3.up h2⟩
theorem step_any (W : World) (wp p x : Nat) (F G : Nat → Prop) (S : St) (lo mo : Option Addr) (ll : Option (Nat × Nat × Lw)) (s : Opn) (nf nl : Nat) (w : World) (h : WS W w wp p x F G S lo mo ll) (hs : s.ok W) (hf : S.falls ≤ nf) (hl : FB nl S) (hbf : nf ≤ 1099511620000) (hbl : nl ≤ 1048576) :
    Calls Tryz.prog 6 #[.pointer (some ⟨wp, 0, none⟩), s.agg] w fun e w' => Stepd W wp p x (nf + 4) (nl + 3033) e w' := by
  by_cases k0 : s.kd = 0
  · exact (step_format W wp p x F G S lo mo ll s nf nl w h hs hf hl hbf k0).mono (fun e w' q => q.up (by omega) (by omega))
  by_cases k1 : s.kd = 1
  · exact (step_open W wp p x F G S lo mo ll s nf nl w h hs hf hl hbf hbl k1).mono (fun e w' q => q.up (by omega) (by omega))
  by_cases k2 : s.kd = 2
  · exact (step_append W wp p x F G S lo mo ll s nf nl w h hs hf hl hbf k2).mono (fun e w' q => q.up (by omega) (by omega))
  by_cases k3 : s.kd = 3
  · exact (step_check W wp p x F G S lo mo ll s nf nl w h hs hf hl hbf k3).mono (fun e w' q => q.up (by omega) (by omega))
  by_cases k4 : s.kd = 4
  · exact (step_fuse W wp p x F G S lo mo ll s nf nl w h hs hf hl hbf k4).mono (fun e w' q => q.up (by omega) (by omega))
  by_cases k5 : s.kd = 5
  · exact (step_crash W wp p x F G S lo mo ll s nf nl w h hs hf hl hbf k5).mono (fun e w' q => q.up (by omega) (by omega))
  by_cases k6 : s.kd = 6
  · exact (step_restart W wp p x F G S lo mo ll s nf nl w h hs hf hl hbf k6).mono (fun e w' q => q.up (by omega) (by omega))
  by_cases k7 : s.kd = 7
  · exact (step_lay W wp p x F G S lo mo ll s nf nl w h hs hf hl hbf k7).mono (fun e w' q => q.up (by omega) (by omega))
  exact (step_none W wp p x F G S lo mo ll s nf nl w h hs hf hl (by omega)).mono (fun e w' q => q.up (by omega) (by omega))

def Opn.cells (s : Opn) : List Value := [.int .i64 s.kd, .int .i64 s.nn, .int .i64 s.mm, .slice s.ba s.bn s.bc]
/-- The script. -/
def Opns (W : World) (sa : Option Addr) (n : Nat) (D : Nat → Opn) : Prop := 0 < n → ∃ b off, sa = some ⟨b, off, none⟩ ∧ ∀ i, i < n → (∀ q u, (D i).cells[q]? = some u → W.cell? ⟨b, off + i * 4 + q, none⟩ = some u) ∧ (D i).ok W
theorem fresh_fb (n : Nat) : FB 0 (St.fresh n) := by
  intro x hx
  simp only [St.fresh, List.mem_replicate] at hx
  rw [hx.2]
  exact Nat.le_refl _

set_option maxRecDepth 100000 in
set_option maxHeartbeats 0 in
theorem plays_any (files : Int) (da : Option Addr) (dn dc : Nat) (D : Nat → Opn) (W : World) (hD : Opns W da dn D) (hdn : dn ≤ 9223372036854775807) :
    Calls Tryz.prog 3 #[.int .i64 files, .slice da dn dc] W fun e w' => e = .returned (.bool true) ∧ Below W.heap.size W w' := by
  have HD := hidden hD
  clear hD
  have hbt := and64_3 files
  obtain ⟨z, hz, hz2⟩ : ∃ z : Nat, files % 4 = (z : Int) ∧ z ≤ 3 := ⟨(files % 4).toNat, by omega, by omega⟩
  rw [hz] at hbt
  clear hz
  go_enter Tryz.func3, Tryz.ntmps3
  go_wp2_with fail
  refine (shown_any W).mono ?_
  rintro e w1 ⟨rfl, hb1⟩
  have HL1 : Hid (Lat W w1) := hb1
  clear hb1
  go_wp2_with fail
  refine (bornN (1 + (z : Int)) (by omega) (by omega) w1).mono ?_
  rintro e w2 ⟨wp, p, x, F, G, rfl, hW, hlw, hlF, hlG, hb2⟩
  have HWS : Hid (WS W w2 wp p x F G (St.fresh (1 + (z : Int)).toNat) none none none) := ⟨hW, ⟨rfl, rfl⟩, Nat.le_trans HL1.out.size hlw, fun i hi => Nat.le_trans HL1.out.size (hlF i hi), fun i hi => Nat.le_trans HL1.out.size (hlG i hi), Lat.trans _ _ _ HL1.out hb2⟩
  clear hW hlw hlF hlG hb2 HL1
  go_wp2_with fail
  go_loopw [4, 8, 9] (fun v4 v8 v9 wr => ∃ (i : Nat) (F G : Nat → Prop) (S : St) (lo mo : Option Addr) (ll : Option (Nat × Nat × Lw)), i ≤ 300 ∧ v8 = .int .i64 (i : Int) ∧ WS W wr wp p x F G S lo mo ll ∧ S.falls ≤ 4 * i ∧ FB (3033 * i) S) (fun v4 v8 v9 _ => 300 - (intOf v8).toNat)
  case atStart => exact ⟨0, F, G, St.fresh (1 + (z : Int)).toNat, none, none, none, Nat.zero_le _, rfl, HWS.out, Nat.le_refl _, fresh_fb _⟩
  case round =>
    obtain ⟨i, F1, G1, S1, lo, mo, ll, hi, rfl, hW, hfl, hfb⟩ := hrel
    have HW := hidden hW
    have HFL := hidden hfl
    have HFB := hidden hfb
    clear hW hfl hfb HWS
    by_cases h1 : i < dn
    · have h1' : (i : Int) < (dn : Int) := by omega
      by_cases h2 : i < 300
      · have h2' : (i : Int) < 300 := by omega
        obtain ⟨db, doff, hda, hS⟩ := HD.out (by omega)
        subst hda
        obtain ⟨hcell, hok⟩ := hS i h1
        have hbel := HW.out.bel
        have hc : ∀ q u, (D i).cells[q]? = some u → wr.cell? ⟨db, doff + i * 4 + q, none⟩ = some u := fun q u hu => by
          have h3 := hcell q u hu
          rw [hbel.cell (p := ⟨db, doff + i * 4 + q, none⟩) (World.block_lt_of_cell? W _ h3)]
          exact h3
        have HST := hidden (step_any W wp p x F1 G1 S1 lo mo ll (D i) (4 * i) (3033 * i) wr HW.out hok HFL.out HFB.out (by omega) (by omega))
        clear hS hcell hok hbel
        generalize D i = de at *
        obtain ⟨kd, nn, mm, ba, bn, bc, bs⟩ := de
        have k0 : wr.cell? ⟨db, doff + i * 4, none⟩ = some (.int .i64 kd) := hc 0 _ rfl
        have k1 : wr.cell? ⟨db, doff + i * 4 + 1, none⟩ = some (.int .i64 nn) := hc 1 _ rfl
        have k2 : wr.cell? ⟨db, doff + i * 4 + 2, none⟩ = some (.int .i64 mm) := hc 2 _ rfl
        have k3 : wr.cell? ⟨db, doff + i * 4 + 3, none⟩ = some (.slice ba bn bc) := hc 3 _ rfl
        clear hc
        go_wp2_with fail
        refine HST.out.mono ?_
        rintro e w5 ⟨rfl, F2, G2, S2, lo2, mo2, ll2, hW2, hf2, hb2⟩
        have HW2 := hidden hW2
        have HF2 := hidden hf2
        have HB2 := hidden hb2
        clear hW2 hf2 hb2 k0 k1 k2 k3
        go_wp2_with fail
        refine ⟨⟨i + 1, F2, G2, S2, lo2, mo2, ll2, by omega, congrArg (Value.int .i64) (by omega), HW2.out, by have := HF2.out; omega, HB2.out.up (by omega)⟩, ?_⟩
        show 300 - ((i : Int) + 1).toNat < 300 - (i : Int).toNat
        omega
      · have h2' : ¬ (i : Int) < 300 := by omega
        go_wp2_with fail
        go_ret
        exact ⟨rfl, HW.out.bel⟩
    · have h1' : ¬ (i : Int) < (dn : Int) := by omega
      go_wp2_with fail
      go_ret
      exact ⟨rfl, HW.out.bel⟩

end Go.Proofs.YtnfjhdedcnbdbaaGreat
