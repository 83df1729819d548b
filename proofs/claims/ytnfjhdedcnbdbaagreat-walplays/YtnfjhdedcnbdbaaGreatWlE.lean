/-
  The small functions of a log.
-/
import Derived.Test.YtnfjhdedcnbdbaaGreatWlS
namespace Go.Proofs.YtnfjhdedcnbdbaaGreat
open Go.RowKit
set_option linter.unusedVariables false
set_option linter.unusedSimpArgs false

theorem St.size_one (S : St) : (0 ≤ S.size 1) = (2 ≤ S.L.length) := by
  unfold St.size
  by_cases h : (0 : Int) ≤ 1 ∧ (1 : Int) < S.L.length
  · rw [if_pos h]
    have h2 : 2 ≤ S.L.length := by omega
    have h3 : ((1 : Int).toNat) < S.L.length := by simp; omega
    rw [List.getElem?_eq_getElem h3]
    simp [h2]
  · rw [if_neg h]
    have h2 : ¬ 2 ≤ S.L.length := by omega
    simp [h2]
theorem St.size_le {dt ft : TypeId} {w : World} {p : Nat} {F : Nat → Prop} {S : St} (h : Dk dt ft w p F S) (f : Int) : -1 ≤ S.size f ∧ S.size f ≤ 16777216 := by
  unfold St.size
  by_cases hf : 0 ≤ f ∧ f < S.L.length
  · rw [if_pos hf]
    obtain ⟨fb, fc, ad, c, x, hx, _, _, _, _, _, ht, _⟩ := h.at f.toNat (by omega)
    rw [hx]
    simp only
    omega
  · rw [if_neg hf]
    omega

set_option maxRecDepth 100000 in
theorem hasFilesP (p : Nat) (F : Nat → Prop) (S : St) (w : World) (h : Dk 64 79 w p F S) : Calls Tryz.prog 40 #[.pointer (some ⟨p, 0, none⟩)] w fun e w' => e = .returned (.bool (decide (2 ≤ S.L.length))) ∧ w' = w := by
  have hh := hidden (sizeP p F S w 1 h)
  have hz := S.size_one
  clear h
  obtain ⟨z, hz2⟩ : ∃ z, S.size 1 = z := ⟨_, rfl⟩
  rw [hz2] at hh hz
  have HZ := hidden hz
  clear hz hz2
  go_enter Tryz.func40, Tryz.ntmps40
  go_wp2_with fail
  refine hh.out.mono ?_
  rintro e w' ⟨rfl, rfl⟩
  go_wp2_with fail
  go_ret
  have e : decide (0 ≤ z) = decide (2 ≤ S.L.length) := by rw [decide_eq_decide, HZ.out]
  refine ⟨?_, rfl⟩
  show Ending.returned (.bool (decide (0 ≤ z))) = _
  rw [e]

set_option maxRecDepth 100000 in
theorem weightP (n : Int) (w : World) (hn : n ≤ 9223372036854775807) : Calls Tryz.prog 18 #[.int .i64 n] w fun e w' => e = .returned (.int .i64 (weight n)) ∧ w' = w := by
  have hq : Hid (weight n = if n < 0 ∨ 4194280 < n then 0 else n + 33) := rfl
  obtain ⟨q, hqq⟩ : ∃ q, weight n = q := ⟨_, rfl⟩
  rw [hqq] at hq ⊢
  clear hqq
  by_cases h0 : n < 0
  · have : q = 0 := by rw [hq.out, if_pos (.inl h0)]
    subst this
    go_enter Tryz.func18, Tryz.ntmps18
    go_wp2_with fail
    go_ret
    exact ⟨rfl, rfl⟩
  · by_cases h1 : 4194280 < n
    · have : q = 0 := by rw [hq.out, if_pos (.inr h1)]
      subst this
      go_enter Tryz.func18, Tryz.ntmps18
      go_wp2_with fail
      go_ret
      exact ⟨rfl, rfl⟩
    · have HE : Hid (sizeN (24 + n) = q) := by
        show _ = _
        rw [hq.out, if_neg (by omega)]
        unfold sizeN
        rw [if_neg (by omega), if_neg (by omega)]
        omega
      have h0' : ¬ n < 0 := h0
      have h1' : ¬ 4194280 < n := h1
      go_enter Tryz.func18, Tryz.ntmps18
      go_wp2_with fail
      refine (size_any (24 + n) w (by omega)).mono ?_
      rintro e w' ⟨rfl, rfl⟩
      rw [HE.out]
      go_wp2_with fail
      go_ret
      exact ⟨rfl, rfl⟩

set_option maxRecDepth 100000 in
theorem fitsUnderP (cap : Int) (ad : Option Addr) (n c : Nat) (w : World) (hn : n ≤ 9223372036854775807) : Calls Tryz.prog 42 #[.int .i64 cap, .slice ad n c] w fun e w' => e = .returned (.bool (fitsU cap n)) ∧ w' = w := by
  have hq : Hid (fitsU cap n = decide (0 < weight n ∧ weight n ≤ cap)) := rfl
  obtain ⟨q, hqq⟩ : ∃ q, fitsU cap n = q := ⟨_, rfl⟩
  rw [hqq] at hq ⊢
  clear hqq
  have hw := hidden (weightP n w (by omega))
  obtain ⟨z, hz⟩ : ∃ z, weight n = z := ⟨_, rfl⟩
  rw [hz] at hq hw
  clear hz
  by_cases h0 : 0 < z
  · by_cases h1 : z ≤ cap
    · have : q = true := by rw [hq.out]; exact decide_eq_true ⟨h0, h1⟩
      subst this
      go_enter Tryz.func42, Tryz.ntmps42
      go_wp2_with fail
      refine hw.out.mono ?_
      rintro e w' ⟨rfl, rfl⟩
      go_wp2_with fail
      go_ret
      exact ⟨rfl, rfl⟩
    · have : q = false := by rw [hq.out]; exact decide_eq_false (fun h => h1 h.2)
      subst this
      have h1' : cap < z := by omega
      go_enter Tryz.func42, Tryz.ntmps42
      go_wp2_with fail
      refine hw.out.mono ?_
      rintro e w' ⟨rfl, rfl⟩
      go_wp2_with fail
      go_ret
      refine ⟨?_, rfl⟩
      simp [h1']
  · have : q = false := by rw [hq.out]; exact decide_eq_false (fun h => h0 h.1)
    subst this
    go_enter Tryz.func42, Tryz.ntmps42
    go_wp2_with fail
    refine hw.out.mono ?_
    rintro e w' ⟨rfl, rfl⟩
    go_wp2_with fail
    go_ret
    exact ⟨rfl, rfl⟩

theorem Lg.head {lt : TypeId} {w : World} {lp p : Nat} {l : Lw} (h : Lg lt w lp p l) : w.cell? ⟨lp, 0, none⟩ = some (.pointer (some ⟨p, 0, none⟩)) ∧ w.cell? ⟨lp, 1, none⟩ = some (.int .i64 (l.falls : Int)) ∧ w.cell? ⟨lp, 2, none⟩ = some (.int .i64 (l.live : Int)) ∧ w.cell? ⟨lp, 3, none⟩ = some (.int .u64 (l.h.g : Int)) ∧ w.cell? ⟨lp, 4, none⟩ = some (.int .i64 (l.h.cap : Int)) ∧ w.cell? ⟨lp, 5, none⟩ = some (.int .i64 (l.h.slots : Int)) :=
  ⟨Blk.cell h 0, Blk.cell h 1, Blk.cell h 2, Blk.cell h 3, Blk.cell h 4, Blk.cell h 5⟩

set_option maxRecDepth 100000 in
theorem capP (lp p : Nat) (l : Lw) (w : World) (h : Lg 73 w lp p l) : Calls Tryz.prog 16 #[.pointer (some ⟨lp, 0, none⟩)] w fun e w' => e = .returned (.int .i64 (l.h.cap : Int)) ∧ w' = w := by
  obtain ⟨c0, c1, c2, c3, c4, c5⟩ := h.head
  clear h
  go_enter Tryz.func16, Tryz.ntmps16
  go_wp2_with fail
  go_ret
  exact ⟨rfl, rfl⟩
set_option maxRecDepth 100000 in
theorem slotsP (lp p : Nat) (l : Lw) (w : World) (h : Lg 73 w lp p l) : Calls Tryz.prog 15 #[.pointer (some ⟨lp, 0, none⟩)] w fun e w' => e = .returned (.int .i64 (l.h.slots : Int)) ∧ w' = w := by
  obtain ⟨c0, c1, c2, c3, c4, c5⟩ := h.head
  clear h
  go_enter Tryz.func15, Tryz.ntmps15
  go_wp2_with fail
  go_ret
  exact ⟨rfl, rfl⟩
set_option maxRecDepth 100000 in
theorem generationP (lp p : Nat) (l : Lw) (w : World) (h : Lg 73 w lp p l) : Calls Tryz.prog 14 #[.pointer (some ⟨lp, 0, none⟩)] w fun e w' => e = .returned (.int .u64 (l.h.g : Int)) ∧ w' = w := by
  obtain ⟨c0, c1, c2, c3, c4, c5⟩ := h.head
  clear h
  go_enter Tryz.func14, Tryz.ntmps14
  go_wp2_with fail
  go_ret
  exact ⟨rfl, rfl⟩
theorem Dk.lat {dt ft : TypeId} {w w' : World} {p : Nat} {F : Nat → Prop} {S : St} (h : Dk dt ft w p F S) (hb : Lat w w') : Dk dt ft w' p F S := h.chg (Chg.of_below (F := fun _ => False) hb) (fun _ _ h => h)
theorem Lg.lat {lt : TypeId} {w w' : World} {lp p : Nat} {l : Lw} (h : Lg lt w lp p l) (hb : Lat w w') : Lg lt w' lp p l := Blk.later h hb
theorem Dks.lat {dt ft : TypeId} {a b c : World} {p : Nat} {F : Nat → Prop} {S : St} (hb : Lat a b) (k : Dks dt ft b c p F S) : Dks dt ft a c p F S := Dks.trans (Chg.of_below hb) (New.refl _ _) k
theorem Dks.same {dt ft : TypeId} {w : World} {p : Nat} {F : Nat → Prop} {S : St} (h : Dk dt ft w p F S) : Dks dt ft w w p F S := ⟨F, h, Chg.refl _ _, New.refl _ _⟩
theorem Lg.out {w : World} {lp p q : Nat} {F : Nat → Prop} {S : St} {l : Lw} (hl : Lg 73 w lp q l) (h : Dk 64 79 w p F S) : ¬ F lp := by
  intro hF
  have ht : Tg w lp 73 := Blk.tg hl
  rcases h.tg lp hF with k | k | k | k
  · exact absurd (k.one ht) (by decide)
  · exact absurd (k.one ht) (by decide)
  · exact absurd (k.one ht) (by decide)
  · exact absurd (k.one ht) (by decide)

set_option maxRecDepth 100000 in
theorem deadP (lp p : Nat) (F : Nat → Prop) (S : St) (l : Lw) (w : World) (h : Dk 64 79 w p F S) (hl : Lg 73 w lp p l) : Calls Tryz.prog 46 #[.pointer (some ⟨lp, 0, none⟩)] w fun e w' => e = .returned (.bool (decide (S.falls ≠ l.falls))) ∧ Lat w w' := by
  have H := hidden h
  have HL := hidden hl
  clear h hl
  by_cases hx : S.falls = l.falls
  · rw [decide_eq_false (fun k => k hx)]
    go_enter Tryz.func46, Tryz.ntmps46
    go_wp2_with fail
    refine dead_r1_eq lp p S.falls l.falls w _ _ (by rfl) (by rfl) (fun w1 hL => (HL.out.lat hL).head.1) (fun w1 hL => (HL.out.lat hL).head.2.1) (fun w1 hL => (fallsP p F S w1 (H.out.lat hL)).mono (fun e w2 h => ⟨h.1, by rw [h.2]; exact Lat.refl _⟩)) (by rw [hx]) ?_
    intros
    rename_i w1 hL
    simp only [Act.put, List.setIfInBounds_toArray, List.set_cons_succ, List.set_cons_zero]
    go_wp2_with fail
    go_ret
    exact ⟨rfl, hL⟩
  · rw [decide_eq_true (show S.falls ≠ l.falls from hx)]
    go_enter Tryz.func46, Tryz.ntmps46
    go_wp2_with fail
    refine dead_r1_ne lp p S.falls l.falls w _ _ (by rfl) (by rfl) (fun w1 hL => (HL.out.lat hL).head.1) (fun w1 hL => (HL.out.lat hL).head.2.1) (fun w1 hL => (fallsP p F S w1 (H.out.lat hL)).mono (fun e w2 h => ⟨h.1, by rw [h.2]; exact Lat.refl _⟩)) (by omega) ?_
    intros
    rename_i w1 hL
    simp only [Act.put, List.setIfInBounds_toArray, List.set_cons_succ, List.set_cons_zero]
    go_wp2_with fail
    go_ret
    exact ⟨rfl, hL⟩

set_option maxRecDepth 100000 in
theorem bytesP (lp p : Nat) (F : Nat → Prop) (S : St) (l : Lw) (w : World) (h : Dk 64 79 w p F S) (hl : Lg 73 w lp p l) : Calls Tryz.prog 10 #[.pointer (some ⟨lp, 0, none⟩)] w fun e w' => e = .returned (.int .i64 (S.bytes l)) ∧ Lat w w' := by
  have H := hidden h
  have HL := hidden hl
  have HD := hidden (deadP lp p F S l w h hl)
  clear h hl
  have hq : Hid (S.bytes l = if S.falls = l.falls then S.size l.live else 0) := rfl
  obtain ⟨q, hqq⟩ : ∃ q, S.bytes l = q := ⟨_, rfl⟩
  rw [hqq] at hq ⊢
  clear hqq
  by_cases hx : S.falls = l.falls
  · rw [if_pos hx] at hq
    rw [decide_eq_false (fun k => k hx)] at HD
    go_enter Tryz.func10, Tryz.ntmps10
    go_wp2_with fail
    refine HD.out.mono ?_
    rintro e w1 ⟨rfl, hL1⟩
    have HL1 := hidden hL1
    clear hL1
    go_wp2_with fail
    refine bytes_r3 lp p l.live q w1 _ _ (by rfl) (by rfl) (fun w2 hL => (HL.out.lat (Lat.trans _ _ _ HL1.out hL)).head.1) (fun w2 hL => (HL.out.lat (Lat.trans _ _ _ HL1.out hL)).head.2.2.1) (fun w2 hL => (sizeP p F S w2 l.live (H.out.lat (Lat.trans _ _ _ HL1.out hL))).mono (fun e w2 h => ⟨by rw [hq.out]; exact h.1, by rw [h.2]; exact Lat.refl _⟩)) ?_
    intros
    rename_i w2 hL
    simp only [Act.put, List.setIfInBounds_toArray, List.set_cons_succ, List.set_cons_zero]
    go_wp2_with fail
    go_ret
    exact ⟨rfl, Lat.trans _ _ _ HL1.out hL⟩
  · rw [if_neg hx] at hq
    rw [decide_eq_true (show S.falls ≠ l.falls from hx)] at HD
    have : q = 0 := hq.out
    subst this
    go_enter Tryz.func10, Tryz.ntmps10
    go_wp2_with fail
    refine HD.out.mono ?_
    rintro e w1 ⟨rfl, hL1⟩
    have HL1 := hidden hL1
    clear hL1
    go_wp2_with fail
    go_ret
    exact ⟨rfl, HL1.out⟩

theorem sizeN_bounds (n : Int) : 0 ≤ sizeN n ∧ sizeN n ≤ 4194313 := by
  unfold sizeN
  split
  · omega
  · split <;> omega
theorem bytes_bounds {dt ft : TypeId} {w : World} {p : Nat} {F : Nat → Prop} {S : St} (h : Dk dt ft w p F S) (l : Lw) : -1 ≤ S.bytes l ∧ S.bytes l ≤ 16777216 := by
  unfold St.bytes
  split
  · exact St.size_le h _
  · omega
theorem fits_eq (S : St) (l : Lw) (n : Int) : S.fits l n = decide (0 < sizeN n ∧ S.bytes l + sizeN n ≤ l.h.cap) := by
  unfold St.fits
  rw [decide_eq_decide]
  unfold sizeN
  by_cases h0 : n < 0
  · rw [if_pos h0]; omega
  · rw [if_neg h0]
    by_cases h1 : 4194304 < n
    · rw [if_pos h1]; omega
    · rw [if_neg h1]; omega

set_option maxRecDepth 100000 in
theorem fitsP (lp p : Nat) (F : Nat → Prop) (S : St) (l : Lw) (n : Int) (w : World) (h : Dk 64 79 w p F S) (hl : Lg 73 w lp p l) (hn : n ≤ 9223372036854775807) : Calls Tryz.prog 12 #[.pointer (some ⟨lp, 0, none⟩), .int .i64 n] w fun e w' => e = .returned (.bool (S.fits l n)) ∧ Lat w w' := by
  have HL := hidden hl
  have HB : Hid (∀ w1, Lat w w1 → Calls Tryz.prog 10 #[.pointer (some ⟨lp, 0, none⟩)] w1 fun e w' => e = .returned (.int .i64 (S.bytes l)) ∧ Lat w1 w') := fun w1 hL => bytesP lp p F S l w1 (h.lat hL) (hl.lat hL)
  have hbb := bytes_bounds h l
  have hzz := sizeN_bounds n
  have HS := hidden (size_any n w hn)
  rw [fits_eq]
  clear h hl
  generalize S.bytes l = y at *
  generalize sizeN n = z at *
  by_cases h0 : 0 < z
  · by_cases h1 : y + z ≤ l.h.cap
    · rw [decide_eq_true ⟨h0, h1⟩]
      go_enter Tryz.func12, Tryz.ntmps12
      go_wp2_with fail
      refine HS.out.mono ?_
      rintro e w1 ⟨rfl, rfl⟩
      go_wp2_with fail
      refine fits_r2_le lp y z l.h.cap w1 _ _ (by rfl) (by rfl) (by rfl) h0 HB.out (wrapI _ (by omega) (by omega)) (fun w2 hL => (HL.out.lat hL).head.2.2.2.2.1) (by omega) ?_
      intros
      rename_i w2 hL
      simp only [Act.put, List.setIfInBounds_toArray, List.set_cons_succ, List.set_cons_zero]
      go_wp2_with fail
      go_ret
      exact ⟨rfl, hL⟩
    · rw [decide_eq_false (fun h => h1 h.2)]
      go_enter Tryz.func12, Tryz.ntmps12
      go_wp2_with fail
      refine HS.out.mono ?_
      rintro e w1 ⟨rfl, rfl⟩
      go_wp2_with fail
      refine fits_r2_gt lp y z l.h.cap w1 _ _ (by rfl) (by rfl) (by rfl) h0 HB.out (wrapI _ (by omega) (by omega)) (fun w2 hL => (HL.out.lat hL).head.2.2.2.2.1) (by omega) ?_
      intros
      rename_i w2 hL
      simp only [Act.put, List.setIfInBounds_toArray, List.set_cons_succ, List.set_cons_zero]
      go_wp2_with fail
      go_ret
      exact ⟨rfl, hL⟩
  · rw [decide_eq_false (fun h => h0 h.1)]
    go_enter Tryz.func12, Tryz.ntmps12
    go_wp2_with fail
    refine HS.out.mono ?_
    rintro e w1 ⟨rfl, rfl⟩
    go_wp2_with fail
    refine fits_r2_no lp y z l.h.cap w1 _ _ (by rfl) (by rfl) (by rfl) (by omega) ?_
    intros
    rename_i w2 hL
    simp only [Act.put, List.setIfInBounds_toArray, List.set_cons_succ, List.set_cons_zero]
    go_wp2_with fail
    go_ret
    exact ⟨rfl, hL⟩

theorem append_ok {S : St} {f : Int} {b : List Int} (h : (S.append f b).1 = 0) : (S.append f b).2.falls = S.falls := by
  unfold St.append at h ⊢
  split at h <;> rename_i h1
  · exact absurd h h1
  · rw [if_neg h1]
    cases hx : S.L[f.toNat]? with
    | none => rfl
    | some x =>
      rw [hx] at h
      simp only at h ⊢
      split at h <;> rename_i h2
      · cases h
      · rw [if_neg h2]
        exact (op_ok h).2.1


end Go.Proofs.YtnfjhdedcnbdbaaGreat
