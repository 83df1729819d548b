/-
  PostCodes: the walk.
-/
import Derived.Test.YtjpelnbffodaiaaPoW
import Derived.Test.YtjpelnbffodaiaaPoU
import Derived.Deep.CutRange
namespace Go.Proofs.Ytjpelnbffodaiaa
open Go.RowKit
set_option linter.unusedVariables false
set_option linter.unusedSimpArgs false

theorem str_ones (B : List Int) : strOfNums B ++ ({ data := #[1, 1, 1] } : ByteArray) = strOfNums (B ++ [1, 1, 1]) := by
  apply ByteArray.ext
  simp [strOfNums]
theorem set8 (l : List Int) (i : Nat) (x : Int) : (cells8 l).set i (.int .u8 x) = cells8 (l.set i x) := by
  unfold cells8
  rw [← List.map_set]
theorem fill7 {D : List Int} {i : Nat} (h : i < D.length) : (List.replicate i 7 ++ D.drop i).set i 7 = List.replicate (i + 1) 7 ++ D.drop (i + 1) := by
  rw [List.set_append, if_neg (by simp), List.length_replicate, Nat.sub_self, List.drop_eq_getElem_cons h, List.set_cons_zero, List.replicate_succ']
  simp
theorem own_fill {w : World} {B g q i : Nat} {D : List Int} (h : w.ownsRow B 5 1 (.slice (some ⟨g, 0, none⟩) D.length q) D.length (cells8 (List.replicate i 7 ++ D.drop i))) (hlt : i < D.length) (d : Nat) :
    ((w.drewN d).setCell ⟨g, i, none⟩ (.int .u8 7)).ownsRow B 5 1 (.slice (some ⟨g, 0, none⟩) D.length q) D.length (cells8 (List.replicate (i + 1) 7 ++ D.drop (i + 1))) := by
  have hs := (World.ownsRow.stored (w := w.drewN d) h i (.int .u8 7)).1
  rw [set8, fill7 hlt] at hs
  exact hs
theorem own_other {w : World} {B g i n : Nat} {e : TypeId} {v u : Value} {xs : List Value} (h : w.ownsRow B e 1 v n xs) (hne : ∀ g', v.ownBlock = some g' → g ≠ g') (d : Nat) : ((w.drewN d).setCell ⟨g, i, none⟩ u).ownsRow B e 1 v n xs :=
  owns_grown (w := w.drewN d) h grown_set (fun g' hg' e => hne g' hg' (Option.some.inj e))
theorem own_eq {g9 g8 g' n q : Nat} (hg' : (Value.slice (some ⟨g9, 0, none⟩) n q).ownBlock = some g') (e : g8 = g') : g9 = g8 := by
  have h1 : g9 = g' := by simpa [Value.ownBlock] using hg'
  omega
def ones3 : List Int := [1, 1, 1]
theorem ones_byte : Byte ones3 := by intro n hn; simp [ones3] at hn; omega

theorem code_byte {B : List Int} {L : List Nat} (h : Byte B) (k : Wrd L) (hl : L.length ≤ 400) : Byte (if Ris L then B ++ putF L else []) := by
  split
  · exact h.append (putF_byte L k (by omega))
  · intro n hn; simp at hn
theorem code_len (B : List Int) (L : List Nat) {k : Nat} (h : B.length = k) (hk : k ≤ 4000) (hl : L.length ≤ 400) : (if Ris L then B ++ putF L else []).length ≤ 20000 := by
  have := putF_len L
  split
  · rw [List.length_append]; omega
  · simp
theorem code_on (B : List Int) (L : List Nat) (h : 0 < (if Ris L then B ++ putF L else []).length) : decide (Ris L) = true := by
  by_cases hr : Ris L
  · simp [hr]
  · simp [hr] at h
theorem get_wrd (B : List Int) : Wrd ((getF B).getD ([], 0)).1 := by
  cases h : getF B with
  | none => exact Wrd.nil
  | some p => exact (getF_len (l := p.1) (t := p.2) h).2
theorem get_len (B : List Int) : ((getF B).getD ([], 0)).1.length ≤ B.length := by
  cases h : getF B with
  | none => simp
  | some p => exact (getF_len (l := p.1) (t := p.2) h).1

set_option maxRecDepth 100000 in
set_option maxHeartbeats 16000000 in
theorem codes_any (w : World) (ad a2 : Option Addr) (n c m c2 : Nat) (b : List Int) (l : List Nat) (hs : Sl w ad n b) (hno : ad = none → n = 0 ∧ c = 0) (hle : n ≤ c) (hcm : c ≤ maxLen) (ha : Ar w a2 m c2 l) :
    Calls Try.prog 5 #[.slice ad n c, .slice a2 m c2] w fun e w' => e = .returned (.bool true) ∧ Below w.heap.size w w' := by
  obtain ⟨i0, hi0, hz0, hz1, hz2⟩ := info_parts info5
  have hcm' := hcm
  unfold maxLen at hcm'
  have HA := hidden ha.short
  have S2 := hidden (fun wx => shortP wx a2 m c2 ha.le ha.cm)
  clear ha
  have hk2 : min m 400 ≤ 400 := by omega
  generalize l.take 400 = L at *
  obtain ⟨k2, hk2'⟩ : ∃ k, min m 400 = k := ⟨_, rfl⟩
  rw [hk2'] at HA S2 hk2
  clear hk2'
  obtain rfl := HA.out.sw.len
  have HT := hidden (fun k (hk : k ≤ n) => hs.take hk)
  have hbl := hs.len
  have HSB := hidden hs.byte
  have key : (∃ k : Nat, 4000 = k ∧ 4000 < n) ∨ (∃ k : Nat, n = k ∧ ¬ 4000 < n) := by
    by_cases h : 4000 < n
    · exact .inl ⟨_, rfl, h⟩
    · exact .inr ⟨_, rfl, h⟩
  clear hs
  go_enter Try.func5, Try.ntmps5
  go_wp2_with fail
  refine (shownP w).mono ?_
  rintro e w0 ⟨rfl, b0⟩
  have B0 := hidden b0
  clear b0
  go_wp2_with fail
  refine (S2.out w0).mono ?_
  rintro e w' ⟨rfl, rfl⟩
  rcases key with ⟨k, hk, hbig⟩ | ⟨k, hk, hbig⟩
  all_goals
    first | (have hbz : (n : Int) > 4000 := by omega) | (have hbz : ¬ (n : Int) > 4000 := by omega)
    go_upto_region 5 with fail
    try rw [hk]
    have hkn : k ≤ n := by omega
    have hk4 : k ≤ 4000 := by omega
    have HB := hidden ((HT.out k hkn).later B0.out)
    have HNO : Hid (ad = none → k = 0 ∧ c = 0) := hidden (fun e => by have := hno e; omega)
    have HBB := hidden (HSB.out.take k)
    have hBl : (b.take k).length = k := by rw [List.length_take]; omega
    have HBk := hidden (fun (wx : World) (h : Below w'.heap.size w' wx) => HB.out.later h)
    generalize b.take k = B at *
    clear hbz hbig hk HT HB
    have hb0 : Below w'.heap.size w' (w'.alloc (.cells #[] 5)) := (Below.refl _ _).alloc (Nat.le_refl _) _
    go_wp2_with (first
      | (refine wpList_append_sl _ rfl (.tmp 27) (.tmp 28) 41 rfl w'.heap.size 5 i0 _ Try.underlying41 hi0 hz0 hz1 hz2 rfl (.slice (some ⟨w'.heap.size, 0, none⟩) 0 0) 0 [] rfl (own_lit0 w' 5) ad k c B rfl (HBk.out _ hb0) HNO.out (by omega) hb0.size ?_; intro a5 c5 w5 o5 g5; rw [Nat.zero_add, List.nil_append] at o5; have O5 := hidden o5; have B5 := hidden (hb0.trans (grown_below g5 (own_lit0 w' 5) hb0.size)); clear o5 g5)
      | (refine wpList_append_sl _ rfl (.tmp 29) (.tmp 30) 41 rfl w'.heap.size 5 i0 _ Try.underlying41 hi0 hz0 hz1 hz2 rfl (.slice a5 k c5) k B rfl (O5.out.alloc _) _ 3 3 ones3 rfl (sl_lit w5 ones3 ones_byte 5 (0, 0) 3 rfl _ rfl _ rfl) (fun e => absurd e (by simp)) (by omega) (by have := B5.out.size; simp; omega) ?_; intro a6 c6 w6 o6 g6; obtain ⟨gl, rfl, hgl⟩ := owns_at o6 (by omega); obtain ⟨_, hc6, hm6, _⟩ := owns_cap o6; have hm6' := hm6; unfold maxLen at hm6'; have O6 := hidden o6; have B6 := hidden ((allocs B5.out (Nat.le_refl _) _).trans (grown_below g6 (O5.out.alloc _) (by have := B5.out.size; simp; omega))); clear o6 g6))
    have HZ6 := hidden (bt B0.out (Nat.le_refl _) B6.out)
    have SL6 := hidden (sl_of_owns O6.out (HBB.out.append ones_byte))
    clear O5 B5 hb0
    refine (lentP w6 a2 L.length c2 L (HA.out.later HZ6.out) (by omega)).mono ?_
    rintro e w7 ⟨g7, c7, rfl, _, lx, b7⟩
    have SLw := hidden (fun (wx : World) (h : Below w7.heap.size w7 wx) => (SL6.out.later b7).later h)
    have LXw := hidden (fun (wx : World) (h : Below w7.heap.size w7 wx) => lx.later h)
    have HBw := hidden (fun (wx : World) (h : Below w7.heap.size w7 wx) => (HBk.out _ (bt B6.out (Nat.le_refl _) b7)).later h)
    have HAw := hidden (fun (wx : World) (h : Below w7.heap.size w7 wx) => (HA.out.later (bt HZ6.out (Nat.le_refl _) b7)).later h)
    have B7 := hidden (bt HZ6.out (Nat.le_refl _) b7)
    have Z7 := hidden (Below.refl w7.heap.size w7)
    have STw := hidden (fun (wx : World) (h : Below w7.heap.size w7 wx) => by
      have := (SLw.out wx h).take (N := k) (by omega)
      rwa [List.take_append_of_le_length (by omega), List.take_of_length_le (by omega)] at this)
    clear b7 lx B6 HZ6 SL6 O6 HBk B0 HA S2
    have CP := hidden (fun (wx : World) (h : Below w7.heap.size w7 wx) => putP wx (some ⟨gl, 0, none⟩) (some ⟨g7, 0, none⟩) k c6 L.length c7 B L (STw.out _ h) (fun e => absurd e (by simp)) (by omega) (LXw.out _ h).ar (by omega))
    have RP := hidden (fun (wx : World) (h : Below w7.heap.size w7 wx) => putR wx ad a2 k c L.length c2 B L (HBw.out _ h) HNO.out (by omega) (HAw.out _ h).sw (by omega))
    have CG := hidden (fun (wx : World) (h : Below w7.heap.size w7 wx) => getP wx (some ⟨gl, 0, none⟩) k c6 B (STw.out _ h) (by omega) hm6 (by omega))
    have RG := hidden (fun (wx : World) (h : Below w7.heap.size w7 wx) => getR wx ad k c B (HBw.out _ h) (by omega) hcm (by omega))
    have CT := hidden (fun (wx : World) (h : Below w7.heap.size w7 wx) => stillP wx g7 L.length c7 L (LXw.out _ h) a2 c2 (HAw.out _ h).sw (by omega))
    have DB := hidden (code_byte HBB.out (HAw.out _ Z7.out).sw.bd (by omega))
    have DL : (if Ris L then B ++ putF L else []).length ≤ 20000 := code_len B L hBl hk4 hk2
    have DO := hidden (code_on B L)
    have GW := hidden (get_wrd B)
    have GL := get_len B
    rw [hBl] at GL
    generalize (if Ris L then B ++ putF L else []) = D at *
    generalize decide (Ris L) = on at *
    generalize getF B = G at *
    go_wp2_with fail
    refine (CP.out w7 Z7.out).mono ?_
    rintro e w8 ⟨p8, q8, rfl, o8, z8⟩
    have O8 := hidden o8
    have Z8 := hidden z8
    clear o8 z8 Z7
    go_wp2_with fail
    refine (RP.out w8 Z8.out).mono ?_
    rintro e w9 ⟨p9, q9, rfl, o9, z9⟩
    have O9 := hidden o9
    have Y9 := hidden z9
    have Z9 := hidden (bt Z8.out (Nat.le_refl _) z9)
    clear o9 z9
    go_wp2_with fail
    refine (CG.out w9 Z9.out).mono ?_
    rintro e w10 ⟨p10, q10, rfl, o10, z10⟩
    have O10 := hidden o10
    have Y10 := hidden z10
    have Z10 := hidden (bt Z9.out (Nat.le_refl _) z10)
    clear o10 z10
    go_wp2_with fail
    refine (RG.out w10 Z10.out).mono ?_
    rintro e w11 ⟨p11, q11, rfl, o11, z11⟩
    have O11 := hidden o11
    have Y11 := hidden z11
    have Z11 := hidden (bt Z10.out (Nat.le_refl _) z11)
    clear o11 z11
    generalize G.getD ([], 0) = E at *
    obtain ⟨E1, E2⟩ := E
    simp only at GL GW O10 O11 ⊢
    go_wp2_with fail
    refine (CT.out w11 Z11.out).mono ?_
    rintro e w12 ⟨rfl, z12⟩
    have Y12 := hidden z12
    have Z12 := hidden (bt Z11.out (Nat.le_refl _) z12)
    clear z12
    go_wp2_with fail
    refine (sameP w12 p10 p11 E1.length q10 E1.length q11 E1 E1 ((sw_of_owns O10.out GW.out).later (bt Y11.out (Nat.le_refl _) Y12.out)) ((sw_of_owns O11.out GW.out).later Y12.out) (by omega) (by omega)).mono ?_
    rintro e w13 ⟨rfl, z13⟩
    simp only [decide_true]
    have Y13 := hidden (bt (bt Y11.out (Nat.le_refl _) Y12.out) (Nat.le_refl _) z13)
    have Z13 := hidden (bt Z12.out (Nat.le_refl _) z13)
    clear z13
    go_wp2_with fail
    have P10 := hidden (owns_later O10.out Y13.out)
    refine (ownedG w13 p10 E1.length q10 E1 _ P10.out (by omega)).mono ?_
    rintro e w14 ⟨rfl, g14⟩
    have Z14 := hidden (gb Z13.out P10.out (Nat.le_trans Z8.out.size Y9.out.size) g14)
    have O8a := hidden (owns_later O8.out (bt (bt Y9.out (Nat.le_refl _) Y10.out) (Nat.le_refl _) Y13.out))
    have O9a := hidden (owns_later O9.out (bt Y10.out (Nat.le_refl _) Y13.out))
    have O8b := hidden (owns_grown O8a.out g14 (fun g hg e => by have h1 := O8.out.lt g hg; have h2 := O10.out.lt g e; have h3 := Y9.out.size; omega))
    have O9b := hidden (owns_grown O9a.out g14 (fun g hg e => by have h1 := O9.out.lt g hg; have h2 := O10.out.lt g e; omega))
    have APART := hidden (fun g (h1 : (Value.slice p8 D.length q8).ownBlock = some g) (h2 : (Value.slice p9 D.length q9).ownBlock = some g) => show False from by have h3 := O8.out.lt g h1; have h4 := O9.out.lt g h2; omega)
    clear g14 P10 O8a O9a O10 O11 Y9 Y10 Y11 Y12 Y13 Z8 Z9 Z10 Z11 Z12 Z13 CP RP CG RG CT O8 O9
    go_wp2_with fail
    go_loopw [18] (fun s18 wr => ∃ i : Nat, s18 = .int .i64 (i : Int) ∧ i ≤ D.length ∧ Hid (wr.ownsRow w7.heap.size 5 1 (.slice p8 D.length q8) D.length (cells8 (List.replicate i 7 ++ D.drop i))) ∧ Hid (wr.ownsRow w8.heap.size 5 1 (.slice p9 D.length q9) D.length (cells8 D)) ∧ Hid (Below w7.heap.size w7 wr)) (fun s18 _ => D.length - (intOf s18).toNat)
    case atStart => exact ⟨0, rfl, by omega, by simpa using O8b, O9b, Z14⟩
    case round =>
      rename World => wr
      obtain ⟨i, rfl, hi, hown, hown2, hbel⟩ := hrel
      clear O8b O9b Z14
      by_cases hlt : i < D.length
      · have hltz : (i : Int) < (D.length : Int) := by omega
        obtain rfl := DO.out (by omega)
        obtain ⟨g8, rfl, hg8⟩ := owns_at hown.out (by omega)
        obtain ⟨g9, rfl, hg9⟩ := owns_at hown2.out (by omega)
        have hcl := hown.out.cellAt i (by omega)
        have hcl2 := hown2.out.cellAt i (by omega)
        have hfr : wr.frozen? ⟨g8, i, none⟩ = false := own_fr hown.out
        obtain ⟨y, hy⟩ : ∃ y, D[i]? = some y := ⟨_, List.getElem?_eq_getElem hlt⟩
        have e1 : (cells8 (List.replicate i 7 ++ D.drop i))[i]? = some (.int .u8 y) := by
          unfold cells8
          rw [List.getElem?_map, List.getElem?_append_right (by simp), List.length_replicate, Nat.sub_self, List.getElem?_drop, Nat.add_zero, hy]
          rfl
        have e2 : (cells8 D)[i]? = some (.int .u8 y) := by
          unfold cells8
          rw [List.getElem?_map, hy]
          rfl
        rw [e1] at hcl
        rw [e2] at hcl2
        have AP := hidden (fun e : g9 = g8 => APART.out g8 rfl (by rw [e]; rfl))
        clear e1 e2 hy
        go_wp2_with fail
        go_quiet (fail)
        go_wp2
        refine ⟨⟨i + 1, by first | rfl | simp, by omega, hidden (own_fill hown.out hlt _), hidden (own_other hown2.out (fun g' hg' e => AP.out (own_eq hg' e)) _), hidden ((below_drewN hbel.out _).setCell hg8 _)⟩, ?_⟩
        simp [intOf]
        omega
      · have hltz : ¬ (i : Int) < (D.length : Int) := by omega
        have hst1 := run_string_of (P := Try.prog) 41 5 9 Try.underlying41 Try.underlying5 Try.underlying9 (cap := c6) (SLw.out _ hbel.out)
        have hst2 := run_string_of (P := Try.prog) 41 5 9 Try.underlying41 Try.underlying5 Try.underlying9 (cap := c) (HBw.out _ hbel.out)
        have hso := str_ones B
        go_wp2
        all_goals first
          | (exfalso; have hsz := strOfNums_size B; omega)
          | (go_ret; exact ⟨by simp [ones3], bt B7.out (Nat.le_refl _) hbel.out⟩)

end Go.Proofs.Ytjpelnbffodaiaa
