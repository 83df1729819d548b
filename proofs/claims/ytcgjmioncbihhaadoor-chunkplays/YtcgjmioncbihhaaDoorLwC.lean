/-
  The statements' own shown.
-/
import Derived.Test.YtcgjmioncbihhaaDoorLwB
import Derived.Laws.StructEq
namespace Go.Proofs.YtcgjmioncbihhaaDoor
open Go.RowKit
set_option linter.unusedVariables false
set_option linter.unusedSimpArgs false

set_option maxRecDepth 100000 in
set_option maxHeartbeats 16000000 in
theorem shownP (w : World) (hG : Gv w) (hlo : 2 ≤ w.heap.size) :
    Calls Tryd.prog 6 #[] w fun e w' => e = .returned (.bool true) ∧ Below w.heap.size w w' := by
  have HG := hidden hG
  clear hG
  obtain ⟨oA, oB, oC, oD, oE⟩ := okA
  have HO := hidden (⟨oA, oB, oC, oD, oE⟩ : OkS sA ∧ OkS sB ∧ OkS sC ∧ OkS sD ∧ OkS sE)
  clear oA oB oC oD oE
  go_enter Tryd.func6, Tryd.ntmps6
  go_wp2_with fail
  refine (cnew_b w w 128 (by unfold I64; omega) hlo (Below.refl _ _)).mono ?_
  rintro e w1 ⟨c, p, rfl, h1, _⟩
  have H1 := hidden h1
  clear h1
  go_wp2_with fail
  refine (capp_b w w1 c p 128 ([]) sA H1.out HG.out HO.out.1 (by simp)).mono ?_
  rintro e w2 ⟨rfl, h2⟩
  rw [if_pos enc1] at h2
  rw [decide_eq_true enc1]
  have H2 := hidden h2
  clear h2
  go_wp2_with fail
  refine (capp_b w w2 c p 128 ([] ++ [sA]) sB H2.out HG.out HO.out.2.1 (by simp)).mono ?_
  rintro e w3 ⟨rfl, h3⟩
  rw [if_pos enc2] at h3
  rw [decide_eq_true enc2]
  have H3 := hidden h3
  clear h3
  go_wp2_with fail
  refine (capp_b w w3 c p 128 ([] ++ [sA] ++ [sB]) sC H3.out HG.out HO.out.2.2.1 (by simp)).mono ?_
  rintro e w4 ⟨rfl, h4⟩
  rw [if_pos enc3] at h4
  rw [decide_eq_true enc3]
  have H4 := hidden h4
  clear h4
  go_wp2_with fail
  refine (capp_b w w4 c p 128 ([] ++ [sA] ++ [sB] ++ [sC]) sD H4.out HG.out HO.out.2.2.2.1 (by simp)).mono ?_
  rintro e w5 ⟨rfl, h5⟩
  rw [if_pos enc4] at h5
  rw [decide_eq_true enc4]
  have H5 := hidden h5
  clear h5
  have HL4 : Hid (([] ++ [sA] ++ [sB] ++ [sC] ++ [sD]).length = 4) := hidden rfl
  go_wp2_with fail
  refine (cbytes_b w w5 c p 128 ([] ++ [sA] ++ [sB] ++ [sC] ++ [sD]) H5.out (by simp)).mono ?_
  rw [enc7]
  rintro e w6 ⟨ad6, c6, rfl, o6, b6⟩
  have O6 := hidden o6
  have H6 := hidden (H5.out.later b6)
  have hb6 : Byte shB := by intro x hx; simp [shB] at hx; omega
  have HCAP := hidden (owns_cap o6)
  clear o6 b6
  go_wp2_with fail
  refine (readP w6 ad6 shB.length c6 shB (sl_of_owns O6.out hb6) (HG.out.later H6.out.bel) (by decide) HCAP.out.2.1 (by have := HCAP.out.2.2.1; unfold maxLen at this; omega) HCAP.out.2.2.2 (by have := H6.out.bel.size; omega)).mono ?_
  rintro e w7 ⟨ad7, c7, l7, ec7, rfl, o7, k7, b7, h7⟩
  have hl7 : l7 = [sA, sB, sC, sD] ∧ ec7 = 0 := by
    rcases h7 with ⟨h, e⟩ | ⟨h, _⟩
    · rw [rd4] at h; exact ⟨(Option.some.inj h).symm, e⟩
    · rw [rd4] at h; exact absurd h (by simp)
  obtain ⟨rfl, rfl⟩ := hl7
  have O7 := hidden o7
  have H7 := hidden (H6.out.later b7)
  have K7 := hidden k7
  clear o7 b7 k7 h7
  simp only [List.length_cons, List.length_nil] at O7 ⊢
  go_wp2_with fail
  refine (cnew_b w7 w7 17 (by unfold I64; omega) (by have := H7.out.bel.size; omega) (Below.refl _ _)).mono ?_
  rintro e w8 ⟨f, q, rfl, h8, _⟩
  have H8 := hidden h8
  have HG7 := hidden (HG.out.later H7.out.bel)
  clear h8
  go_wp2_with fail
  refine (capp_b w7 w8 f q 17 [] sE H8.out HG7.out HO.out.2.2.2.2 (by simp)).mono ?_
  rintro e w9 ⟨rfl, h9⟩
  rw [if_pos enc5] at h9
  rw [decide_eq_true enc5]
  have H9 := hidden h9
  clear h9
  go_wp2_with fail
  refine (capp_b w7 w9 f q 17 ([] ++ [sE]) sE H9.out HG7.out HO.out.2.2.2.2 (by simp)).mono ?_
  rintro e w10 ⟨rfl, h10⟩
  rw [if_neg enc6] at h10
  rw [decide_eq_false enc6]
  have H10 := hidden h10
  clear h10
  have C10 := hidden (H7.out.later H10.out.bel)
  have O10 := hidden (owl O7.out H10.out.bel)
  go_wp2_with fail
  have bl0 : Below w10.heap.size w10 (w10.alloc (.cells #[.int .u8 0] 5)) := (Below.refl _ _).alloc (Nat.le_refl _) _
  have HZ := hidden (sl_lit w10 [0] (by intro x hx; simp at hx; omega) 5 (0, 0) 1 rfl #[.int .u8 0] rfl _ rfl)
  refine (readP _ (some ⟨w10.heap.size, 0, none⟩) 1 1 [0] HZ.out ((HG7.out.later H10.out.bel).later bl0) (by omega) (by omega) (by omega) (by intro e; cases e) (by have := H10.out.bel.size; have := H7.out.bel.size; simp; omega)).mono ?_
  rintro e w11 ⟨ad11, c11, l11, ec11, rfl, o11, k11, b11, h11⟩
  have hl11 : l11 = [] ∧ ec11 = 100 := by
    rcases h11 with ⟨h, e⟩ | ⟨_, h⟩
    · rw [rd0] at h; exact absurd h (by simp)
    · exact h
  obtain ⟨rfl, rfl⟩ := hl11
  have B11 := hidden (bl0.trans (b11.mono bl0.size))
  have C11 := hidden (C10.out.later B11.out)
  have O11 := hidden (owl O10.out B11.out)
  have F11 := hidden (H10.out.later B11.out)
  clear o11 k11 b11 h11 bl0
  go_wp2_with fail
  refine (clen_b w w11 c p 128 ([] ++ [sA] ++ [sB] ++ [sC] ++ [sD]) C11.out).mono ?_
  rintro e w12 ⟨rfl, rfl⟩
  rw [HL4.out]
  go_wp2_with fail
  refine (cbytes_b w w12 c p 128 ([] ++ [sA] ++ [sB] ++ [sC] ++ [sD]) C11.out (by simp)).mono ?_
  rw [enc7]
  rintro e w13 ⟨ad13, c13, rfl, o13, b13⟩
  have hstr : (convert 38 9 (.slice ad13 shB.length c13)).run Tryd.prog w13 = .ok (.string (strOfNums shB)) w13 := run_string_of (P := Tryd.prog) 38 5 9 Tryd.underlying38 Tryd.underlying5 Tryd.underlying9 (cap := c13) (sl_of_owns o13 hb6)
  have hE : strOfNums shB = { data := #[4, 0, 0, 0, 0, 0, 0, 3, 232, 0, 0, 0, 0, 0, 0, 0, 5, 158, 7, 240, 32] } := by rfl
  rw [hE] at hstr
  have O13 := owl O11.out b13
  have F13 := hidden (F11.out.later b13)
  have B13 := hidden ((C11.out.later b13).bel)
  obtain ⟨b7, o7, x7, e7, hb7, hx7, _, d0, d1, _⟩ := (ss_of_owns O13 K7.out).get (i := 3) (by simp)
  simp at hx7
  subst hx7 e7
  have d0' : w13.cell? ⟨b7, o7 + 6, none⟩ = some (.int .i64 1180) := d0
  have d1' : w13.cell? ⟨b7, o7 + 6 + 1, none⟩ = some (.int .u64 4) := d1
  clear d0 d1 o13 b13 O13
  generalize shB.length = nn at *
  go_wp2_with (first
    | (refine wpList_build_to rfl 32 #[(0, .const (.int .i64 1180)), (1, .const (.int .u64 4))] rfl [(0, .int .i64 1180), (1, .int .u64 4)] #[.int .i64 1180, .int .u64 4] rfl (built32 _ _ _ _ rfl rfl) ?_)
    | fail)
  refine (clen_b w7 w13 f q 17 ([] ++ [sE]) F13.out).mono ?_
  rintro e w14 ⟨rfl, rfl⟩
  rw [show (([] ++ [sE] : List Sm).length) = 1 from rfl]
  go_wp2
  go_ret
  exact ⟨rfl, B13.out⟩

end Go.Proofs.YtcgjmioncbihhaaDoor
