/-
  Package chunk: putFlips, putFirst.
-/
import Derived.Test.YtcgjmioncbihhaaDoorChD
namespace Go.Proofs.YtcgjmioncbihhaaDoor
open Go.RowKit
set_option linter.unusedVariables false
set_option linter.unusedSimpArgs false

theorem i64_id {x : Int} (h0 : -9223372036854775808 ≤ x) (h1 : x ≤ 9223372036854775807) : IntKind.i64.wrap x = x := by
  simp [IntKind.wrap, IntKind.signed, IntKind.bits]
  omega

set_option maxRecDepth 100000 in
set_option maxHeartbeats 4000000 in
theorem putFlipsP (w : World) (p : Nat) (rb : Option Nat) (L : List Bool) (x : Nat) (h : WS w p rb L) (hG : Gv w) (hx : x < 18446744073709551616) (hL : L.length ≤ 1000000000) :
    Calls Tryd.prog 40 #[rwV p, .int .u64 (x : Int)] w fun e w' => e = .returned (.tuple #[]) ∧ WU w w' p rb (L ++ flB x) := by
  have HW := hidden h
  have HG := hidden hG
  unfold rwV
  clear h hG
  go_enter Tryd.func40, Tryd.ntmps40
  by_cases hx0 : x = 0
  · subst hx0
    go_wp2_with (refine wpList_box_blk rfl 56 (.tmp 0) rfl [.pointer (some ⟨p, 0, none⟩)] rfl ?_; intro w2 B2 bl2 hz2; have HB2 := hidden B2; have c2 := B2.cell 0; simp at c2; have HW2 := hidden (HW.out.chg (Chg.of_below (F := fun _ => False) bl2) (fun _ _ e => e)); have HC2 := hidden (Chg.of_below (F := fpt p rb) bl2); clear B2 bl2 hz2)
    refine ((WU.start HW2.out).put 0 1 (by omega) (by omega)).mono ?_
    rintro e w3 ⟨rfl, h3⟩
    have H3 := hidden (WU.more HC2.out (.inl rfl) h3)
    clear h3
    go_wp2
    refine bodyPost_ret (results_none rfl _ _ _) rfl ?_
    refine ⟨rfl, ?_⟩
    have h6 := H3.out
    rw [low0] at h6
    simpa [flB] using h6
  · have hx0z : ¬ (x : Int) = 0 := by omega
    obtain ⟨s1, s2, s3, s4, s5⟩ := span_lt hx (by omega)
    have SP := hidden (fun wx (hg : Gv wx) => spanP x wx hx (by omega) hg)
    have HFL := hidden (show flB x = [true] ++ low (ahd x) 6 ++ low (siz x - 1) 6 ++ low (x / 2 ^ bhd x) (siz x) by unfold flB; rw [if_neg hx0])
    generalize ahd x = a at *
    generalize siz x = s at *
    generalize bhd x = b at *
    have hz1 : (64 : Int) - (a : Int) - (s : Int) = (b : Int) := by omega
    have hz2 : (s : Int) - 1 = ((s - 1 : Nat) : Int) := by omega
    have hb63 : b ≤ 63 := by omega
    have hdiv : x / 2 ^ b < 18446744073709551616 := Nat.lt_of_le_of_lt (Nat.div_le_self _ _) hx
    go_wp2_with (refine wpList_box_blk rfl 56 (.tmp 0) rfl [.pointer (some ⟨p, 0, none⟩)] rfl ?_; intro w2 B2 bl2 hz2; have HB2 := hidden B2; have c2 := B2.cell 0; simp at c2; have HW2 := hidden (HW.out.chg (Chg.of_below (F := fun _ => False) bl2) (fun _ _ e => e)); have HG2 := hidden (HG.out.later bl2); have HC2 := hidden (Chg.of_below (F := fpt p rb) bl2); clear B2 bl2 hz2)
    have FIN := hidden (fun (w9 : World) (L9 : List Bool) (h9 : WU w2 w9 p rb L9) => WU.more HC2.out (.inl rfl) h9)
    generalize w.heap.size = bx at *
    refine (SP.out w2 HG2.out).mono ?_
    rintro e w3 ⟨rfl, rfl⟩
    go_wp2_with fail
    refine ((WU.start HW2.out).put 1 1 (by omega) (by omega)).mono ?_
    rintro e w4 ⟨rfl, h4⟩
    rw [low1] at h4
    have H4 := hidden h4
    have c4 := (h4.blk HW2.out HB2.out (by decide) (by decide)).cell 0
    simp at c4
    clear h4
    go_wp2_with fail
    refine (H4.out.put a 6 (by omega) (by simp; omega)).mono ?_
    rintro e w5 ⟨rfl, h5⟩
    rw [cl6] at h5
    have H5 := hidden h5
    have c5 := (h5.blk HW2.out HB2.out (by decide) (by decide)).cell 0
    simp at c5
    clear h5
    go_wp2_with fail
    refine (H5.out.put (s - 1) 6 (by omega) (by simp [low]; omega)).mono ?_
    rintro e w6 ⟨rfl, h6⟩
    rw [cl6] at h6
    have H6 := hidden h6
    have c6 := (h6.blk HW2.out HB2.out (by decide) (by decide)).cell 0
    simp at c6
    clear h6
    go_wp2_with fail
    have HL6 : Hid ((L ++ [true] ++ low a 6 ++ low (s - 1) 6).length ≤ 1099511627776) := hidden (by simp [low]; omega)
    have H6w := hidden (fun (wx : World) (hb : Below w6.heap.size w6 wx) => (H6.out.later hb).put (x / 2 ^ b) (s : Int) hdiv HL6.out)
    obtain ⟨c, hc⟩ : ∃ c, 64 - a = c := ⟨_, rfl⟩
    have hw1 : IntKind.i64.wrap (64 - (a : Int)) = (c : Int) := by rw [i64_id (by omega) (by omega)]; omega
    have hw2 : IntKind.i64.wrap ((c : Int) - (s : Int)) = (b : Int) := by rw [i64_id (by omega) (by omega)]; omega
    have hsh : Op.shift .shr .u64 (x : Int) .i64 (b : Int) = pure (.int .u64 ((x / 2 ^ b : Nat) : Int)) := by
      rw [shift_shr .u64 .i64 _ _ (by omega) (by simp [IntKind.bits]; omega), Int.toNat_natCast]
      congr 2
    clear hc hz1 hz2
    go_region_with (refine (H6w.out _ ((Below.refl _ _).drew)).mono ?_; rintro e w7 ⟨rfl, h7⟩)
    all_goals
      have H7 := hidden (FIN.out _ _ h7)
      clear h7
      go_wp2
      go_end0
      refine ⟨rfl, ?_⟩
      have h8 := H7.out
      rw [cl_of s3] at h8
      rw [HFL.out]
      simpa using h8

/-- A sample, as a value. -/
def smV (s : Sm) : Value := .agg #[.int .i64 s.t, .int .u64 (s.v : Int)]

set_option maxRecDepth 100000 in
set_option maxHeartbeats 4000000 in
theorem putFirstP (w : World) (p : Nat) (rb : Option Nat) (L : List Bool) (s : Sm) (h : WS w p rb L) (ht : I64 s.t) (hv : s.v < 18446744073709551616) (hL : L.length ≤ 1000000000) :
    Calls Tryd.prog 37 #[rwV p, smV s] w fun e w' => e = .returned (.tuple #[]) ∧ WU w w' p rb (L ++ fiB s) := by
  have HW := hidden h
  obtain ⟨t, v⟩ := s
  simp only at ht hv
  have hu : IntKind.u64.wrap t = (un t : Int) := by rw [u64w]; unfold un; omega
  have hul := un_lt t
  unfold I64 at ht
  unfold rwV smV
  simp only []
  clear h
  go_enter Tryd.func37, Tryd.ntmps37
  go_wp2_with (first
    | (refine wpList_box_blk rfl 56 (.tmp 0) rfl [.pointer (some ⟨p, 0, none⟩)] rfl ?_; intro w2 B2 bl2 hz2; have HB2 := hidden B2; have HL2 := hidden bl2; clear B2 bl2 hz2)
    | (refine wpList_box_blk rfl 32 (.tmp 1) rfl [.int .i64 t, .int .u64 (v : Int)] rfl ?_; intro w3 B3 bl3 hz3; have HB3 := hidden B3; have HB2' := hidden (HB2.out.later bl3); have HL3 := hidden (HL2.out.trans (bl3.mono HL2.out.size)); clear B3 bl3 hz3; have c2 := HB2'.out.cell 0; have c3 := HB3.out.cell 0; have c4 := HB3.out.cell 1; simp at c2 c3 c4))
  have HW3 := hidden (HW.out.chg (Chg.of_below (F := fun _ => False) HL3.out) (fun _ _ e => e))
  have HC3 := hidden (Chg.of_below (F := fpt p rb) HL3.out)
  have FIN := hidden (fun (w9 : World) (L9 : List Bool) (h9 : WU w3 w9 p rb L9) => WU.more HC3.out (.inl rfl) h9)
  refine ((WU.start HW3.out).put (un t) 64 hul (by omega)).mono ?_
  rintro e w4 ⟨rfl, h4⟩
  rw [cl64] at h4
  have H4 := hidden h4
  have d2 := (h4.blk HW3.out HB2'.out (by decide) (by decide)).cell 0
  have d3 := (h4.blk HW3.out HB3.out (by decide) (by decide)).cell 1
  simp at d2 d3
  clear h4 c2 c3 c4
  go_wp2_with fail
  refine (H4.out.put v 64 hv (by simp [low]; omega)).mono ?_
  rintro e w5 ⟨rfl, h5⟩
  rw [cl64] at h5
  have H5 := hidden (FIN.out _ _ h5)
  clear h5
  go_wp2
  go_end0
  refine ⟨rfl, ?_⟩
  have h8 := H5.out
  simpa [fiB] using h8

end Go.Proofs.YtcgjmioncbihhaaDoor
