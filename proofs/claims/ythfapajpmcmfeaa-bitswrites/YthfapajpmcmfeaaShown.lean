import Derived.Test.YthfapajpmcmfeaaLow
namespace Go.Proofs.Ythfapajpmcmfeaa
open Go.RowKit
set_option linter.unusedVariables false

theorem str_run {w : World} {ad : Option Addr} {n c : Nat} {l : List Int} (h : Sl w ad n l) : (convert 29 9 (.slice ad n c)).run Try.prog w = .ok (.string (strOfNums l)) w :=
  run_string_of 29 5 9 Try.underlying29 Try.underlying5 Try.underlying9 h

set_option maxHeartbeats 4000000 in
theorem shown_any (w : World) : Calls Try.prog 6 #[] w fun e w' => e = .returned (.bool true) ∧ Below w.heap.size w w' := by
  go_enter Try.func6, Try.ntmps6
  go_wp2_with fail
  refine (new_b w w (Below.refl _ _)).mono ?_
  rintro e w0 ⟨rfl, h⟩
  have HH0 := hidden h
  clear h
  obtain ⟨p, hp⟩ : ∃ p, w.heap.size = p := ⟨_, rfl⟩
  rw [hp] at HH0
  have HP := hidden hp
  clear hp
  go_wp2_with fail
  rw [HP.out]
  refine (put_b w w0 p [] 5 3 HH0.out (by decide) (by decide)).mono ?_
  rintro e w1 ⟨rfl, h⟩
  rw [show [] ++ low 5 (cl 3) = [true, false, true] by decide] at h
  have HH1 := hidden h
  clear h HH0
  go_wp2_with fail
  skip
  refine (put_b w w1 p [true, false, true] 1 1 HH1.out (by decide) (by decide)).mono ?_
  rintro e w2 ⟨rfl, h⟩
  rw [show [true, false, true] ++ low 1 (cl 1) = [true, false, true, true] by decide] at h
  have HH2 := hidden h
  clear h HH1
  go_wp2_with fail
  skip
  refine (put_b w w2 p [true, false, true, true] 0 0 HH2.out (by decide) (by decide)).mono ?_
  rintro e w3 ⟨rfl, h⟩
  rw [show [true, false, true, true] ++ low 0 (cl 0) = [true, false, true, true] by decide] at h
  have HH3 := hidden h
  clear h HH2
  go_wp2_with fail
  refine (bytes_b w w3 p [true, false, true, true] HH3.out (by decide)).mono ?_
  rintro e w4 ⟨ad3, c3, R3, rfl, lR, sR, nR, rR, h⟩
  obtain rfl : R3 = [176] := rR.unique (rep_of (R := [176]) (by decide) (by decide)) lR sR.byte (fun n hn => by simp at hn; omega)
  have HH4 := hidden h
  have st3 : (convert 29 9 (.slice ad3 1 c3)).run Try.prog w4 = .ok (.string (ByteArray.mk #[176])) w4 := str_run sR
  clear h HH3 sR nR rR lR
  go_wp2_with fail
  skip
  refine (put_b w w4 p [true, false, true, true] 258 9 HH4.out (by decide) (by decide)).mono ?_
  rintro e w5 ⟨rfl, h⟩
  rw [show [true, false, true, true] ++ low 258 (cl 9) = [true, false, true, true, true, false, false, false, false, false, false, true, false] by decide] at h
  have HH5 := hidden h
  clear h HH4
  go_wp2_with fail
  refine (bytes_b w w5 p [true, false, true, true, true, false, false, false, false, false, false, true, false] HH5.out (by decide)).mono ?_
  rintro e w6 ⟨ad5, c5, R5, rfl, lR, sR, nR, rR, h⟩
  obtain rfl : R5 = [184, 16] := rR.unique (rep_of (R := [184, 16]) (by decide) (by decide)) lR sR.byte (fun n hn => by simp at hn; omega)
  have HH6 := hidden h
  have st5 : (convert 29 9 (.slice ad5 2 c5)).run Try.prog w6 = .ok (.string (ByteArray.mk #[184, 16])) w6 := str_run sR
  clear h HH5 sR nR rR lR
  go_wp2_with fail
  refine (len_b w w6 p [true, false, true, true, true, false, false, false, false, false, false, true, false] HH6.out).mono ?_
  rintro e w' ⟨rfl, hw⟩
  obtain rfl := hw.symm
  clear hw
  go_wp2_with fail
  refine (cut_b w w6 p [true, false, true, true, true, false, false, false, false, false, false, true, false] 4 HH6.out (by decide)).mono ?_
  rintro e w7 ⟨rfl, h⟩
  rw [show List.take (4 : Int).toNat [true, false, true, true, true, false, false, false, false, false, false, true, false] = [true, false, true, true] by decide] at h
  have HH7 := hidden h
  clear h HH6
  go_wp2_with fail
  skip
  refine (put_b w w7 p [true, false, true, true] 255 4 HH7.out (by decide) (by decide)).mono ?_
  rintro e w8 ⟨rfl, h⟩
  rw [show [true, false, true, true] ++ low 255 (cl 4) = [true, false, true, true, true, true, true, true] by decide] at h
  have HH8 := hidden h
  clear h HH7
  go_wp2_with fail
  refine (bytes_b w w8 p [true, false, true, true, true, true, true, true] HH8.out (by decide)).mono ?_
  rintro e w9 ⟨ad8, c8, R8, rfl, lR, sR, nR, rR, h⟩
  obtain rfl : R8 = [191] := rR.unique (rep_of (R := [191]) (by decide) (by decide)) lR sR.byte (fun n hn => by simp at hn; omega)
  have HH9 := hidden h
  have st8 : (convert 29 9 (.slice ad8 1 c8)).run Try.prog w9 = .ok (.string (ByteArray.mk #[191])) w9 := str_run sR
  clear h HH8 sR nR rR lR
  go_wp2_with fail
  have hS : Sl (w9.alloc (.cells #[.int .u8 184, .int .u8 16] 5)) (some ⟨w9.heap.size, 0, none⟩) 2 [184, 16] := sl_lit w9 [184, 16] (fun n hn => by simp at hn; omega) 5 (0, 0) 2 rfl _ rfl _ rfl
  refine (reader_b w _ (some ⟨w9.heap.size, 0, none⟩) 2 2 [184, 16] (HH9.out.bel.alloc HH9.out.bel.size _) hS (by decide) (fun h => by cases h)).mono ?_
  rintro e r0 ⟨q, rfl, h⟩
  have RR0 := hidden h
  clear h hS HH9
  go_wp2_with fail
  refine (get_b w r0 q 0 [184, 16] 3 RR0.out (by decide) (by decide) (by decide) (by decide)).mono ?_
  rintro e r1 ⟨V0, rfl, hV, h⟩
  obtain rfl : V0 = 5 := nm_of hV (by decide) (by decide)
  have RR1 := hidden h
  clear h hV RR0
  go_wp2_with fail
  refine (get_b w r1 q 3 [184, 16] 1 RR1.out (by decide) (by decide) (by decide) (by decide)).mono ?_
  rintro e r2 ⟨V1, rfl, hV, h⟩
  obtain rfl : V1 = 1 := nm_of hV (by decide) (by decide)
  have RR2 := hidden h
  clear h hV RR1
  go_wp2_with fail
  refine (get_b w r2 q 4 [184, 16] 9 RR2.out (by decide) (by decide) (by decide) (by decide)).mono ?_
  rintro e r3 ⟨V2, rfl, hV, h⟩
  obtain rfl : V2 = 258 := nm_of hV (by decide) (by decide)
  have RR3 := hidden h
  clear h hV RR2
  go_wp2_with fail
  refine (left_b w r3 q _ [184, 16] RR3.out (by decide)).mono ?_
  rintro e r4 ⟨rfl, h⟩
  have RR4 := hidden h
  clear h RR3
  go_wp2_with fail
  refine (get_bad_b w r4 q _ [184, 16] 4 RR4.out (by decide) (by decide)).mono ?_
  rintro e r5 ⟨rfl, h⟩
  have HB : Hid (Below w.heap.size w r5) := h.2.2
  clear h RR4
  go_wp2_with fail
  go_ret
  exact ⟨rfl, HB.out⟩

end Go.Proofs.Ythfapajpmcmfeaa
