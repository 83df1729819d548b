/-
  slices.Sort over []uint32.
-/
import Derived.Test.YtjpelnbffodaiaaSoI
import Derived.Test.YtjpelnbffodaiaaPoG
namespace Go.Proofs.Ytjpelnbffodaiaa
open Go.RowKit
set_option linter.unusedVariables false
set_option linter.unusedSimpArgs false

theorem insertion0 (w : World) (ad : Option Addr) (c : Nat) : Calls Try.prog 55 #[.slice ad 0 c, .int .i64 0, .int .i64 0] w fun e w' => e = .returned (.tuple #[]) ∧ w' = w := by
  go_enter Try.func55, Try.ntmps55
  go_wp2_with fail
  go_loopw [6] (fun s6 wx => s6 = .int .i64 1 ∧ wx = w) (fun _ _ => 0)
  case atStart => exact ⟨rfl, rfl⟩
  case round =>
    obtain ⟨rfl, hw⟩ := hrel
    obtain rfl := hw.symm
    clear hw
    go_wp2_with fail
    go_end0
    exact ⟨rfl, rfl⟩
theorem pdq0 (w : World) (ad : Option Addr) (c : Nat) (lim : Int) : Calls Try.prog 51 #[.slice ad 0 c, .int .i64 0, .int .i64 0, .int .i64 lim] w fun e w' => e = .returned (.tuple #[]) ∧ w' = w := by
  go_enter Try.func51, Try.ntmps51
  go_wp2_with fail
  go_loopw [1, 2, 3, 8, 9] (fun s1 s2 s3 s8 s9 wx => s1 = .int .i64 0 ∧ s2 = .int .i64 0 ∧ wx = w) (fun _ _ _ _ _ _ => 0)
  case atStart => exact ⟨rfl, rfl, rfl⟩
  case round =>
    obtain ⟨rfl, rfl, hw⟩ := hrel
    obtain rfl := hw.symm
    clear hw
    go_wp2_with fail
    refine (insertion0 w ad c).mono ?_
    rintro e w1 ⟨rfl, hw⟩
    obtain rfl := hw.symm
    clear hw
    go_wp2_with fail
    first | go_end0 | (refine bodyPost_ret (res51 _ _) rfl ?_)
    exact ⟨rfl, rfl⟩
/-- The row is sorted: its numbers, rising (not strictly), and no others. -/
theorem sortP (w : World) (base : Nat) (ad : Option Addr) (n c : Nat) (l : List Nat) (h : w.ownsRow base 23 1 (.slice ad n c) n (cells32 l)) (hn9 : n ≤ 1000000000) :
    Calls Try.prog 39 #[.slice ad n c] w fun e w' => e = .returned (.tuple #[]) ∧ ∃ l', w'.ownsRow base 23 1 (.slice ad n c) n (cells32 l') ∧ l'.Perm l ∧ l'.Pairwise (· ≤ ·) ∧ (base ≤ w.heap.size → Below base w w') := by
  have hl : l.length = n := own_len h
  rcases Nat.eq_zero_or_pos n with rfl | hpos
  · obtain rfl : l = [] := List.eq_nil_of_length_eq_zero hl
    have HO := hidden h
    clear h
    go_enter Try.func39, Try.ntmps39
    go_wp2_with fail
    refine (lenP 0 w (by omega)).mono ?_
    rintro e w1 ⟨r, rfl, _, _, hw⟩
    obtain rfl := hw.symm
    clear hw
    go_wp2_with fail
    refine (pdq0 w ad c (r : Int)).mono ?_
    rintro e w1 ⟨rfl, hw⟩
    obtain rfl := hw.symm
    clear hw
    go_wp2_with fail
    go_end0
    exact ⟨rfl, [], HO.out, List.Perm.refl _, List.Pairwise.nil, fun _ => Below.refl _ _⟩
  · rcases h.2 with ⟨_, h0⟩ | ⟨g, cap, cur, hv, hb, hh, hnc, hcm, hs, ht⟩
    · omega
    · injection hv with q1 q2 q3
      subst q1 q3
      obtain ⟨tl, htl⟩ : ∃ tl, cur.toList.drop n = tl := ⟨_, rfl⟩
      have hcur : cur.toList = cells32 l ++ tl := by
        rw [← ht, ← htl, Nat.mul_one, List.take_append_drop]
      have hDT : DT w g tl l.toArray := by
        unfold DT Blk
        rw [hh]
        congr 2
        rw [← Array.toList_inj] 
        simpa using hcur
      have HD := hidden hDT
      have HC := hidden (And.intro hs (And.intro hcm hb))
      have HTL := hidden (And.intro hcur (And.intro ht hh))
      clear h hDT hh ht hcur htl hs hcm
      go_enter Try.func39, Try.ntmps39
      go_wp2_with fail
      refine (lenP n w (by omega)).mono ?_
      rintro e w1 ⟨r, rfl, _, hr9, hw⟩
      obtain rfl := hw.symm
      clear hw
      go_wp2_with fail
      refine (pdqP n w g n c tl l.toArray 0 n r HD.out (by simpa using hl) (by omega) (by omega) (Nat.le_refl _) (.inl rfl) hn9 hnc (by omega)).mono ?_
      rintro e w2 ⟨rfl, e2, hD2, hp2, hs2, hO2⟩
      have H2 := hidden (And.intro hD2 (And.intro hp2 (And.intro hs2 hO2)))
      clear hD2 hp2 hs2 hO2
      go_wp2_with fail
      go_end0
      obtain ⟨hD2, hp2, hs2, hO2⟩ := H2.out
      obtain ⟨hcs, hcm, hbg⟩ := HC.out
      obtain ⟨hcur, ht, hh⟩ := HTL.out
      have he2 : e2.size = n := by rw [hp2.1]; simpa using hl
      have hcl : cur.size = n + tl.length := by
        have := congrArg List.length hcur
        simpa [cells32_length, hl] using this
      refine ⟨rfl, e2.toList, ⟨by simp [cells32_length, he2], .inr ⟨g, c, (cells32 e2.toList ++ tl).toArray, rfl, hbg, hD2, hnc, hcm, ?_, ?_⟩⟩, ?_, ?_, fun hB => hO2.below hbg hB⟩
      · simp [cells32_length, he2]
        omega
      · simp [cells32_length, he2]
      · have h9 := hp2.2.2
        rw [show e2.extract 0 n = e2 by rw [← he2]; exact Array.extract_size, show l.toArray.extract 0 n = l.toArray by rw [show n = l.toArray.size by simpa using hl.symm]; exact Array.extract_size] at h9
        simpa using h9
      · rw [List.pairwise_iff_getElem]
        intro i j hi hj hij
        have h9 := hs2 i j (Nat.zero_le _) hij (by rw [← he2]; simpa using hj)
        rw [Array.length_toList] at hi hj
        simp only [ltN, decide_eq_false_iff_not] at h9
        rw [getElem!_pos e2 i hi, getElem!_pos e2 j hj] at h9
        simp only [Array.getElem_toList]
        omega
end Go.Proofs.Ytjpelnbffodaiaa
