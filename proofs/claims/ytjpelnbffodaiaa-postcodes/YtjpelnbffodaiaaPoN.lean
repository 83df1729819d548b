/-
  PostAlgebra: the walk.
-/
import Derived.Test.YtjpelnbffodaiaaPoM
namespace Go.Proofs.Ytjpelnbffodaiaa
open Go.RowKit
set_option linter.unusedVariables false
set_option linter.unusedSimpArgs false

theorem Ar.short {w : World} {ad : Option Addr} {n c : Nat} {l : List Nat} (h : Ar w ad n c l) : Ar w ad (min n 400) c (l.take 400) := by
  have h1 := h.sw.take (N := min n 400) (by omega)
  have e : l.take (min n 400) = l.take 400 := by
    rcases Nat.le_total n 400 with hn | hn
    · rw [Nat.min_eq_left hn, List.take_of_length_le (by rw [h.sw.len]; exact Nat.le_refl _), List.take_of_length_le (by rw [h.sw.len]; exact hn)]
    · rw [Nat.min_eq_right hn]
  rw [e] at h1
  exact ⟨h1, fun e => by have := h.no e; omega, by have := h.le; omega, h.cm⟩

theorem five_byte {P : List Int} (h : Byte P) : Byte ((5 : Int) :: P) := fun n hn => by
  rcases List.mem_cons.1 hn with rfl | hn
  · omega
  · exact h n hn
theorem encL_byte : ∀ (l : List Nat) (k : Nat), (∀ n ∈ l, n ≤ 4294967295) → Byte (encL k l)
  | [], _, _ => fun n hn => absurd hn (by simp [encL])
  | n :: t, k, h => (enc_byte (n - k) (by have := h n (by simp); omega)).append (encL_byte t (n + 1) (fun m hm => h m (by simp [hm])))
theorem putF_byte (l : List Nat) (h : ∀ n ∈ l, n ≤ 4294967295) (hl : l.length < 18446744073709551616) : Byte (putF l) := (enc_byte l.length hl).append (encL_byte l 0 h)

set_option maxRecDepth 100000 in
set_option maxHeartbeats 16000000 in
theorem algebra_any (w : World) (a1 a2 : Option Addr) (n1 c1 n2 c2 x : Nat) (A B : List Nat) (h1 : Ar w a1 n1 c1 A) (h2 : Ar w a2 n2 c2 B) (hx : x ≤ 4294967295) :
    Calls Try.prog 6 #[.slice a1 n1 c1, .slice a2 n2 c2, .int .u32 (x : Int)] w fun e w' => e = .returned (.bool true) ∧ Below w.heap.size w w' := by
  have H1 := hidden h1.short
  have H2 := hidden h2.short
  have S1 := hidden (fun wx => shortP wx a1 n1 c1 h1.le h1.cm)
  have S2 := hidden (fun wx => shortP wx a2 n2 c2 h2.le h2.cm)
  clear h1 h2
  have hk1 : min n1 400 ≤ 400 := by omega
  have hk2 : min n2 400 ≤ 400 := by omega
  generalize A.take 400 = A at *
  generalize B.take 400 = B at *
  obtain ⟨k1, hk1'⟩ : ∃ k, min n1 400 = k := ⟨_, rfl⟩
  obtain ⟨k2, hk2'⟩ : ∃ k, min n2 400 = k := ⟨_, rfl⟩
  rw [hk1'] at H1 S1 hk1
  rw [hk2'] at H2 S2 hk2
  clear hk1' hk2'
  go_enter Try.func6, Try.ntmps6
  go_wp2_with fail
  refine (shownP w).mono ?_
  rintro e w0 ⟨rfl, b0⟩
  have B0 := hidden b0
  clear b0
  go_wp2_with fail
  refine (S1.out w0).mono ?_
  rintro e w' ⟨rfl, rfl⟩
  go_wp2_with fail
  refine (S2.out w').mono ?_
  rintro e w1 ⟨rfl, rfl⟩
  go_wp2_with fail
  refine (risesR w1 a1 k1 c1 A (H1.out.later B0.out).sw (by omega)).mono ?_
  rintro e w2 ⟨rfl, b2⟩
  have B2 := hidden (bt B0.out (Nat.le_refl _) b2)
  clear b2 B0
  go_wp2_with fail
  refine (risesR w2 a2 k2 c2 B (H2.out.later B2.out).sw (by omega)).mono ?_
  rintro e w3 ⟨rfl, b3⟩
  have B3 := hidden (bt B2.out (Nat.le_refl _) b3)
  clear b3 B2
  by_cases hr1 : Ris A
  case neg =>
    simp only [hr1, decide_false]
    go_wp2
    go_ret
    exact ⟨by simp, B3.out⟩
  simp only [hr1, decide_true]
  by_cases hr2 : Ris B
  case neg =>
    simp only [hr2, decide_false]
    go_wp2
    go_ret
    exact ⟨by simp, B3.out⟩
  simp only [hr2, decide_true]
  have R1 := hidden hr1
  have R2 := hidden hr2
  have W1 := hidden H1.out.sw.bd
  have W2 := hidden H2.out.sw.bd
  obtain rfl := H1.out.sw.len
  obtain rfl := H2.out.sw.len
  have H1w := hidden (fun (wx : World) (h : Below w.heap.size w wx) => H1.out.later h)
  have H2w := hidden (fun (wx : World) (h : Below w.heap.size w wx) => H2.out.later h)
  clear H1 H2 S1 S2 hr1 hr2
  go_wp2_with fail
  refine (andP w3 a1 a2 A.length c1 B.length c2 A B (H1w.out _ B3.out) (H2w.out _ B3.out) (by omega) (by omega)).mono ?_
  rintro e w4 ⟨ax, cx, rfl, ox, b4⟩
  have LX := len_and A B
  have WX := hidden (wrd_and W1.out W2.out)
  have B4 := hidden (bt B3.out (Nat.le_refl _) b4)
  have A2 := hidden (alg2 R1.out R2.out)
  have A1 := hidden (alg1 R1.out R2.out)
  have A4 := hidden (alg4 R1.out R2.out)
  have RX := hidden (andF_ris A B)
  generalize andF A B = X at *
  have OX := hidden (fun (wx : World) (h : Below w4.heap.size w4 wx) => (ar_owns ox WX.out).later h)
  have X4 := hidden (Below.refl w4.heap.size w4)
  clear ox b4 B3
  go_wp2_with fail
  refine (notP w4 a1 a2 A.length c1 B.length c2 A B (H1w.out _ B4.out) (H2w.out _ B4.out) (by omega) (by omega)).mono ?_
  rintro e w5 ⟨ay, cy, rfl, oy, b5⟩
  have LY := len_not A B
  have WY := hidden (wrd_not W1.out W2.out)
  have X5 := hidden (bt X4.out (Nat.le_refl _) b5)
  have A5 := hidden (alg5 R1.out R2.out)
  generalize notF A B = Y at *
  have OY := hidden (fun (wx : World) (h : Below w5.heap.size w5 wx) => (ar_owns oy WY.out).later h)
  have Y5 := hidden (Below.refl w5.heap.size w5)
  clear oy b5 X4
  go_wp2_with fail
  refine (orP w5 ax ay X.length cx Y.length cy X Y (OX.out _ X5.out) (OY.out _ Y5.out) (by omega) (by omega)).mono ?_
  rintro e w6 ⟨az, cz, rfl, oz, b6⟩
  rw [A1.out] at oz ⊢
  have Y6 := hidden (bt Y5.out (Nat.le_refl _) b6)
  have SZ := hidden (sw_of_owns oz W1.out)
  have Z6 := hidden b6
  clear oz b6 Y5
  go_wp2_with fail
  refine (sameP w6 az a1 A.length cz A.length c1 A A SZ.out (H1w.out _ (bt B4.out (Nat.le_refl _) (bt X5.out (Nat.le_refl _) Y6.out))).sw (by omega) (by omega)).mono ?_
  rintro e w7 ⟨rfl, b7⟩
  simp only [decide_true]
  have Y7 := hidden (bt Y6.out (Nat.le_refl _) b7)
  clear b7 Y6 SZ Z6
  have B7 := hidden (bt B4.out (Nat.le_refl _) (bt X5.out (Nat.le_refl _) Y7.out))
  go_wp2_with fail
  refine (andP w7 a2 a1 B.length c2 A.length c1 B A (H2w.out _ B7.out) (H1w.out _ B7.out) (by omega) (by omega)).mono ?_
  rintro e w8 ⟨az, cz, rfl, oz, b8⟩
  rw [A2.out] at oz ⊢
  have Y8 := hidden (bt Y7.out (Nat.le_refl _) b8)
  have B8 := hidden (bt B7.out (Nat.le_refl _) b8)
  have SZ := hidden (sw_of_owns oz WX.out)
  clear oz b8 Y7 B7
  go_wp2_with fail
  refine (sameP w8 az ax X.length cz X.length cx X X SZ.out (OX.out _ (bt X5.out (Nat.le_refl _) Y8.out)).sw (by omega) (by omega)).mono ?_
  rintro e w9 ⟨rfl, b9⟩
  simp only [decide_true]
  have Y9 := hidden (bt Y8.out (Nat.le_refl _) b9)
  have B9 := hidden (bt B8.out (Nat.le_refl _) b9)
  clear b9 Y8 B8 SZ
  go_wp2_with fail
  refine (orP w9 a1 a2 A.length c1 B.length c2 A B (H1w.out _ B9.out) (H2w.out _ B9.out) (by omega) (by omega)).mono ?_
  rintro e w10 ⟨az, cz, rfl, oz, b10⟩
  have LO := len_or A B
  have WO := hidden (wrd_or W1.out W2.out)
  have A3 := hidden (alg3 R1.out R2.out)
  have Y10 := hidden (bt Y9.out (Nat.le_refl _) b10)
  have B10 := hidden (bt B9.out (Nat.le_refl _) b10)
  generalize orF A B = O at *
  have SZ := hidden (sw_of_owns oz WO.out)
  clear oz b10 Y9 B9
  go_wp2_with fail
  refine (orP w10 a2 a1 B.length c2 A.length c1 B A (H2w.out _ B10.out) (H1w.out _ B10.out) (by omega) (by omega)).mono ?_
  rintro e w11 ⟨au, cu, rfl, ou, b11⟩
  rw [← A3.out] at ou ⊢
  have Y11 := hidden (bt Y10.out (Nat.le_refl _) b11)
  have B11 := hidden (bt B10.out (Nat.le_refl _) b11)
  have SU := hidden (sw_of_owns ou WO.out)
  have SZ' := hidden (SZ.out.later b11)
  clear ou b11 Y10 B10 SZ
  go_wp2_with fail
  refine (sameP w11 az au O.length cz O.length cu O O SZ'.out SU.out (by omega) (by omega)).mono ?_
  rintro e w12 ⟨rfl, b12⟩
  simp only [decide_true]
  have Y12 := hidden (bt Y11.out (Nat.le_refl _) b12)
  have B12 := hidden (bt B11.out (Nat.le_refl _) b12)
  clear b12 Y11 B11 SZ' SU
  go_wp2_with fail
  refine (notP w12 a1 ay A.length c1 Y.length cy A Y (H1w.out _ B12.out) (OY.out _ Y12.out) (by omega) (by omega)).mono ?_
  rintro e w13 ⟨az, cz, rfl, oz, b13⟩
  rw [A4.out] at oz ⊢
  have Y13 := hidden (bt Y12.out (Nat.le_refl _) b13)
  have B13 := hidden (bt B12.out (Nat.le_refl _) b13)
  have SZ := hidden (sw_of_owns oz WX.out)
  clear oz b13 Y12 B12
  go_wp2_with fail
  refine (sameP w13 az ax X.length cz X.length cx X X SZ.out (OX.out _ (bt X5.out (Nat.le_refl _) Y13.out)).sw (by omega) (by omega)).mono ?_
  rintro e w14 ⟨rfl, b14⟩
  simp only [decide_true]
  have Y14 := hidden (bt Y13.out (Nat.le_refl _) b14)
  have B14 := hidden (bt B13.out (Nat.le_refl _) b14)
  clear b14 Y13 B13 SZ
  go_wp2_with fail
  refine (andP w14 ay a2 Y.length cy B.length c2 Y B (OY.out _ Y14.out) (H2w.out _ B14.out) (by omega) (by omega)).mono ?_
  rintro e w15 ⟨az, cz, rfl, oz, b15⟩
  rw [A5.out]
  have B15 := hidden (bt B14.out (Nat.le_refl _) b15)
  clear oz b15 Y14 B14 OX OY X5 A1 A2 A3 A4 A5
  go_wp2_with fail
  have al15 : Below w15.heap.size w15 (w15.alloc (.cells #[.int .u8 5] 5)) := (Below.refl _ _).alloc (Nat.le_refl _) _
  have B16 := hidden (bt B15.out (Nat.le_refl _) al15)
  refine (putP (w15.alloc (.cells #[.int .u8 5] 5)) (some ⟨w15.heap.size, 0, none⟩) a1 1 1 A.length c1 [5] A (sl_lit w15 [5] (by intro n hn; simp at hn; omega) 5 (0, 0) 1 rfl _ rfl _ rfl) (fun e => absurd e (by simp)) (by omega) (H1w.out _ B16.out) (by omega)).mono ?_
  rintro e w17 ⟨ac, cc, rfl, oc, b17⟩
  simp only [R1.out, if_true, decide_true] at oc ⊢
  have PL := putF_len A
  have PL1 : 1 ≤ (putF A).length := by have := enc_len1 A.length; simp [putF]; omega
  have PB := hidden (putF_byte A W1.out (by omega))
  have PG := hidden (getF_putF A [255, 255] R1.out W1.out (by omega))
  generalize putF A = P at *
  obtain ⟨g, rfl, hg⟩ := owns_at oc (by simp)
  obtain ⟨_, hcc, hcm, _⟩ := owns_cap oc
  simp only [List.singleton_append, List.length_cons] at oc hcc ⊢
  have hcm' := hcm
  unfold maxLen at hcm'
  have hcc1 : ¬ cc = 1 := by omega
  have B17 := hidden (bt B16.out (Nat.le_refl _) b17)
  have OC := hidden oc
  have BW := hidden b17.size
  have AL16 := hidden (bt al15 (Nat.le_refl _) b17)
  have AL0 := hidden al15.size
  clear oc b17 B16 al15
  generalize (w15.alloc (.cells #[.int .u8 5] 5)) = w16 at *
  have HBY := hidden (show Byte ((5 : Int) :: P) from five_byte PB.out)
  go_wp2_with (refine wpList_tail _ rfl (.tmp 100) (.tmp 101) rfl w16.heap.size g P.length cc 5 P HBY.out (OC.out.alloc _) (by have := BW.out; simp; omega) (by omega) rfl w17.heap.size [255, 255] rfl (by intro n hn; simp at hn; omega) rfl (sl_lit w17 [255, 255] (by intro n hn; simp at hn; omega) 5 (0, 0) 2 rfl _ rfl _ rfl) ?_; intro ad' c' w18 s18 q1 q2 b18; have S18 := hidden s18; have Q1 := hidden q1; have Q2 := hidden q2; have B18 := hidden (bt B15.out (Nat.le_refl _) ((allocs AL16.out (Nat.le_refl _) _).trans (b18.mono AL0.out))); clear s18 q1 q2 b18)
  refine (getP w18 ad' (P.length + 2) c' (P ++ [255, 255]) S18.out Q1.out Q2.out (by omega)).mono ?_
  rintro e w19 ⟨af, cf, rfl, of, b19⟩
  rw [PG.out] at of ⊢
  simp only [Option.getD_some] at of ⊢
  have SF := hidden (sw_of_owns of W1.out)
  have B19 := hidden (bt B18.out (Nat.le_refl _) b19)
  clear of b19 B18 S18 Q1 Q2 OC HBY PG PB BW
  go_wp2_with fail
  refine (sameP w19 af a1 A.length cf A.length c1 A A SF.out (H1w.out _ B19.out).sw (by omega) (by omega)).mono ?_
  rintro e w20 ⟨rfl, b20⟩
  simp only [decide_true]
  have B20 := hidden (bt B19.out (Nat.le_refl _) b20)
  clear b20 B19 SF
  go_wp2_with fail
  refine (addP w20 a1 A.length c1 x A (H1w.out _ B20.out) (by omega) hx).mono ?_
  rintro e w21 ⟨am, cm, rfl, om, b21⟩
  simp only [R1.out, decide_true, Bool.true_and]
  have LM := len_add A x
  have WM := hidden (wrd_add W1.out hx)
  have A6 := hidden (alg6 R1.out x)
  have A7 := hidden (alg7 A x)
  have A8 := hidden (fun h => alg8 R1.out (n := x) h)
  have B21 := hidden (bt B20.out (Nat.le_refl _) b21)
  generalize addF A x = M at *
  have OM := hidden (fun (wx : World) (h : Below w21.heap.size w21 wx) => (ar_owns om WM.out).later h)
  clear om b21 B20
  go_wp2_with fail
  refine (takeP w21 am M.length cm x M (OM.out _ (Below.refl _ _)) (by omega) hx).mono ?_
  rintro e w22 ⟨al, cl, rfl, ol, b22⟩
  rw [A6.out]
  have LT := len_tak M x
  have WT := hidden (wrd_tak WM.out hx)
  have B22 := hidden (bt B21.out (Nat.le_refl _) b22)
  have M22 := hidden b22
  generalize takF M x = T at *
  have OT := hidden (fun (wx : World) (h : Below w22.heap.size w22 wx) => (ar_owns ol WT.out).later h)
  clear ol b22 B21
  go_wp2_with fail
  refine (hasP w22 a1 A.length c1 x A (H1w.out _ B22.out).sw (by omega)).mono ?_
  rintro e w23 ⟨rfl, b23⟩
  have B23 := hidden (bt B22.out (Nat.le_refl _) b23)
  have M23 := hidden (bt M22.out (Nat.le_refl _) b23)
  have T23 := hidden b23
  clear b23 B22 M22
  rcases Bool.eq_false_or_eq_true (hasF A x) with hh | hh
  all_goals
    rw [hh] at A8 ⊢
    simp only [Bool.not_true, Bool.not_false]
    go_wp2_with fail
    refine (hasP w23 am M.length cm x M (OM.out _ M23.out).sw (by omega)).mono ?_
    rintro e w24 ⟨rfl, b24⟩
    rw [A6.out]
    have B24 := hidden (bt B23.out (Nat.le_refl _) b24)
    have T24 := hidden (bt T23.out (Nat.le_refl _) b24)
    clear b24
    go_wp2_with fail
    refine (hasP w24 al T.length cl x T (OT.out _ T24.out).sw (by omega)).mono ?_
    rintro e w25 ⟨rfl, b25⟩
    rw [A7.out]
    have B25 := hidden (bt B24.out (Nat.le_refl _) b25)
    have T25 := hidden (bt T24.out (Nat.le_refl _) b25)
    clear b25
    go_wp2_with fail
  · go_ret
    exact ⟨by simp, B25.out⟩
  · have hTA := A8.out trivial
    subst hTA
    refine (sameP w25 al a1 T.length cl T.length c1 T T (OT.out _ T25.out).sw (H1w.out _ B25.out).sw (by omega) (by omega)).mono ?_
    rintro e w26 ⟨rfl, b26⟩
    simp only [decide_true]
    have B26 := hidden (bt B25.out (Nat.le_refl _) b26)
    clear b26
    go_wp2
    go_ret
    exact ⟨by simp, B26.out⟩

end Go.Proofs.Ytjpelnbffodaiaa
