/-
  PostSets: the walk.
-/
import Derived.Test.YtjpelnbffodaiaaPoT
import Derived.Test.YtjpelnbffodaiaaPoN
namespace Go.Proofs.Ytjpelnbffodaiaa
open Go.RowKit
set_option linter.unusedVariables false
set_option linter.unusedSimpArgs false

theorem ow_ne {w : World} {B : Nat} {v v' : Value} {n n' : Nat} {xs ys : List Value} {e e' : TypeId} {w' : World} (h : w.ownsRow B e 1 v n xs) (B' : Nat) (h' : w'.ownsRow B' e' 1 v' n' ys) (hB : w.heap.size ≤ B') : ∀ g, v'.ownBlock = some g → v.ownBlock ≠ some g := by
  intro g hg e
  have h1 := h.lt _ e
  have h2 := h'.lt _ hg
  omega
theorem gb {w w' : World} {B : Nat} {v : Value} {n : Nat} {xs : List Value} {e : TypeId} {w0 : World} (hb : Below w0.heap.size w0 w) (h : w.ownsRow B e 1 v n xs) (hB : w0.heap.size ≤ B) (hg : w.grownBy w' v.ownBlock) : Below w0.heap.size w0 w' :=
  hb.grown hg (Nat.le_trans (Nat.le_refl _) hb.size) (fun k hk => Nat.le_trans hB (h.lt k hk).1)

set_option maxRecDepth 100000 in
set_option maxHeartbeats 16000000 in
theorem sets_any (w : World) (a1 a2 : Option Addr) (n1 c1 n2 c2 x : Nat) (A B : List Nat) (h1 : Ar w a1 n1 c1 A) (h2 : Ar w a2 n2 c2 B) (hx : x ≤ 4294967295) :
    Calls Try.prog 3 #[.slice a1 n1 c1, .slice a2 n2 c2, .int .u32 (x : Int)] w fun e w' => e = .returned (.bool true) ∧ Below w.heap.size w w' := by
  have H1 := hidden h1.short
  have H2 := hidden h2.short
  have S1 := hidden (fun wx => shortP wx a1 n1 c1 h1.le h1.cm)
  have S2 := hidden (fun wx => shortP wx a2 n2 c2 h2.le h2.cm)
  clear h1 h2
  have hk1 : min n1 400 ≤ 400 := by omega
  have hk2 : min n2 400 ≤ 400 := by omega
  generalize A.take 400 = A at *
  generalize B.take 400 = B at *
  obtain ⟨k1, hk1'⟩ : ∃ k, min n1 400 = k := ⟨_, rfl⟩
  obtain ⟨k2, hk2'⟩ : ∃ k, min n2 400 = k := ⟨_, rfl⟩
  rw [hk1'] at H1 S1 hk1
  rw [hk2'] at H2 S2 hk2
  clear hk1' hk2'
  obtain rfl := H1.out.sw.len
  obtain rfl := H2.out.sw.len
  go_enter Try.func3, Try.ntmps3
  go_wp2_with fail
  refine (shownP w).mono ?_
  rintro e w0 ⟨rfl, b0⟩
  have B0 := hidden b0
  clear b0
  go_wp2_with fail
  refine (S1.out w0).mono ?_
  rintro e w' ⟨rfl, rfl⟩
  go_wp2_with fail
  refine (S2.out w').mono ?_
  rintro e w1 ⟨rfl, rfl⟩
  go_wp2_with fail
  refine (lentP w1 a1 A.length c1 A (H1.out.later B0.out) (by omega)).mono ?_
  rintro e w2 ⟨g1, cx, rfl, _, lx, b2⟩
  have B2 := hidden (bt B0.out (Nat.le_refl _) b2)
  have LX := hidden lx
  clear b2 lx B0
  go_wp2_with fail
  refine (lentP w2 a2 B.length c2 B (H2.out.later B2.out) (by omega)).mono ?_
  rintro e w3 ⟨g2, cy, rfl, _, ly, b3⟩
  have B3 := hidden (bt B2.out (Nat.le_refl _) b3)
  have LXw := hidden (fun (wx : World) (h : Below w3.heap.size w3 wx) => (LX.out.later b3).later h)
  have LYw := hidden (fun (wx : World) (h : Below w3.heap.size w3 wx) => ly.later h)
  have H1w := hidden (fun (wx : World) (h : Below w3.heap.size w3 wx) => (H1.out.later B3.out).later h)
  have H2w := hidden (fun (wx : World) (h : Below w3.heap.size w3 wx) => (H2.out.later B3.out).later h)
  have W1 := hidden H1.out.sw.bd
  have W2 := hidden H2.out.sw.bd
  clear b3 ly LX B2 H1 H2 S1 S2
  go_wp2_with fail
  go_loopw [10] (fun s10 wr => ∃ i : Nat, s10 = .int .i64 (i : Int) ∧ i ≤ 2 ∧ Hid (Below w3.heap.size w3 wr)) (fun s10 _ => 2 - (intOf s10).toNat)
  case atStart => exact ⟨0, rfl, by omega, hidden (Below.refl _ _)⟩
  case round =>
    rename World => wr
    obtain ⟨i, rfl, hi, hbel⟩ := hrel
    by_cases hlt : i < 2
    case neg =>
      have hltz : ¬ (i : Int) < 2 := by omega
      go_wp2
      go_ret
      exact ⟨by simp, bt B3.out (Nat.le_refl _) hbel.out⟩
    have hltz : (i : Int) < 2 := by omega
    have LA := len_and A B
    have LO := len_or A B
    have LN := len_not A B
    have LD := len_add A x
    have LT := len_tak A x
    have WA := hidden (wrd_and W1.out W2.out)
    have WO := hidden (wrd_or W1.out W2.out)
    have WN := hidden (wrd_not W1.out W2.out)
    have WD := hidden (wrd_add W1.out hx)
    have WT := hidden (wrd_tak W1.out hx)
    have CA := hidden (fun (wx : World) (h : Below w3.heap.size w3 wx) => andP wx _ _ A.length cx B.length cy A B (LXw.out _ h).ar (LYw.out _ h).ar (by omega) (by omega))
    have CO := hidden (fun (wx : World) (h : Below w3.heap.size w3 wx) => orP wx _ _ A.length cx B.length cy A B (LXw.out _ h).ar (LYw.out _ h).ar (by omega) (by omega))
    have CN := hidden (fun (wx : World) (h : Below w3.heap.size w3 wx) => notP wx _ _ A.length cx B.length cy A B (LXw.out _ h).ar (LYw.out _ h).ar (by omega) (by omega))
    have CD := hidden (fun (wx : World) (h : Below w3.heap.size w3 wx) => addP wx _ A.length cx x A (LXw.out _ h).ar (by omega) hx)
    have CT := hidden (fun (wx : World) (h : Below w3.heap.size w3 wx) => takeP wx _ A.length cx x A (LXw.out _ h).ar (by omega) hx)
    have RA := hidden (fun (wx : World) (h : Below w3.heap.size w3 wx) => andR wx a1 a2 A.length c1 B.length c2 A B (H1w.out _ h).sw (H2w.out _ h).sw (by omega) (by omega))
    have RO := hidden (fun (wx : World) (h : Below w3.heap.size w3 wx) => orR wx a1 a2 A.length c1 B.length c2 A B (H1w.out _ h) (H2w.out _ h).sw (by omega) (by omega))
    have RN := hidden (fun (wx : World) (h : Below w3.heap.size w3 wx) => notR wx a1 a2 A.length c1 B.length c2 A B (H1w.out _ h).sw (H2w.out _ h).sw (by omega) (by omega))
    have RD := hidden (fun (wx : World) (h : Below w3.heap.size w3 wx) => addR wx a1 A.length c1 x A (H1w.out _ h) (by omega) hx)
    have RT := hidden (fun (wx : World) (h : Below w3.heap.size w3 wx) => takeR wx a1 A.length c1 x A (H1w.out _ h).sw (by omega))
    have PH := hidden (fun (wx : World) (h : Below w3.heap.size w3 wx) => hasP wx _ A.length cx x A (LXw.out _ h).ar.sw (by omega))
    have RH := hidden (fun (wx : World) (h : Below w3.heap.size w3 wx) => hasR wx a1 A.length c1 x A (H1w.out _ h).sw (by omega))
    have CS := hidden (fun (wx : World) (h : Below w3.heap.size w3 wx) => stillP wx g1 A.length cx A (LXw.out _ h) a1 c1 (H1w.out _ h).sw (by omega))
    have CU := hidden (fun (wx : World) (h : Below w3.heap.size w3 wx) => stillP wx g2 B.length cy B (LYw.out _ h) a2 c2 (H2w.out _ h).sw (by omega))
    generalize andF A B = FA at *
    generalize orF A B = FO at *
    generalize notF A B = FN at *
    generalize addF A x = FD at *
    generalize takF A x = FT at *
    generalize (decide (Ris A) && !hasF A x) = fd at *
    generalize hasF A x = ft at *
    have Z0 := hbel
    go_wp2_with fail
    refine (CA.out wr Z0.out).mono ?_
    rintro e v1 ⟨p1, q1, rfl, o1, z1⟩
    have Y1 := hidden z1.size
    have O1 := hidden o1
    have Z1 := hidden (bt Z0.out (Nat.le_refl _) z1)
    have T1_1 := hidden (Below.refl v1.heap.size v1)
    have N1 := hidden Z0.out.size
    clear o1 z1
    go_wp2_with fail
    refine (CO.out v1 Z1.out).mono ?_
    rintro e v2 ⟨p2, q2, rfl, o2, z2⟩
    have Y2 := hidden z2.size
    have O2 := hidden o2
    have Z2 := hidden (bt Z1.out (Nat.le_refl _) z2)
    have T2_2 := hidden (Below.refl v2.heap.size v2)
    have N2 := hidden Z1.out.size
    have T1_2 := hidden (bt T1_1.out (Nat.le_refl _) z2)
    clear o2 z2
    go_wp2_with fail
    refine (CN.out v2 Z2.out).mono ?_
    rintro e v3 ⟨p3, q3, rfl, o3, z3⟩
    have Y3 := hidden z3.size
    have O3 := hidden o3
    have Z3 := hidden (bt Z2.out (Nat.le_refl _) z3)
    have T3_3 := hidden (Below.refl v3.heap.size v3)
    have N3 := hidden Z2.out.size
    have T1_3 := hidden (bt T1_2.out (Nat.le_refl _) z3)
    have T2_3 := hidden (bt T2_2.out (Nat.le_refl _) z3)
    clear o3 z3
    go_wp2_with fail
    refine (CD.out v3 Z3.out).mono ?_
    rintro e v4 ⟨p4, q4, rfl, o4, z4⟩
    have Y4 := hidden z4.size
    have O4 := hidden o4
    have Z4 := hidden (bt Z3.out (Nat.le_refl _) z4)
    have T4_4 := hidden (Below.refl v4.heap.size v4)
    have N4 := hidden Z3.out.size
    have T1_4 := hidden (bt T1_3.out (Nat.le_refl _) z4)
    have T2_4 := hidden (bt T2_3.out (Nat.le_refl _) z4)
    have T3_4 := hidden (bt T3_3.out (Nat.le_refl _) z4)
    clear o4 z4
    go_wp2_with fail
    refine (CT.out v4 Z4.out).mono ?_
    rintro e v5 ⟨p5, q5, rfl, o5, z5⟩
    have Y5 := hidden z5.size
    have O5 := hidden o5
    have Z5 := hidden (bt Z4.out (Nat.le_refl _) z5)
    have T5_5 := hidden (Below.refl v5.heap.size v5)
    have N5 := hidden Z4.out.size
    have T1_5 := hidden (bt T1_4.out (Nat.le_refl _) z5)
    have T2_5 := hidden (bt T2_4.out (Nat.le_refl _) z5)
    have T3_5 := hidden (bt T3_4.out (Nat.le_refl _) z5)
    have T4_5 := hidden (bt T4_4.out (Nat.le_refl _) z5)
    clear o5 z5
    go_wp2_with fail
    refine (RD.out v5 Z5.out).mono ?_
    rintro e v6 ⟨p6, q6, rfl, o6, z6⟩
    have O6 := hidden o6
    have Z6 := hidden (bt Z5.out (Nat.le_refl _) z6)
    have T6_6 := hidden (Below.refl v6.heap.size v6)
    have T1_6 := hidden (bt T1_5.out (Nat.le_refl _) z6)
    have T2_6 := hidden (bt T2_5.out (Nat.le_refl _) z6)
    have T3_6 := hidden (bt T3_5.out (Nat.le_refl _) z6)
    have T4_6 := hidden (bt T4_5.out (Nat.le_refl _) z6)
    have T5_6 := hidden (bt T5_5.out (Nat.le_refl _) z6)
    clear o6 z6
    go_wp2_with fail
    refine (RT.out v6 Z6.out).mono ?_
    rintro e v7 ⟨p7, q7, rfl, o7, z7⟩
    have O7 := hidden o7
    have Z7 := hidden (bt Z6.out (Nat.le_refl _) z7)
    have T7_7 := hidden (Below.refl v7.heap.size v7)
    have T1_7 := hidden (bt T1_6.out (Nat.le_refl _) z7)
    have T2_7 := hidden (bt T2_6.out (Nat.le_refl _) z7)
    have T3_7 := hidden (bt T3_6.out (Nat.le_refl _) z7)
    have T4_7 := hidden (bt T4_6.out (Nat.le_refl _) z7)
    have T5_7 := hidden (bt T5_6.out (Nat.le_refl _) z7)
    have T6_7 := hidden (bt T6_6.out (Nat.le_refl _) z7)
    clear o7 z7
    go_wp2_with fail
    refine (RA.out v7 Z7.out).mono ?_
    rintro e v8 ⟨p8, q8, rfl, o8, z8⟩
    have SO := hidden (sw_of_owns o8 WA.out)
    clear o8
    have T1_8 := hidden (bt T1_7.out (Nat.le_refl _) z8)
    have T2_8 := hidden (bt T2_7.out (Nat.le_refl _) z8)
    have T3_8 := hidden (bt T3_7.out (Nat.le_refl _) z8)
    have T4_8 := hidden (bt T4_7.out (Nat.le_refl _) z8)
    have T5_8 := hidden (bt T5_7.out (Nat.le_refl _) z8)
    have T6_8 := hidden (bt T6_7.out (Nat.le_refl _) z8)
    have T7_8 := hidden (bt T7_7.out (Nat.le_refl _) z8)
    have Z8 := hidden (bt Z7.out (Nat.le_refl _) z8)
    clear T1_7 T2_7 T3_7 T4_7 T5_7 T6_7 T7_7 z8
    go_wp2_with fail
    refine (sameP v8 p1 p8 FA.length q1 FA.length q8 FA FA ((sw_of_owns O1.out WA.out).later T1_8.out) SO.out (by omega) (by omega)).mono ?_
    rintro e v9 ⟨rfl, z9⟩
    simp only [decide_true]
    clear SO
    have T1_9 := hidden (bt T1_8.out (Nat.le_refl _) z9)
    have T2_9 := hidden (bt T2_8.out (Nat.le_refl _) z9)
    have T3_9 := hidden (bt T3_8.out (Nat.le_refl _) z9)
    have T4_9 := hidden (bt T4_8.out (Nat.le_refl _) z9)
    have T5_9 := hidden (bt T5_8.out (Nat.le_refl _) z9)
    have T6_9 := hidden (bt T6_8.out (Nat.le_refl _) z9)
    have T7_9 := hidden (bt T7_8.out (Nat.le_refl _) z9)
    have Z9 := hidden (bt Z8.out (Nat.le_refl _) z9)
    clear T1_8 T2_8 T3_8 T4_8 T5_8 T6_8 T7_8 z9
    go_wp2_with fail
    refine (RO.out v9 Z9.out).mono ?_
    rintro e v10 ⟨p10, q10, rfl, o10, z10⟩
    have SO := hidden (sw_of_owns o10 WO.out)
    clear o10
    have T1_10 := hidden (bt T1_9.out (Nat.le_refl _) z10)
    have T2_10 := hidden (bt T2_9.out (Nat.le_refl _) z10)
    have T3_10 := hidden (bt T3_9.out (Nat.le_refl _) z10)
    have T4_10 := hidden (bt T4_9.out (Nat.le_refl _) z10)
    have T5_10 := hidden (bt T5_9.out (Nat.le_refl _) z10)
    have T6_10 := hidden (bt T6_9.out (Nat.le_refl _) z10)
    have T7_10 := hidden (bt T7_9.out (Nat.le_refl _) z10)
    have Z10 := hidden (bt Z9.out (Nat.le_refl _) z10)
    clear T1_9 T2_9 T3_9 T4_9 T5_9 T6_9 T7_9 z10
    go_wp2_with fail
    refine (sameP v10 p2 p10 FO.length q2 FO.length q10 FO FO ((sw_of_owns O2.out WO.out).later T2_10.out) SO.out (by omega) (by omega)).mono ?_
    rintro e v11 ⟨rfl, z11⟩
    simp only [decide_true]
    clear SO
    have T1_11 := hidden (bt T1_10.out (Nat.le_refl _) z11)
    have T2_11 := hidden (bt T2_10.out (Nat.le_refl _) z11)
    have T3_11 := hidden (bt T3_10.out (Nat.le_refl _) z11)
    have T4_11 := hidden (bt T4_10.out (Nat.le_refl _) z11)
    have T5_11 := hidden (bt T5_10.out (Nat.le_refl _) z11)
    have T6_11 := hidden (bt T6_10.out (Nat.le_refl _) z11)
    have T7_11 := hidden (bt T7_10.out (Nat.le_refl _) z11)
    have Z11 := hidden (bt Z10.out (Nat.le_refl _) z11)
    clear T1_10 T2_10 T3_10 T4_10 T5_10 T6_10 T7_10 z11
    go_wp2_with fail
    refine (RN.out v11 Z11.out).mono ?_
    rintro e v12 ⟨p12, q12, rfl, o12, z12⟩
    have SO := hidden (sw_of_owns o12 WN.out)
    clear o12
    have T1_12 := hidden (bt T1_11.out (Nat.le_refl _) z12)
    have T2_12 := hidden (bt T2_11.out (Nat.le_refl _) z12)
    have T3_12 := hidden (bt T3_11.out (Nat.le_refl _) z12)
    have T4_12 := hidden (bt T4_11.out (Nat.le_refl _) z12)
    have T5_12 := hidden (bt T5_11.out (Nat.le_refl _) z12)
    have T6_12 := hidden (bt T6_11.out (Nat.le_refl _) z12)
    have T7_12 := hidden (bt T7_11.out (Nat.le_refl _) z12)
    have Z12 := hidden (bt Z11.out (Nat.le_refl _) z12)
    clear T1_11 T2_11 T3_11 T4_11 T5_11 T6_11 T7_11 z12
    go_wp2_with fail
    refine (sameP v12 p3 p12 FN.length q3 FN.length q12 FN FN ((sw_of_owns O3.out WN.out).later T3_12.out) SO.out (by omega) (by omega)).mono ?_
    rintro e v13 ⟨rfl, z13⟩
    simp only [decide_true]
    clear SO
    have T1_13 := hidden (bt T1_12.out (Nat.le_refl _) z13)
    have T2_13 := hidden (bt T2_12.out (Nat.le_refl _) z13)
    have T3_13 := hidden (bt T3_12.out (Nat.le_refl _) z13)
    have T4_13 := hidden (bt T4_12.out (Nat.le_refl _) z13)
    have T5_13 := hidden (bt T5_12.out (Nat.le_refl _) z13)
    have T6_13 := hidden (bt T6_12.out (Nat.le_refl _) z13)
    have T7_13 := hidden (bt T7_12.out (Nat.le_refl _) z13)
    have Z13 := hidden (bt Z12.out (Nat.le_refl _) z13)
    clear T1_12 T2_12 T3_12 T4_12 T5_12 T6_12 T7_12 z13
    go_wp2_with fail
    refine (sameP v13 p4 p6 FD.length q4 FD.length q6 FD FD ((sw_of_owns O4.out WD.out).later T4_13.out) ((sw_of_owns O6.out WD.out).later T6_13.out) (by omega) (by omega)).mono ?_
    rintro e v14 ⟨rfl, z14⟩
    simp only [decide_true]
    have T1_14 := hidden (bt T1_13.out (Nat.le_refl _) z14)
    have T2_14 := hidden (bt T2_13.out (Nat.le_refl _) z14)
    have T3_14 := hidden (bt T3_13.out (Nat.le_refl _) z14)
    have T4_14 := hidden (bt T4_13.out (Nat.le_refl _) z14)
    have T5_14 := hidden (bt T5_13.out (Nat.le_refl _) z14)
    have T6_14 := hidden (bt T6_13.out (Nat.le_refl _) z14)
    have T7_14 := hidden (bt T7_13.out (Nat.le_refl _) z14)
    have Z14 := hidden (bt Z13.out (Nat.le_refl _) z14)
    clear T1_13 T2_13 T3_13 T4_13 T5_13 T6_13 T7_13 z14
    go_wp2_with fail
    refine (sameP v14 p5 p7 FT.length q5 FT.length q7 FT FT ((sw_of_owns O5.out WT.out).later T5_14.out) ((sw_of_owns O7.out WT.out).later T7_14.out) (by omega) (by omega)).mono ?_
    rintro e v15 ⟨rfl, z15⟩
    simp only [decide_true]
    have T1_15 := hidden (bt T1_14.out (Nat.le_refl _) z15)
    have T2_15 := hidden (bt T2_14.out (Nat.le_refl _) z15)
    have T3_15 := hidden (bt T3_14.out (Nat.le_refl _) z15)
    have T4_15 := hidden (bt T4_14.out (Nat.le_refl _) z15)
    have T5_15 := hidden (bt T5_14.out (Nat.le_refl _) z15)
    have T6_15 := hidden (bt T6_14.out (Nat.le_refl _) z15)
    have T7_15 := hidden (bt T7_14.out (Nat.le_refl _) z15)
    have Z15 := hidden (bt Z14.out (Nat.le_refl _) z15)
    clear T1_14 T2_14 T3_14 T4_14 T5_14 T6_14 T7_14 z15
    go_wp2_with fail
    refine (PH.out v15 Z15.out).mono ?_
    rintro e v16 ⟨rfl, z16⟩
    have T1_16 := hidden (bt T1_15.out (Nat.le_refl _) z16)
    have T2_16 := hidden (bt T2_15.out (Nat.le_refl _) z16)
    have T3_16 := hidden (bt T3_15.out (Nat.le_refl _) z16)
    have T4_16 := hidden (bt T4_15.out (Nat.le_refl _) z16)
    have T5_16 := hidden (bt T5_15.out (Nat.le_refl _) z16)
    have Z16 := hidden (bt Z15.out (Nat.le_refl _) z16)
    clear T1_15 T2_15 T3_15 T4_15 T5_15 z16
    go_wp2_with fail
    refine (RH.out v16 Z16.out).mono ?_
    rintro e v17 ⟨rfl, z17⟩
    have T1_17 := hidden (bt T1_16.out (Nat.le_refl _) z17)
    have T2_17 := hidden (bt T2_16.out (Nat.le_refl _) z17)
    have T3_17 := hidden (bt T3_16.out (Nat.le_refl _) z17)
    have T4_17 := hidden (bt T4_16.out (Nat.le_refl _) z17)
    have T5_17 := hidden (bt T5_16.out (Nat.le_refl _) z17)
    have Z17 := hidden (bt Z16.out (Nat.le_refl _) z17)
    clear T1_16 T2_16 T3_16 T4_16 T5_16 z17
    go_wp2_with fail
    have Q0_1 := hidden (Y1.out)
    have Q0_2 := hidden ((Nat.le_trans Y1.out Y2.out))
    have Q0_3 := hidden ((Nat.le_trans (Nat.le_trans Y1.out Y2.out) Y3.out))
    have Q0_4 := hidden ((Nat.le_trans (Nat.le_trans (Nat.le_trans Y1.out Y2.out) Y3.out) Y4.out))
    have Q1_2 := hidden (Y2.out)
    have Q1_3 := hidden ((Nat.le_trans Y2.out Y3.out))
    have Q1_4 := hidden ((Nat.le_trans (Nat.le_trans Y2.out Y3.out) Y4.out))
    have Q2_3 := hidden (Y3.out)
    have Q2_4 := hidden ((Nat.le_trans Y3.out Y4.out))
    have Q3_4 := hidden (Y4.out)
    have P1 := hidden (owns_later O1.out T1_17.out)
    have L1 := hidden (fun g (hg : (Value.slice p1 FA.length q1).ownBlock = some g) => (O1.out.lt g hg))
    have P2 := hidden (owns_later O2.out T2_17.out)
    have L2 := hidden (fun g (hg : (Value.slice p2 FO.length q2).ownBlock = some g) => (O2.out.lt g hg))
    have P3 := hidden (owns_later O3.out T3_17.out)
    have L3 := hidden (fun g (hg : (Value.slice p3 FN.length q3).ownBlock = some g) => (O3.out.lt g hg))
    have P4 := hidden (owns_later O4.out T4_17.out)
    have L4 := hidden (fun g (hg : (Value.slice p4 FD.length q4).ownBlock = some g) => (O4.out.lt g hg))
    have P5 := hidden (owns_later O5.out T5_17.out)
    have L5 := hidden (fun g (hg : (Value.slice p5 FT.length q5).ownBlock = some g) => (O5.out.lt g hg))
    refine (ownedG v17 p1 FA.length q1 FA _ P1.out (by omega)).mono ?_
    rintro e v18 ⟨rfl, g18⟩
    have Z18 := hidden (gb Z17.out P1.out (Nat.le_trans hbel.out.size (Nat.le_refl _)) g18)
    have P2' := hidden (owns_grown P2.out g18 (fun g hg e => by have h1 := L2.out g hg; have h2 := L1.out g e; have h3 := (Nat.le_refl v1.heap.size); omega))
    clear P2
    have P2 := P2'
    clear P2'
    have P3' := hidden (owns_grown P3.out g18 (fun g hg e => by have h1 := L3.out g hg; have h2 := L1.out g e; have h3 := Q1_2.out; omega))
    clear P3
    have P3 := P3'
    clear P3'
    have P4' := hidden (owns_grown P4.out g18 (fun g hg e => by have h1 := L4.out g hg; have h2 := L1.out g e; have h3 := Q1_3.out; omega))
    clear P4
    have P4 := P4'
    clear P4'
    have P5' := hidden (owns_grown P5.out g18 (fun g hg e => by have h1 := L5.out g hg; have h2 := L1.out g e; have h3 := Q1_4.out; omega))
    clear P5
    have P5 := P5'
    clear P5'
    clear g18 P1
    go_wp2_with fail
    refine (ownedG v18 p2 FO.length q2 FO _ P2.out (by omega)).mono ?_
    rintro e v19 ⟨rfl, g19⟩
    have Z19 := hidden (gb Z18.out P2.out (Nat.le_trans hbel.out.size Q0_1.out) g19)
    have P3' := hidden (owns_grown P3.out g19 (fun g hg e => by have h1 := L3.out g hg; have h2 := L2.out g e; have h3 := (Nat.le_refl v2.heap.size); omega))
    clear P3
    have P3 := P3'
    clear P3'
    have P4' := hidden (owns_grown P4.out g19 (fun g hg e => by have h1 := L4.out g hg; have h2 := L2.out g e; have h3 := Q2_3.out; omega))
    clear P4
    have P4 := P4'
    clear P4'
    have P5' := hidden (owns_grown P5.out g19 (fun g hg e => by have h1 := L5.out g hg; have h2 := L2.out g e; have h3 := Q2_4.out; omega))
    clear P5
    have P5 := P5'
    clear P5'
    clear g19 P2
    go_wp2_with fail
    refine (ownedG v19 p3 FN.length q3 FN _ P3.out (by omega)).mono ?_
    rintro e v20 ⟨rfl, g20⟩
    have Z20 := hidden (gb Z19.out P3.out (Nat.le_trans hbel.out.size Q0_2.out) g20)
    have P4' := hidden (owns_grown P4.out g20 (fun g hg e => by have h1 := L4.out g hg; have h2 := L3.out g e; have h3 := (Nat.le_refl v3.heap.size); omega))
    clear P4
    have P4 := P4'
    clear P4'
    have P5' := hidden (owns_grown P5.out g20 (fun g hg e => by have h1 := L5.out g hg; have h2 := L3.out g e; have h3 := Q3_4.out; omega))
    clear P5
    have P5 := P5'
    clear P5'
    clear g20 P3
    go_wp2_with fail
    refine (ownedG v20 p4 FD.length q4 FD _ P4.out (by omega)).mono ?_
    rintro e v21 ⟨rfl, g21⟩
    have Z21 := hidden (gb Z20.out P4.out (Nat.le_trans hbel.out.size Q0_3.out) g21)
    have P5' := hidden (owns_grown P5.out g21 (fun g hg e => by have h1 := L5.out g hg; have h2 := L4.out g e; have h3 := (Nat.le_refl v4.heap.size); omega))
    clear P5
    have P5 := P5'
    clear P5'
    clear g21 P4
    go_wp2_with fail
    refine (ownedG v21 p5 FT.length q5 FT _ P5.out (by omega)).mono ?_
    rintro e v22 ⟨rfl, g22⟩
    have Z22 := hidden (gb Z21.out P5.out (Nat.le_trans hbel.out.size Q0_4.out) g22)
    clear g22 P5
    go_wp2_with fail
    refine (CS.out v22 Z22.out).mono ?_
    rintro e v23 ⟨rfl, z23⟩
    have Z23 := hidden (bt Z22.out (Nat.le_refl _) z23)
    clear z23
    go_wp2_with fail
    refine (CU.out v23 Z23.out).mono ?_
    rintro e v24 ⟨rfl, z24⟩
    have Z24 := hidden (bt Z23.out (Nat.le_refl _) z24)
    clear z24
    go_wp2_with fail
    refine ⟨⟨i + 1, by first | rfl | simp, by omega, Z24⟩, ?_⟩
    simp [intOf]
    omega

end Go.Proofs.Ytjpelnbffodaiaa
