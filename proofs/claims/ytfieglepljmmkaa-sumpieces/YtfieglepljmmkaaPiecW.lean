import Derived.Test.YtfieglepljmmkaaPiecM
import Derived.Deep.CutRange
import Derived.Handy
namespace Go.Proofs.Ytfieglepljmmkaa
open Go.RowKit
set_option linter.unusedVariables false

set_option maxRecDepth 100000 in
set_option maxHeartbeats 4000000 in
theorem pieces_any (a0 : Option Addr) (len0 cap0 : Nat) (A : Nat → Option Addr) (NN CC : Nat → Nat) (LI : Nat → List Int) (often : Int) (w : World) (h : LL w a0 len0 A NN CC LI) (hl : len0 ≤ 9223372036854775807) (ho1 : -9223372036854775808 ≤ often) (ho2 : often ≤ 9223372036854775807) :
    Calls Try.prog 4 #[.slice a0 len0 cap0, .int .i64 often] w fun e w' => e = .returned (.bool true) ∧ Below w.heap.size w w' := by
  have HLL := hidden h
  clear h
  go_enter Try.func4, Try.ntmps4
  go_wp2_with fail
  refine (shown_any w).mono ?_
  rintro e w1 ⟨rfl, hb⟩
  have HB1 := hidden hb
  clear hb
  go_wp2_with fail
  refine (new_any w1).mono ?_
  rintro e w2 ⟨p1, rfl, hp1, hH1, hb2⟩
  have HP1 := hidden hp1
  have HH1 := hidden hH1
  have HB2 := hidden hb2
  clear hp1 hH1 hb2
  go_wp2_with fail
  refine (new_any w2).mono ?_
  rintro e w3 ⟨p2, rfl, hp2, hH2, hb3⟩
  have HP2 := hidden hp2
  have HH2 := hidden hH2
  have HB3 := hidden hb3
  clear hp2 hH2 hb3
  go_upto_if 34 with fail
  go_cut [1] from 35 to 37 (fun s1 wx => (∃ t : Nat, t ≤ 9223372036854775807 ∧ s1 = .int .i64 (t : Int)) ∧ wx = w3)
  case first =>
    by_cases hneg : often < 0
    · have he : -(often + 1) = (((-(often + 1)).toNat : Nat) : Int) := by omega
      have HE := hidden he
      have hb9 : (-(often + 1)).toNat ≤ 9223372036854775807 := by omega
      clear he
      go_wp2_with fail
      go_meet
      case rel => exact ⟨⟨(-(often + 1)).toNat, hb9, by first | (congr 1; have := HE.out; omega) | (rw [← HE.out])⟩, rfl⟩
    · have he : often = ((often.toNat : Nat) : Int) := by omega
      have HE := hidden he
      have hb9 : often.toNat ≤ 9223372036854775807 := by omega
      clear he
      go_wp2_with fail
      go_meet
      case rel => exact ⟨⟨often.toNat, hb9, by first | rfl | (rw [← HE.out])⟩, rfl⟩
  case rest =>
    obtain ⟨⟨t, ht9, rfl⟩, hwc⟩ := hcut
    obtain rfl := hwc.symm
    clear hwc
    generalize decide (often < 0) = bo
    go_wp2_with fail
    refine (refNew_any w3).mono ?_
    rintro e w4 ⟨rfl, hK1, hb4⟩
    obtain ⟨q1, hq1⟩ : ∃ q, w3.heap.size = q := ⟨_, rfl⟩
    rw [hq1] at hK1 ⊢
    have HK1 := hidden hK1
    have HB4 := hidden hb4
    have HQ1 := hidden hq1
    clear hK1 hb4 hq1
    go_wp2_with fail
    refine (refNew_any w4).mono ?_
    rintro e w5 ⟨rfl, hK2, hb5⟩
    obtain ⟨q2, hq2⟩ : ∃ q, w4.heap.size = q := ⟨_, rfl⟩
    rw [hq2] at hK2 ⊢
    have hPT : PT w w5 p1 p2 q1 q2 none none [] [] [] [] := by
      have o1 := HQ1.out
      have z1 := HB1.out.size
      have z2 := HB2.out.size
      have z3 := HB3.out.size
      have z4 := HB4.out.size
      have x1 := HP1.out
      have x2 := HP2.out
      have x3 := HH1.out.lt
      have x4 := HK1.out.lt q1 (.inl rfl)
      have K := fun {u v : World} (h : Lat u v) => Chg.of_below (F := fun _ => False) h
      have L3 : Lat w2 w3 := HB3.out
      have L4 : Lat w3 w4 := HB4.out
      have L5 : Lat w4 w5 := hb5
      refine ⟨HH1.out.chg (K (Lat.trans _ _ _ (Lat.trans _ _ _ L3 L4) L5)) (fun e => e), HH2.out.chg (K (Lat.trans _ _ _ L4 L5)) (fun e => e), HK1.out.chg (K L5) (fun _ _ e => e), hK2, by omega, fun i h1 h2 => ?_, by omega, by omega, fun i h1 => ?_, fun i h1 => ?_, (HB1.out.trans ((show Lat w1 w2 from HB2.out).mono z1)).trans ((Lat.trans _ _ _ (Lat.trans _ _ _ L3 L4) L5).mono (by omega))⟩
      · simp [fpt] at h1 h2
        omega
      · simp [fpt] at h1
        omega
      · simp [fpt] at h1
        omega
    have HPT := hidden hPT
    clear hPT hK2 hb5 hq2 HK1 HB4 HQ1 HB1 HP1 HH1 HB2 HP2 HH2 HB3
    obtain ⟨n, hn⟩ : ∃ n, min len0 200 = n := ⟨_, rfl⟩
    have hn2 : n ≤ 200 ∧ n ≤ len0 := by omega
    go_upto_region 10 with fail
    go_cut [10] from 40 to 42 (fun s10 wx => s10 = .int .i64 (n : Int) ∧ wx = w5)
    case first =>
      go_wp2_with fail
      all_goals
        go_meet
        case rel =>
          refine ⟨?_, rfl⟩
          congr 1
          omega
    case rest =>
      obtain ⟨rfl, hwc⟩ := hcut
      obtain rfl := hwc.symm
      clear hwc hn
      go_wp2_with fail
      go_loopw [11] (fun iv wr => ∃ (i : Nat) (r1 r2 : Option Nat), i ≤ n ∧ iv = .int .i64 (i : Int) ∧ PT w wr p1 p2 q1 q2 r1 r2 (cat (fun j => (LI j).take 2000) i) (cat (fun j => (LI (n - 1 - j)).take 2000) i) (cat (fun j => (LI j).take 2000) i) (cat (fun j => (LI (n - 1 - j)).take 2000) i)) (fun iv _ => n - (intOf iv).toNat)
      case atStart => exact ⟨0, none, none, Nat.zero_le _, rfl, HPT.out⟩
      case round =>
        rename World => wr
        obtain ⟨i, r1, r2, hin, rfl, hPT⟩ := hrel
        clear HPT
        have HPT := hidden hPT
        clear hPT
        by_cases hlt : i < n
        · obtain ⟨b0, o0, rfl, hb0, hcell⟩ := HLL.out (by omega)
          obtain ⟨j, hj⟩ : ∃ j, n - 1 - i = j := ⟨_, rfl⟩
          have hjn : j < len0 := by omega
          obtain ⟨n1, hn1⟩ : ∃ n1, n - 1 = n1 := ⟨_, rfl⟩
          have hn1i : (n : Int) - 1 = (n1 : Int) := by omega
          have hji : (n1 : Int) - (i : Int) = (j : Int) := by omega
          obtain ⟨za, sa, ca, da, na⟩ := hcell i (by omega)
          obtain ⟨zb, sb, cb, db, nb⟩ := hcell j hjn
          rw [← HPT.out.bel.cell (p := ⟨b0, o0 + i, none⟩) hb0] at za
          obtain ⟨ka, hka⟩ : ∃ ka, min (NN i) 2000 = ka := ⟨_, rfl⟩
          obtain ⟨kb, hkb⟩ : ∃ kb, min (NN j) 2000 = kb := ⟨_, rfl⟩
          have hSa := sa.take (N := ka) (by omega)
          have hSb := sb.take (N := kb) (by omega)
          have hLa : (LI i).take ka = (LI i).take 2000 := by
            have := sa.len
            rw [← hka]
            by_cases hh : NN i ≤ 2000
            · rw [Nat.min_eq_left hh, List.take_of_length_le (by omega), List.take_of_length_le (by omega)]
            · rw [Nat.min_eq_right (by omega)]
          have hLb : (LI j).take kb = (LI j).take 2000 := by
            have := sb.len
            rw [← hkb]
            by_cases hh : NN j ≤ 2000
            · rw [Nat.min_eq_left hh, List.take_of_length_le (by omega), List.take_of_length_le (by omega)]
            · rw [Nat.min_eq_right (by omega)]
          rw [hLa] at hSa
          rw [hLb] at hSb
          obtain ⟨PA, hPA⟩ : ∃ PA, (LI i).take 2000 = PA := ⟨_, rfl⟩
          obtain ⟨PB, hPB⟩ : ∃ PB, (LI j).take 2000 = PB := ⟨_, rfl⟩
          rw [hPA] at hSa
          rw [hPB] at hSb
          have HSA := hidden hSa
          have HSB := hidden hSb
          have HZB := hidden zb
          have HPA : Unit → (LI i).take 2000 = PA := fun _ => hPA
          have HPB : Unit → (LI (n - 1 - i)).take 2000 = PB := fun _ => by rw [hj]; exact hPB
          have HNA : Hid (A i = none → ka = 0 ∧ CC i = 0) := fun e => by have := na e; omega
          have HNB : Hid (A j = none → kb = 0 ∧ CC j = 0) := fun e => by have := nb e; omega
          have hkaC : ka ≤ CC i := by omega
          have hkbC : kb ≤ CC j := by omega
          obtain ⟨Ai, hAi⟩ : ∃ x, A i = x := ⟨_, rfl⟩
          obtain ⟨Ni, hNi⟩ : ∃ x, NN i = x := ⟨_, rfl⟩
          obtain ⟨Ci, hCi⟩ : ∃ x, CC i = x := ⟨_, rfl⟩
          obtain ⟨Aj, hAj⟩ : ∃ x, A j = x := ⟨_, rfl⟩
          obtain ⟨Nj, hNj⟩ : ∃ x, NN j = x := ⟨_, rfl⟩
          obtain ⟨Cj, hCj⟩ : ∃ x, CC j = x := ⟨_, rfl⟩
          rw [hAi, hNi, hCi] at za
          rw [hAj, hNj, hCj] at HZB
          rw [hNi] at hka ca
          rw [hNj] at hkb cb
          rw [hCi] at ca da hkaC
          rw [hCj] at cb db hkbC
          rw [hAi] at HSA HNA
          rw [hCi] at HNA
          rw [hAj] at HSB HNB
          rw [hCj] at HNB
          clear sa sb zb na nb hSa hSb hLa hLb hPA hPB hcell hj hn1 hAi hNi hCi hAj hNj hCj
          have hka2 : ka ≤ 2000 := by omega
          have hkb2 : kb ≤ 2000 := by omega
          obtain ⟨mA, hmA⟩ : ∃ m, cat (fun j => (LI j).take 2000) i = m := ⟨_, rfl⟩
          obtain ⟨mB, hmB⟩ : ∃ m, cat (fun j => (LI (n - 1 - j)).take 2000) i = m := ⟨_, rfl⟩
          have hlA : mA.length ≤ 2000 * i := by
            rw [← hmA]
            exact cat_len _ (fun j => by simp; omega) i
          have hlB : mB.length ≤ 2000 * i := by
            rw [← hmB]
            exact cat_len _ (fun j => by simp; omega) i
          rw [hmA, hmB] at HPT
          have HMA : Unit → cat (fun j => (LI j).take 2000) (i + 1) = mA ++ PA := fun _ => by rw [cat, hmA, HPA ()]
          have HMB : Unit → cat (fun j => (LI (n - 1 - j)).take 2000) (i + 1) = mB ++ PB := fun _ => by rw [cat, hmB, HPB ()]
          clear hmA hmB HPA HPB
          go_upto_region 14 with fail
          go_cut [12] from 43 to 147 (fun s12 wx => s12 = .slice Ai ka Ci ∧ Lat wr wx)
          case first =>
            by_cases hh : Ni ≤ 2000
            · obtain rfl : Ni = ka := by omega
              clear hka
              go_region
              go_wp2_with fail
              go_meet
              case rel => exact ⟨rfl, Lat.draw wr⟩
            · obtain rfl : ka = 2000 := by omega
              clear hka
              go_region
              go_wp2_with fail
              go_meet
              case rel => exact ⟨rfl, Lat.draw wr⟩
          case rest =>
            obtain ⟨rfl, hL1⟩ := hcut
            obtain ⟨u1, rfl⟩ : ∃ u1 : World, u1 = wc := ⟨_, rfl⟩
            have HPT1 := hidden (HPT.out.later hL1)
            have zb : u1.cell? ⟨b0, o0 + j, none⟩ = some (.slice Aj Nj Cj) := by
              rw [HPT1.out.bel.cell (p := ⟨b0, o0 + j, none⟩) hb0]
              exact HZB.out
            clear hL1 za HPT
            go_upto_region 15 with fail
            go_cut [13] from 43 to 147 (fun s13 wx => s13 = .slice Aj kb Cj ∧ Lat u1 wx)
            case first =>
              by_cases hh : Nj ≤ 2000
              · obtain rfl : Nj = kb := by omega
                clear hkb
                go_region
                go_wp2_with fail
                go_meet
                case rel => exact ⟨rfl, Lat.draw u1⟩
              · obtain rfl : kb = 2000 := by omega
                clear hkb
                go_region
                go_wp2_with fail
                go_meet
                case rel => exact ⟨rfl, Lat.draw u1⟩
            case rest =>
              obtain ⟨rfl, hL2⟩ := hcut
              obtain ⟨u2, rfl⟩ : ∃ u2 : World, u2 = wc := ⟨_, rfl⟩
              have HPT2 := hidden (HPT1.out.later hL2)
              clear hL2 zb HPT1 hn1i hji
              have HSAw : Hid (∀ W, Below w.heap.size w W → Sl W Ai ka PA) := fun W hb => HSA.out.later hb
              have HSBw : Hid (∀ W, Below w.heap.size w W → Sl W Aj kb PB) := fun W hb => HSB.out.later hb
              have hPAl : PA.length = ka := HSA.out.len
              have hPBl : PB.length = kb := HSB.out.len
              have HPAl := hidden hPAl
              have HPBl := hidden hPBl
              have HPAb := hidden HSA.out.byte
              have HPBb := hidden HSB.out.byte
              clear hPAl hPBl HSA HSB HZB
              go_wp2_with fail
              refine (lent_any Ai ka Ci PA u2 (HSAw.out u2 HPT2.out.bel) (by omega)).mono ?_
              rintro e w6 ⟨rfl, hX6, hb6⟩
              obtain ⟨x, hx⟩ : ∃ x, u2.heap.size = x := ⟨_, rfl⟩
              rw [hx] at hX6 ⊢
              have hp1x : p1 < x := by rw [← hx]; exact HPT2.out.h1.lt
              have hp2x : p2 < x := by rw [← hx]; exact HPT2.out.h2.lt
              have hq1x : ∀ i, fpt q1 r1 i → i < x := fun i hi => by rw [← hx]; exact HPT2.out.k1.lt i hi
              have hq2x : ∀ i, fpt q2 r2 i → i < x := fun i hi => by rw [← hx]; exact HPT2.out.k2.lt i hi
              have hwx : w.heap.size ≤ x := by rw [← hx]; exact HPT2.out.bel.size
              have HPT6 := hidden (HPT2.out.later hb6)
              have HX6 := hidden hX6
              have HQ1X := hidden hq1x
              have HQ2X := hidden hq2x
              clear hX6 hb6 hx HPT2 hq1x hq2x
              go_wp2_with fail
              refine (lent_any Aj kb Cj PB w6 (HSBw.out w6 HPT6.out.bel) (by omega)).mono ?_
              rintro e w7 ⟨rfl, hY7, hb7⟩
              obtain ⟨y, hy⟩ : ∃ y, w6.heap.size = y := ⟨_, rfl⟩
              rw [hy] at hY7 ⊢
              have hxy : x < y := by rw [← hy]; exact HX6.out.lt
              have HPT7 := hidden (HPT6.out.later hb7)
              have HX7 := hidden (HX6.out.later hb7)
              have HY7 := hidden hY7
              clear hY7 hb7 hy HPT6 HX6
              have slX : ∀ W, Blk W x 5 (cells8 (PA ++ List.replicate 8 201)) → Sl W (some ⟨x, 0, none⟩) ka PA := fun W hB => by
                refine ⟨HPAl.out, HPAb.out, fun j hj => ⟨_, rfl, ?_⟩⟩
                rw [Addr.add_lit, hB.cell, Nat.zero_add, cells8_append, List.getElem?_append_left (by rw [cells8_length, HPAl.out]; exact hj)]
                simp [cells8, List.getD, show j < PA.length by rw [HPAl.out]; exact hj]
              have slY : ∀ W, Blk W y 5 (cells8 (PB ++ List.replicate 8 201)) → Sl W (some ⟨y, 0, none⟩) kb PB := fun W hB => by
                refine ⟨HPBl.out, HPBb.out, fun j hj => ⟨_, rfl, ?_⟩⟩
                rw [Addr.add_lit, hB.cell, Nat.zero_add, cells8_append, List.getElem?_append_left (by rw [cells8_length, HPBl.out]; exact hj)]
                simp [cells8, List.getD, show j < PB.length by rw [HPBl.out]; exact hj]
              have HSLX := hidden slX
              have HSLY := hidden slY
              clear slX slY
              go_wp2_with fail
              refine (write_any p1 (some ⟨x, 0, none⟩) ka (ka + 8) PA mA w7 (HSLX.out w7 HX7.out) (by omega) (by omega) (fun z hz hp => by obtain rfl := Option.some.inj hz; simp only; omega) HPT7.out.h1 (by omega)).mono ?_
              rintro e w8 ⟨rfl, hH8, hg8⟩
              have HPT8 := hidden (HPT7.out.set1 hH8 hg8)
              have HX8 := hidden (HX7.out.grown hg8 (by omega))
              have HY8 := hidden (HY7.out.grown hg8 (by omega))
              clear hH8 hg8 HPT7 HX7 HY7
              go_wp2_with fail
              refine (write_any p2 (some ⟨y, 0, none⟩) kb (kb + 8) PB mB w8 (HSLY.out w8 HY8.out) (by omega) (by omega) (fun z hz hp => by obtain rfl := Option.some.inj hz; simp only; omega) HPT8.out.h2 (by omega)).mono ?_
              rintro e w9 ⟨rfl, hH9, hg9⟩
              have HPT9 := hidden (HPT8.out.set2 hH9 hg9)
              have HX9 := hidden (HX8.out.grown hg9 (by omega))
              have HY9 := hidden (HY8.out.grown hg9 (by omega))
              clear hH9 hg9 HPT8 HX8 HY8
              have stl : ∀ (g k : Nat) (P : List Int) (W : World), P.length = k → Blk W g 5 (cells8 (P ++ List.replicate 8 201)) → ∀ j, j < k + 8 → W.cell? ⟨g, 0 + j, none⟩ = some (.int .u8 ((P ++ List.replicate 8 201).getD j 0)) := fun g k P W hP hB j hj => by
                have hl : (P ++ List.replicate 8 (201 : Int)).length = k + 8 := by rw [List.length_append, hP, List.length_replicate]
                rw [hB.cell, Nat.zero_add]
                generalize P ++ List.replicate 8 (201 : Int) = X at *
                simp [cells8, List.getD, show j < X.length by omega]
              have HSTL := hidden stl
              clear stl
              go_wp2_with fail
              refine (still_any x 0 (ka + 8) Ai ka Ci PA w9 (HSTL.out x ka PA w9 HPAl.out HX9.out) (HSAw.out w9 HPT9.out.bel) (by omega)).mono ?_
              rintro e w10 ⟨rfl, nd, hw10⟩
              have L10 : Lat w9 w10 := by rw [hw10]; exact below_drewN (Below.refl _ _) nd
              have HPT10 := hidden (HPT9.out.later L10)
              have HX10 := hidden (HX9.out.later L10)
              have HY10 := hidden (HY9.out.later L10)
              clear hw10 L10 HPT9 HX9 HY9
              go_wp2_with fail
              refine (still_any y 0 (kb + 8) Aj kb Cj PB w10 (HSTL.out y kb PB w10 HPBl.out HY10.out) (HSBw.out w10 HPT10.out.bel) (by omega)).mono ?_
              rintro e w11 ⟨rfl, nd2, hw11⟩
              have L11 : Lat w10 w11 := by rw [hw11]; exact below_drewN (Below.refl _ _) nd2
              have HPT11 := hidden (HPT10.out.later L11)
              have HX11 : Hid (∃ X : List Int, X.length = ka + 8 ∧ Blk w11 x 5 (cells8 X)) := ⟨_, by rw [List.length_append, HPAl.out, List.length_replicate], HX10.out.later L11⟩
              have HY11 : Hid (∃ X : List Int, X.length = kb + 8 ∧ Blk w11 y 5 (cells8 X)) := ⟨_, by rw [List.length_append, HPBl.out, List.length_replicate], HY10.out.later L11⟩
              clear hw11 L11 HPT10 HX10 HY10 HSTL HSLX HSLY
              go_wp2_with fail
              go_loopw [18] (fun kv wr => ∃ (k : Nat) (X : List Int), k ≤ ka + 8 ∧ kv = .int .i64 (k : Int) ∧ X.length = ka + 8 ∧ Blk wr x 5 (cells8 X) ∧ (∃ Y : List Int, Y.length = kb + 8 ∧ Blk wr y 5 (cells8 Y)) ∧ PT w wr p1 p2 q1 q2 r1 r2 (mA ++ PA) (mB ++ PB) mA mB) (fun kv _ => ka + 8 - (intOf kv).toNat)
              case atStart =>
                obtain ⟨X, h1, h2⟩ := HX11.out
                exact ⟨0, X, Nat.zero_le _, rfl, h1, h2, HY11.out, HPT11.out⟩
              case round =>
                obtain ⟨k, X, hk, rfl, hXl, hB, hY, hPT⟩ := hrel
                clear HX11 HY11 HPT11
                have HXl := hidden hXl
                have HB := hidden hB
                have HY := hidden hY
                have HPT := hidden hPT
                clear hXl hB hY hPT
                by_cases hkl : k < ka + 8
                · have ck : wr.cell? ⟨x, k, none⟩ = some (.int .u8 (X.getD k 0)) := by
                    have := HXl.out
                    rw [HB.out.cell]
                    simp [cells8, List.getD, show k < X.length by omega]
                  have fk := HB.out.frozen k
                  have hc := Chg.set ⟨x, k, none⟩ (.int .u8 7) wr
                  have g1 : Blk (wr.setCell ⟨x, k, none⟩ (.int .u8 7)) x 5 (cells8 (X.set k 7)) := by
                    have := HB.out.set k (.int .u8 7)
                    rw [cells8, ← List.map_set] at this
                    exact this
                  have g2 : ∃ Y : List Int, Y.length = kb + 8 ∧ Blk (wr.setCell ⟨x, k, none⟩ (.int .u8 7)) y 5 (cells8 Y) := by
                    obtain ⟨Y, a1, a2⟩ := HY.out
                    exact ⟨Y, a1, a2.setOff _ _ (by simp only; omega)⟩
                  have g3 : PT w (wr.setCell ⟨x, k, none⟩ (.int .u8 7)) p1 p2 q1 q2 r1 r2 (mA ++ PA) (mB ++ PB) mA mB := HPT.out.chg hc (by simp only; omega) (by simp only; omega) (fun i hi e => by have := HQ1X.out i hi; simp only at e; omega) (fun i hi e => by have := HQ2X.out i hi; simp only at e; omega) (fun i e => by simp only at e; omega)
                  have G1 := hidden g1
                  have G2 := hidden g2
                  have G3 := hidden g3
                  clear g1 g2 g3 hc
                  go_wp2_with fail
                  refine ⟨⟨k + 1, X.set k 7, by omega, ?_, by rw [List.length_set]; exact HXl.out, G1.out, G2.out, G3.out⟩, ?_⟩
                  · go_num
                  · simp only [intOf]; omega
                · have hke : k = ka + 8 := by omega
                  subst hke
                  have HXO : Hid (∃ X : List Int, X.length = ka + 8 ∧ Blk wr x 5 (cells8 X)) := ⟨X, HXl.out, HB.out⟩
                  clear HXl HB
                  go_wp2_with fail
                  have HXX : Hid (∃ X : List Int, X.length = ka + 8 ∧ Blk wr x 5 (cells8 X)) := HXO.out
                  have HYY := hidden HY.out
                  have HPTT := hidden HPT.out
                  clear HXO HY HPT
                  go_loopw [19] (fun kv wr => ∃ (k : Nat) (X : List Int), k ≤ kb + 8 ∧ kv = .int .i64 (k : Int) ∧ X.length = kb + 8 ∧ Blk wr y 5 (cells8 X) ∧ (∃ Y : List Int, Y.length = ka + 8 ∧ Blk wr x 5 (cells8 Y)) ∧ PT w wr p1 p2 q1 q2 r1 r2 (mA ++ PA) (mB ++ PB) mA mB) (fun kv _ => kb + 8 - (intOf kv).toNat)
                  case atStart =>
                    obtain ⟨X, h1, h2⟩ := HYY.out
                    exact ⟨0, X, Nat.zero_le _, rfl, h1, h2, HXX.out, HPTT.out⟩
                  case round =>
                    obtain ⟨k, X, hk, rfl, hXl, hB, hY, hPT⟩ := hrel
                    clear HYY HXX HPTT
                    have HXl := hidden hXl
                    have HB := hidden hB
                    have HY := hidden hY
                    have HPT := hidden hPT
                    clear hXl hB hY hPT
                    by_cases hkl : k < kb + 8
                    · have ck : wr.cell? ⟨y, k, none⟩ = some (.int .u8 (X.getD k 0)) := by
                        have := HXl.out
                        rw [HB.out.cell]
                        simp [cells8, List.getD, show k < X.length by omega]
                      have fk := HB.out.frozen k
                      have hc := Chg.set ⟨y, k, none⟩ (.int .u8 7) wr
                      have g1 : Blk (wr.setCell ⟨y, k, none⟩ (.int .u8 7)) y 5 (cells8 (X.set k 7)) := by
                        have := HB.out.set k (.int .u8 7)
                        rw [cells8, ← List.map_set] at this
                        exact this
                      have g2 : ∃ Y : List Int, Y.length = ka + 8 ∧ Blk (wr.setCell ⟨y, k, none⟩ (.int .u8 7)) x 5 (cells8 Y) := by
                        obtain ⟨Y, a1, a2⟩ := HY.out
                        exact ⟨Y, a1, a2.setOff _ _ (by simp only; omega)⟩
                      have g3 : PT w (wr.setCell ⟨y, k, none⟩ (.int .u8 7)) p1 p2 q1 q2 r1 r2 (mA ++ PA) (mB ++ PB) mA mB := HPT.out.chg hc (by simp only; omega) (by simp only; omega) (fun i hi e => by have := HQ1X.out i hi; simp only at e; omega) (fun i hi e => by have := HQ2X.out i hi; simp only at e; omega) (fun i e => by simp only at e; omega)
                      have G1 := hidden g1
                      have G2 := hidden g2
                      have G3 := hidden g3
                      clear g1 g2 g3 hc
                      go_wp2_with fail
                      refine ⟨⟨k + 1, X.set k 7, by omega, ?_, by rw [List.length_set]; exact HXl.out, G1.out, G2.out, G3.out⟩, ?_⟩
                      · go_num
                      · simp only [intOf]; omega
                    · have hke : k = kb + 8 := by omega
                      subst hke
                      clear HXl HB
                      go_wp2_with fail
                      refine (refWrite_any q1 r1 mA PA Ai ka Ci wr HPT.out.k1 (HSAw.out wr HPT.out.bel) HNA.out (by omega)).mono ?_
                      rintro e w12 ⟨rfl, r1', hk12, hc12, hm12⟩
                      have HPT12 := hidden (HPT.out.set3 hk12 hc12 hm12)
                      clear hk12 hc12 hm12 HPT
                      go_wp2_with fail
                      refine (refWrite_any q2 r2 mB PB Aj kb Cj w12 HPT12.out.k2 (HSBw.out w12 HPT12.out.bel) HNB.out (by omega)).mono ?_
                      rintro e w13 ⟨rfl, r2', hk13, hc13, hm13⟩
                      have HPT13 := hidden (HPT12.out.set4 hk13 hc13 hm13)
                      clear hk13 hc13 hm13 HPT12
                      obtain ⟨t4, ht4⟩ : ∃ t4, t % 4 = t4 := ⟨_, rfl⟩
                      have ht4i : (t : Int) % 4 = (t4 : Int) := by omega
                      obtain ⟨im, him⟩ : ∃ im, i % (t4 + 1) = im := ⟨_, rfl⟩
                      have himi : (i : Int) % ((t4 : Int) + 1) = (im : Int) := by
                        rw [← him]
                        simp
                      have himt : (i : Int).tmod ((t4 : Int) + 1) = (im : Int) := by
                        rw [Int.tmod_eq_emod_of_nonneg (by omega)]
                        exact himi
                      have ht44 : t4 < 4 := by omega
                      clear ht4 him
                      by_cases him0 : im = 0
                      · subst him0
                        obtain ⟨DA, hDA⟩ : ∃ DA, digest (mA ++ PA) = DA := ⟨_, rfl⟩
                        have hDl : DA.length = 32 := by rw [← hDA, digest_len]
                        have hne := fun w => neq8 27 32 Try.underlying27 DA DA hDl hDl w
                        have HDA : Unit → digest (mA ++ PA) = DA := fun _ => hDA
                        clear hDA hDl
                        go_wp2_with fail
                        refine (sum_any p1 _ w13 HPT13.out.h1 (by rw [List.length_append, HPAl.out]; omega)).mono ?_
                        rintro e x1 ⟨rfl, hb1⟩
                        have P1 := hidden (HPT13.out.later hb1)
                        clear hb1 HPT13
                        rw [HDA ()]
                        go_wp2_with fail
                        refine (refSum_any q1 _ _ x1 P1.out.k1 (by rw [List.length_append, HPAl.out]; omega)).mono ?_
                        rintro e y1 ⟨rfl, hc1⟩
                        have R1 := hidden (P1.out.later hc1)
                        clear hc1 P1
                        rw [HDA ()]
                        go_wp2_with fail
                        refine (sum_any p1 _ y1 R1.out.h1 (by rw [List.length_append, HPAl.out]; omega)).mono ?_
                        rintro e x2 ⟨rfl, hb2⟩
                        have P2 := hidden (R1.out.later hb2)
                        clear hb2 R1
                        rw [HDA ()]
                        go_wp2_with fail
                        refine (refSum_any q1 _ _ x2 P2.out.k1 (by rw [List.length_append, HPAl.out]; omega)).mono ?_
                        rintro e y2 ⟨rfl, hc2⟩
                        have R2 := hidden (P2.out.later hc2)
                        clear hc2 P2
                        rw [HDA ()]
                        go_wp2_with fail
                        refine ⟨⟨i + 1, r1', r2', by omega, ?_, ?_⟩, ?_⟩
                        · go_num
                        · rw [HMA (), HMB ()]
                          exact R2.out
                        · simp only [intOf]; omega
                      · have hb0' : ((im : Int) == 0) = false := by
                          rw [beq_eq_false_iff_ne]
                          omega
                        go_wp2_with fail
                        refine ⟨⟨i + 1, r1', r2', by omega, ?_, ?_⟩, ?_⟩
                        · go_num
                        · rw [HMA (), HMB ()]
                          exact HPT13.out
                        · simp only [intOf]; omega
        · obtain rfl : i = n := by omega
          obtain ⟨DA, hDA⟩ : ∃ DA, digest (cat (fun j => (LI j).take 2000) i) = DA := ⟨_, rfl⟩
          obtain ⟨DB, hDB⟩ : ∃ DB, digest (cat (fun j => (LI (i - 1 - j)).take 2000) i) = DB := ⟨_, rfl⟩
          have hDl : DA.length = 32 := by rw [← hDA, digest_len]
          have hDl2 : DB.length = 32 := by rw [← hDB, digest_len]
          have heqA := fun w => eql8 27 32 Try.underlying27 DA DA hDl hDl w
          have heqB := fun w => eql8 27 32 Try.underlying27 DB DB hDl2 hDl2 w
          have HDA : Unit → digest (cat (fun j => (LI j).take 2000) i) = DA := fun _ => hDA
          have HDB : Unit → digest (cat (fun j => (LI (i - 1 - j)).take 2000) i) = DB := fun _ => hDB
          clear hDA hDB hDl hDl2
          go_wp2_with fail
          refine (sum_any p1 _ wr HPT.out.h1 (by have := cat_len (fun j => (LI j).take 2000) (fun j => by simp; omega) i; omega)).mono ?_
          rintro e x1 ⟨rfl, hb1⟩
          have P1 := hidden (HPT.out.later hb1)
          clear hb1 HPT
          rw [HDA ()]
          go_wp2_with fail
          refine (refSum_any q1 _ _ x1 P1.out.k1 (by have := cat_len (fun j => (LI j).take 2000) (fun j => by simp; omega) i; omega)).mono ?_
          rintro e y1 ⟨rfl, hc1⟩
          have R1 := hidden (P1.out.later hc1)
          clear hc1 P1
          rw [HDA ()]
          go_wp2_with fail
          refine (sum_any p2 _ y1 R1.out.h2 (by have := cat_len (fun j => (LI (i - 1 - j)).take 2000) (fun j => by simp; omega) i; omega)).mono ?_
          rintro e x2 ⟨rfl, hb2⟩
          have P2 := hidden (R1.out.later hb2)
          clear hb2 R1
          rw [HDB ()]
          go_wp2_with fail
          refine (refSum_any q2 _ _ x2 P2.out.k2 (by have := cat_len (fun j => (LI (i - 1 - j)).take 2000) (fun j => by simp; omega) i; omega)).mono ?_
          rintro e y2 ⟨rfl, hc2⟩
          have R2 := hidden (P2.out.later hc2)
          clear hc2 P2
          rw [HDB ()]
          have HBF := hidden R2.out.bel
          go_wp2_with fail
          go_ret
          exact ⟨rfl, HBF.out⟩

end Go.Proofs.Ytfieglepljmmkaa
