import Derived.Test.YtgmdpbahcbhfjaaGreatDoorJSoD
import Derived.Test.YtgmdpbahcbhfjaaGreatDoorJSoG
set_option linter.unusedSimpArgs false
set_option linter.unusedVariables false
set_option maxHeartbeats 40000000
set_option maxRecDepth 100000
/-
  slices.Sort over []uint32: pdqsort.
-/
namespace Go.Proofs.YtgmdpbahcbhfjaaGreatDoor.J
open Go.RowKit

theorem res51 (tmps : Array Value) (w : World) : (results Tryz.f135 tmps).run Tryz.prog w = .ok (.tuple #[]) w := by
  have h : Tryz.f135.results = #[] := by kernel_rfl
  simp [results, h, go_sem]
/-- What is left to be sorted, and what comes of it. -/
structure PQ (d : Array Nat) (a b : Nat) (A B : Nat) (e : Array Nat) : Prop where
  ab : A ≤ B
  bb : B ≤ b
  aa : a ≤ A
  bel : Sort.Below ltN A B e
  size : e.size = d.size
  go : ∀ R, Sort.PermIn A B e R → Sort.SortedIn ltN A B R → Sort.PermIn a b d R ∧ Sort.SortedIn ltN a b R
theorem PQ.perm {d : Array Nat} {a b A B : Nat} {e e1 : Array Nat} (h : PQ d a b A B e) (hb : b ≤ d.size) (hp : Sort.PermIn A B e e1) : PQ d a b A B e1 :=
  ⟨h.ab, h.bb, h.aa, h.bel.perm (by have := h.size; have := h.bb; omega) hp, by rw [hp.1]; exact h.size, fun R hR hS => h.go R (Sort.permIn_trans _ _ _ _ _ hp hR) hS⟩

set_option maxRecDepth 100000 in
set_option maxHeartbeats 32000000 in
theorem pdqP (N : Nat) : ∀ (w : World) (g n c : Nat) (tl : List Value) (d : Array Nat) (a b lim : Nat) (h : DT w g tl d) (hn : d.size = n) (hab : a ≤ b) (hN : b - a = N) (hb : b ≤ n) (hB : Sort.Below ltN a b d) (hn9 : n ≤ 1000000000) (hnc : n ≤ c) (hlim : lim ≤ 1000000000),
    Calls Tryz.prog 135 #[.slice (some ⟨g, 0, none⟩) n c, .int .i64 (a : Int), .int .i64 (b : Int), .int .i64 (lim : Int)] w fun en w' => en = .returned (.tuple #[]) ∧ ∃ e, DT w' g tl e ∧ Sort.PermIn a b d e ∧ Sort.SortedIn ltN a b e ∧ Ong g w w' := by
  induction N using Nat.strongRecOn with
  | _ N ih =>
  intro w g n c tl d a b lim h hn hab hN hb hB hn9 hnc hlim
  have HIH := hidden ih
  have HD := hidden h
  have HP : Hid (PQ d a b a b d) := hidden ⟨hab, Nat.le_refl _, Nat.le_refl _, hB, rfl, fun R h1 h2 => ⟨h1, h2⟩⟩
  clear ih h hB
  go_enter Tryz.func135, Tryz.ntmps135
  go_wp2_with fail
  go_loopw [1, 2, 3, 8, 9] (fun s1 s2 s3 s8 s9 wx => ∃ (A B L : Nat) (wb wp : Bool) (e : Array Nat), s1 = .int .i64 (A : Int) ∧ s2 = .int .i64 (B : Int) ∧ s3 = .int .i64 (L : Int) ∧ s8 = .bool wb ∧ s9 = .bool wp ∧ L ≤ 1000000000 ∧ Hid (DT wx g tl e) ∧ Hid (PQ d a b A B e) ∧ Hid (Ong g w wx)) (fun s1 s2 _ _ _ _ => (intOf s2 - intOf s1).toNat)
  case atStart => exact ⟨a, b, lim, true, true, d, rfl, rfl, rfl, rfl, rfl, hlim, HD, HP, hidden (Ong.refl _ _)⟩
  case round =>
    rename World => wx
    obtain ⟨A, B, L, wb, wp, e, rfl, rfl, rfl, rfl, rfl, hL9, hD, hP, hO⟩ := hrel
    have hAB := hP.out.ab
    have hBb := hP.out.bb
    have haA := hP.out.aa
    have hen : e.size = n := by rw [hP.out.size]; exact hn
    obtain ⟨len, hlen⟩ : ∃ len, B - A = len := ⟨_, rfl⟩
    have elen : (B : Int) - (A : Int) = (len : Int) := by omega
    have hlb : len ≤ N ∧ A + len = B := by omega
    have HLEN := hidden hlb
    clear hlen
    by_cases h12 : len ≤ 12
    · have h12' : (len : Int) ≤ 12 := by omega
      clear hlb
      go_wp2_with fail
      refine (insertionP wx g n c tl e A B hD.out hen hAB (by omega) hn9 hnc).mono ?_
      rintro en wy ⟨rfl, hDy, hOy⟩
      have HDY := hidden hDy
      have HOY := hidden (hO.out.trans hOy.ong)
      clear hDy hOy
      go_wp2_with fail
      first | go_end0 | (refine bodyPost_ret (res51 _ _) rfl ?_)
      obtain ⟨p1, p2⟩ := Sort.insertionSort_holds (lt := ltN) ltN_swo e A B hAB (by omega)
      obtain ⟨p3, p4⟩ := hP.out.go _ p1 p2
      exact ⟨rfl, _, HDY.out, p3, p4, HOY.out⟩
    · have h12' : ¬ (len : Int) ≤ 12 := by omega
      by_cases hL0 : L = 0
      · have hL0' : ((L : Int) == 0) = true := by rw [hL0]; rfl
        clear hlb
        go_wp2_with fail
        refine (heapP wx g n c tl e A B hD.out hen hAB (by omega) hn9 hnc).mono ?_
        rintro en wy ⟨rfl, hDy, hOy⟩
        have HDY := hidden hDy
        have HOY := hidden (hO.out.trans hOy.ong)
        clear hDy hOy
        go_wp2_with fail
        first | go_end0 | (refine bodyPost_ret (res51 _ _) rfl ?_)
        obtain ⟨p1, p2⟩ := Sort.heapSort_holds (lt := ltN) ltN_swo e A B hAB (by omega)
        obtain ⟨p3, p4⟩ := hP.out.go _ p1 p2
        exact ⟨rfl, _, HDY.out, p3, p4, HOY.out⟩
      · have hL0' : ((L : Int) == 0) = false := by rw [beq_eq_false_iff_ne]; omega
        have h13 : A + 12 < B := by omega
        clear hlb
        go_upto_if 35 with fail
        go_cut [3] from 36 to 41 (fun s3 wz => ∃ (L2 : Nat) (e1 : Array Nat), s3 = .int .i64 (L2 : Int) ∧ L2 ≤ 1000000000 ∧ Hid (DT wz g tl e1) ∧ Hid (PQ d a b A B e1) ∧ Hid (Ong g w wz))
        case first =>
          cases wb with
          | true =>
            go_wp2_with fail
            go_meet
            case rel => exact ⟨L, e, rfl, hL9, hD, hP, hO⟩
          | false =>
            have eL : (L : Int) - 1 = ((L - 1 : Nat) : Int) := by omega
            go_wp2_with fail
            refine (breakP wx g n c tl e A B hD.out hen h13 (by omega) hn9 hnc).mono ?_
            rintro en wy ⟨rfl, e1, hDy, hpy, hOy⟩
            have HDY := hidden hDy
            have HPY := hidden (hP.out.perm (by omega) hpy)
            have HOY := hidden (hO.out.trans hOy)
            clear hDy hOy hpy
            go_wp2_with fail
            go_meet
            case rel => exact ⟨L - 1, e1, by first | rfl | rw [eL], by omega, HDY, HPY, HOY⟩
        case rest =>
          rename World => w1
          clear hD hP hO hen hL0 hL0'
          obtain ⟨L2, e1, rfl, hL2, hD, hP, hO⟩ := hcut
          have hen : e1.size = n := by rw [hP.out.size]; exact hn
          go_wp2_with fail
          refine (pivotP w1 g n c tl e1 A B hD.out hen h13 (by omega) hn9 hnc).mono ?_
          rintro en w2 ⟨p, t, rfl, hp1, hp2, ht, hB2⟩
          have HD2 := hidden (hD.out.later hB2)
          have HO2 := hidden (hO.out.trans (ong_below hB2))
          clear hB2
          go_upto_if 50 with fail
          go_cut [11, 12] from 42 to 60 (fun s11 s12 wz => ∃ (p2 t2 : Nat) (e2 : Array Nat), s11 = .int .i64 (p2 : Int) ∧ s12 = .int .i64 (t2 : Int) ∧ A ≤ p2 ∧ p2 < B ∧ t2 ≤ 2 ∧ Hid (DT wz g tl e2) ∧ Hid (PQ d a b A B e2) ∧ Hid (Ong g w wz))
          case first =>
            by_cases ht2 : t = 2
            · have ht2' : ((t : Int) == 2) = true := by rw [ht2]; rfl
              obtain ⟨p3, hp3⟩ : ∃ p3, (B - 1) - (p - A) = p3 := ⟨_, rfl⟩
              have ep3 : (B : Int) - 1 - ((p : Int) - (A : Int)) = (p3 : Int) := by omega
              have hp3b : A ≤ p3 ∧ p3 < B := by omega
              clear hp3
              go_wp2_with fail
              refine (reverseP w2 g n c tl e1 A B HD2.out hen hAB (by omega) (by omega) hn9 hnc).mono ?_
              rintro en wy ⟨rfl, hDy, hOy⟩
              have HDY := hidden hDy
              have HOY := hidden (HO2.out.trans hOy.ong)
              have HPY := hidden (hP.out.perm (by omega) (Sort.reverseRange_holds e1 A B hAB (by omega)))
              clear hDy hOy
              go_wp2_with fail
              go_meet
              case rel => exact ⟨p3, 1, _, by first | rfl | rw [ep3], rfl, hp3b.1, hp3b.2, by omega, HDY, HPY, HOY⟩
            · have ht2' : ((t : Int) == 2) = false := by rw [beq_eq_false_iff_ne]; omega
              go_wp2_with fail
              go_meet
              case rel => exact ⟨p, t, e1, rfl, rfl, hp1, hp2, ht, HD2, hP, HO2⟩
          case rest =>
            rename World => w3
            clear HD2 HO2 hD hP hO hen hp1 hp2 ht
            obtain ⟨p2, t2, e2, rfl, rfl, hp1, hp2, ht, hD, hP, hO⟩ := hcut
            have hen : e2.size = n := by rw [hP.out.size]; exact hn
            go_upto_region 15 with fail
            go_cut [68] from 61 to 68 (fun s68 wz => (∃ cv : Bool, s68 = .bool cv) ∧ wz = w3)
            case first =>
              cases wb with
              | false =>
                go_wp2_with fail
                go_meet
                case rel => exact ⟨⟨_, rfl⟩, rfl⟩
              | true =>
                cases wp with
                | false =>
                  go_wp2_with fail
                  go_meet
                  case rel => exact ⟨⟨_, rfl⟩, rfl⟩
                | true =>
                  go_wp2_with fail
                  go_meet
                  case rel => exact ⟨⟨_, rfl⟩, rfl⟩
            case rest =>
              obtain ⟨⟨cv, rfl⟩, hwc⟩ := hcut
              obtain rfl := hwc.symm
              clear hwc
              go_upto_if 68 with fail
              go_cut [] from 69 to 72 (fun wz => ∃ e3 : Array Nat, Hid (DT wz g tl e3) ∧ Hid (PQ d a b A B e3) ∧ Hid (Ong g w wz))
              case first =>
                cases cv with
                | false =>
                  go_wp2_with fail
                  go_meet
                  case rel => exact ⟨e2, hD, hP, hO⟩
                | true =>
                  go_wp2_with fail
                  refine (partialP w3 g n c tl e2 A B hD.out hen (by omega) (by omega) hn9 hnc).mono ?_
                  rintro en wy ⟨rfl, hDy, hOy⟩
                  obtain ⟨q1, q2⟩ := Sort.partialInsertionSort_holds (lt := ltN) ltN_swo e2 A B (by omega) (by omega) hP.out.bel
                  have HDY := hidden hDy
                  have HOY := hidden (hO.out.trans hOy.ong)
                  have HQ1 := hidden q1
                  have HQ2 := hidden q2
                  clear hDy hOy q1 q2
                  generalize (Sort.partialInsertionSort ltN e2 A B).1 = e3 at *
                  generalize (Sort.partialInsertionSort ltN e2 A B).2 = r at *
                  cases r with
                  | true =>
                    go_wp2_with fail
                    first | go_end0 | (refine bodyPost_ret (res51 _ _) rfl ?_)
                    obtain ⟨p3, p4⟩ := hP.out.go _ HQ1.out (HQ2.out (by first | rfl | trivial))
                    exact ⟨rfl, _, HDY.out, p3, p4, HOY.out⟩
                  | false =>
                    go_wp2_with fail
                    go_meet
                    case rel => exact ⟨e3, HDY, hidden (hP.out.perm (by omega) HQ1.out), HOY⟩
              case rest =>
                rename World => w4
                clear hD hP hO hen
                obtain ⟨e3, hD, hP, hO⟩ := hcut
                have hen : e3.size = n := by rw [hP.out.size]; exact hn
                go_upto_region 17 with fail
                go_cut [87] from 73 to 87 (fun s87 wz => ∃ cv2 : Bool, s87 = .bool cv2 ∧ (cv2 = true → 0 < A ∧ ltN e3[A - 1]! e3[p2]! = false) ∧ Hid (DT wz g tl e3) ∧ Hid (Ong g w wz))
                case first =>
                  by_cases hA0 : 0 < A
                  · have hA0' : (A : Int) > 0 := by omega
                    obtain ⟨A1, hA1⟩ : ∃ A1, A - 1 = A1 := ⟨_, rfl⟩
                    have eA1 : (A : Int) - 1 = (A1 : Int) := by omega
                    have hA1b : A1 < n := by omega
                    have HA1 := hidden hA1
                    clear hA1
                    have c1 := hD.out.at A1 (by omega)
                    have c2 := hD.out.at p2 (by omega)
                    by_cases hxy : e3[A1]! < e3[p2]!
                    · have HL := less_t hxy
                      clear hxy
                      generalize e3[A1]! = x at c1 HL
                      generalize e3[p2]! = y at c2 HL
                      go_wp2_with fail
                      go_quiet (exact Calls.quiet_of_same (HL _))
                      go_wp2_with fail
                      go_meet
                      case rel => exact ⟨false, rfl, fun k => (by cases k), hidden (hD.out.drewN nq), hidden (hO.out.trans (Onl.drewN g w4 nq).ong)⟩
                    · have HL := less_f hxy
                      have HX : Hid (ltN e3[A - 1]! e3[p2]! = false) := hidden (by rw [HA1.out]; exact ltN_f hxy)
                      clear hxy
                      generalize e3[A1]! = x at c1 HL
                      generalize e3[p2]! = y at c2 HL
                      go_wp2_with fail
                      go_quiet (exact Calls.quiet_of_same (HL _))
                      go_wp2_with fail
                      go_meet
                      case rel => exact ⟨true, rfl, fun _ => ⟨hA0, HX.out⟩, hidden (hD.out.drewN nq), hidden (hO.out.trans (Onl.drewN g w4 nq).ong)⟩
                  · have hA0' : ¬ (A : Int) > 0 := by omega
                    go_wp2_with fail
                    go_quiet (fail)
                    go_wp2_with fail
                    go_meet
                    case rel => exact ⟨false, rfl, fun k => (by cases k), hidden (hD.out.drewN nq), hidden (hO.out.trans (Onl.drewN g w4 nq).ong)⟩
                case rest =>
                  rename World => w5
                  clear hD hO
                  obtain ⟨cv2, rfl, hcv, hD, hO⟩ := hcut
                  cases cv2 with
                  | true =>
                    obtain ⟨hA0, hnl⟩ := hcv rfl
                    obtain ⟨mid, d4, hpe⟩ : ∃ mid d4, Sort.partitionEqual ltN e3 A B p2 = (mid, d4) := ⟨_, _, rfl⟩
                    obtain ⟨r1, r2, r3, r4, r5⟩ := Sort.round_eq ltN_swo (Sort.partitionEqual_holds ltN) hA0 hp1 hp2 (by omega) hP.out.bel hnl hpe
                    have HNP : Hid (PQ d a b mid B d4) := hidden ⟨r2, hBb, by omega, r4, by rw [r3]; exact hP.out.size, fun R k1 k2 => by
                      obtain ⟨k3, k4⟩ := r5 R k1 k2
                      exact hP.out.go R k3 k4⟩
                    have HCE := hidden (partEqP w5 g n c tl e3 A B p2 hD.out hen hp1 hp2 (by omega) hn9 hnc)
                    rw [hpe] at HCE
                    clear r3 r4 r5 hnl hcv hpe
                    go_wp2_with fail
                    refine HCE.out.mono ?_
                    rintro en w6 ⟨rfl, hD6, hO6⟩
                    have HD6 := hidden hD6
                    have HO6 := hidden (hO.out.trans hO6.ong)
                    clear hD6 hO6 HCE
                    go_wp2_with fail
                    refine ⟨⟨mid, B, L2, wb, wp, d4, by first | rfl | simp, rfl, rfl, rfl, rfl, hL2, HD6, HNP, HO6⟩, ?_⟩
                    simp [intOf]
                    omega
                  | false =>
                    obtain ⟨mid, ap, d4, hpp⟩ : ∃ mid ap d4, Sort.partition ltN e3 A B p2 = (mid, ap, d4) := ⟨_, _, _, rfl⟩
                    obtain ⟨r1, r2, r3, r4, r5, r6, r7⟩ := Sort.round_part ltN_swo (Sort.partition_holds ltN) hp1 hp2 (by omega) hP.out.bel hpp
                    have HR := hidden (And.intro r3 (And.intro r4 (And.intro r5 (And.intro r6 r7))))
                    have HCE := hidden (partP w5 g n c tl e3 A B p2 hD.out hen hp1 hp2 (by omega) hn9 hnc)
                    rw [hpp] at HCE
                    clear r3 r4 r5 r6 r7 hcv hpp
                    go_wp2_with fail
                    refine HCE.out.mono ?_
                    rintro en w6 ⟨rfl, hD6, hO6⟩
                    have HD6 := hidden hD6
                    have HO6 := hidden (hO.out.trans hO6.ong)
                    clear hD6 hO6 HCE
                    have hen4 : d4.size = n := by rw [HR.out.1]; exact hen
                    obtain ⟨lf, hlf⟩ : ∃ lf, mid - A = lf := ⟨_, rfl⟩
                    obtain ⟨rg, hrg⟩ : ∃ rg, B - mid = rg := ⟨_, rfl⟩
                    have elf : (mid : Int) - (A : Int) = (lf : Int) := by omega
                    have erg : (B : Int) - (mid : Int) = (rg : Int) := by omega
                    obtain ⟨th, hth⟩ : ∃ th, len / 8 = th := ⟨_, rfl⟩
                    have eth : (len : Int).tdiv 8 = (th : Int) := by
                      rw [Int.tdiv_eq_ediv_of_nonneg (by omega)]
                      omega
                    have eth' : (len : Int) / 8 = (th : Int) := by omega
                    obtain ⟨md1, hmd1⟩ : ∃ md1, mid + 1 = md1 := ⟨_, rfl⟩
                    have emd1 : (mid : Int) + 1 = (md1 : Int) := by omega
                    have hlb := HLEN.out
                    have HMD := hidden hmd1
                    by_cases hlr : lf < rg
                    · have hlr' : (lf : Int) < (rg : Int) := by omega
                      have CC := hidden (HIH.out (mid - A) (by omega) w6 g n c tl d4 A mid L2 HD6.out hen4 r1 rfl (by omega) HR.out.2.1 hn9 hnc hL2)
                      have hbnd : mid < md1 ∧ md1 ≤ B ∧ B - md1 < B - A := by omega
                      clear hlf hrg hth hmd1 hlb
                      go_wp2_with fail
                      refine CC.out.mono ?_
                      rintro en w7 ⟨rfl, e5, hD7, hp7, hs7, hO7⟩
                      have HD7 := hidden hD7
                      have HO7 := hidden (HO6.out.trans hO7)
                      obtain ⟨z1, z2⟩ := HR.out.2.2.2.1 e5 hp7 hs7
                      rw [HMD.out] at z1 z2
                      have HNP : Hid (PQ d a b md1 B e5) := hidden ⟨by omega, hBb, by omega, z1, by rw [hp7.1, HR.out.1]; exact hP.out.size, fun R k1 k2 => by
                        obtain ⟨k3, k4⟩ := z2 R k1 k2
                        exact hP.out.go R k3 k4⟩
                      clear hD7 hp7 hs7 hO7 z1 z2 CC
                      go_wp2_with fail
                      refine ⟨⟨md1, B, L2, _, ap, e5, by first | rfl | simp, rfl, rfl, rfl, by first | rfl | simp, hL2, HD7, HNP, HO7⟩, ?_⟩
                      simp [intOf]
                      omega
                    · have hlr' : ¬ (lf : Int) < (rg : Int) := by omega
                      have CC := hidden (HIH.out (B - (mid + 1)) (by omega) w6 g n c tl d4 (mid + 1) B L2 HD6.out hen4 (by omega) rfl (by omega) HR.out.2.2.1 hn9 hnc hL2)
                      rw [hmd1] at CC
                      clear hlf hrg hth hmd1 hlb
                      go_wp2_with fail
                      refine CC.out.mono ?_
                      rintro en w7 ⟨rfl, e5, hD7, hp7, hs7, hO7⟩
                      have HD7 := hidden hD7
                      have HO7 := hidden (HO6.out.trans hO7)
                      rw [← HMD.out] at hp7 hs7
                      obtain ⟨z1, z2⟩ := HR.out.2.2.2.2 e5 hp7 hs7
                      have HNP : Hid (PQ d a b A mid e5) := hidden ⟨r1, by omega, by omega, z1, by rw [hp7.1, HR.out.1]; exact hP.out.size, fun R k1 k2 => by
                        obtain ⟨k3, k4⟩ := z2 R k1 k2
                        exact hP.out.go R k3 k4⟩
                      clear hD7 hp7 hs7 hO7 z1 z2 CC
                      go_wp2_with fail
                      refine ⟨⟨A, mid, L2, _, ap, e5, by first | rfl | simp, rfl, rfl, rfl, by first | rfl | simp, hL2, HD7, HNP, HO7⟩, ?_⟩
                      simp [intOf]
                      omega
end Go.Proofs.YtgmdpbahcbhfjaaGreatDoor.J
/-
  slices.Sort over []uint32.
-/
namespace Go.Proofs.YtgmdpbahcbhfjaaGreatDoor.J
open Go.RowKit

theorem insertion0 (w : World) (ad : Option Addr) (c : Nat) : Calls Tryz.prog 154 #[.slice ad 0 c, .int .i64 0, .int .i64 0] w fun e w' => e = .returned (.tuple #[]) ∧ w' = w := by
  go_enter Tryz.func154, Tryz.ntmps154
  go_wp2_with fail
  go_loopw [6] (fun s6 wx => s6 = .int .i64 1 ∧ wx = w) (fun _ _ => 0)
  case atStart => exact ⟨rfl, rfl⟩
  case round =>
    obtain ⟨rfl, hw⟩ := hrel
    obtain rfl := hw.symm
    clear hw
    go_wp2_with fail
    go_end0
    exact ⟨rfl, rfl⟩
theorem pdq0 (w : World) (ad : Option Addr) (c : Nat) (lim : Int) : Calls Tryz.prog 135 #[.slice ad 0 c, .int .i64 0, .int .i64 0, .int .i64 lim] w fun e w' => e = .returned (.tuple #[]) ∧ w' = w := by
  go_enter Tryz.func135, Tryz.ntmps135
  go_wp2_with fail
  go_loopw [1, 2, 3, 8, 9] (fun s1 s2 s3 s8 s9 wx => s1 = .int .i64 0 ∧ s2 = .int .i64 0 ∧ wx = w) (fun _ _ _ _ _ _ => 0)
  case atStart => exact ⟨rfl, rfl, rfl⟩
  case round =>
    obtain ⟨rfl, rfl, hw⟩ := hrel
    obtain rfl := hw.symm
    clear hw
    go_wp2_with fail
    refine (insertion0 w ad c).mono ?_
    rintro e w1 ⟨rfl, hw⟩
    obtain rfl := hw.symm
    clear hw
    go_wp2_with fail
    first | go_end0 | (refine bodyPost_ret (res51 _ _) rfl ?_)
    exact ⟨rfl, rfl⟩
/-- The row is sorted: its numbers, rising (not strictly), and no others. -/
theorem sortP (w : World) (base : Nat) (ad : Option Addr) (n c : Nat) (l : List Nat) (h : w.ownsRow base 114 1 (.slice ad n c) n (cells32 l)) (hn9 : n ≤ 1000000000) :
    Calls Tryz.prog 107 #[.slice ad n c] w fun e w' => e = .returned (.tuple #[]) ∧ ∃ l', w'.ownsRow base 114 1 (.slice ad n c) n (cells32 l') ∧ l'.Perm l ∧ l'.Pairwise (· ≤ ·) ∧ (base ≤ w.heap.size → Below base w w') := by
  have hl : l.length = n := own_len h
  rcases Nat.eq_zero_or_pos n with rfl | hpos
  · obtain rfl : l = [] := List.eq_nil_of_length_eq_zero hl
    have HO := hidden h
    clear h
    go_enter Tryz.func107, Tryz.ntmps107
    go_wp2_with fail
    refine (lenP 0 w (by omega)).mono ?_
    rintro e w1 ⟨r, rfl, _, _, hw⟩
    obtain rfl := hw.symm
    clear hw
    go_wp2_with fail
    refine (pdq0 w ad c (r : Int)).mono ?_
    rintro e w1 ⟨rfl, hw⟩
    obtain rfl := hw.symm
    clear hw
    go_wp2_with fail
    go_end0
    exact ⟨rfl, [], HO.out, List.Perm.refl _, List.Pairwise.nil, fun _ => Below.refl _ _⟩
  · rcases h.2 with ⟨_, h0⟩ | ⟨g, cap, cur, hv, hb, hh, hnc, hcm, hs, ht⟩
    · omega
    · injection hv with q1 q2 q3
      subst q1 q3
      obtain ⟨tl, htl⟩ : ∃ tl, cur.toList.drop n = tl := ⟨_, rfl⟩
      have hcur : cur.toList = cells32 l ++ tl := by
        rw [← ht, ← htl, Nat.mul_one, List.take_append_drop]
      have hDT : DT w g tl l.toArray := by
        unfold DT Blk
        rw [hh]
        congr 2
        rw [← Array.toList_inj] 
        simpa using hcur
      have HD := hidden hDT
      have HC := hidden (And.intro hs (And.intro hcm hb))
      have HTL := hidden (And.intro hcur (And.intro ht hh))
      clear h hDT hh ht hcur htl hs hcm
      go_enter Tryz.func107, Tryz.ntmps107
      go_wp2_with fail
      refine (lenP n w (by omega)).mono ?_
      rintro e w1 ⟨r, rfl, _, hr9, hw⟩
      obtain rfl := hw.symm
      clear hw
      go_wp2_with fail
      refine (pdqP n w g n c tl l.toArray 0 n r HD.out (by simpa using hl) (by omega) (by omega) (Nat.le_refl _) (.inl rfl) hn9 hnc (by omega)).mono ?_
      rintro e w2 ⟨rfl, e2, hD2, hp2, hs2, hO2⟩
      have H2 := hidden (And.intro hD2 (And.intro hp2 (And.intro hs2 hO2)))
      clear hD2 hp2 hs2 hO2
      go_wp2_with fail
      go_end0
      obtain ⟨hD2, hp2, hs2, hO2⟩ := H2.out
      obtain ⟨hcs, hcm, hbg⟩ := HC.out
      obtain ⟨hcur, ht, hh⟩ := HTL.out
      have he2 : e2.size = n := by rw [hp2.1]; simpa using hl
      have hcl : cur.size = n + tl.length := by
        have := congrArg List.length hcur
        simpa [cells32_length, hl] using this
      refine ⟨rfl, e2.toList, ⟨by simp [cells32_length, he2], .inr ⟨g, c, (cells32 e2.toList ++ tl).toArray, rfl, hbg, hD2, hnc, hcm, ?_, ?_⟩⟩, ?_, ?_, fun hB => hO2.below hbg hB⟩
      · simp [cells32_length, he2]
        omega
      · simp [cells32_length, he2]
      · have h9 := hp2.2.2
        rw [show e2.extract 0 n = e2 by rw [← he2]; exact Array.extract_size, show l.toArray.extract 0 n = l.toArray by rw [show n = l.toArray.size by simpa using hl.symm]; exact Array.extract_size] at h9
        simpa using h9
      · rw [List.pairwise_iff_getElem]
        intro i j hi hj hij
        have h9 := hs2 i j (Nat.zero_le _) hij (by rw [← he2]; simpa using hj)
        rw [Array.length_toList] at hi hj
        simp only [ltN, decide_eq_false_iff_not] at h9
        rw [getElem!_pos e2 i hi, getElem!_pos e2 j hj] at h9
        simp only [Array.getElem_toList]
        omega
end Go.Proofs.YtgmdpbahcbhfjaaGreatDoor.J
/-
  slices.Grow of nothing, slices.Concat.
-/
namespace Go.Proofs.YtgmdpbahcbhfjaaGreatDoor.J
open Go.RowKit

theorem und3 : Tryz.prog.underlying 3 = some (.int .i64) := by kernel_rfl
theorem run_append_make (ty : TypeId) (k : Nat) (w : World) (h0 : 0 < k) (h9 : k ≤ 1000000000) :
    (Builtin.append_ #[107, 3] ty #[.slice none 0 0, .int .i64 (k : Int)]).run Tryz.prog w =
      .ok (.slice (some ⟨w.heap.size, 0, none⟩) k (grownCap w k 0 114)) (w.drew.alloc (.cells (Builtin.zeroCells #[.int .u32 0] k ++ Builtin.zeroCells #[.int .u32 0] (grownCap w k 0 114 - k)) 114)) := by
  obtain ⟨i, hi, hz, hsize, hby⟩ := info_parts info23
  have hw := i64w k (by omega)
  have hn : k ≠ 0 := by omega
  have h1 : ¬ ((k : Int) < 0) := by omega
  have h2 : ¬ ((k : Int) * (i.bytes : Int) > 281474976710656) := by rw [hby]; omega
  have h63' : ¬ (9223372036854775807 < (k : Int)) := by omega
  have h3 : ¬ (281474976710656 < (k : Int) * 4) := by omega
  have h4 : ¬ ((k : Int) ≤ 0) := by omega
  have h5 : ¬ (281474976710656 < Builtin.nextslicecap k 0 * 4) := by rw [nextslicecap_zero h0]; omega
  have h6 : max (k : Int) 0 = (k : Int) := by omega
  have h48' : ¬ (281474976710656 < Builtin.nextslicecap k 0 * i.bytes) := by rw [nextslicecap_zero h0, hby]; omega
  have hc : (Value.int .u32 0).cells = #[.int .u32 0] := rfl
  simp [Builtin.append_, run_underlying Tryz.underlying107, run_underlying und3, sizeOf, typeInfo, zeroValue, hi, hz, hsize, Builtin.lenOf, hn, h63', h48', Question.forced, run_firstCells_none, newRow, grownCap, asInt, asIntOf, hw, h1, h2, h3, h4, h5, h6, hc, hby]

theorem wpList_appmake (w : World) {ops : Array Oper} {rest : List Oper} {o : Oper} {a : Act} {Q : Exit → Act → World → Prop} (hgd : o.guard = none) (s x : Operand)
    (ho : o.op = .call { callee := .builtin .append, args := #[s, x], argTypes := #[107, 3] }) (k : Nat) (hs : a.eval s = .slice none 0 0) (hx : a.eval x = .int .i64 (k : Int)) (h0 : 0 < k) (h9 : k ≤ 1000000000)
    (h : ∀ c w', k ≤ c → c ≤ maxLen → w'.ownsRow w.heap.size 114 1 (.slice (some ⟨w.heap.size, 0, none⟩) 0 c) 0 (cells32 []) → Below w.heap.size w w' → wpList Tryz.prog ops Q rest (a.put o.dst (.slice (some ⟨w.heap.size, 0, none⟩) k c)) w') : wpList Tryz.prog ops Q (o :: rest) a w := by
  refine wpList_plain hgd fun K hK => ?_
  have hr := run_append_make o.type k w h0 h9
  unfold Oper.wp execOp
  simp only [ho, resolve, invoke, builtin, Sem.run_bind, Sem.run_pure, Result.andThen_ok, List.map_toArray, List.map_cons, List.map_nil, hs, hx, hr]
  have hc := grownCap_ge w k 0 114
  have hm := grownCap_le_maxLen w k 0 114 (by unfold maxLen; omega)
  refine hK _ _ (h _ _ hc hm ⟨rfl, .inr ⟨w.heap.size, _, _, rfl, Nat.le_refl _, heap_alloc_new w.drew _, Nat.zero_le _, hm, ?_, rfl⟩⟩ ?_)
  · simp [Builtin.zeroCells]
    omega
  · exact (show Below w.heap.size w w.drew from ⟨rfl, rfl, rfl, Nat.le_refl _, fun _ _ => rfl⟩).alloc (Nat.le_refl _) _
theorem growP (k : Nat) (w : World) (h9 : k ≤ 1000000000) :
    Calls Tryz.prog 134 #[.slice none 0 0, .int .i64 (k : Int)] w fun e w' => ∃ ad c, e = .returned (.slice ad 0 c) ∧ w'.ownsRow w.heap.size 114 1 (.slice ad 0 c) 0 (cells32 []) ∧ Below w.heap.size w w' := by
  rcases Nat.eq_zero_or_pos k with rfl | hk
  · go_enter Tryz.func134, Tryz.ntmps134
    go_wp2_with fail
    go_ret
    exact ⟨none, 0, rfl, ⟨rfl, .inl ⟨rfl, rfl⟩⟩, Below.refl _ _⟩
  · have hk' : (k : Int) > 0 := by omega
    go_enter Tryz.func134, Tryz.ntmps134
    go_wp2_with (first
      | (refine wpList_appmake _ rfl (.tmp 20) (.tmp 21) rfl k rfl rfl hk h9 ?_; intro c1 w1 hc1 hm1 ho1 hb1; have HO1 := hidden ho1; have HB1 := hidden hb1; have hc2 : c1 ≤ 9223372036854775807 := by unfold maxLen at hm1; omega))
    clear ho1 hb1
    go_ret
    exact ⟨_, _, rfl, HO1.out, HB1.out⟩

/-- An element of a list of lists. -/
abbrev Lst := Option Addr × Nat × Nat × List Nat
def Lst.v (x : Lst) : Value := .slice x.1 x.2.1 x.2.2.1
/-- A list of lists, read. -/
def Lsw (w : World) (ad : Option Addr) (xs : List Lst) : Prop :=
  ∀ (i : Nat) (x : Lst), xs[i]? = some x → (∃ b off, ad = some ⟨b, off, none⟩ ∧ b < w.heap.size ∧ w.cell? ⟨b, off + i, none⟩ = some (.slice x.1 x.2.1 x.2.2.1)) ∧ Ar w x.1 x.2.1 x.2.2.1 x.2.2.2
theorem Lsw.below {w w' : World} {ad : Option Addr} {xs : List Lst} (h : Lsw w ad xs) (hb : Below w.heap.size w w') : Lsw w' ad xs := by
  intro i x hx
  obtain ⟨⟨b, off, h1, h2, h3⟩, h4⟩ := h i x hx
  exact ⟨⟨b, off, h1, Nat.lt_of_lt_of_le h2 hb.size, by rw [hb.cell (p := ⟨b, off + i, none⟩) h2]; exact h3⟩, h4.later hb⟩
def lensum (xs : List Lst) : Nat := (xs.map (fun x : Lst => x.2.1)).sum
def joined (xs : List Lst) : List Nat := xs.flatMap (fun x : Lst => x.2.2.2)
theorem lensum_next {xs : List Lst} {i : Nat} {x : Lst} (h : xs[i]? = some x) : lensum (xs.take (i + 1)) = lensum (xs.take i) + x.2.1 := by
  unfold lensum
  rw [List.take_add_one, h]
  simp
theorem joined_next {xs : List Lst} {i : Nat} {x : Lst} (h : xs[i]? = some x) : joined (xs.take (i + 1)) = joined (xs.take i) ++ x.2.2.2 := by
  unfold joined
  rw [List.take_add_one, h]
  simp
theorem lensum_le (xs : List Lst) (i : Nat) : lensum (xs.take i) ≤ lensum xs := by
  unfold lensum
  have h : xs.map (fun x : Lst => x.2.1) = (xs.take i).map (fun x : Lst => x.2.1) ++ (xs.drop i).map (fun x : Lst => x.2.1) := by
    rw [← List.map_append, List.take_append_drop]
  rw [h, List.sum_append]
  omega

set_option maxRecDepth 100000 in
set_option maxHeartbeats 8000000 in
theorem concatP (w : World) (ad : Option Addr) (n c : Nat) (xs : List Lst) (h : Lsw w ad xs) (hn : xs.length = n) (hn9 : n ≤ 1000) (hsum : lensum xs ≤ 1000000) (hnc : n ≤ c) (hc9 : c ≤ 9223372036854775807) :
    Calls Tryz.prog 106 #[.slice ad n c] w fun e w' => ∃ a' c', e = .returned (.slice a' (lensum xs) c') ∧ w'.ownsRow w.heap.size 114 1 (.slice a' (lensum xs) c') (lensum xs) (cells32 (joined xs)) ∧ Below w.heap.size w w' := by
  have HL := hidden h
  have HN := hidden hn
  have HS := hidden hsum
  clear h hn hsum
  go_enter Tryz.func106, Tryz.ntmps106
  go_wp2_with fail
  go_loopw [3, 11] (fun s3 s11 wx => ∃ (i k : Nat), s3 = .int .i64 (k : Int) ∧ s11 = .int .i64 (i : Int) ∧ i ≤ n ∧ k ≤ 1000000 ∧ Hid (k = lensum (xs.take i)) ∧ wx = w) (fun _ s11 _ => n - (intOf s11).toNat)
  case atStart => exact ⟨0, 0, rfl, rfl, by omega, by omega, hidden (by simp [lensum]), rfl⟩
  case round =>
    obtain ⟨i, k, rfl, rfl, hin, hk9, hk, hw⟩ := hrel
    obtain rfl := hw.symm
    clear hw
    by_cases hlt : i < n
    · have hlt' : (i : Int) < (n : Int) := by omega
      obtain ⟨x, hx⟩ : ∃ x, xs[i]? = some x := ⟨xs[i]'(by rw [HN.out]; exact hlt), by simp⟩
      obtain ⟨⟨b, off, rfl, _, hc⟩, hA⟩ := HL.out i x hx
      have hxb : k + x.2.1 ≤ 1000000 := by
        have h1 := lensum_next hx
        have h2 := lensum_le xs (i + 1)
        have h3 := HS.out
        have h4 := hk.out
        omega
      have HX := hidden hx
      have hge : ¬ (k : Int) + (x.2.1 : Int) < 0 := by omega
      clear hx hA
      go_wp2_with fail
      refine ⟨⟨i + 1, k + x.2.1, by first | rfl | simp, by first | rfl | simp, by omega, hxb, hidden (by rw [lensum_next HX.out, ← hk.out]), by first | trivial | rfl⟩, ?_⟩
      simp [intOf]
      omega
    · have hlt' : ¬ (i : Int) < (n : Int) := by omega
      have hke : k = lensum xs := by
        have h4 := hk.out
        rw [List.take_of_length_le (by rw [HN.out]; omega)] at h4
        exact h4
      have HK := hidden hke
      clear hke hk
      go_wp2_with fail
      refine (growP k w (by omega)).mono ?_
      rintro e w1 ⟨a1, c1, rfl, ho1, hb1⟩
      have HO1 := hidden ho1
      have HB1 := hidden hb1
      clear ho1 hb1
      go_wp2_with fail
      go_loopw [6, 27] (fun s6 s27 wx => ∃ (i m : Nat) (a2 : Option Addr) (c2 : Nat), s6 = .slice a2 m c2 ∧ s27 = .int .i64 (i : Int) ∧ i ≤ n ∧ Hid (m = lensum (xs.take i)) ∧ Hid (wx.ownsRow w.heap.size 114 1 (.slice a2 m c2) m (cells32 (joined (xs.take i)))) ∧ Hid (Below w.heap.size w wx)) (fun _ s27 _ => n - (intOf s27).toNat)
      case atStart => exact ⟨0, 0, a1, c1, rfl, rfl, by omega, hidden (by simp [lensum]), hidden (by simpa [joined] using HO1.out), HB1⟩
      case round =>
        rename World => wx
        obtain ⟨i, m, a2, c2, rfl, rfl, hin, hm, hO, hB⟩ := hrel
        by_cases hlt : i < n
        · have hlt' : (i : Int) < (n : Int) := by omega
          obtain ⟨x, hx⟩ : ∃ x, xs[i]? = some x := ⟨xs[i]'(by rw [HN.out]; exact hlt), by simp⟩
          obtain ⟨⟨b, off, rfl, _, hc⟩, hA⟩ := (HL.out.below hB.out) i x hx
          have HX := hidden hx
          have HA := hidden hA
          have hxb : m + x.2.1 ≤ 1000000 := by
            have h1 := lensum_next hx
            have h2 := lensum_le xs (i + 1)
            have h3 := HS.out
            have h4 := hm.out
            omega
          clear hx hA
          go_wp2_with (first
            | (refine wpList_appW _ rfl (.tmp 31) (.tmp 32) rfl w.heap.size _ m _ rfl hO.out x.1 x.2.1 x.2.2.1 x.2.2.2 rfl HA.out.sw HA.out.no (by omega) hB.out.size ?_; intro a3 c3 w3 ho3 hb3; have HO3 := hidden ho3; have HB3 := hidden hb3; clear ho3 hb3))
          refine ⟨⟨i + 1, m + x.2.1, a3, c3, rfl, by first | rfl | simp, by omega, hidden (by rw [lensum_next HX.out, ← hm.out]), hidden (by rw [joined_next HX.out]; exact HO3.out), hidden (hB.out.trans HB3.out)⟩, ?_⟩
          simp [intOf]
          omega
        · have hlt' : ¬ (i : Int) < (n : Int) := by omega
          have hme : m = lensum xs := by
            have h4 := hm.out
            rw [List.take_of_length_le (by rw [HN.out]; omega)] at h4
            exact h4
          have hO2 := hO.out
          rw [List.take_of_length_le (by rw [HN.out]; omega), hme] at hO2
          have HO2 := hidden hO2
          have HME := hidden hme
          clear hO2 hme hm
          go_wp2_with fail
          go_ret
          exact ⟨a2, c2, by rw [← HME.out]; rfl, HO2.out, hB.out⟩
end Go.Proofs.YtgmdpbahcbhfjaaGreatDoor.J
