/-
  slices.Sort over []uint32: pdqsort.
-/
import Derived.Test.YtjpelnbffodaiaaSoB
import Derived.Test.YtjpelnbffodaiaaSoE
import Derived.Test.YtjpelnbffodaiaaSoF
import Derived.Test.YtjpelnbffodaiaaSoH
namespace Go.Proofs.Ytjpelnbffodaiaa
open Go.RowKit
set_option linter.unusedVariables false
set_option linter.unusedSimpArgs false

theorem res51 (tmps : Array Value) (w : World) : (results Try.f51 tmps).run Try.prog w = .ok (.tuple #[]) w := by
  have h : Try.f51.results = #[] := by kernel_rfl
  simp [results, h, go_sem]
/-- What is left to be sorted, and what comes of it. -/
structure PQ (d : Array Nat) (a b : Nat) (A B : Nat) (e : Array Nat) : Prop where
  ab : A ≤ B
  bb : B ≤ b
  aa : a ≤ A
  bel : Sort.Below ltN A B e
  size : e.size = d.size
  go : ∀ R, Sort.PermIn A B e R → Sort.SortedIn ltN A B R → Sort.PermIn a b d R ∧ Sort.SortedIn ltN a b R
theorem PQ.perm {d : Array Nat} {a b A B : Nat} {e e1 : Array Nat} (h : PQ d a b A B e) (hb : b ≤ d.size) (hp : Sort.PermIn A B e e1) : PQ d a b A B e1 :=
  ⟨h.ab, h.bb, h.aa, h.bel.perm (by have := h.size; have := h.bb; omega) hp, by rw [hp.1]; exact h.size, fun R hR hS => h.go R (Sort.permIn_trans _ _ _ _ _ hp hR) hS⟩

set_option maxRecDepth 100000 in
set_option maxHeartbeats 32000000 in
theorem pdqP (N : Nat) : ∀ (w : World) (g n c : Nat) (tl : List Value) (d : Array Nat) (a b lim : Nat) (h : DT w g tl d) (hn : d.size = n) (hab : a ≤ b) (hN : b - a = N) (hb : b ≤ n) (hB : Sort.Below ltN a b d) (hn9 : n ≤ 1000000000) (hnc : n ≤ c) (hlim : lim ≤ 1000000000),
    Calls Try.prog 51 #[.slice (some ⟨g, 0, none⟩) n c, .int .i64 (a : Int), .int .i64 (b : Int), .int .i64 (lim : Int)] w fun en w' => en = .returned (.tuple #[]) ∧ ∃ e, DT w' g tl e ∧ Sort.PermIn a b d e ∧ Sort.SortedIn ltN a b e ∧ Ong g w w' := by
  induction N using Nat.strongRecOn with
  | _ N ih =>
  intro w g n c tl d a b lim h hn hab hN hb hB hn9 hnc hlim
  have HIH := hidden ih
  have HD := hidden h
  have HP : Hid (PQ d a b a b d) := hidden ⟨hab, Nat.le_refl _, Nat.le_refl _, hB, rfl, fun R h1 h2 => ⟨h1, h2⟩⟩
  clear ih h hB
  go_enter Try.func51, Try.ntmps51
  go_wp2_with fail
  go_loopw [1, 2, 3, 8, 9] (fun s1 s2 s3 s8 s9 wx => ∃ (A B L : Nat) (wb wp : Bool) (e : Array Nat), s1 = .int .i64 (A : Int) ∧ s2 = .int .i64 (B : Int) ∧ s3 = .int .i64 (L : Int) ∧ s8 = .bool wb ∧ s9 = .bool wp ∧ L ≤ 1000000000 ∧ Hid (DT wx g tl e) ∧ Hid (PQ d a b A B e) ∧ Hid (Ong g w wx)) (fun s1 s2 _ _ _ _ => (intOf s2 - intOf s1).toNat)
  case atStart => exact ⟨a, b, lim, true, true, d, rfl, rfl, rfl, rfl, rfl, hlim, HD, HP, hidden (Ong.refl _ _)⟩
  case round =>
    rename World => wx
    obtain ⟨A, B, L, wb, wp, e, rfl, rfl, rfl, rfl, rfl, hL9, hD, hP, hO⟩ := hrel
    have hAB := hP.out.ab
    have hBb := hP.out.bb
    have haA := hP.out.aa
    have hen : e.size = n := by rw [hP.out.size]; exact hn
    obtain ⟨len, hlen⟩ : ∃ len, B - A = len := ⟨_, rfl⟩
    have elen : (B : Int) - (A : Int) = (len : Int) := by omega
    have hlb : len ≤ N ∧ A + len = B := by omega
    have HLEN := hidden hlb
    clear hlen
    by_cases h12 : len ≤ 12
    · have h12' : (len : Int) ≤ 12 := by omega
      clear hlb
      go_wp2_with fail
      refine (insertionP wx g n c tl e A B hD.out hen hAB (by omega) hn9 hnc).mono ?_
      rintro en wy ⟨rfl, hDy, hOy⟩
      have HDY := hidden hDy
      have HOY := hidden (hO.out.trans hOy.ong)
      clear hDy hOy
      go_wp2_with fail
      first | go_end0 | (refine bodyPost_ret (res51 _ _) rfl ?_)
      obtain ⟨p1, p2⟩ := Sort.insertionSort_holds (lt := ltN) ltN_swo e A B hAB (by omega)
      obtain ⟨p3, p4⟩ := hP.out.go _ p1 p2
      exact ⟨rfl, _, HDY.out, p3, p4, HOY.out⟩
    · have h12' : ¬ (len : Int) ≤ 12 := by omega
      by_cases hL0 : L = 0
      · have hL0' : ((L : Int) == 0) = true := by rw [hL0]; rfl
        clear hlb
        go_wp2_with fail
        refine (heapP wx g n c tl e A B hD.out hen hAB (by omega) hn9 hnc).mono ?_
        rintro en wy ⟨rfl, hDy, hOy⟩
        have HDY := hidden hDy
        have HOY := hidden (hO.out.trans hOy.ong)
        clear hDy hOy
        go_wp2_with fail
        first | go_end0 | (refine bodyPost_ret (res51 _ _) rfl ?_)
        obtain ⟨p1, p2⟩ := Sort.heapSort_holds (lt := ltN) ltN_swo e A B hAB (by omega)
        obtain ⟨p3, p4⟩ := hP.out.go _ p1 p2
        exact ⟨rfl, _, HDY.out, p3, p4, HOY.out⟩
      · have hL0' : ((L : Int) == 0) = false := by rw [beq_eq_false_iff_ne]; omega
        have h13 : A + 12 < B := by omega
        clear hlb
        go_upto_if 35 with fail
        go_cut [3] from 36 to 41 (fun s3 wz => ∃ (L2 : Nat) (e1 : Array Nat), s3 = .int .i64 (L2 : Int) ∧ L2 ≤ 1000000000 ∧ Hid (DT wz g tl e1) ∧ Hid (PQ d a b A B e1) ∧ Hid (Ong g w wz))
        case first =>
          cases wb with
          | true =>
            go_wp2_with fail
            go_meet
            case rel => exact ⟨L, e, rfl, hL9, hD, hP, hO⟩
          | false =>
            have eL : (L : Int) - 1 = ((L - 1 : Nat) : Int) := by omega
            go_wp2_with fail
            refine (breakP wx g n c tl e A B hD.out hen h13 (by omega) hn9 hnc).mono ?_
            rintro en wy ⟨rfl, e1, hDy, hpy, hOy⟩
            have HDY := hidden hDy
            have HPY := hidden (hP.out.perm (by omega) hpy)
            have HOY := hidden (hO.out.trans hOy)
            clear hDy hOy hpy
            go_wp2_with fail
            go_meet
            case rel => exact ⟨L - 1, e1, by first | rfl | rw [eL], by omega, HDY, HPY, HOY⟩
        case rest =>
          rename World => w1
          clear hD hP hO hen hL0 hL0'
          obtain ⟨L2, e1, rfl, hL2, hD, hP, hO⟩ := hcut
          have hen : e1.size = n := by rw [hP.out.size]; exact hn
          go_wp2_with fail
          refine (pivotP w1 g n c tl e1 A B hD.out hen h13 (by omega) hn9 hnc).mono ?_
          rintro en w2 ⟨p, t, rfl, hp1, hp2, ht, hB2⟩
          have HD2 := hidden (hD.out.later hB2)
          have HO2 := hidden (hO.out.trans (ong_below hB2))
          clear hB2
          go_upto_if 50 with fail
          go_cut [11, 12] from 42 to 60 (fun s11 s12 wz => ∃ (p2 t2 : Nat) (e2 : Array Nat), s11 = .int .i64 (p2 : Int) ∧ s12 = .int .i64 (t2 : Int) ∧ A ≤ p2 ∧ p2 < B ∧ t2 ≤ 2 ∧ Hid (DT wz g tl e2) ∧ Hid (PQ d a b A B e2) ∧ Hid (Ong g w wz))
          case first =>
            by_cases ht2 : t = 2
            · have ht2' : ((t : Int) == 2) = true := by rw [ht2]; rfl
              obtain ⟨p3, hp3⟩ : ∃ p3, (B - 1) - (p - A) = p3 := ⟨_, rfl⟩
              have ep3 : (B : Int) - 1 - ((p : Int) - (A : Int)) = (p3 : Int) := by omega
              have hp3b : A ≤ p3 ∧ p3 < B := by omega
              clear hp3
              go_wp2_with fail
              refine (reverseP w2 g n c tl e1 A B HD2.out hen hAB (by omega) (by omega) hn9 hnc).mono ?_
              rintro en wy ⟨rfl, hDy, hOy⟩
              have HDY := hidden hDy
              have HOY := hidden (HO2.out.trans hOy.ong)
              have HPY := hidden (hP.out.perm (by omega) (Sort.reverseRange_holds e1 A B hAB (by omega)))
              clear hDy hOy
              go_wp2_with fail
              go_meet
              case rel => exact ⟨p3, 1, _, by first | rfl | rw [ep3], rfl, hp3b.1, hp3b.2, by omega, HDY, HPY, HOY⟩
            · have ht2' : ((t : Int) == 2) = false := by rw [beq_eq_false_iff_ne]; omega
              go_wp2_with fail
              go_meet
              case rel => exact ⟨p, t, e1, rfl, rfl, hp1, hp2, ht, HD2, hP, HO2⟩
          case rest =>
            rename World => w3
            clear HD2 HO2 hD hP hO hen hp1 hp2 ht
            obtain ⟨p2, t2, e2, rfl, rfl, hp1, hp2, ht, hD, hP, hO⟩ := hcut
            have hen : e2.size = n := by rw [hP.out.size]; exact hn
            go_upto_region 15 with fail
            go_cut [68] from 61 to 68 (fun s68 wz => (∃ cv : Bool, s68 = .bool cv) ∧ wz = w3)
            case first =>
              cases wb with
              | false =>
                go_wp2_with fail
                go_meet
                case rel => exact ⟨⟨_, rfl⟩, rfl⟩
              | true =>
                cases wp with
                | false =>
                  go_wp2_with fail
                  go_meet
                  case rel => exact ⟨⟨_, rfl⟩, rfl⟩
                | true =>
                  go_wp2_with fail
                  go_meet
                  case rel => exact ⟨⟨_, rfl⟩, rfl⟩
            case rest =>
              obtain ⟨⟨cv, rfl⟩, hwc⟩ := hcut
              obtain rfl := hwc.symm
              clear hwc
              go_upto_if 68 with fail
              go_cut [] from 69 to 72 (fun wz => ∃ e3 : Array Nat, Hid (DT wz g tl e3) ∧ Hid (PQ d a b A B e3) ∧ Hid (Ong g w wz))
              case first =>
                cases cv with
                | false =>
                  go_wp2_with fail
                  go_meet
                  case rel => exact ⟨e2, hD, hP, hO⟩
                | true =>
                  go_wp2_with fail
                  refine (partialP w3 g n c tl e2 A B hD.out hen (by omega) (by omega) hn9 hnc).mono ?_
                  rintro en wy ⟨rfl, hDy, hOy⟩
                  obtain ⟨q1, q2⟩ := Sort.partialInsertionSort_holds (lt := ltN) ltN_swo e2 A B (by omega) (by omega) hP.out.bel
                  have HDY := hidden hDy
                  have HOY := hidden (hO.out.trans hOy.ong)
                  have HQ1 := hidden q1
                  have HQ2 := hidden q2
                  clear hDy hOy q1 q2
                  generalize (Sort.partialInsertionSort ltN e2 A B).1 = e3 at *
                  generalize (Sort.partialInsertionSort ltN e2 A B).2 = r at *
                  cases r with
                  | true =>
                    go_wp2_with fail
                    first | go_end0 | (refine bodyPost_ret (res51 _ _) rfl ?_)
                    obtain ⟨p3, p4⟩ := hP.out.go _ HQ1.out (HQ2.out (by first | rfl | trivial))
                    exact ⟨rfl, _, HDY.out, p3, p4, HOY.out⟩
                  | false =>
                    go_wp2_with fail
                    go_meet
                    case rel => exact ⟨e3, HDY, hidden (hP.out.perm (by omega) HQ1.out), HOY⟩
              case rest =>
                rename World => w4
                clear hD hP hO hen
                obtain ⟨e3, hD, hP, hO⟩ := hcut
                have hen : e3.size = n := by rw [hP.out.size]; exact hn
                go_upto_region 17 with fail
                go_cut [87] from 73 to 87 (fun s87 wz => ∃ cv2 : Bool, s87 = .bool cv2 ∧ (cv2 = true → 0 < A ∧ ltN e3[A - 1]! e3[p2]! = false) ∧ Hid (DT wz g tl e3) ∧ Hid (Ong g w wz))
                case first =>
                  by_cases hA0 : 0 < A
                  · have hA0' : (A : Int) > 0 := by omega
                    obtain ⟨A1, hA1⟩ : ∃ A1, A - 1 = A1 := ⟨_, rfl⟩
                    have eA1 : (A : Int) - 1 = (A1 : Int) := by omega
                    have hA1b : A1 < n := by omega
                    have HA1 := hidden hA1
                    clear hA1
                    have c1 := hD.out.at A1 (by omega)
                    have c2 := hD.out.at p2 (by omega)
                    by_cases hxy : e3[A1]! < e3[p2]!
                    · have HL := less_t hxy
                      clear hxy
                      generalize e3[A1]! = x at c1 HL
                      generalize e3[p2]! = y at c2 HL
                      go_wp2_with fail
                      go_quiet (exact Calls.quiet_of_same (HL _))
                      go_wp2_with fail
                      go_meet
                      case rel => exact ⟨false, rfl, fun k => (by cases k), hidden (hD.out.drewN nq), hidden (hO.out.trans (Onl.drewN g w4 nq).ong)⟩
                    · have HL := less_f hxy
                      have HX : Hid (ltN e3[A - 1]! e3[p2]! = false) := hidden (by rw [HA1.out]; exact ltN_f hxy)
                      clear hxy
                      generalize e3[A1]! = x at c1 HL
                      generalize e3[p2]! = y at c2 HL
                      go_wp2_with fail
                      go_quiet (exact Calls.quiet_of_same (HL _))
                      go_wp2_with fail
                      go_meet
                      case rel => exact ⟨true, rfl, fun _ => ⟨hA0, HX.out⟩, hidden (hD.out.drewN nq), hidden (hO.out.trans (Onl.drewN g w4 nq).ong)⟩
                  · have hA0' : ¬ (A : Int) > 0 := by omega
                    go_wp2_with fail
                    go_quiet (fail)
                    go_wp2_with fail
                    go_meet
                    case rel => exact ⟨false, rfl, fun k => (by cases k), hidden (hD.out.drewN nq), hidden (hO.out.trans (Onl.drewN g w4 nq).ong)⟩
                case rest =>
                  rename World => w5
                  clear hD hO
                  obtain ⟨cv2, rfl, hcv, hD, hO⟩ := hcut
                  cases cv2 with
                  | true =>
                    obtain ⟨hA0, hnl⟩ := hcv rfl
                    obtain ⟨mid, d4, hpe⟩ : ∃ mid d4, Sort.partitionEqual ltN e3 A B p2 = (mid, d4) := ⟨_, _, rfl⟩
                    obtain ⟨r1, r2, r3, r4, r5⟩ := Sort.round_eq ltN_swo (Sort.partitionEqual_holds ltN) hA0 hp1 hp2 (by omega) hP.out.bel hnl hpe
                    have HNP : Hid (PQ d a b mid B d4) := hidden ⟨r2, hBb, by omega, r4, by rw [r3]; exact hP.out.size, fun R k1 k2 => by
                      obtain ⟨k3, k4⟩ := r5 R k1 k2
                      exact hP.out.go R k3 k4⟩
                    have HCE := hidden (partEqP w5 g n c tl e3 A B p2 hD.out hen hp1 hp2 (by omega) hn9 hnc)
                    rw [hpe] at HCE
                    clear r3 r4 r5 hnl hcv hpe
                    go_wp2_with fail
                    refine HCE.out.mono ?_
                    rintro en w6 ⟨rfl, hD6, hO6⟩
                    have HD6 := hidden hD6
                    have HO6 := hidden (hO.out.trans hO6.ong)
                    clear hD6 hO6 HCE
                    go_wp2_with fail
                    refine ⟨⟨mid, B, L2, wb, wp, d4, by first | rfl | simp, rfl, rfl, rfl, rfl, hL2, HD6, HNP, HO6⟩, ?_⟩
                    simp [intOf]
                    omega
                  | false =>
                    obtain ⟨mid, ap, d4, hpp⟩ : ∃ mid ap d4, Sort.partition ltN e3 A B p2 = (mid, ap, d4) := ⟨_, _, _, rfl⟩
                    obtain ⟨r1, r2, r3, r4, r5, r6, r7⟩ := Sort.round_part ltN_swo (Sort.partition_holds ltN) hp1 hp2 (by omega) hP.out.bel hpp
                    have HR := hidden (And.intro r3 (And.intro r4 (And.intro r5 (And.intro r6 r7))))
                    have HCE := hidden (partP w5 g n c tl e3 A B p2 hD.out hen hp1 hp2 (by omega) hn9 hnc)
                    rw [hpp] at HCE
                    clear r3 r4 r5 r6 r7 hcv hpp
                    go_wp2_with fail
                    refine HCE.out.mono ?_
                    rintro en w6 ⟨rfl, hD6, hO6⟩
                    have HD6 := hidden hD6
                    have HO6 := hidden (hO.out.trans hO6.ong)
                    clear hD6 hO6 HCE
                    have hen4 : d4.size = n := by rw [HR.out.1]; exact hen
                    obtain ⟨lf, hlf⟩ : ∃ lf, mid - A = lf := ⟨_, rfl⟩
                    obtain ⟨rg, hrg⟩ : ∃ rg, B - mid = rg := ⟨_, rfl⟩
                    have elf : (mid : Int) - (A : Int) = (lf : Int) := by omega
                    have erg : (B : Int) - (mid : Int) = (rg : Int) := by omega
                    obtain ⟨th, hth⟩ : ∃ th, len / 8 = th := ⟨_, rfl⟩
                    have eth : (len : Int).tdiv 8 = (th : Int) := by
                      rw [Int.tdiv_eq_ediv_of_nonneg (by omega)]
                      omega
                    have eth' : (len : Int) / 8 = (th : Int) := by omega
                    obtain ⟨md1, hmd1⟩ : ∃ md1, mid + 1 = md1 := ⟨_, rfl⟩
                    have emd1 : (mid : Int) + 1 = (md1 : Int) := by omega
                    have hlb := HLEN.out
                    have HMD := hidden hmd1
                    by_cases hlr : lf < rg
                    · have hlr' : (lf : Int) < (rg : Int) := by omega
                      have CC := hidden (HIH.out (mid - A) (by omega) w6 g n c tl d4 A mid L2 HD6.out hen4 r1 rfl (by omega) HR.out.2.1 hn9 hnc hL2)
                      have hbnd : mid < md1 ∧ md1 ≤ B ∧ B - md1 < B - A := by omega
                      clear hlf hrg hth hmd1 hlb
                      go_wp2_with fail
                      refine CC.out.mono ?_
                      rintro en w7 ⟨rfl, e5, hD7, hp7, hs7, hO7⟩
                      have HD7 := hidden hD7
                      have HO7 := hidden (HO6.out.trans hO7)
                      obtain ⟨z1, z2⟩ := HR.out.2.2.2.1 e5 hp7 hs7
                      rw [HMD.out] at z1 z2
                      have HNP : Hid (PQ d a b md1 B e5) := hidden ⟨by omega, hBb, by omega, z1, by rw [hp7.1, HR.out.1]; exact hP.out.size, fun R k1 k2 => by
                        obtain ⟨k3, k4⟩ := z2 R k1 k2
                        exact hP.out.go R k3 k4⟩
                      clear hD7 hp7 hs7 hO7 z1 z2 CC
                      go_wp2_with fail
                      refine ⟨⟨md1, B, L2, _, ap, e5, by first | rfl | simp, rfl, rfl, rfl, by first | rfl | simp, hL2, HD7, HNP, HO7⟩, ?_⟩
                      simp [intOf]
                      omega
                    · have hlr' : ¬ (lf : Int) < (rg : Int) := by omega
                      have CC := hidden (HIH.out (B - (mid + 1)) (by omega) w6 g n c tl d4 (mid + 1) B L2 HD6.out hen4 (by omega) rfl (by omega) HR.out.2.2.1 hn9 hnc hL2)
                      rw [hmd1] at CC
                      clear hlf hrg hth hmd1 hlb
                      go_wp2_with fail
                      refine CC.out.mono ?_
                      rintro en w7 ⟨rfl, e5, hD7, hp7, hs7, hO7⟩
                      have HD7 := hidden hD7
                      have HO7 := hidden (HO6.out.trans hO7)
                      rw [← HMD.out] at hp7 hs7
                      obtain ⟨z1, z2⟩ := HR.out.2.2.2.2 e5 hp7 hs7
                      have HNP : Hid (PQ d a b A mid e5) := hidden ⟨r1, by omega, by omega, z1, by rw [hp7.1, HR.out.1]; exact hP.out.size, fun R k1 k2 => by
                        obtain ⟨k3, k4⟩ := z2 R k1 k2
                        exact hP.out.go R k3 k4⟩
                      clear hD7 hp7 hs7 hO7 z1 z2 CC
                      go_wp2_with fail
                      refine ⟨⟨A, mid, L2, _, ap, e5, by first | rfl | simp, rfl, rfl, rfl, by first | rfl | simp, hL2, HD7, HNP, HO7⟩, ?_⟩
                      simp [intOf]
                      omega
end Go.Proofs.Ytjpelnbffodaiaa
