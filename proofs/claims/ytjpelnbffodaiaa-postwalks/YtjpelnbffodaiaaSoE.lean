/-
  slices.Sort over []uint32: partition (tools/gensod22.py).
-/
import Derived.Test.YtjpelnbffodaiaaSoD
import Derived.Deep.CutRange
import Derived.Deep.CutBlock
namespace Go.Proofs.Ytjpelnbffodaiaa
open Go.RowKit
set_option linter.unusedVariables false
set_option linter.unusedSimpArgs false

theorem pl_step {a i j : Nat} {e : Array Nat} {A i2 j2 : Nat} (hA : e[a]! = A) (h1 : Sort.scanUp (fun x => ltN x A) e j i = i2) (h2 : Sort.scanDown (fun x => !ltN x A) e i2 j = j2) :
    Sort.partLoop ltN a i j e = if i2 > j2 then (j2, e) else if (j2 - 1) + 1 - (i2 + 1) < j + 1 - i then Sort.partLoop ltN a (i2 + 1) (j2 - 1) (Sort.swp e i2 j2) else (j2, e) := by
  subst hA
  rw [Sort.partLoop]
  simp only [h1, h2]
  split
  · rfl
  · split <;> rfl

set_option maxRecDepth 100000 in
set_option maxHeartbeats 32000000 in
theorem partP (w : World) (g n c : Nat) (tl : List Value) (d : Array Nat) (a b pivot : Nat) (h : DT w g tl d) (hn : d.size = n) (hap : a ≤ pivot) (hpb : pivot < b) (hb : b ≤ n) (hn9 : n ≤ 1000000000) (hnc : n ≤ c) :
    Calls Try.prog 62 #[.slice (some ⟨g, 0, none⟩) n c, .int .i64 (a : Int), .int .i64 (b : Int), .int .i64 (pivot : Int)] w fun e w' => e = .returned (.tuple #[.int .i64 (((Sort.partition ltN d a b pivot).1 : Nat) : Int), .bool (Sort.partition ltN d a b pivot).2.1]) ∧ DT w' g tl (Sort.partition ltN d a b pivot).2.2 ∧ Onl g w w' := by
  have hD := hidden h
  have hO := hidden (Onl.refl g w)
  clear h
  obtain ⟨e, he⟩ : ∃ e, d = e := ⟨_, rfl⟩
  have hen : e.size = n := by rw [← he]; exact hn
  rw [he] at hD
  go_enter Try.func62, Try.ntmps62
  go_upto_region 1 with fail
  go_cut [] from 12 to 25 (fun wz => Hid (DT wz g tl (Sort.swp e a pivot)) ∧ Hid (Onl g w wz))
  case first =>
    by_cases hIJ : a = pivot
    · obtain rfl := hIJ
      have f1 := hD.out.fr a
      have f2 := hD.out.fr a
      have c1 := hD.out.at a (by omega)
      have c2 := hD.out.at a (by omega)
      have HSW : Hid (DT ((w.setCell ⟨g, a, none⟩ (.int .u32 ((e[a]! : Nat) : Int))).setCell ⟨g, a, none⟩ (.int .u32 ((e[a]! : Nat) : Int))).drew g tl (Sort.swp e a a) ∧ Onl g w ((w.setCell ⟨g, a, none⟩ (.int .u32 ((e[a]! : Nat) : Int))).setCell ⟨g, a, none⟩ (.int .u32 ((e[a]! : Nat) : Int))).drew) :=
        hidden ⟨hD.out.swp a a (by omega) (by omega), hO.out.swp _ _ _ _⟩
      generalize e[a]! = x at *
      go_wp2_with fail
      go_region
      go_wp2_with fail
      go_meet
      case rel => exact ⟨hidden HSW.out.1, hidden HSW.out.2⟩
    · have hne2 : ¬ pivot = a := fun k => hIJ k.symm
      have f1 := hD.out.fr a
      have f2 := hD.out.fr pivot
      have c1 := hD.out.at a (by omega)
      have c2 := hD.out.at pivot (by omega)
      have HSW : Hid (DT ((w.setCell ⟨g, a, none⟩ (.int .u32 ((e[pivot]! : Nat) : Int))).setCell ⟨g, pivot, none⟩ (.int .u32 ((e[a]! : Nat) : Int))).drew g tl (Sort.swp e a pivot) ∧ Onl g w ((w.setCell ⟨g, a, none⟩ (.int .u32 ((e[pivot]! : Nat) : Int))).setCell ⟨g, pivot, none⟩ (.int .u32 ((e[a]! : Nat) : Int))).drew) :=
        hidden ⟨hD.out.swp a pivot (by omega) (by omega), hO.out.swp _ _ _ _⟩
      generalize e[a]! = x at *
      generalize e[pivot]! = y at *
      go_wp2_with fail
      go_region
      go_wp2_with fail
      go_meet
      case rel => exact ⟨hidden HSW.out.1, hidden HSW.out.2⟩
  case rest =>
    rename World => w1
    obtain ⟨hD, hO⟩ := hcut
    obtain ⟨e, he9⟩ : ∃ e9, Sort.swp e a pivot = e9 := ⟨_, rfl⟩
    rw [he9] at hD
    have hen : e.size = n := by rw [← he9, swp_size]; exact hen
    obtain ⟨A, hA⟩ : ∃ A, e[a]! = A := ⟨_, rfl⟩
    have HA := hidden hA
    clear hA
    obtain ⟨B1, hB1⟩ : ∃ B1, b - 1 = B1 := ⟨_, rfl⟩
    obtain ⟨i1, hi1⟩ : ∃ i1, Sort.scanUp (fun x => ltN x A) e B1 (a + 1) = i1 := ⟨_, rfl⟩
    obtain ⟨j1, hj1⟩ : ∃ j1, Sort.scanDown (fun x => !ltN x A) e i1 B1 = j1 := ⟨_, rfl⟩
    have HP0 : Hid (Sort.partition ltN d a b pivot = if i1 > j1 then (j1, true, Sort.swp e j1 a) else ((Sort.partLoop ltN a (i1 + 1) (j1 - 1) (Sort.swp e i1 j1)).1, false, Sort.swp (Sort.partLoop ltN a (i1 + 1) (j1 - 1) (Sort.swp e i1 j1)).2 (Sort.partLoop ltN a (i1 + 1) (j1 - 1) (Sort.swp e i1 j1)).1 a)) := hidden (by
      unfold Sort.partition
      have h9 : Sort.swp d a pivot = e := by rw [he]; exact he9
      simp only [h9, HA.out, hB1, hi1, hj1])
    have ea : (a : Int) + 1 = ((a + 1 : Nat) : Int) := by omega
    have eb : (b : Int) - 1 = (B1 : Int) := by omega
    have hBb : a ≤ B1 ∧ B1 < b ∧ b ≤ B1 + 1 := by omega
    have HE9 := hidden he9
    have HE := hidden he
    clear he9 he hB1 hn
    obtain ⟨a1, ha1⟩ : ∃ a1, a + 1 = a1 := ⟨_, rfl⟩
    rw [ha1] at ea hi1
    have ha2 : a < a1 ∧ a1 ≤ a + 1 := by omega
    clear ha1
    go_upto_block 0 with fail
    go_cut [10] from 30 to 45 (fun s wz => s = .int .i64 ((i1 : Nat) : Int) ∧ (a1 ≤ i1 ∧ i1 ≤ B1 + 1) ∧ Hid (DT wz g tl e) ∧ Hid (Onl g w wz))
    case first =>
      go_wp2_with fail
      go_loopw [10] (fun s wz => ∃ q : Nat, s = .int .i64 (q : Int) ∧ a1 ≤ q ∧ q ≤ B1 + 1 ∧ Hid (Sort.scanUp (fun x => ltN x A) e B1 q = i1) ∧ Hid (DT wz g tl e) ∧ Hid (Onl g w wz)) (fun s _ => B1 + 2 - (intOf s).toNat)
      case atStart => exact ⟨a1, rfl, by omega, by omega, hidden hi1, hD, hO⟩
      case round =>
        rename World => wz
        obtain ⟨q, rfl, hq1, hq2, hS, HDZ, HOZ⟩ := hrel
        by_cases hle : q ≤ B1
        · have hle' : (q : Int) ≤ (B1 : Int) := by omega
          have c1 := HDZ.out.at a (by omega)
          rw [HA.out] at c1
          have c2 := HDZ.out.at q (by omega)
          by_cases hxy : e[q]! < A
          · have h8 := hS.out
            rw [Sort.scanUp, if_pos (by simp [ltN_t hxy]; omega)] at h8
            have HN := hidden h8
            have HL := less_t hxy
            clear h8 hS
            generalize e[q]! = y at *
            go_wp2_with fail
            go_quiet (exact Calls.quiet_of_same (HL _))
            go_wp2_with fail
            refine ⟨⟨q + 1, by first | rfl | simp, by omega, by omega, HN, hidden (HDZ.out.drewN nq), hidden (HOZ.out.trans (Onl.drewN g wz nq))⟩, ?_⟩
            simp [intOf]
            try omega
          · have h8 := hS.out
            rw [Sort.scanUp, if_neg (by simp [ltN_f hxy])] at h8
            have HN := hidden h8
            have HL := less_f hxy
            clear h8 hS
            generalize e[q]! = y at *
            go_wp2_with fail
            go_quiet (exact Calls.quiet_of_same (HL _))
            go_wp2_with fail
            go_meet
            case rel => exact ⟨by rw [HN.out], by have := HN.out; omega, hidden (HDZ.out.drewN nq), hidden (HOZ.out.trans (Onl.drewN g wz nq))⟩
        · have hle' : ¬ (q : Int) ≤ (B1 : Int) := by omega
          have h8 := hS.out
          rw [Sort.scanUp, if_neg (by simp; omega)] at h8
          have HN := hidden h8
          clear h8 hS
          go_wp2_with fail
          go_quiet (fail)
          go_wp2_with fail
          go_meet
          case rel => exact ⟨by rw [HN.out], by have := HN.out; omega, hidden (HDZ.out.drewN nq), hidden (HOZ.out.trans (Onl.drewN g wz nq))⟩
    case rest =>
      rename World => wA
      obtain ⟨rfl, hb_wA, hD, hO⟩ := hcut
      go_upto_block 2 with fail
      go_cut [11] from 46 to 62 (fun s wz => s = .int .i64 ((j1 : Nat) : Int) ∧ (i1 ≤ j1 + 1 ∧ j1 ≤ B1) ∧ Hid (DT wz g tl e) ∧ Hid (Onl g w wz))
      case first =>
        go_wp2_with fail
        go_loopw [11] (fun s wz => ∃ q : Nat, s = .int .i64 (q : Int) ∧ i1 ≤ q + 1 ∧ q ≤ B1 ∧ Hid (Sort.scanDown (fun x => !ltN x A) e i1 q = j1) ∧ Hid (DT wz g tl e) ∧ Hid (Onl g w wz)) (fun s _ => (intOf s).toNat)
        case atStart => exact ⟨B1, rfl, by omega, by omega, hidden hj1, hD, hO⟩
        case round =>
          rename World => wz
          obtain ⟨q, rfl, hq1, hq2, hS, HDZ, HOZ⟩ := hrel
          by_cases hle : i1 ≤ q
          · have hle' : (i1 : Int) ≤ (q : Int) := by omega
            have c1 := HDZ.out.at a (by omega)
            rw [HA.out] at c1
            have c2 := HDZ.out.at q (by omega)
            by_cases hxy : e[q]! < A
            · have h8 := hS.out
              obtain ⟨r, hr⟩ : ∃ r, q = r + 1 := ⟨q - 1, by omega⟩
              rw [hr, Sort.scanDown, ← hr, if_neg (by simp [ltN_t hxy])] at h8
              clear hr
              have HN := hidden h8
              have HL := less_t hxy
              clear h8 hS
              generalize e[q]! = y at *
              go_wp2_with fail
              go_quiet (exact Calls.quiet_of_same (HL _))
              go_wp2_with fail
              go_meet
              case rel => exact ⟨by rw [HN.out], by have := HN.out; omega, hidden (HDZ.out.drewN nq), hidden (HOZ.out.trans (Onl.drewN g wz nq))⟩
            · have h8 := hS.out
              obtain ⟨r, hr⟩ : ∃ r, q = r + 1 := ⟨q - 1, by omega⟩
              rw [hr, Sort.scanDown, ← hr, if_pos (by simp [ltN_f hxy]; omega)] at h8
              have er : (q : Int) - 1 = (r : Int) := by omega
              have hr2 : i1 ≤ r + 1 ∧ r ≤ B1 ∧ r < q := by omega
              clear hr
              have HN := hidden h8
              have HL := less_f hxy
              clear h8 hS
              generalize e[q]! = y at *
              go_wp2_with fail
              go_quiet (exact Calls.quiet_of_same (HL _))
              go_wp2_with fail
              refine ⟨⟨r, by first | rfl | rw [er], by omega, by omega, HN, hidden (HDZ.out.drewN nq), hidden (HOZ.out.trans (Onl.drewN g wz nq))⟩, ?_⟩
              simp [intOf]
              try omega
          · have hle' : ¬ (i1 : Int) ≤ (q : Int) := by omega
            have h8 := hS.out
            have h7 : Sort.scanDown (fun x => !ltN x A) e i1 q = q := by
              cases q with
              | zero => rfl
              | succ r => rw [Sort.scanDown, if_neg (by simp; omega)]
            rw [h7] at h8
            have HN := hidden h8
            clear h8 hS
            go_wp2_with fail
            go_quiet (fail)
            go_wp2_with fail
            go_meet
            case rel => exact ⟨by rw [HN.out], by have := HN.out; omega, hidden (HDZ.out.drewN nq), hidden (HOZ.out.trans (Onl.drewN g wz nq))⟩
      case rest =>
        rename World => wB
        obtain ⟨rfl, hb_wB, hD, hO⟩ := hcut
        by_cases hgt : i1 > j1
        · have hgt' : (i1 : Int) > (j1 : Int) := by omega
          have HP : Hid (Sort.partition ltN d a b pivot = (j1, true, Sort.swp e j1 a)) := hidden (by rw [HP0.out, if_pos hgt])
          clear HP0
          go_upto_region 8 with fail
          go_cut [] from 66 to 79 (fun wz => Hid (DT wz g tl (Sort.swp e j1 a)) ∧ Hid (Onl g w wz))
          case first =>
            by_cases hIJ : j1 = a
            · obtain rfl := hIJ
              have f1 := hD.out.fr j1
              have f2 := hD.out.fr j1
              have c1 := hD.out.at j1 (by omega)
              have c2 := hD.out.at j1 (by omega)
              have HSW : Hid (DT ((wB.setCell ⟨g, j1, none⟩ (.int .u32 ((e[j1]! : Nat) : Int))).setCell ⟨g, j1, none⟩ (.int .u32 ((e[j1]! : Nat) : Int))).drew g tl (Sort.swp e j1 j1) ∧ Onl g w ((wB.setCell ⟨g, j1, none⟩ (.int .u32 ((e[j1]! : Nat) : Int))).setCell ⟨g, j1, none⟩ (.int .u32 ((e[j1]! : Nat) : Int))).drew) :=
                hidden ⟨hD.out.swp j1 j1 (by omega) (by omega), hO.out.swp _ _ _ _⟩
              generalize e[j1]! = x at *
              go_wp2_with fail
              go_region
              go_wp2_with fail
              go_meet
              case rel => exact ⟨hidden HSW.out.1, hidden HSW.out.2⟩
            · have hne2 : ¬ a = j1 := fun k => hIJ k.symm
              have f1 := hD.out.fr j1
              have f2 := hD.out.fr a
              have c1 := hD.out.at j1 (by omega)
              have c2 := hD.out.at a (by omega)
              have HSW : Hid (DT ((wB.setCell ⟨g, j1, none⟩ (.int .u32 ((e[a]! : Nat) : Int))).setCell ⟨g, a, none⟩ (.int .u32 ((e[j1]! : Nat) : Int))).drew g tl (Sort.swp e j1 a) ∧ Onl g w ((wB.setCell ⟨g, j1, none⟩ (.int .u32 ((e[a]! : Nat) : Int))).setCell ⟨g, a, none⟩ (.int .u32 ((e[j1]! : Nat) : Int))).drew) :=
                hidden ⟨hD.out.swp j1 a (by omega) (by omega), hO.out.swp _ _ _ _⟩
              generalize e[j1]! = x at *
              generalize e[a]! = y at *
              go_wp2_with fail
              go_region
              go_wp2_with fail
              go_meet
              case rel => exact ⟨hidden HSW.out.1, hidden HSW.out.2⟩
          case rest =>
            rename World => wC
            obtain ⟨hD, hO⟩ := hcut
            go_wp2_with fail
            go_ret2
            exact ⟨by rw [HP.out]; rfl, by rw [HP.out]; exact hD.out, hO.out⟩
        · have hgt' : ¬ (i1 : Int) > (j1 : Int) := by omega
          have HP : Hid (Sort.partition ltN d a b pivot = ((Sort.partLoop ltN a (i1 + 1) (j1 - 1) (Sort.swp e i1 j1)).1, false, Sort.swp (Sort.partLoop ltN a (i1 + 1) (j1 - 1) (Sort.swp e i1 j1)).2 (Sort.partLoop ltN a (i1 + 1) (j1 - 1) (Sort.swp e i1 j1)).1 a)) := hidden (by rw [HP0.out, if_neg hgt])
          have hne := pa_ne (by omega) hb_wA.1 hi1 hj1 (by omega) (by omega)
          clear HP0
          go_upto_region 10 with fail
          go_cut [] from 81 to 94 (fun wz => Hid (DT wz g tl (Sort.swp e i1 j1)) ∧ Hid (Onl g w wz))
          case first =>
            by_cases hIJ : i1 = j1
            · exact absurd hIJ hne
            · have hne2 : ¬ j1 = i1 := fun k => hIJ k.symm
              have f1 := hD.out.fr i1
              have f2 := hD.out.fr j1
              have c1 := hD.out.at i1 (by omega)
              have c2 := hD.out.at j1 (by omega)
              have HSW : Hid (DT ((wB.setCell ⟨g, i1, none⟩ (.int .u32 ((e[j1]! : Nat) : Int))).setCell ⟨g, j1, none⟩ (.int .u32 ((e[i1]! : Nat) : Int))).drew g tl (Sort.swp e i1 j1) ∧ Onl g w ((wB.setCell ⟨g, i1, none⟩ (.int .u32 ((e[j1]! : Nat) : Int))).setCell ⟨g, j1, none⟩ (.int .u32 ((e[i1]! : Nat) : Int))).drew) :=
                hidden ⟨hD.out.swp i1 j1 (by omega) (by omega), hO.out.swp _ _ _ _⟩
              generalize e[i1]! = x at *
              generalize e[j1]! = y at *
              go_wp2_with fail
              go_region
              go_wp2_with fail
              go_meet
              case rel => exact ⟨hidden HSW.out.1, hidden HSW.out.2⟩
          case rest =>
            rename World => wD
            obtain ⟨hD, hO⟩ := hcut
            have HLP : Hid ((fun r : Nat × Array Nat => (r.1, false, Sort.swp r.2 r.1 a)) (Sort.partLoop ltN a (i1 + 1) (j1 - 1) (Sort.swp e i1 j1)) = Sort.partition ltN d a b pivot) := hidden HP.out.symm
            have ej1 : (j1 : Int) - 1 = ((j1 - 1 : Nat) : Int) := by omega
            go_wp2_with fail
            go_loopw [10, 11] (fun s9 s10 wx => ∃ (i j : Nat) (e : Array Nat), s9 = .int .i64 (i : Int) ∧ s10 = .int .i64 (j : Int) ∧ a + 1 ≤ i ∧ i ≤ j + 1 ∧ j < b ∧ e.size = n ∧ Hid (DT wx g tl e) ∧ Hid (Onl g w wx) ∧ Hid ((fun r : Nat × Array Nat => (r.1, false, Sort.swp r.2 r.1 a)) (Sort.partLoop ltN a i j e) = Sort.partition ltN d a b pivot)) (fun s9 s10 _ => n + 1 + (intOf s10).toNat - (intOf s9).toNat)
            case atStart => exact ⟨i1 + 1, j1 - 1, Sort.swp e i1 j1, by first | rfl | simp, by first | rfl | rw [ej1], by omega, by omega, by omega, by rw [swp_size]; exact hen, hD, hO, HLP⟩
            case round =>
              rename World => wx
              clear hb_wA hb_wB HP hne hgt hgt' hi1 hj1 HLP ej1
              obtain ⟨i, j, e, rfl, rfl, hai, hij, hjb, hen, hD, hO, hE⟩ := hrel
              obtain ⟨A, hA⟩ : ∃ A, e[a]! = A := ⟨_, rfl⟩
              have HA := hidden hA
              clear hA
              obtain ⟨i2, hi2⟩ : ∃ i2, Sort.scanUp (fun x => ltN x A) e j i = i2 := ⟨_, rfl⟩
              obtain ⟨j2, hj2⟩ : ∃ j2, Sort.scanDown (fun x => !ltN x A) e i2 j = j2 := ⟨_, rfl⟩
              go_upto_block 6 with fail
              go_cut [10] from 99 to 114 (fun s wz => s = .int .i64 ((i2 : Nat) : Int) ∧ (i ≤ i2 ∧ i2 ≤ j + 1) ∧ Hid (DT wz g tl e) ∧ Hid (Onl g w wz))
              case first =>
                go_wp2_with fail
                go_loopw [10] (fun s wz => ∃ q : Nat, s = .int .i64 (q : Int) ∧ i ≤ q ∧ q ≤ j + 1 ∧ Hid (Sort.scanUp (fun x => ltN x A) e j q = i2) ∧ Hid (DT wz g tl e) ∧ Hid (Onl g w wz)) (fun s _ => j + 2 - (intOf s).toNat)
                case atStart => exact ⟨i, rfl, by omega, by omega, hidden hi2, hD, hO⟩
                case round =>
                  rename World => wz
                  obtain ⟨q, rfl, hq1, hq2, hS, HDZ, HOZ⟩ := hrel
                  by_cases hle : q ≤ j
                  · have hle' : (q : Int) ≤ (j : Int) := by omega
                    have c1 := HDZ.out.at a (by omega)
                    rw [HA.out] at c1
                    have c2 := HDZ.out.at q (by omega)
                    by_cases hxy : e[q]! < A
                    · have h8 := hS.out
                      rw [Sort.scanUp, if_pos (by simp [ltN_t hxy]; omega)] at h8
                      have HN := hidden h8
                      have HL := less_t hxy
                      clear h8 hS
                      generalize e[q]! = y at *
                      go_wp2_with fail
                      go_quiet (exact Calls.quiet_of_same (HL _))
                      go_wp2_with fail
                      refine ⟨⟨q + 1, by first | rfl | simp, by omega, by omega, HN, hidden (HDZ.out.drewN nq), hidden (HOZ.out.trans (Onl.drewN g wz nq))⟩, ?_⟩
                      simp [intOf]
                      try omega
                    · have h8 := hS.out
                      rw [Sort.scanUp, if_neg (by simp [ltN_f hxy])] at h8
                      have HN := hidden h8
                      have HL := less_f hxy
                      clear h8 hS
                      generalize e[q]! = y at *
                      go_wp2_with fail
                      go_quiet (exact Calls.quiet_of_same (HL _))
                      go_wp2_with fail
                      go_meet
                      case rel => exact ⟨by rw [HN.out], by have := HN.out; omega, hidden (HDZ.out.drewN nq), hidden (HOZ.out.trans (Onl.drewN g wz nq))⟩
                  · have hle' : ¬ (q : Int) ≤ (j : Int) := by omega
                    have h8 := hS.out
                    rw [Sort.scanUp, if_neg (by simp; omega)] at h8
                    have HN := hidden h8
                    clear h8 hS
                    go_wp2_with fail
                    go_quiet (fail)
                    go_wp2_with fail
                    go_meet
                    case rel => exact ⟨by rw [HN.out], by have := HN.out; omega, hidden (HDZ.out.drewN nq), hidden (HOZ.out.trans (Onl.drewN g wz nq))⟩
              case rest =>
                rename World => wU
                obtain ⟨rfl, hb_wU, hD, hO⟩ := hcut
                go_upto_block 8 with fail
                go_cut [11] from 115 to 131 (fun s wz => s = .int .i64 ((j2 : Nat) : Int) ∧ (i2 ≤ j2 + 1 ∧ j2 ≤ j) ∧ Hid (DT wz g tl e) ∧ Hid (Onl g w wz))
                case first =>
                  go_wp2_with fail
                  go_loopw [11] (fun s wz => ∃ q : Nat, s = .int .i64 (q : Int) ∧ i2 ≤ q + 1 ∧ q ≤ j ∧ Hid (Sort.scanDown (fun x => !ltN x A) e i2 q = j2) ∧ Hid (DT wz g tl e) ∧ Hid (Onl g w wz)) (fun s _ => (intOf s).toNat)
                  case atStart => exact ⟨j, rfl, by omega, by omega, hidden hj2, hD, hO⟩
                  case round =>
                    rename World => wz
                    obtain ⟨q, rfl, hq1, hq2, hS, HDZ, HOZ⟩ := hrel
                    by_cases hle : i2 ≤ q
                    · have hle' : (i2 : Int) ≤ (q : Int) := by omega
                      have c1 := HDZ.out.at a (by omega)
                      rw [HA.out] at c1
                      have c2 := HDZ.out.at q (by omega)
                      by_cases hxy : e[q]! < A
                      · have h8 := hS.out
                        obtain ⟨r, hr⟩ : ∃ r, q = r + 1 := ⟨q - 1, by omega⟩
                        rw [hr, Sort.scanDown, ← hr, if_neg (by simp [ltN_t hxy])] at h8
                        clear hr
                        have HN := hidden h8
                        have HL := less_t hxy
                        clear h8 hS
                        generalize e[q]! = y at *
                        go_wp2_with fail
                        go_quiet (exact Calls.quiet_of_same (HL _))
                        go_wp2_with fail
                        go_meet
                        case rel => exact ⟨by rw [HN.out], by have := HN.out; omega, hidden (HDZ.out.drewN nq), hidden (HOZ.out.trans (Onl.drewN g wz nq))⟩
                      · have h8 := hS.out
                        obtain ⟨r, hr⟩ : ∃ r, q = r + 1 := ⟨q - 1, by omega⟩
                        rw [hr, Sort.scanDown, ← hr, if_pos (by simp [ltN_f hxy]; omega)] at h8
                        have er : (q : Int) - 1 = (r : Int) := by omega
                        have hr2 : i2 ≤ r + 1 ∧ r ≤ j ∧ r < q := by omega
                        clear hr
                        have HN := hidden h8
                        have HL := less_f hxy
                        clear h8 hS
                        generalize e[q]! = y at *
                        go_wp2_with fail
                        go_quiet (exact Calls.quiet_of_same (HL _))
                        go_wp2_with fail
                        refine ⟨⟨r, by first | rfl | rw [er], by omega, by omega, HN, hidden (HDZ.out.drewN nq), hidden (HOZ.out.trans (Onl.drewN g wz nq))⟩, ?_⟩
                        simp [intOf]
                        try omega
                    · have hle' : ¬ (i2 : Int) ≤ (q : Int) := by omega
                      have h8 := hS.out
                      have h7 : Sort.scanDown (fun x => !ltN x A) e i2 q = q := by
                        cases q with
                        | zero => rfl
                        | succ r => rw [Sort.scanDown, if_neg (by simp; omega)]
                      rw [h7] at h8
                      have HN := hidden h8
                      clear h8 hS
                      go_wp2_with fail
                      go_quiet (fail)
                      go_wp2_with fail
                      go_meet
                      case rel => exact ⟨by rw [HN.out], by have := HN.out; omega, hidden (HDZ.out.drewN nq), hidden (HOZ.out.trans (Onl.drewN g wz nq))⟩
                case rest =>
                  rename World => wV
                  obtain ⟨rfl, hb_wV, hD, hO⟩ := hcut
                  have hst := hE.out
                  rw [pl_step HA.out hi2 hj2] at hst
                  by_cases hgt : i2 > j2
                  · have hgt' : (i2 : Int) > (j2 : Int) := by omega
                    rw [if_pos hgt] at hst
                    go_upto_region 21 with fail
                    go_cut [] from 153 to 166 (fun wz => Hid (DT wz g tl (Sort.swp e j2 a)) ∧ Hid (Onl g w wz))
                    case first =>
                      by_cases hIJ : j2 = a
                      · obtain rfl := hIJ
                        have f1 := hD.out.fr j2
                        have f2 := hD.out.fr j2
                        have c1 := hD.out.at j2 (by omega)
                        have c2 := hD.out.at j2 (by omega)
                        have HSW : Hid (DT ((wV.setCell ⟨g, j2, none⟩ (.int .u32 ((e[j2]! : Nat) : Int))).setCell ⟨g, j2, none⟩ (.int .u32 ((e[j2]! : Nat) : Int))).drew g tl (Sort.swp e j2 j2) ∧ Onl g w ((wV.setCell ⟨g, j2, none⟩ (.int .u32 ((e[j2]! : Nat) : Int))).setCell ⟨g, j2, none⟩ (.int .u32 ((e[j2]! : Nat) : Int))).drew) :=
                          hidden ⟨hD.out.swp j2 j2 (by omega) (by omega), hO.out.swp _ _ _ _⟩
                        generalize e[j2]! = x at *
                        go_wp2_with fail
                        go_region
                        go_wp2_with fail
                        go_meet
                        case rel => exact ⟨hidden HSW.out.1, hidden HSW.out.2⟩
                      · have hne2 : ¬ a = j2 := fun k => hIJ k.symm
                        have f1 := hD.out.fr j2
                        have f2 := hD.out.fr a
                        have c1 := hD.out.at j2 (by omega)
                        have c2 := hD.out.at a (by omega)
                        have HSW : Hid (DT ((wV.setCell ⟨g, j2, none⟩ (.int .u32 ((e[a]! : Nat) : Int))).setCell ⟨g, a, none⟩ (.int .u32 ((e[j2]! : Nat) : Int))).drew g tl (Sort.swp e j2 a) ∧ Onl g w ((wV.setCell ⟨g, j2, none⟩ (.int .u32 ((e[a]! : Nat) : Int))).setCell ⟨g, a, none⟩ (.int .u32 ((e[j2]! : Nat) : Int))).drew) :=
                          hidden ⟨hD.out.swp j2 a (by omega) (by omega), hO.out.swp _ _ _ _⟩
                        generalize e[j2]! = x at *
                        generalize e[a]! = y at *
                        go_wp2_with fail
                        go_region
                        go_wp2_with fail
                        go_meet
                        case rel => exact ⟨hidden HSW.out.1, hidden HSW.out.2⟩
                    case rest =>
                      rename World => wX
                      obtain ⟨hD, hO⟩ := hcut
                      have HST2 := hidden hst
                      clear hst
                      go_wp2_with fail
                      go_ret2
                      exact ⟨by rw [← HST2.out]; rfl, by rw [← HST2.out]; exact hD.out, hO.out⟩
                  · have hgt' : ¬ (i2 : Int) > (j2 : Int) := by omega
                    rw [if_neg hgt, if_pos (by omega)] at hst
                    have HST := hidden hst
                    have hne := pa_ne (by omega) hb_wU.1 hi2 hj2 (by omega) (by omega)
                    clear hst
                    go_upto_region 18 with fail
                    go_cut [] from 135 to 148 (fun wz => Hid (DT wz g tl (Sort.swp e i2 j2)) ∧ Hid (Onl g w wz))
                    case first =>
                      by_cases hIJ : i2 = j2
                      · exact absurd hIJ hne
                      · have hne2 : ¬ j2 = i2 := fun k => hIJ k.symm
                        have f1 := hD.out.fr i2
                        have f2 := hD.out.fr j2
                        have c1 := hD.out.at i2 (by omega)
                        have c2 := hD.out.at j2 (by omega)
                        have HSW : Hid (DT ((wV.setCell ⟨g, i2, none⟩ (.int .u32 ((e[j2]! : Nat) : Int))).setCell ⟨g, j2, none⟩ (.int .u32 ((e[i2]! : Nat) : Int))).drew g tl (Sort.swp e i2 j2) ∧ Onl g w ((wV.setCell ⟨g, i2, none⟩ (.int .u32 ((e[j2]! : Nat) : Int))).setCell ⟨g, j2, none⟩ (.int .u32 ((e[i2]! : Nat) : Int))).drew) :=
                          hidden ⟨hD.out.swp i2 j2 (by omega) (by omega), hO.out.swp _ _ _ _⟩
                        generalize e[i2]! = x at *
                        generalize e[j2]! = y at *
                        go_wp2_with fail
                        go_region
                        go_wp2_with fail
                        go_meet
                        case rel => exact ⟨hidden HSW.out.1, hidden HSW.out.2⟩
                    case rest =>
                      rename World => wW
                      obtain ⟨hD, hO⟩ := hcut
                      go_wp2_with fail
                      refine ⟨⟨i2 + 1, j2 - 1, Sort.swp e i2 j2, by first | rfl | simp, by rw [show ((j2 : Int) - 1) = ((j2 - 1 : Nat) : Int) by omega], by omega, by omega, by omega, by rw [swp_size]; exact hen, hD, hO, HST⟩, ?_⟩
                      simp [intOf]
                      omega
end Go.Proofs.Ytjpelnbffodaiaa
