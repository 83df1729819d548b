import Derived.Test.YtgmdpbahcbhfjaaGreatDoorJSoA
import Derived.Deep.CutRange
import Derived.Deep.CutBlock
set_option linter.unusedSimpArgs false
set_option linter.unusedVariables false
set_option maxHeartbeats 40000000
set_option maxRecDepth 100000
/-
  slices.Sort over []uint32: partitionEqual (tools/gensod22.py).
-/
namespace Go.Proofs.YtgmdpbahcbhfjaaGreatDoor.J
open Go.RowKit

theorem scanUp_stop (p : Nat → Bool) (e : Array Nat) (j : Nat) : ∀ (k i : Nat), j + 1 - i ≤ k → Sort.scanUp p e j i ≤ j → p e[Sort.scanUp p e j i]! = false := by
  intro k
  induction k with
  | zero =>
    intro i h1 h2
    rw [Sort.scanUp, if_neg (by simp; omega)] at h2
    omega
  | succ k ih =>
    intro i h1 h2
    by_cases hc : (decide (i ≤ j) && p e[i]!) = true
    · rw [Sort.scanUp, if_pos hc] at h2 ⊢
      exact ih (i + 1) (by omega) h2
    · rw [Sort.scanUp, if_neg hc] at h2 ⊢
      simp at hc
      exact hc h2
theorem scanDown_stop (p : Nat → Bool) (e : Array Nat) (i : Nat) (hi : 0 < i) : ∀ (j : Nat), i ≤ Sort.scanDown p e i j → p e[Sort.scanDown p e i j]! = false := by
  intro j
  induction j with
  | zero => intro h; rw [Sort.scanDown] at h; omega
  | succ j ih =>
    intro h
    by_cases hc : (decide (i ≤ j + 1) && p e[j + 1]!) = true
    · rw [Sort.scanDown, if_pos hc] at h ⊢
      exact ih h
    · rw [Sort.scanDown, if_neg hc] at h ⊢
      simp at hc
      exact hc h
theorem pe_ne {e : Array Nat} {A i j i2 j2 : Nat} (hi : 0 < i) (hii : i ≤ i2) (h1 : Sort.scanUp (fun x => !ltN A x) e j i = i2) (h2 : Sort.scanDown (fun x => ltN A x) e i2 j = j2) (hj : i2 ≤ j) (hij : i2 ≤ j2) : i2 ≠ j2 := by
  intro he
  have a1 := scanUp_stop (fun x => !ltN A x) e j _ i (Nat.le_refl _) (by rw [h1]; exact hj)
  have a2 := scanDown_stop (fun x => ltN A x) e i2 (by omega) j (by rw [h2]; exact hij)
  rw [h1] at a1
  rw [h2, ← he] at a2
  simp [a2] at a1
theorem pa_ne {e : Array Nat} {A i j i2 j2 : Nat} (hi : 0 < i) (hii : i ≤ i2) (h1 : Sort.scanUp (fun x => ltN x A) e j i = i2) (h2 : Sort.scanDown (fun x => !ltN x A) e i2 j = j2) (hj : i2 ≤ j) (hij : i2 ≤ j2) : i2 ≠ j2 := by
  intro he
  have a1 := scanUp_stop (fun x => ltN x A) e j _ i (Nat.le_refl _) (by rw [h1]; exact hj)
  have a2 := scanDown_stop (fun x => !ltN x A) e i2 (by omega) j (by rw [h2]; exact hij)
  rw [h1] at a1
  rw [h2, ← he] at a2
  simp [a1] at a2
theorem pe_step {a i j : Nat} {e : Array Nat} {A i2 j2 : Nat} (hA : e[a]! = A) (h1 : Sort.scanUp (fun x => !ltN A x) e j i = i2) (h2 : Sort.scanDown (fun x => ltN A x) e i2 j = j2) :
    Sort.partEqLoop ltN a i j e = if i2 > j2 then (i2, e) else if (j2 - 1) + 1 - (i2 + 1) < j + 1 - i then Sort.partEqLoop ltN a (i2 + 1) (j2 - 1) (Sort.swp e i2 j2) else (i2, e) := by
  subst hA
  rw [Sort.partEqLoop]
  simp only [h1, h2]
  split
  · rfl
  · split <;> rfl

set_option maxRecDepth 100000 in
set_option maxHeartbeats 16000000 in
theorem partEqP (w : World) (g n c : Nat) (tl : List Value) (d : Array Nat) (a b pivot : Nat) (h : DT w g tl d) (hn : d.size = n) (hap : a ≤ pivot) (hpb : pivot < b) (hb : b ≤ n) (hn9 : n ≤ 1000000000) (hnc : n ≤ c) :
    Calls Tryz.prog 160 #[.slice (some ⟨g, 0, none⟩) n c, .int .i64 (a : Int), .int .i64 (b : Int), .int .i64 (pivot : Int)] w fun e w' => e = .returned (.int .i64 (((Sort.partitionEqual ltN d a b pivot).1 : Nat) : Int)) ∧ DT w' g tl (Sort.partitionEqual ltN d a b pivot).2 ∧ Onl g w w' := by
  have hD := hidden h
  have hO := hidden (Onl.refl g w)
  clear h
  obtain ⟨e, he⟩ : ∃ e, d = e := ⟨_, rfl⟩
  rw [he] at hD hn
  go_enter Tryz.func160, Tryz.ntmps160
  go_upto_region 1 with fail
  go_cut [] from 11 to 24 (fun wz => Hid (DT wz g tl (Sort.swp e a pivot)) ∧ Hid (Onl g w wz))
  case first =>
    by_cases hIJ : a = pivot
    · obtain rfl := hIJ
      have f1 := hD.out.fr a
      have f2 := hD.out.fr a
      have c1 := hD.out.at a (by omega)
      have c2 := hD.out.at a (by omega)
      have HSW : Hid (DT ((w.setCell ⟨g, a, none⟩ (.int .u32 ((e[a]! : Nat) : Int))).setCell ⟨g, a, none⟩ (.int .u32 ((e[a]! : Nat) : Int))).drew g tl (Sort.swp e a a) ∧ Onl g w ((w.setCell ⟨g, a, none⟩ (.int .u32 ((e[a]! : Nat) : Int))).setCell ⟨g, a, none⟩ (.int .u32 ((e[a]! : Nat) : Int))).drew) :=
        hidden ⟨hD.out.swp a a (by omega) (by omega), hO.out.swp _ _ _ _⟩
      generalize e[a]! = x at *
      go_wp2_with fail
      go_region
      go_wp2_with fail
      go_meet
      case rel => exact ⟨hidden HSW.out.1, hidden HSW.out.2⟩
    · have hne2 : ¬ pivot = a := fun k => hIJ k.symm
      have f1 := hD.out.fr a
      have f2 := hD.out.fr pivot
      have c1 := hD.out.at a (by omega)
      have c2 := hD.out.at pivot (by omega)
      have HSW : Hid (DT ((w.setCell ⟨g, a, none⟩ (.int .u32 ((e[pivot]! : Nat) : Int))).setCell ⟨g, pivot, none⟩ (.int .u32 ((e[a]! : Nat) : Int))).drew g tl (Sort.swp e a pivot) ∧ Onl g w ((w.setCell ⟨g, a, none⟩ (.int .u32 ((e[pivot]! : Nat) : Int))).setCell ⟨g, pivot, none⟩ (.int .u32 ((e[a]! : Nat) : Int))).drew) :=
        hidden ⟨hD.out.swp a pivot (by omega) (by omega), hO.out.swp _ _ _ _⟩
      generalize e[a]! = x at *
      generalize e[pivot]! = y at *
      go_wp2_with fail
      go_region
      go_wp2_with fail
      go_meet
      case rel => exact ⟨hidden HSW.out.1, hidden HSW.out.2⟩
  case rest =>
    rename World => w1
    obtain ⟨hD, hO⟩ := hcut
    have hT : Hid (Sort.partEqLoop ltN a (a + 1) (b - 1) (Sort.swp e a pivot) = Sort.partitionEqual ltN d a b pivot) := hidden (by rw [he]; rfl)
    have hb1 : (b : Int) - 1 = ((b - 1 : Nat) : Int) := by omega
    have HE := hidden he
    have HEN := hidden hn
    clear he hn
    go_wp2_with fail
    go_loopw [9, 10] (fun s9 s10 wx => ∃ (i j : Nat) (e : Array Nat), s9 = .int .i64 (i : Int) ∧ s10 = .int .i64 (j : Int) ∧ a + 1 ≤ i ∧ i ≤ j + 1 ∧ j < b ∧ e.size = n ∧ Hid (DT wx g tl e) ∧ Hid (Onl g w wx) ∧ Hid (Sort.partEqLoop ltN a i j e = Sort.partitionEqual ltN d a b pivot)) (fun s9 s10 _ => n + 1 + (intOf s10).toNat - (intOf s9).toNat)
    case atStart => exact ⟨a + 1, b - 1, Sort.swp e a pivot, by first | rfl | simp, by first | rfl | rw [hb1], by omega, by omega, by omega, by rw [swp_size]; exact HEN.out, hD, hO, hT⟩
    case round =>
      rename World => wx
      obtain ⟨i, j, e, rfl, rfl, hai, hij, hjb, hen, hD, hO, hE⟩ := hrel
      obtain ⟨A, hA⟩ : ∃ A, e[a]! = A := ⟨_, rfl⟩
      have HA := hidden hA
      clear hA
      obtain ⟨i2, hi2⟩ : ∃ i2, Sort.scanUp (fun x => !ltN A x) e j i = i2 := ⟨_, rfl⟩
      obtain ⟨j2, hj2⟩ : ∃ j2, Sort.scanDown (fun x => ltN A x) e i2 j = j2 := ⟨_, rfl⟩
      go_upto_block 2 with fail
      go_cut [9] from 29 to 45 (fun s wz => s = .int .i64 ((i2 : Nat) : Int) ∧ (i ≤ i2 ∧ i2 ≤ j + 1) ∧ Hid (DT wz g tl e) ∧ Hid (Onl g w wz))
      case first =>
        go_wp2_with fail
        go_loopw [9] (fun s wz => ∃ q : Nat, s = .int .i64 (q : Int) ∧ i ≤ q ∧ q ≤ j + 1 ∧ Hid (Sort.scanUp (fun x => !ltN A x) e j q = i2) ∧ Hid (DT wz g tl e) ∧ Hid (Onl g w wz)) (fun s _ => j + 2 - (intOf s).toNat)
        case atStart => exact ⟨i, rfl, by omega, by omega, hidden hi2, hD, hO⟩
        case round =>
          rename World => wz
          obtain ⟨q, rfl, hq1, hq2, hS, HDZ, HOZ⟩ := hrel
          by_cases hle : q ≤ j
          · have hle' : (q : Int) ≤ (j : Int) := by omega
            have c1 := HDZ.out.at a (by omega)
            rw [HA.out] at c1
            have c2 := HDZ.out.at q (by omega)
            by_cases hxy : A < e[q]!
            · have h8 := hS.out
              rw [Sort.scanUp, if_neg (by simp [ltN_t hxy])] at h8
              have HN := hidden h8
              have HL := less_t hxy
              clear h8 hS
              generalize e[q]! = y at *
              go_wp2_with fail
              go_quiet (exact Calls.quiet_of_same (HL _))
              go_wp2_with fail
              go_meet
              case rel => exact ⟨by rw [HN.out], by have := HN.out; omega, hidden (HDZ.out.drewN nq), hidden (HOZ.out.trans (Onl.drewN g wz nq))⟩
            · have h8 := hS.out
              rw [Sort.scanUp, if_pos (by simp [ltN_f hxy]; omega)] at h8
              have HN := hidden h8
              have HL := less_f hxy
              clear h8 hS
              generalize e[q]! = y at *
              go_wp2_with fail
              go_quiet (exact Calls.quiet_of_same (HL _))
              go_wp2_with fail
              refine ⟨⟨q + 1, by first | rfl | simp, by omega, by omega, HN, hidden (HDZ.out.drewN nq), hidden (HOZ.out.trans (Onl.drewN g wz nq))⟩, ?_⟩
              simp [intOf]
              try omega
          · have hle' : ¬ (q : Int) ≤ (j : Int) := by omega
            have h8 := hS.out
            rw [Sort.scanUp, if_neg (by simp; omega)] at h8
            have HN := hidden h8
            clear h8 hS
            go_wp2_with fail
            go_quiet (fail)
            go_wp2_with fail
            go_meet
            case rel => exact ⟨by rw [HN.out], by have := HN.out; omega, hidden (HDZ.out.drewN nq), hidden (HOZ.out.trans (Onl.drewN g wz nq))⟩
      case rest =>
        rename World => wU
        obtain ⟨rfl, hb_wU, hD, hO⟩ := hcut
        go_upto_block 4 with fail
        go_cut [10] from 46 to 61 (fun s wz => s = .int .i64 ((j2 : Nat) : Int) ∧ (i2 ≤ j2 + 1 ∧ j2 ≤ j) ∧ Hid (DT wz g tl e) ∧ Hid (Onl g w wz))
        case first =>
          go_wp2_with fail
          go_loopw [10] (fun s wz => ∃ q : Nat, s = .int .i64 (q : Int) ∧ i2 ≤ q + 1 ∧ q ≤ j ∧ Hid (Sort.scanDown (fun x => ltN A x) e i2 q = j2) ∧ Hid (DT wz g tl e) ∧ Hid (Onl g w wz)) (fun s _ => (intOf s).toNat)
          case atStart => exact ⟨j, rfl, by omega, by omega, hidden hj2, hD, hO⟩
          case round =>
            rename World => wz
            obtain ⟨q, rfl, hq1, hq2, hS, HDZ, HOZ⟩ := hrel
            by_cases hle : i2 ≤ q
            · have hle' : (i2 : Int) ≤ (q : Int) := by omega
              have c1 := HDZ.out.at a (by omega)
              rw [HA.out] at c1
              have c2 := HDZ.out.at q (by omega)
              by_cases hxy : A < e[q]!
              · have h8 := hS.out
                obtain ⟨r, hr⟩ : ∃ r, q = r + 1 := ⟨q - 1, by omega⟩
                rw [hr, Sort.scanDown, ← hr, if_pos (by simp [ltN_t hxy]; omega)] at h8
                have er : (q : Int) - 1 = (r : Int) := by omega
                have hr2 : i2 ≤ r + 1 ∧ r ≤ j ∧ r < q := by omega
                clear hr
                have HN := hidden h8
                have HL := less_t hxy
                clear h8 hS
                generalize e[q]! = y at *
                go_wp2_with fail
                go_quiet (exact Calls.quiet_of_same (HL _))
                go_wp2_with fail
                refine ⟨⟨r, by first | rfl | rw [er], by omega, by omega, HN, hidden (HDZ.out.drewN nq), hidden (HOZ.out.trans (Onl.drewN g wz nq))⟩, ?_⟩
                simp [intOf]
                try omega
              · have h8 := hS.out
                obtain ⟨r, hr⟩ : ∃ r, q = r + 1 := ⟨q - 1, by omega⟩
                rw [hr, Sort.scanDown, ← hr, if_neg (by simp [ltN_f hxy])] at h8
                clear hr
                have HN := hidden h8
                have HL := less_f hxy
                clear h8 hS
                generalize e[q]! = y at *
                go_wp2_with fail
                go_quiet (exact Calls.quiet_of_same (HL _))
                go_wp2_with fail
                go_meet
                case rel => exact ⟨by rw [HN.out], by have := HN.out; omega, hidden (HDZ.out.drewN nq), hidden (HOZ.out.trans (Onl.drewN g wz nq))⟩
            · have hle' : ¬ (i2 : Int) ≤ (q : Int) := by omega
              have h8 := hS.out
              have h7 : Sort.scanDown (fun x => ltN A x) e i2 q = q := by
                cases q with
                | zero => rfl
                | succ r => rw [Sort.scanDown, if_neg (by simp; omega)]
              rw [h7] at h8
              have HN := hidden h8
              clear h8 hS
              go_wp2_with fail
              go_quiet (fail)
              go_wp2_with fail
              go_meet
              case rel => exact ⟨by rw [HN.out], by have := HN.out; omega, hidden (HDZ.out.drewN nq), hidden (HOZ.out.trans (Onl.drewN g wz nq))⟩
        case rest =>
          rename World => wV
          obtain ⟨rfl, hb_wV, hD, hO⟩ := hcut
          have hst := pe_step HA.out hi2 hj2
          rw [hE.out] at hst
          by_cases hgt : i2 > j2
          · have hgt' : (i2 : Int) > (j2 : Int) := by omega
            rw [if_pos hgt] at hst
            have HST := hidden hst
            clear hst
            go_wp2_with fail
            go_ret
            exact ⟨by rw [HST.out]; rfl, by rw [HST.out]; exact hD.out, hO.out⟩
          · have hgt' : ¬ (i2 : Int) > (j2 : Int) := by omega
            rw [if_neg hgt, if_pos (by omega)] at hst
            have HST := hidden hst
            have hne := pe_ne (by omega) hb_wU.1 hi2 hj2 (by omega) (by omega)
            clear hst
            go_upto_region 8 with fail
            go_cut [] from 65 to 78 (fun wz => Hid (DT wz g tl (Sort.swp e i2 j2)) ∧ Hid (Onl g w wz))
            case first =>
              by_cases hIJ : i2 = j2
              · exact absurd hIJ hne
              · have hne2 : ¬ j2 = i2 := fun k => hIJ k.symm
                have f1 := hD.out.fr i2
                have f2 := hD.out.fr j2
                have c1 := hD.out.at i2 (by omega)
                have c2 := hD.out.at j2 (by omega)
                have HSW : Hid (DT ((wV.setCell ⟨g, i2, none⟩ (.int .u32 ((e[j2]! : Nat) : Int))).setCell ⟨g, j2, none⟩ (.int .u32 ((e[i2]! : Nat) : Int))).drew g tl (Sort.swp e i2 j2) ∧ Onl g w ((wV.setCell ⟨g, i2, none⟩ (.int .u32 ((e[j2]! : Nat) : Int))).setCell ⟨g, j2, none⟩ (.int .u32 ((e[i2]! : Nat) : Int))).drew) :=
                  hidden ⟨hD.out.swp i2 j2 (by omega) (by omega), hO.out.swp _ _ _ _⟩
                generalize e[i2]! = x at *
                generalize e[j2]! = y at *
                go_wp2_with fail
                go_region
                go_wp2_with fail
                go_meet
                case rel => exact ⟨hidden HSW.out.1, hidden HSW.out.2⟩
            case rest =>
              rename World => wW
              obtain ⟨hD, hO⟩ := hcut
              go_wp2_with fail
              refine ⟨⟨i2 + 1, j2 - 1, Sort.swp e i2 j2, by first | rfl | simp, by rw [show ((j2 : Int) - 1) = ((j2 - 1 : Nat) : Int) by omega], by omega, by omega, by omega, by rw [swp_size]; exact hen, hD, hO, hidden HST.out.symm⟩, ?_⟩
              simp [intOf]
              omega
end Go.Proofs.YtgmdpbahcbhfjaaGreatDoor.J
/-
  slices.Sort over []uint32: partition (tools/gensod22.py).
-/
namespace Go.Proofs.YtgmdpbahcbhfjaaGreatDoor.J
open Go.RowKit

theorem pl_step {a i j : Nat} {e : Array Nat} {A i2 j2 : Nat} (hA : e[a]! = A) (h1 : Sort.scanUp (fun x => ltN x A) e j i = i2) (h2 : Sort.scanDown (fun x => !ltN x A) e i2 j = j2) :
    Sort.partLoop ltN a i j e = if i2 > j2 then (j2, e) else if (j2 - 1) + 1 - (i2 + 1) < j + 1 - i then Sort.partLoop ltN a (i2 + 1) (j2 - 1) (Sort.swp e i2 j2) else (j2, e) := by
  subst hA
  rw [Sort.partLoop]
  simp only [h1, h2]
  split
  · rfl
  · split <;> rfl

set_option maxRecDepth 100000 in
set_option maxHeartbeats 32000000 in
theorem partP (w : World) (g n c : Nat) (tl : List Value) (d : Array Nat) (a b pivot : Nat) (h : DT w g tl d) (hn : d.size = n) (hap : a ≤ pivot) (hpb : pivot < b) (hb : b ≤ n) (hn9 : n ≤ 1000000000) (hnc : n ≤ c) :
    Calls Tryz.prog 161 #[.slice (some ⟨g, 0, none⟩) n c, .int .i64 (a : Int), .int .i64 (b : Int), .int .i64 (pivot : Int)] w fun e w' => e = .returned (.tuple #[.int .i64 (((Sort.partition ltN d a b pivot).1 : Nat) : Int), .bool (Sort.partition ltN d a b pivot).2.1]) ∧ DT w' g tl (Sort.partition ltN d a b pivot).2.2 ∧ Onl g w w' := by
  have hD := hidden h
  have hO := hidden (Onl.refl g w)
  clear h
  obtain ⟨e, he⟩ : ∃ e, d = e := ⟨_, rfl⟩
  have hen : e.size = n := by rw [← he]; exact hn
  rw [he] at hD
  go_enter Tryz.func161, Tryz.ntmps161
  go_upto_region 1 with fail
  go_cut [] from 12 to 25 (fun wz => Hid (DT wz g tl (Sort.swp e a pivot)) ∧ Hid (Onl g w wz))
  case first =>
    by_cases hIJ : a = pivot
    · obtain rfl := hIJ
      have f1 := hD.out.fr a
      have f2 := hD.out.fr a
      have c1 := hD.out.at a (by omega)
      have c2 := hD.out.at a (by omega)
      have HSW : Hid (DT ((w.setCell ⟨g, a, none⟩ (.int .u32 ((e[a]! : Nat) : Int))).setCell ⟨g, a, none⟩ (.int .u32 ((e[a]! : Nat) : Int))).drew g tl (Sort.swp e a a) ∧ Onl g w ((w.setCell ⟨g, a, none⟩ (.int .u32 ((e[a]! : Nat) : Int))).setCell ⟨g, a, none⟩ (.int .u32 ((e[a]! : Nat) : Int))).drew) :=
        hidden ⟨hD.out.swp a a (by omega) (by omega), hO.out.swp _ _ _ _⟩
      generalize e[a]! = x at *
      go_wp2_with fail
      go_region
      go_wp2_with fail
      go_meet
      case rel => exact ⟨hidden HSW.out.1, hidden HSW.out.2⟩
    · have hne2 : ¬ pivot = a := fun k => hIJ k.symm
      have f1 := hD.out.fr a
      have f2 := hD.out.fr pivot
      have c1 := hD.out.at a (by omega)
      have c2 := hD.out.at pivot (by omega)
      have HSW : Hid (DT ((w.setCell ⟨g, a, none⟩ (.int .u32 ((e[pivot]! : Nat) : Int))).setCell ⟨g, pivot, none⟩ (.int .u32 ((e[a]! : Nat) : Int))).drew g tl (Sort.swp e a pivot) ∧ Onl g w ((w.setCell ⟨g, a, none⟩ (.int .u32 ((e[pivot]! : Nat) : Int))).setCell ⟨g, pivot, none⟩ (.int .u32 ((e[a]! : Nat) : Int))).drew) :=
        hidden ⟨hD.out.swp a pivot (by omega) (by omega), hO.out.swp _ _ _ _⟩
      generalize e[a]! = x at *
      generalize e[pivot]! = y at *
      go_wp2_with fail
      go_region
      go_wp2_with fail
      go_meet
      case rel => exact ⟨hidden HSW.out.1, hidden HSW.out.2⟩
  case rest =>
    rename World => w1
    obtain ⟨hD, hO⟩ := hcut
    obtain ⟨e, he9⟩ : ∃ e9, Sort.swp e a pivot = e9 := ⟨_, rfl⟩
    rw [he9] at hD
    have hen : e.size = n := by rw [← he9, swp_size]; exact hen
    obtain ⟨A, hA⟩ : ∃ A, e[a]! = A := ⟨_, rfl⟩
    have HA := hidden hA
    clear hA
    obtain ⟨B1, hB1⟩ : ∃ B1, b - 1 = B1 := ⟨_, rfl⟩
    obtain ⟨i1, hi1⟩ : ∃ i1, Sort.scanUp (fun x => ltN x A) e B1 (a + 1) = i1 := ⟨_, rfl⟩
    obtain ⟨j1, hj1⟩ : ∃ j1, Sort.scanDown (fun x => !ltN x A) e i1 B1 = j1 := ⟨_, rfl⟩
    have HP0 : Hid (Sort.partition ltN d a b pivot = if i1 > j1 then (j1, true, Sort.swp e j1 a) else ((Sort.partLoop ltN a (i1 + 1) (j1 - 1) (Sort.swp e i1 j1)).1, false, Sort.swp (Sort.partLoop ltN a (i1 + 1) (j1 - 1) (Sort.swp e i1 j1)).2 (Sort.partLoop ltN a (i1 + 1) (j1 - 1) (Sort.swp e i1 j1)).1 a)) := hidden (by
      unfold Sort.partition
      have h9 : Sort.swp d a pivot = e := by rw [he]; exact he9
      simp only [h9, HA.out, hB1, hi1, hj1])
    have ea : (a : Int) + 1 = ((a + 1 : Nat) : Int) := by omega
    have eb : (b : Int) - 1 = (B1 : Int) := by omega
    have hBb : a ≤ B1 ∧ B1 < b ∧ b ≤ B1 + 1 := by omega
    have HE9 := hidden he9
    have HE := hidden he
    clear he9 he hB1 hn
    obtain ⟨a1, ha1⟩ : ∃ a1, a + 1 = a1 := ⟨_, rfl⟩
    rw [ha1] at ea hi1
    have ha2 : a < a1 ∧ a1 ≤ a + 1 := by omega
    clear ha1
    go_upto_block 0 with fail
    go_cut [10] from 30 to 45 (fun s wz => s = .int .i64 ((i1 : Nat) : Int) ∧ (a1 ≤ i1 ∧ i1 ≤ B1 + 1) ∧ Hid (DT wz g tl e) ∧ Hid (Onl g w wz))
    case first =>
      go_wp2_with fail
      go_loopw [10] (fun s wz => ∃ q : Nat, s = .int .i64 (q : Int) ∧ a1 ≤ q ∧ q ≤ B1 + 1 ∧ Hid (Sort.scanUp (fun x => ltN x A) e B1 q = i1) ∧ Hid (DT wz g tl e) ∧ Hid (Onl g w wz)) (fun s _ => B1 + 2 - (intOf s).toNat)
      case atStart => exact ⟨a1, rfl, by omega, by omega, hidden hi1, hD, hO⟩
      case round =>
        rename World => wz
        obtain ⟨q, rfl, hq1, hq2, hS, HDZ, HOZ⟩ := hrel
        by_cases hle : q ≤ B1
        · have hle' : (q : Int) ≤ (B1 : Int) := by omega
          have c1 := HDZ.out.at a (by omega)
          rw [HA.out] at c1
          have c2 := HDZ.out.at q (by omega)
          by_cases hxy : e[q]! < A
          · have h8 := hS.out
            rw [Sort.scanUp, if_pos (by simp [ltN_t hxy]; omega)] at h8
            have HN := hidden h8
            have HL := less_t hxy
            clear h8 hS
            generalize e[q]! = y at *
            go_wp2_with fail
            go_quiet (exact Calls.quiet_of_same (HL _))
            go_wp2_with fail
            refine ⟨⟨q + 1, by first | rfl | simp, by omega, by omega, HN, hidden (HDZ.out.drewN nq), hidden (HOZ.out.trans (Onl.drewN g wz nq))⟩, ?_⟩
            simp [intOf]
            try omega
          · have h8 := hS.out
            rw [Sort.scanUp, if_neg (by simp [ltN_f hxy])] at h8
            have HN := hidden h8
            have HL := less_f hxy
            clear h8 hS
            generalize e[q]! = y at *
            go_wp2_with fail
            go_quiet (exact Calls.quiet_of_same (HL _))
            go_wp2_with fail
            go_meet
            case rel => exact ⟨by rw [HN.out], by have := HN.out; omega, hidden (HDZ.out.drewN nq), hidden (HOZ.out.trans (Onl.drewN g wz nq))⟩
        · have hle' : ¬ (q : Int) ≤ (B1 : Int) := by omega
          have h8 := hS.out
          rw [Sort.scanUp, if_neg (by simp; omega)] at h8
          have HN := hidden h8
          clear h8 hS
          go_wp2_with fail
          go_quiet (fail)
          go_wp2_with fail
          go_meet
          case rel => exact ⟨by rw [HN.out], by have := HN.out; omega, hidden (HDZ.out.drewN nq), hidden (HOZ.out.trans (Onl.drewN g wz nq))⟩
    case rest =>
      rename World => wA
      obtain ⟨rfl, hb_wA, hD, hO⟩ := hcut
      go_upto_block 2 with fail
      go_cut [11] from 46 to 62 (fun s wz => s = .int .i64 ((j1 : Nat) : Int) ∧ (i1 ≤ j1 + 1 ∧ j1 ≤ B1) ∧ Hid (DT wz g tl e) ∧ Hid (Onl g w wz))
      case first =>
        go_wp2_with fail
        go_loopw [11] (fun s wz => ∃ q : Nat, s = .int .i64 (q : Int) ∧ i1 ≤ q + 1 ∧ q ≤ B1 ∧ Hid (Sort.scanDown (fun x => !ltN x A) e i1 q = j1) ∧ Hid (DT wz g tl e) ∧ Hid (Onl g w wz)) (fun s _ => (intOf s).toNat)
        case atStart => exact ⟨B1, rfl, by omega, by omega, hidden hj1, hD, hO⟩
        case round =>
          rename World => wz
          obtain ⟨q, rfl, hq1, hq2, hS, HDZ, HOZ⟩ := hrel
          by_cases hle : i1 ≤ q
          · have hle' : (i1 : Int) ≤ (q : Int) := by omega
            have c1 := HDZ.out.at a (by omega)
            rw [HA.out] at c1
            have c2 := HDZ.out.at q (by omega)
            by_cases hxy : e[q]! < A
            · have h8 := hS.out
              obtain ⟨r, hr⟩ : ∃ r, q = r + 1 := ⟨q - 1, by omega⟩
              rw [hr, Sort.scanDown, ← hr, if_neg (by simp [ltN_t hxy])] at h8
              clear hr
              have HN := hidden h8
              have HL := less_t hxy
              clear h8 hS
              generalize e[q]! = y at *
              go_wp2_with fail
              go_quiet (exact Calls.quiet_of_same (HL _))
              go_wp2_with fail
              go_meet
              case rel => exact ⟨by rw [HN.out], by have := HN.out; omega, hidden (HDZ.out.drewN nq), hidden (HOZ.out.trans (Onl.drewN g wz nq))⟩
            · have h8 := hS.out
              obtain ⟨r, hr⟩ : ∃ r, q = r + 1 := ⟨q - 1, by omega⟩
              rw [hr, Sort.scanDown, ← hr, if_pos (by simp [ltN_f hxy]; omega)] at h8
              have er : (q : Int) - 1 = (r : Int) := by omega
              have hr2 : i1 ≤ r + 1 ∧ r ≤ B1 ∧ r < q := by omega
              clear hr
              have HN := hidden h8
              have HL := less_f hxy
              clear h8 hS
              generalize e[q]! = y at *
              go_wp2_with fail
              go_quiet (exact Calls.quiet_of_same (HL _))
              go_wp2_with fail
              refine ⟨⟨r, by first | rfl | rw [er], by omega, by omega, HN, hidden (HDZ.out.drewN nq), hidden (HOZ.out.trans (Onl.drewN g wz nq))⟩, ?_⟩
              simp [intOf]
              try omega
          · have hle' : ¬ (i1 : Int) ≤ (q : Int) := by omega
            have h8 := hS.out
            have h7 : Sort.scanDown (fun x => !ltN x A) e i1 q = q := by
              cases q with
              | zero => rfl
              | succ r => rw [Sort.scanDown, if_neg (by simp; omega)]
            rw [h7] at h8
            have HN := hidden h8
            clear h8 hS
            go_wp2_with fail
            go_quiet (fail)
            go_wp2_with fail
            go_meet
            case rel => exact ⟨by rw [HN.out], by have := HN.out; omega, hidden (HDZ.out.drewN nq), hidden (HOZ.out.trans (Onl.drewN g wz nq))⟩
      case rest =>
        rename World => wB
        obtain ⟨rfl, hb_wB, hD, hO⟩ := hcut
        by_cases hgt : i1 > j1
        · have hgt' : (i1 : Int) > (j1 : Int) := by omega
          have HP : Hid (Sort.partition ltN d a b pivot = (j1, true, Sort.swp e j1 a)) := hidden (by rw [HP0.out, if_pos hgt])
          clear HP0
          go_upto_region 8 with fail
          go_cut [] from 66 to 79 (fun wz => Hid (DT wz g tl (Sort.swp e j1 a)) ∧ Hid (Onl g w wz))
          case first =>
            by_cases hIJ : j1 = a
            · obtain rfl := hIJ
              have f1 := hD.out.fr j1
              have f2 := hD.out.fr j1
              have c1 := hD.out.at j1 (by omega)
              have c2 := hD.out.at j1 (by omega)
              have HSW : Hid (DT ((wB.setCell ⟨g, j1, none⟩ (.int .u32 ((e[j1]! : Nat) : Int))).setCell ⟨g, j1, none⟩ (.int .u32 ((e[j1]! : Nat) : Int))).drew g tl (Sort.swp e j1 j1) ∧ Onl g w ((wB.setCell ⟨g, j1, none⟩ (.int .u32 ((e[j1]! : Nat) : Int))).setCell ⟨g, j1, none⟩ (.int .u32 ((e[j1]! : Nat) : Int))).drew) :=
                hidden ⟨hD.out.swp j1 j1 (by omega) (by omega), hO.out.swp _ _ _ _⟩
              generalize e[j1]! = x at *
              go_wp2_with fail
              go_region
              go_wp2_with fail
              go_meet
              case rel => exact ⟨hidden HSW.out.1, hidden HSW.out.2⟩
            · have hne2 : ¬ a = j1 := fun k => hIJ k.symm
              have f1 := hD.out.fr j1
              have f2 := hD.out.fr a
              have c1 := hD.out.at j1 (by omega)
              have c2 := hD.out.at a (by omega)
              have HSW : Hid (DT ((wB.setCell ⟨g, j1, none⟩ (.int .u32 ((e[a]! : Nat) : Int))).setCell ⟨g, a, none⟩ (.int .u32 ((e[j1]! : Nat) : Int))).drew g tl (Sort.swp e j1 a) ∧ Onl g w ((wB.setCell ⟨g, j1, none⟩ (.int .u32 ((e[a]! : Nat) : Int))).setCell ⟨g, a, none⟩ (.int .u32 ((e[j1]! : Nat) : Int))).drew) :=
                hidden ⟨hD.out.swp j1 a (by omega) (by omega), hO.out.swp _ _ _ _⟩
              generalize e[j1]! = x at *
              generalize e[a]! = y at *
              go_wp2_with fail
              go_region
              go_wp2_with fail
              go_meet
              case rel => exact ⟨hidden HSW.out.1, hidden HSW.out.2⟩
          case rest =>
            rename World => wC
            obtain ⟨hD, hO⟩ := hcut
            go_wp2_with fail
            go_ret2
            exact ⟨by rw [HP.out]; rfl, by rw [HP.out]; exact hD.out, hO.out⟩
        · have hgt' : ¬ (i1 : Int) > (j1 : Int) := by omega
          have HP : Hid (Sort.partition ltN d a b pivot = ((Sort.partLoop ltN a (i1 + 1) (j1 - 1) (Sort.swp e i1 j1)).1, false, Sort.swp (Sort.partLoop ltN a (i1 + 1) (j1 - 1) (Sort.swp e i1 j1)).2 (Sort.partLoop ltN a (i1 + 1) (j1 - 1) (Sort.swp e i1 j1)).1 a)) := hidden (by rw [HP0.out, if_neg hgt])
          have hne := pa_ne (by omega) hb_wA.1 hi1 hj1 (by omega) (by omega)
          clear HP0
          go_upto_region 10 with fail
          go_cut [] from 81 to 94 (fun wz => Hid (DT wz g tl (Sort.swp e i1 j1)) ∧ Hid (Onl g w wz))
          case first =>
            by_cases hIJ : i1 = j1
            · exact absurd hIJ hne
            · have hne2 : ¬ j1 = i1 := fun k => hIJ k.symm
              have f1 := hD.out.fr i1
              have f2 := hD.out.fr j1
              have c1 := hD.out.at i1 (by omega)
              have c2 := hD.out.at j1 (by omega)
              have HSW : Hid (DT ((wB.setCell ⟨g, i1, none⟩ (.int .u32 ((e[j1]! : Nat) : Int))).setCell ⟨g, j1, none⟩ (.int .u32 ((e[i1]! : Nat) : Int))).drew g tl (Sort.swp e i1 j1) ∧ Onl g w ((wB.setCell ⟨g, i1, none⟩ (.int .u32 ((e[j1]! : Nat) : Int))).setCell ⟨g, j1, none⟩ (.int .u32 ((e[i1]! : Nat) : Int))).drew) :=
                hidden ⟨hD.out.swp i1 j1 (by omega) (by omega), hO.out.swp _ _ _ _⟩
              generalize e[i1]! = x at *
              generalize e[j1]! = y at *
              go_wp2_with fail
              go_region
              go_wp2_with fail
              go_meet
              case rel => exact ⟨hidden HSW.out.1, hidden HSW.out.2⟩
          case rest =>
            rename World => wD
            obtain ⟨hD, hO⟩ := hcut
            have HLP : Hid ((fun r : Nat × Array Nat => (r.1, false, Sort.swp r.2 r.1 a)) (Sort.partLoop ltN a (i1 + 1) (j1 - 1) (Sort.swp e i1 j1)) = Sort.partition ltN d a b pivot) := hidden HP.out.symm
            have ej1 : (j1 : Int) - 1 = ((j1 - 1 : Nat) : Int) := by omega
            go_wp2_with fail
            go_loopw [10, 11] (fun s9 s10 wx => ∃ (i j : Nat) (e : Array Nat), s9 = .int .i64 (i : Int) ∧ s10 = .int .i64 (j : Int) ∧ a + 1 ≤ i ∧ i ≤ j + 1 ∧ j < b ∧ e.size = n ∧ Hid (DT wx g tl e) ∧ Hid (Onl g w wx) ∧ Hid ((fun r : Nat × Array Nat => (r.1, false, Sort.swp r.2 r.1 a)) (Sort.partLoop ltN a i j e) = Sort.partition ltN d a b pivot)) (fun s9 s10 _ => n + 1 + (intOf s10).toNat - (intOf s9).toNat)
            case atStart => exact ⟨i1 + 1, j1 - 1, Sort.swp e i1 j1, by first | rfl | simp, by first | rfl | rw [ej1], by omega, by omega, by omega, by rw [swp_size]; exact hen, hD, hO, HLP⟩
            case round =>
              rename World => wx
              clear hb_wA hb_wB HP hne hgt hgt' hi1 hj1 HLP ej1
              obtain ⟨i, j, e, rfl, rfl, hai, hij, hjb, hen, hD, hO, hE⟩ := hrel
              obtain ⟨A, hA⟩ : ∃ A, e[a]! = A := ⟨_, rfl⟩
              have HA := hidden hA
              clear hA
              obtain ⟨i2, hi2⟩ : ∃ i2, Sort.scanUp (fun x => ltN x A) e j i = i2 := ⟨_, rfl⟩
              obtain ⟨j2, hj2⟩ : ∃ j2, Sort.scanDown (fun x => !ltN x A) e i2 j = j2 := ⟨_, rfl⟩
              go_upto_block 6 with fail
              go_cut [10] from 99 to 114 (fun s wz => s = .int .i64 ((i2 : Nat) : Int) ∧ (i ≤ i2 ∧ i2 ≤ j + 1) ∧ Hid (DT wz g tl e) ∧ Hid (Onl g w wz))
              case first =>
                go_wp2_with fail
                go_loopw [10] (fun s wz => ∃ q : Nat, s = .int .i64 (q : Int) ∧ i ≤ q ∧ q ≤ j + 1 ∧ Hid (Sort.scanUp (fun x => ltN x A) e j q = i2) ∧ Hid (DT wz g tl e) ∧ Hid (Onl g w wz)) (fun s _ => j + 2 - (intOf s).toNat)
                case atStart => exact ⟨i, rfl, by omega, by omega, hidden hi2, hD, hO⟩
                case round =>
                  rename World => wz
                  obtain ⟨q, rfl, hq1, hq2, hS, HDZ, HOZ⟩ := hrel
                  by_cases hle : q ≤ j
                  · have hle' : (q : Int) ≤ (j : Int) := by omega
                    have c1 := HDZ.out.at a (by omega)
                    rw [HA.out] at c1
                    have c2 := HDZ.out.at q (by omega)
                    by_cases hxy : e[q]! < A
                    · have h8 := hS.out
                      rw [Sort.scanUp, if_pos (by simp [ltN_t hxy]; omega)] at h8
                      have HN := hidden h8
                      have HL := less_t hxy
                      clear h8 hS
                      generalize e[q]! = y at *
                      go_wp2_with fail
                      go_quiet (exact Calls.quiet_of_same (HL _))
                      go_wp2_with fail
                      refine ⟨⟨q + 1, by first | rfl | simp, by omega, by omega, HN, hidden (HDZ.out.drewN nq), hidden (HOZ.out.trans (Onl.drewN g wz nq))⟩, ?_⟩
                      simp [intOf]
                      try omega
                    · have h8 := hS.out
                      rw [Sort.scanUp, if_neg (by simp [ltN_f hxy])] at h8
                      have HN := hidden h8
                      have HL := less_f hxy
                      clear h8 hS
                      generalize e[q]! = y at *
                      go_wp2_with fail
                      go_quiet (exact Calls.quiet_of_same (HL _))
                      go_wp2_with fail
                      go_meet
                      case rel => exact ⟨by rw [HN.out], by have := HN.out; omega, hidden (HDZ.out.drewN nq), hidden (HOZ.out.trans (Onl.drewN g wz nq))⟩
                  · have hle' : ¬ (q : Int) ≤ (j : Int) := by omega
                    have h8 := hS.out
                    rw [Sort.scanUp, if_neg (by simp; omega)] at h8
                    have HN := hidden h8
                    clear h8 hS
                    go_wp2_with fail
                    go_quiet (fail)
                    go_wp2_with fail
                    go_meet
                    case rel => exact ⟨by rw [HN.out], by have := HN.out; omega, hidden (HDZ.out.drewN nq), hidden (HOZ.out.trans (Onl.drewN g wz nq))⟩
              case rest =>
                rename World => wU
                obtain ⟨rfl, hb_wU, hD, hO⟩ := hcut
                go_upto_block 8 with fail
                go_cut [11] from 115 to 131 (fun s wz => s = .int .i64 ((j2 : Nat) : Int) ∧ (i2 ≤ j2 + 1 ∧ j2 ≤ j) ∧ Hid (DT wz g tl e) ∧ Hid (Onl g w wz))
                case first =>
                  go_wp2_with fail
                  go_loopw [11] (fun s wz => ∃ q : Nat, s = .int .i64 (q : Int) ∧ i2 ≤ q + 1 ∧ q ≤ j ∧ Hid (Sort.scanDown (fun x => !ltN x A) e i2 q = j2) ∧ Hid (DT wz g tl e) ∧ Hid (Onl g w wz)) (fun s _ => (intOf s).toNat)
                  case atStart => exact ⟨j, rfl, by omega, by omega, hidden hj2, hD, hO⟩
                  case round =>
                    rename World => wz
                    obtain ⟨q, rfl, hq1, hq2, hS, HDZ, HOZ⟩ := hrel
                    by_cases hle : i2 ≤ q
                    · have hle' : (i2 : Int) ≤ (q : Int) := by omega
                      have c1 := HDZ.out.at a (by omega)
                      rw [HA.out] at c1
                      have c2 := HDZ.out.at q (by omega)
                      by_cases hxy : e[q]! < A
                      · have h8 := hS.out
                        obtain ⟨r, hr⟩ : ∃ r, q = r + 1 := ⟨q - 1, by omega⟩
                        rw [hr, Sort.scanDown, ← hr, if_neg (by simp [ltN_t hxy])] at h8
                        clear hr
                        have HN := hidden h8
                        have HL := less_t hxy
                        clear h8 hS
                        generalize e[q]! = y at *
                        go_wp2_with fail
                        go_quiet (exact Calls.quiet_of_same (HL _))
                        go_wp2_with fail
                        go_meet
                        case rel => exact ⟨by rw [HN.out], by have := HN.out; omega, hidden (HDZ.out.drewN nq), hidden (HOZ.out.trans (Onl.drewN g wz nq))⟩
                      · have h8 := hS.out
                        obtain ⟨r, hr⟩ : ∃ r, q = r + 1 := ⟨q - 1, by omega⟩
                        rw [hr, Sort.scanDown, ← hr, if_pos (by simp [ltN_f hxy]; omega)] at h8
                        have er : (q : Int) - 1 = (r : Int) := by omega
                        have hr2 : i2 ≤ r + 1 ∧ r ≤ j ∧ r < q := by omega
                        clear hr
                        have HN := hidden h8
                        have HL := less_f hxy
                        clear h8 hS
                        generalize e[q]! = y at *
                        go_wp2_with fail
                        go_quiet (exact Calls.quiet_of_same (HL _))
                        go_wp2_with fail
                        refine ⟨⟨r, by first | rfl | rw [er], by omega, by omega, HN, hidden (HDZ.out.drewN nq), hidden (HOZ.out.trans (Onl.drewN g wz nq))⟩, ?_⟩
                        simp [intOf]
                        try omega
                    · have hle' : ¬ (i2 : Int) ≤ (q : Int) := by omega
                      have h8 := hS.out
                      have h7 : Sort.scanDown (fun x => !ltN x A) e i2 q = q := by
                        cases q with
                        | zero => rfl
                        | succ r => rw [Sort.scanDown, if_neg (by simp; omega)]
                      rw [h7] at h8
                      have HN := hidden h8
                      clear h8 hS
                      go_wp2_with fail
                      go_quiet (fail)
                      go_wp2_with fail
                      go_meet
                      case rel => exact ⟨by rw [HN.out], by have := HN.out; omega, hidden (HDZ.out.drewN nq), hidden (HOZ.out.trans (Onl.drewN g wz nq))⟩
                case rest =>
                  rename World => wV
                  obtain ⟨rfl, hb_wV, hD, hO⟩ := hcut
                  have hst := hE.out
                  rw [pl_step HA.out hi2 hj2] at hst
                  by_cases hgt : i2 > j2
                  · have hgt' : (i2 : Int) > (j2 : Int) := by omega
                    rw [if_pos hgt] at hst
                    go_upto_region 21 with fail
                    go_cut [] from 153 to 166 (fun wz => Hid (DT wz g tl (Sort.swp e j2 a)) ∧ Hid (Onl g w wz))
                    case first =>
                      by_cases hIJ : j2 = a
                      · obtain rfl := hIJ
                        have f1 := hD.out.fr j2
                        have f2 := hD.out.fr j2
                        have c1 := hD.out.at j2 (by omega)
                        have c2 := hD.out.at j2 (by omega)
                        have HSW : Hid (DT ((wV.setCell ⟨g, j2, none⟩ (.int .u32 ((e[j2]! : Nat) : Int))).setCell ⟨g, j2, none⟩ (.int .u32 ((e[j2]! : Nat) : Int))).drew g tl (Sort.swp e j2 j2) ∧ Onl g w ((wV.setCell ⟨g, j2, none⟩ (.int .u32 ((e[j2]! : Nat) : Int))).setCell ⟨g, j2, none⟩ (.int .u32 ((e[j2]! : Nat) : Int))).drew) :=
                          hidden ⟨hD.out.swp j2 j2 (by omega) (by omega), hO.out.swp _ _ _ _⟩
                        generalize e[j2]! = x at *
                        go_wp2_with fail
                        go_region
                        go_wp2_with fail
                        go_meet
                        case rel => exact ⟨hidden HSW.out.1, hidden HSW.out.2⟩
                      · have hne2 : ¬ a = j2 := fun k => hIJ k.symm
                        have f1 := hD.out.fr j2
                        have f2 := hD.out.fr a
                        have c1 := hD.out.at j2 (by omega)
                        have c2 := hD.out.at a (by omega)
                        have HSW : Hid (DT ((wV.setCell ⟨g, j2, none⟩ (.int .u32 ((e[a]! : Nat) : Int))).setCell ⟨g, a, none⟩ (.int .u32 ((e[j2]! : Nat) : Int))).drew g tl (Sort.swp e j2 a) ∧ Onl g w ((wV.setCell ⟨g, j2, none⟩ (.int .u32 ((e[a]! : Nat) : Int))).setCell ⟨g, a, none⟩ (.int .u32 ((e[j2]! : Nat) : Int))).drew) :=
                          hidden ⟨hD.out.swp j2 a (by omega) (by omega), hO.out.swp _ _ _ _⟩
                        generalize e[j2]! = x at *
                        generalize e[a]! = y at *
                        go_wp2_with fail
                        go_region
                        go_wp2_with fail
                        go_meet
                        case rel => exact ⟨hidden HSW.out.1, hidden HSW.out.2⟩
                    case rest =>
                      rename World => wX
                      obtain ⟨hD, hO⟩ := hcut
                      have HST2 := hidden hst
                      clear hst
                      go_wp2_with fail
                      go_ret2
                      exact ⟨by rw [← HST2.out]; rfl, by rw [← HST2.out]; exact hD.out, hO.out⟩
                  · have hgt' : ¬ (i2 : Int) > (j2 : Int) := by omega
                    rw [if_neg hgt, if_pos (by omega)] at hst
                    have HST := hidden hst
                    have hne := pa_ne (by omega) hb_wU.1 hi2 hj2 (by omega) (by omega)
                    clear hst
                    go_upto_region 18 with fail
                    go_cut [] from 135 to 148 (fun wz => Hid (DT wz g tl (Sort.swp e i2 j2)) ∧ Hid (Onl g w wz))
                    case first =>
                      by_cases hIJ : i2 = j2
                      · exact absurd hIJ hne
                      · have hne2 : ¬ j2 = i2 := fun k => hIJ k.symm
                        have f1 := hD.out.fr i2
                        have f2 := hD.out.fr j2
                        have c1 := hD.out.at i2 (by omega)
                        have c2 := hD.out.at j2 (by omega)
                        have HSW : Hid (DT ((wV.setCell ⟨g, i2, none⟩ (.int .u32 ((e[j2]! : Nat) : Int))).setCell ⟨g, j2, none⟩ (.int .u32 ((e[i2]! : Nat) : Int))).drew g tl (Sort.swp e i2 j2) ∧ Onl g w ((wV.setCell ⟨g, i2, none⟩ (.int .u32 ((e[j2]! : Nat) : Int))).setCell ⟨g, j2, none⟩ (.int .u32 ((e[i2]! : Nat) : Int))).drew) :=
                          hidden ⟨hD.out.swp i2 j2 (by omega) (by omega), hO.out.swp _ _ _ _⟩
                        generalize e[i2]! = x at *
                        generalize e[j2]! = y at *
                        go_wp2_with fail
                        go_region
                        go_wp2_with fail
                        go_meet
                        case rel => exact ⟨hidden HSW.out.1, hidden HSW.out.2⟩
                    case rest =>
                      rename World => wW
                      obtain ⟨hD, hO⟩ := hcut
                      go_wp2_with fail
                      refine ⟨⟨i2 + 1, j2 - 1, Sort.swp e i2 j2, by first | rfl | simp, by rw [show ((j2 : Int) - 1) = ((j2 - 1 : Nat) : Int) by omega], by omega, by omega, by omega, by rw [swp_size]; exact hen, hD, hO, HST⟩, ?_⟩
                      simp [intOf]
                      omega
end Go.Proofs.YtgmdpbahcbhfjaaGreatDoor.J
/-
  slices.Sort over []uint32: partialInsertionSort (tools/gensod22.py).
-/
namespace Go.Proofs.YtgmdpbahcbhfjaaGreatDoor.J
open Go.RowKit

theorem shiftDown_size : ∀ (j : Nat) (d : Array Nat), (Sort.shiftDown ltN j d).size = d.size
  | 0, d => rfl
  | j + 1, d => by
    rw [Sort.shiftDown]
    split
    · rfl
    · rw [shiftDown_size j, swp_size]
theorem shiftUp_size (b : Nat) : ∀ (k j : Nat) (d : Array Nat), b - j ≤ k → (Sort.shiftUp ltN b j d).size = d.size := by
  intro k
  induction k with
  | zero => intro j d h; rw [Sort.shiftUp, if_neg (by omega)]
  | succ k ih =>
    intro j d h
    rw [Sort.shiftUp]
    split
    · split
      · rfl
      · rw [ih _ _ (by omega), swp_size]
    · rfl

set_option maxRecDepth 100000 in
set_option maxHeartbeats 32000000 in
theorem partialP (w : World) (g n c : Nat) (tl : List Value) (d : Array Nat) (a b : Nat) (h : DT w g tl d) (hn : d.size = n) (hab : a < b) (hb : b ≤ n) (hn9 : n ≤ 1000000000) (hnc : n ≤ c) :
    Calls Tryz.prog 159 #[.slice (some ⟨g, 0, none⟩) n c, .int .i64 (a : Int), .int .i64 (b : Int)] w fun e w' => e = .returned (.bool (Sort.partialInsertionSort ltN d a b).2) ∧ DT w' g tl (Sort.partialInsertionSort ltN d a b).1 ∧ Onl g w w' := by
  have HD := hidden h
  clear h
  go_enter Tryz.func159, Tryz.ntmps159
  go_wp2_with fail
  go_loopw [7, 8] (fun s7 s8 wx => ∃ (s i : Nat) (e : Array Nat), s7 = .int .i64 (i : Int) ∧ s8 = .int .i64 (s : Int) ∧ s ≤ 5 ∧ a + 1 ≤ i ∧ i ≤ b ∧ e.size = n ∧ Hid (DT wx g tl e) ∧ Hid (Onl g w wx) ∧ Hid (Sort.partialIns ltN a b (5 - s) i e = Sort.partialInsertionSort ltN d a b)) (fun _ s8 _ => 5 - (intOf s8).toNat)
  case atStart => exact ⟨0, a + 1, d, by first | rfl | simp, rfl, by omega, by omega, by omega, hn, HD, hidden (Onl.refl _ _), hidden rfl⟩
  case round =>
    rename World => wx
    obtain ⟨s, i, e, rfl, rfl, hs5, hai, hib0, hen, hD, hO, hE⟩ := hrel
    by_cases hs : s < 5
    · have hs' : (s : Int) < 5 := by omega
      obtain ⟨m, hm⟩ : ∃ m, 5 - s = m + 1 := ⟨4 - s, by omega⟩
      obtain ⟨i2, hi2⟩ : ∃ i2, Sort.scanSorted ltN e b i = i2 := ⟨_, rfl⟩
      have hst := hE.out
      rw [hm, Sort.partialIns] at hst
      simp only [hi2] at hst
      have hm5 : m + s = 4 := by omega
      clear hm hE
      go_upto_block 2 with fail
      go_cut [7] from 17 to 34 (fun s wz => s = .int .i64 ((i2 : Nat) : Int) ∧ (i ≤ i2 ∧ i2 ≤ b) ∧ Hid (DT wz g tl e) ∧ Hid (Onl g w wz))
      case first =>
        go_wp2_with fail
        go_loopw [7] (fun s wz => ∃ q : Nat, s = .int .i64 (q : Int) ∧ i ≤ q ∧ q ≤ b ∧ Hid (Sort.scanSorted ltN e b q = i2) ∧ Hid (DT wz g tl e) ∧ Hid (Onl g w wz)) (fun s _ => b + 1 - (intOf s).toNat)
        case atStart => exact ⟨i, rfl, by omega, by omega, hidden hi2, hD, hO⟩
        case round =>
          rename World => wz
          obtain ⟨j, rfl, hq1, hq2, hS, HDZ, HOZ⟩ := hrel
          by_cases hle : j < b
          · have hle' : (j : Int) < (b : Int) := by omega
            obtain ⟨q, hjq⟩ : ∃ q, j - 1 = q := ⟨_, rfl⟩
            have ej : (j : Int) - 1 = (q : Int) := by omega
            have hq : q < n ∧ q < j ∧ j < n := by omega
            have h8 := hS.out
            rw [Sort.scanSorted, hjq] at h8
            clear hjq
            have c1 := HDZ.out.at j (by omega)
            have c2 := HDZ.out.at q (by omega)
            by_cases hxy : e[j]! < e[q]!
            · rw [if_neg (by simp [ltN_t hxy])] at h8
              have HN := hidden h8
              have HL := less_t hxy
              clear h8 hS
              generalize e[j]! = x at *
              generalize e[q]! = y at *
              go_wp2_with fail
              go_quiet (exact Calls.quiet_of_same (HL _))
              go_wp2_with fail
              go_meet
              case rel => exact ⟨by rw [HN.out], by have := HN.out; omega, hidden (HDZ.out.drewN nq), hidden (HOZ.out.trans (Onl.drewN g wz nq))⟩
            · rw [if_pos (by simp [ltN_f hxy]; omega)] at h8
              have HN := hidden h8
              have HL := less_f hxy
              clear h8 hS
              generalize e[j]! = x at *
              generalize e[q]! = y at *
              go_wp2_with fail
              go_quiet (exact Calls.quiet_of_same (HL _))
              go_wp2_with fail
              refine ⟨⟨j + 1, by first | rfl | simp, by omega, by omega, HN, hidden (HDZ.out.drewN nq), hidden (HOZ.out.trans (Onl.drewN g wz nq))⟩, ?_⟩
              simp [intOf]
              try omega
          · have hle' : ¬ (j : Int) < (b : Int) := by omega
            have h8 := hS.out
            rw [Sort.scanSorted, if_neg (by simp; omega)] at h8
            have HN := hidden h8
            clear h8 hS
            go_wp2_with fail
            go_quiet (fail)
            go_wp2_with fail
            go_meet
            case rel => exact ⟨by rw [HN.out], by have := HN.out; omega, hidden (HDZ.out.drewN nq), hidden (HOZ.out.trans (Onl.drewN g wz nq))⟩
      case rest =>
        rename World => wU
        obtain ⟨rfl, hb_wU, hD, hO⟩ := hcut
        by_cases hib : i2 = b
        · have hib' : (i2 : Int) = (b : Int) := by omega
          have HST : Hid (Sort.partialInsertionSort ltN d a b = (e, true)) := hidden (by rw [← hst, if_pos hib])
          clear hst
          go_wp2_with fail
          go_ret
          exact ⟨by rw [HST.out]; rfl, by rw [HST.out]; exact hD.out, hO.out⟩
        · have hib' : ((i2 : Int) == (b : Int)) = false := by rw [beq_eq_false_iff_ne]; omega
          rw [if_neg hib] at hst
          have eba : (b : Int) - (a : Int) = ((b - a : Nat) : Int) := by omega
          by_cases h50 : b - a < 50
          · have h50' : ((b - a : Nat) : Int) < 50 := by omega
            have HST : Hid (Sort.partialInsertionSort ltN d a b = (e, false)) := hidden (by rw [← hst, if_pos h50])
            clear hst
            go_wp2_with fail
            go_ret
            exact ⟨by rw [HST.out]; rfl, by rw [HST.out]; exact hD.out, hO.out⟩
          · have h50' : ¬ ((b - a : Nat) : Int) < 50 := by omega
            rw [if_neg h50] at hst
            obtain ⟨i3, hi3⟩ : ∃ i3, i2 - 1 = i3 := ⟨_, rfl⟩
            have ei3 : (i2 : Int) - 1 = (i3 : Int) := by omega
            have hi3b : i3 < i2 ∧ i2 < n := by omega
            have hne : i2 ≠ i3 := by omega
            go_upto_region 11 with fail
            go_cut [] from 42 to 57 (fun wz => Hid (DT wz g tl (Sort.swp e i2 i3)) ∧ Hid (Onl g w wz))
            case first =>
              by_cases hIJ : i2 = i3
              · exact absurd hIJ hne
              · have hne2 : ¬ i3 = i2 := fun k => hIJ k.symm
                have f1 := hD.out.fr i2
                have f2 := hD.out.fr i3
                have c1 := hD.out.at i2 (by omega)
                have c2 := hD.out.at i3 (by omega)
                have HSW : Hid (DT ((wU.setCell ⟨g, i2, none⟩ (.int .u32 ((e[i3]! : Nat) : Int))).setCell ⟨g, i3, none⟩ (.int .u32 ((e[i2]! : Nat) : Int))).drew g tl (Sort.swp e i2 i3) ∧ Onl g w ((wU.setCell ⟨g, i2, none⟩ (.int .u32 ((e[i3]! : Nat) : Int))).setCell ⟨g, i3, none⟩ (.int .u32 ((e[i2]! : Nat) : Int))).drew) :=
                  hidden ⟨hD.out.swp i2 i3 (by omega) (by omega), hO.out.swp _ _ _ _⟩
                generalize e[i2]! = x at *
                generalize e[i3]! = y at *
                go_wp2_with fail
                go_region
                go_wp2_with fail
                go_meet
                case rel => exact ⟨hidden HSW.out.1, hidden HSW.out.2⟩
            case rest =>
              rename World => wW
              obtain ⟨hD, hO⟩ := hcut
              obtain ⟨e2, he2⟩ : ∃ e2, (if i2 - a ≥ 2 then Sort.shiftDown ltN (i2 - 1) (Sort.swp e i2 (i2 - 1)) else Sort.swp e i2 (i2 - 1)) = e2 := ⟨_, rfl⟩
              obtain ⟨e3, he3⟩ : ∃ e3, (if b - i2 ≥ 2 then Sort.shiftUp ltN b (i2 + 1) e2 else e2) = e3 := ⟨_, rfl⟩
              have hst2 : Sort.partialIns ltN a b m i2 e3 = Sort.partialInsertionSort ltN d a b := by
                rw [← hst, ← he3, ← he2]
              have HST := hidden hst2
              have hen2 : e2.size = n := by
                rw [← he2]
                split
                · rw [shiftDown_size, swp_size]; exact hen
                · rw [swp_size]; exact hen
              have hen3 : e3.size = n := by
                rw [← he3]
                split
                · rw [shiftUp_size _ _ _ _ (Nat.le_refl _)]; exact hen2
                · exact hen2
              rw [← hi3] at hD
              have eia : (i2 : Int) - (a : Int) = ((i2 - a : Nat) : Int) := by omega
              have ebi : (b : Int) - (i2 : Int) = ((b - i2 : Nat) : Int) := by omega
              have HI3 := hidden hi3
              clear hst hst2 hi3 ei3
              go_upto_if 61 with fail
              go_cut [9] from 58 to 94 (fun _ wz => Hid (DT wz g tl e2) ∧ Hid (Onl g w wz))
              case first =>
                by_cases hc : i2 - a ≥ 2
                · have hc' : ((i2 - a : Nat) : Int) ≥ 2 := by omega
                  have HE2 : Hid (Sort.shiftDown ltN (i2 - 1) (Sort.swp e i2 (i2 - 1)) = e2) := hidden (by rw [← he2, if_pos hc])
                  clear he2 he3
                  go_wp2_with fail
                  have ei1 : (i2 : Int) - 1 = ((i2 - 1 : Nat) : Int) := by omega
                  go_loopw [9] (fun s wz => ∃ (j : Nat) (f : Array Nat), s = .int .i64 (j : Int) ∧ j ≤ i2 - 1 ∧ f.size = n ∧ Hid (DT wz g tl f) ∧ Hid (Onl g w wz) ∧ Hid (Sort.shiftDown ltN j f = e2)) (fun s _ => (intOf s).toNat)
                  case atStart => exact ⟨i2 - 1, Sort.swp e i2 (i2 - 1), by first | rfl | rw [ei1], by omega, by rw [swp_size]; exact hen, hD, hO, hidden HE2.out⟩
                  case round =>
                    rename World => wz
                    obtain ⟨j, f, rfl, hji, hfn, HDZ, HOZ, hS⟩ := hrel
                    by_cases hj1 : 1 ≤ j
                    · have hj1' : (j : Int) ≥ 1 := by omega
                      obtain ⟨q, hjq⟩ : ∃ q, j = q + 1 := ⟨j - 1, by omega⟩
                      have ej : (j : Int) - 1 = (q : Int) := by omega
                      have hq : q < n ∧ q < j ∧ j < n := by omega
                      have h8 := hS.out
                      rw [hjq, Sort.shiftDown, ← hjq] at h8
                      have HJQ := hidden hjq
                      clear hjq
                      have hne2 : ¬ q = j := by omega
                      have hne3 : ¬ j = q := by omega
                      have c1 := HDZ.out.at j (by omega)
                      have c2 := HDZ.out.at q (by omega)
                      have f1 := HDZ.out.fr j
                      have f2 := HDZ.out.fr q
                      by_cases hxy : f[j]! < f[q]!
                      · rw [if_neg (by simp [ltN_t hxy])] at h8
                        have HN := hidden h8
                        have HSW : Hid (∀ nq, DT (((wz.drewN nq).setCell ⟨g, j, none⟩ (.int .u32 ((f[q]! : Nat) : Int))).setCell ⟨g, q, none⟩ (.int .u32 ((f[j]! : Nat) : Int))).drew g tl (Sort.swp f j q) ∧ Onl g w (((wz.drewN nq).setCell ⟨g, j, none⟩ (.int .u32 ((f[q]! : Nat) : Int))).setCell ⟨g, q, none⟩ (.int .u32 ((f[j]! : Nat) : Int))).drew) :=
                          hidden (fun nq => ⟨(HDZ.out.drewN nq).swp j q (by omega) (by omega), (HOZ.out.trans (Onl.drewN g wz nq)).swp _ _ _ _⟩)
                        have HL := less_t hxy
                        clear h8 hS
                        generalize f[j]! = x at *
                        generalize f[q]! = y at *
                        go_wp2_with fail
                        go_quiet (exact Calls.quiet_of_same (HL _))
                        go_wp2_with fail
                        go_region
                        go_wp2_with fail
                        refine ⟨⟨q, Sort.swp f j q, by first | rfl | rw [ej], by omega, by rw [swp_size]; exact hfn, hidden (HSW.out nq).1, hidden (HSW.out nq).2, HN⟩, ?_⟩
                        have := HJQ.out
                        simp [intOf]
                        try omega
                      · rw [if_pos (by simp [ltN_f hxy])] at h8
                        have HN := hidden h8
                        have HL := less_f hxy
                        clear h8 hS
                        generalize f[j]! = x at *
                        generalize f[q]! = y at *
                        go_wp2_with fail
                        go_quiet (exact Calls.quiet_of_same (HL _))
                        go_wp2_with fail
                        go_meet
                        case rel => exact ⟨hidden (by rw [← HN.out]; exact HDZ.out.drewN nq), hidden (HOZ.out.trans (Onl.drewN g wz nq))⟩
                    · obtain rfl : j = 0 := by omega
                      have hj1' : ¬ ((0 : Nat) : Int) ≥ 1 := by omega
                      have HN : Hid (f = e2) := hidden hS.out
                      clear hS
                      go_wp2_with fail
                      go_meet
                      case rel => exact ⟨hidden (by rw [← HN.out]; exact HDZ.out), HOZ⟩
                · have hc' : ¬ ((i2 - a : Nat) : Int) ≥ 2 := by omega
                  have HE2 : Hid (Sort.swp e i2 (i2 - 1) = e2) := hidden (by rw [← he2, if_neg hc])
                  clear he2 he3
                  go_wp2_with fail
                  go_meet
                  case rel => exact ⟨hidden (by rw [← HE2.out]; exact hD.out), hO⟩
              case rest =>
                rename World => wY
                obtain ⟨hD, hO⟩ := hcut
                go_upto_if 98 with fail
                by_cases hc : b - i2 ≥ 2
                · have hc' : ((b - i2 : Nat) : Int) ≥ 2 := by omega
                  have HE3 : Hid (Sort.shiftUp ltN b (i2 + 1) e2 = e3) := hidden (by rw [← he3, if_pos hc])
                  clear he2 he3
                  go_wp2_with fail
                  go_loopw [10] (fun s wz => ∃ (j : Nat) (f : Array Nat), s = .int .i64 (j : Int) ∧ i2 + 1 ≤ j ∧ j ≤ b ∧ f.size = n ∧ Hid (DT wz g tl f) ∧ Hid (Onl g w wz) ∧ Hid (Sort.shiftUp ltN b j f = e3)) (fun s _ => b + 1 - (intOf s).toNat)
                  case atStart => exact ⟨i2 + 1, e2, by first | rfl | simp, by omega, by omega, hen2, hD, hO, hidden HE3.out⟩
                  case round =>
                    rename World => wz
                    obtain ⟨j, f, rfl, hji, hjb, hfn, HDZ, HOZ, hS⟩ := hrel
                    by_cases hj1 : j < b
                    · have hj1' : (j : Int) < (b : Int) := by omega
                      obtain ⟨q, hjq⟩ : ∃ q, j - 1 = q := ⟨_, rfl⟩
                      have ej : (j : Int) - 1 = (q : Int) := by omega
                      have hq : q < n ∧ q < j ∧ j < n := by omega
                      have h8 := hS.out
                      rw [Sort.shiftUp, if_pos hj1, hjq] at h8
                      clear hjq
                      have hne2 : ¬ q = j := by omega
                      have hne3 : ¬ j = q := by omega
                      have c1 := HDZ.out.at j (by omega)
                      have c2 := HDZ.out.at q (by omega)
                      have f1 := HDZ.out.fr j
                      have f2 := HDZ.out.fr q
                      by_cases hxy : f[j]! < f[q]!
                      · rw [if_neg (by simp [ltN_t hxy])] at h8
                        have HN := hidden h8
                        have HSW : Hid (∀ nq, DT (((wz.drewN nq).setCell ⟨g, j, none⟩ (.int .u32 ((f[q]! : Nat) : Int))).setCell ⟨g, q, none⟩ (.int .u32 ((f[j]! : Nat) : Int))).drew g tl (Sort.swp f j q) ∧ Onl g w (((wz.drewN nq).setCell ⟨g, j, none⟩ (.int .u32 ((f[q]! : Nat) : Int))).setCell ⟨g, q, none⟩ (.int .u32 ((f[j]! : Nat) : Int))).drew) :=
                          hidden (fun nq => ⟨(HDZ.out.drewN nq).swp j q (by omega) (by omega), (HOZ.out.trans (Onl.drewN g wz nq)).swp _ _ _ _⟩)
                        have HL := less_t hxy
                        clear h8 hS
                        generalize f[j]! = x at *
                        generalize f[q]! = y at *
                        go_wp2_with fail
                        go_quiet (exact Calls.quiet_of_same (HL _))
                        go_wp2_with fail
                        go_region
                        go_wp2_with fail
                        refine ⟨⟨j + 1, Sort.swp f j q, by first | rfl | simp, by omega, by omega, by rw [swp_size]; exact hfn, hidden (HSW.out nq).1, hidden (HSW.out nq).2, HN⟩, ?_⟩
                        simp [intOf]
                        try omega
                      · rw [if_pos (by simp [ltN_f hxy])] at h8
                        have HN := hidden h8
                        have HL := less_f hxy
                        clear h8 hS
                        generalize f[j]! = x at *
                        generalize f[q]! = y at *
                        go_wp2_with fail
                        go_quiet (exact Calls.quiet_of_same (HL _))
                        go_wp2_with fail
                        refine ⟨⟨s + 1, i2, e3, by first | rfl | simp, by first | rfl | simp, by omega, by omega, by omega, hen3, hidden (by rw [← HN.out]; exact HDZ.out.drewN nq), hidden (HOZ.out.trans (Onl.drewN g wz nq)), hidden (by rw [show 5 - (s + 1) = m by omega]; exact HST.out)⟩, ?_⟩
                        simp [intOf]
                        omega
                    · have hj1' : ¬ (j : Int) < (b : Int) := by omega
                      have h8 := hS.out
                      rw [Sort.shiftUp, if_neg hj1] at h8
                      have HN := hidden h8
                      clear hS h8
                      go_wp2_with fail
                      refine ⟨⟨s + 1, i2, e3, by first | rfl | simp, by first | rfl | simp, by omega, by omega, by omega, hen3, hidden (by rw [← HN.out]; exact HDZ.out), HOZ, hidden (by rw [show 5 - (s + 1) = m by omega]; exact HST.out)⟩, ?_⟩
                      simp [intOf]
                      omega
                · have hc' : ¬ ((b - i2 : Nat) : Int) ≥ 2 := by omega
                  have HE3 : Hid (e2 = e3) := hidden (by rw [← he3, if_neg hc])
                  clear he2 he3
                  go_wp2_with fail
                  refine ⟨⟨s + 1, i2, e3, by first | rfl | simp, by first | rfl | simp, by omega, by omega, by omega, hen3, hidden (by rw [← HE3.out]; exact hD.out), hO, hidden (by rw [show 5 - (s + 1) = m by omega]; exact HST.out)⟩, ?_⟩
                  simp [intOf]
                  omega
    · obtain rfl : s = 5 := by omega
      have hs' : ¬ ((5 : Nat) : Int) < 5 := by omega
      have HST : Hid (Sort.partialInsertionSort ltN d a b = (e, false)) := hidden hE.out.symm
      clear hE
      go_wp2_with fail
      go_ret
      exact ⟨by rw [HST.out]; rfl, by rw [HST.out]; exact hD.out, hO.out⟩
end Go.Proofs.YtgmdpbahcbhfjaaGreatDoor.J
