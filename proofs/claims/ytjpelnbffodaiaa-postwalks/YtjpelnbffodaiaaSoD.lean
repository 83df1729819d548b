/-
  slices.Sort over []uint32: partitionEqual (tools/gensod22.py).
-/
import Derived.Test.YtjpelnbffodaiaaSoC
import Derived.Deep.CutRange
import Derived.Deep.CutBlock
namespace Go.Proofs.Ytjpelnbffodaiaa
open Go.RowKit
set_option linter.unusedVariables false
set_option linter.unusedSimpArgs false

theorem scanUp_stop (p : Nat → Bool) (e : Array Nat) (j : Nat) : ∀ (k i : Nat), j + 1 - i ≤ k → Sort.scanUp p e j i ≤ j → p e[Sort.scanUp p e j i]! = false := by
  intro k
  induction k with
  | zero =>
    intro i h1 h2
    rw [Sort.scanUp, if_neg (by simp; omega)] at h2
    omega
  | succ k ih =>
    intro i h1 h2
    by_cases hc : (decide (i ≤ j) && p e[i]!) = true
    · rw [Sort.scanUp, if_pos hc] at h2 ⊢
      exact ih (i + 1) (by omega) h2
    · rw [Sort.scanUp, if_neg hc] at h2 ⊢
      simp at hc
      exact hc h2
theorem scanDown_stop (p : Nat → Bool) (e : Array Nat) (i : Nat) (hi : 0 < i) : ∀ (j : Nat), i ≤ Sort.scanDown p e i j → p e[Sort.scanDown p e i j]! = false := by
  intro j
  induction j with
  | zero => intro h; rw [Sort.scanDown] at h; omega
  | succ j ih =>
    intro h
    by_cases hc : (decide (i ≤ j + 1) && p e[j + 1]!) = true
    · rw [Sort.scanDown, if_pos hc] at h ⊢
      exact ih h
    · rw [Sort.scanDown, if_neg hc] at h ⊢
      simp at hc
      exact hc h
theorem pe_ne {e : Array Nat} {A i j i2 j2 : Nat} (hi : 0 < i) (hii : i ≤ i2) (h1 : Sort.scanUp (fun x => !ltN A x) e j i = i2) (h2 : Sort.scanDown (fun x => ltN A x) e i2 j = j2) (hj : i2 ≤ j) (hij : i2 ≤ j2) : i2 ≠ j2 := by
  intro he
  have a1 := scanUp_stop (fun x => !ltN A x) e j _ i (Nat.le_refl _) (by rw [h1]; exact hj)
  have a2 := scanDown_stop (fun x => ltN A x) e i2 (by omega) j (by rw [h2]; exact hij)
  rw [h1] at a1
  rw [h2, ← he] at a2
  simp [a2] at a1
theorem pa_ne {e : Array Nat} {A i j i2 j2 : Nat} (hi : 0 < i) (hii : i ≤ i2) (h1 : Sort.scanUp (fun x => ltN x A) e j i = i2) (h2 : Sort.scanDown (fun x => !ltN x A) e i2 j = j2) (hj : i2 ≤ j) (hij : i2 ≤ j2) : i2 ≠ j2 := by
  intro he
  have a1 := scanUp_stop (fun x => ltN x A) e j _ i (Nat.le_refl _) (by rw [h1]; exact hj)
  have a2 := scanDown_stop (fun x => !ltN x A) e i2 (by omega) j (by rw [h2]; exact hij)
  rw [h1] at a1
  rw [h2, ← he] at a2
  simp [a1] at a2
theorem pe_step {a i j : Nat} {e : Array Nat} {A i2 j2 : Nat} (hA : e[a]! = A) (h1 : Sort.scanUp (fun x => !ltN A x) e j i = i2) (h2 : Sort.scanDown (fun x => ltN A x) e i2 j = j2) :
    Sort.partEqLoop ltN a i j e = if i2 > j2 then (i2, e) else if (j2 - 1) + 1 - (i2 + 1) < j + 1 - i then Sort.partEqLoop ltN a (i2 + 1) (j2 - 1) (Sort.swp e i2 j2) else (i2, e) := by
  subst hA
  rw [Sort.partEqLoop]
  simp only [h1, h2]
  split
  · rfl
  · split <;> rfl

set_option maxRecDepth 100000 in
set_option maxHeartbeats 16000000 in
theorem partEqP (w : World) (g n c : Nat) (tl : List Value) (d : Array Nat) (a b pivot : Nat) (h : DT w g tl d) (hn : d.size = n) (hap : a ≤ pivot) (hpb : pivot < b) (hb : b ≤ n) (hn9 : n ≤ 1000000000) (hnc : n ≤ c) :
    Calls Try.prog 61 #[.slice (some ⟨g, 0, none⟩) n c, .int .i64 (a : Int), .int .i64 (b : Int), .int .i64 (pivot : Int)] w fun e w' => e = .returned (.int .i64 (((Sort.partitionEqual ltN d a b pivot).1 : Nat) : Int)) ∧ DT w' g tl (Sort.partitionEqual ltN d a b pivot).2 ∧ Onl g w w' := by
  have hD := hidden h
  have hO := hidden (Onl.refl g w)
  clear h
  obtain ⟨e, he⟩ : ∃ e, d = e := ⟨_, rfl⟩
  rw [he] at hD hn
  go_enter Try.func61, Try.ntmps61
  go_upto_region 1 with fail
  go_cut [] from 11 to 24 (fun wz => Hid (DT wz g tl (Sort.swp e a pivot)) ∧ Hid (Onl g w wz))
  case first =>
    by_cases hIJ : a = pivot
    · obtain rfl := hIJ
      have f1 := hD.out.fr a
      have f2 := hD.out.fr a
      have c1 := hD.out.at a (by omega)
      have c2 := hD.out.at a (by omega)
      have HSW : Hid (DT ((w.setCell ⟨g, a, none⟩ (.int .u32 ((e[a]! : Nat) : Int))).setCell ⟨g, a, none⟩ (.int .u32 ((e[a]! : Nat) : Int))).drew g tl (Sort.swp e a a) ∧ Onl g w ((w.setCell ⟨g, a, none⟩ (.int .u32 ((e[a]! : Nat) : Int))).setCell ⟨g, a, none⟩ (.int .u32 ((e[a]! : Nat) : Int))).drew) :=
        hidden ⟨hD.out.swp a a (by omega) (by omega), hO.out.swp _ _ _ _⟩
      generalize e[a]! = x at *
      go_wp2_with fail
      go_region
      go_wp2_with fail
      go_meet
      case rel => exact ⟨hidden HSW.out.1, hidden HSW.out.2⟩
    · have hne2 : ¬ pivot = a := fun k => hIJ k.symm
      have f1 := hD.out.fr a
      have f2 := hD.out.fr pivot
      have c1 := hD.out.at a (by omega)
      have c2 := hD.out.at pivot (by omega)
      have HSW : Hid (DT ((w.setCell ⟨g, a, none⟩ (.int .u32 ((e[pivot]! : Nat) : Int))).setCell ⟨g, pivot, none⟩ (.int .u32 ((e[a]! : Nat) : Int))).drew g tl (Sort.swp e a pivot) ∧ Onl g w ((w.setCell ⟨g, a, none⟩ (.int .u32 ((e[pivot]! : Nat) : Int))).setCell ⟨g, pivot, none⟩ (.int .u32 ((e[a]! : Nat) : Int))).drew) :=
        hidden ⟨hD.out.swp a pivot (by omega) (by omega), hO.out.swp _ _ _ _⟩
      generalize e[a]! = x at *
      generalize e[pivot]! = y at *
      go_wp2_with fail
      go_region
      go_wp2_with fail
      go_meet
      case rel => exact ⟨hidden HSW.out.1, hidden HSW.out.2⟩
  case rest =>
    rename World => w1
    obtain ⟨hD, hO⟩ := hcut
    have hT : Hid (Sort.partEqLoop ltN a (a + 1) (b - 1) (Sort.swp e a pivot) = Sort.partitionEqual ltN d a b pivot) := hidden (by rw [he]; rfl)
    have hb1 : (b : Int) - 1 = ((b - 1 : Nat) : Int) := by omega
    have HE := hidden he
    have HEN := hidden hn
    clear he hn
    go_wp2_with fail
    go_loopw [9, 10] (fun s9 s10 wx => ∃ (i j : Nat) (e : Array Nat), s9 = .int .i64 (i : Int) ∧ s10 = .int .i64 (j : Int) ∧ a + 1 ≤ i ∧ i ≤ j + 1 ∧ j < b ∧ e.size = n ∧ Hid (DT wx g tl e) ∧ Hid (Onl g w wx) ∧ Hid (Sort.partEqLoop ltN a i j e = Sort.partitionEqual ltN d a b pivot)) (fun s9 s10 _ => n + 1 + (intOf s10).toNat - (intOf s9).toNat)
    case atStart => exact ⟨a + 1, b - 1, Sort.swp e a pivot, by first | rfl | simp, by first | rfl | rw [hb1], by omega, by omega, by omega, by rw [swp_size]; exact HEN.out, hD, hO, hT⟩
    case round =>
      rename World => wx
      obtain ⟨i, j, e, rfl, rfl, hai, hij, hjb, hen, hD, hO, hE⟩ := hrel
      obtain ⟨A, hA⟩ : ∃ A, e[a]! = A := ⟨_, rfl⟩
      have HA := hidden hA
      clear hA
      obtain ⟨i2, hi2⟩ : ∃ i2, Sort.scanUp (fun x => !ltN A x) e j i = i2 := ⟨_, rfl⟩
      obtain ⟨j2, hj2⟩ : ∃ j2, Sort.scanDown (fun x => ltN A x) e i2 j = j2 := ⟨_, rfl⟩
      go_upto_block 2 with fail
      go_cut [9] from 29 to 45 (fun s wz => s = .int .i64 ((i2 : Nat) : Int) ∧ (i ≤ i2 ∧ i2 ≤ j + 1) ∧ Hid (DT wz g tl e) ∧ Hid (Onl g w wz))
      case first =>
        go_wp2_with fail
        go_loopw [9] (fun s wz => ∃ q : Nat, s = .int .i64 (q : Int) ∧ i ≤ q ∧ q ≤ j + 1 ∧ Hid (Sort.scanUp (fun x => !ltN A x) e j q = i2) ∧ Hid (DT wz g tl e) ∧ Hid (Onl g w wz)) (fun s _ => j + 2 - (intOf s).toNat)
        case atStart => exact ⟨i, rfl, by omega, by omega, hidden hi2, hD, hO⟩
        case round =>
          rename World => wz
          obtain ⟨q, rfl, hq1, hq2, hS, HDZ, HOZ⟩ := hrel
          by_cases hle : q ≤ j
          · have hle' : (q : Int) ≤ (j : Int) := by omega
            have c1 := HDZ.out.at a (by omega)
            rw [HA.out] at c1
            have c2 := HDZ.out.at q (by omega)
            by_cases hxy : A < e[q]!
            · have h8 := hS.out
              rw [Sort.scanUp, if_neg (by simp [ltN_t hxy])] at h8
              have HN := hidden h8
              have HL := less_t hxy
              clear h8 hS
              generalize e[q]! = y at *
              go_wp2_with fail
              go_quiet (exact Calls.quiet_of_same (HL _))
              go_wp2_with fail
              go_meet
              case rel => exact ⟨by rw [HN.out], by have := HN.out; omega, hidden (HDZ.out.drewN nq), hidden (HOZ.out.trans (Onl.drewN g wz nq))⟩
            · have h8 := hS.out
              rw [Sort.scanUp, if_pos (by simp [ltN_f hxy]; omega)] at h8
              have HN := hidden h8
              have HL := less_f hxy
              clear h8 hS
              generalize e[q]! = y at *
              go_wp2_with fail
              go_quiet (exact Calls.quiet_of_same (HL _))
              go_wp2_with fail
              refine ⟨⟨q + 1, by first | rfl | simp, by omega, by omega, HN, hidden (HDZ.out.drewN nq), hidden (HOZ.out.trans (Onl.drewN g wz nq))⟩, ?_⟩
              simp [intOf]
              try omega
          · have hle' : ¬ (q : Int) ≤ (j : Int) := by omega
            have h8 := hS.out
            rw [Sort.scanUp, if_neg (by simp; omega)] at h8
            have HN := hidden h8
            clear h8 hS
            go_wp2_with fail
            go_quiet (fail)
            go_wp2_with fail
            go_meet
            case rel => exact ⟨by rw [HN.out], by have := HN.out; omega, hidden (HDZ.out.drewN nq), hidden (HOZ.out.trans (Onl.drewN g wz nq))⟩
      case rest =>
        rename World => wU
        obtain ⟨rfl, hb_wU, hD, hO⟩ := hcut
        go_upto_block 4 with fail
        go_cut [10] from 46 to 61 (fun s wz => s = .int .i64 ((j2 : Nat) : Int) ∧ (i2 ≤ j2 + 1 ∧ j2 ≤ j) ∧ Hid (DT wz g tl e) ∧ Hid (Onl g w wz))
        case first =>
          go_wp2_with fail
          go_loopw [10] (fun s wz => ∃ q : Nat, s = .int .i64 (q : Int) ∧ i2 ≤ q + 1 ∧ q ≤ j ∧ Hid (Sort.scanDown (fun x => ltN A x) e i2 q = j2) ∧ Hid (DT wz g tl e) ∧ Hid (Onl g w wz)) (fun s _ => (intOf s).toNat)
          case atStart => exact ⟨j, rfl, by omega, by omega, hidden hj2, hD, hO⟩
          case round =>
            rename World => wz
            obtain ⟨q, rfl, hq1, hq2, hS, HDZ, HOZ⟩ := hrel
            by_cases hle : i2 ≤ q
            · have hle' : (i2 : Int) ≤ (q : Int) := by omega
              have c1 := HDZ.out.at a (by omega)
              rw [HA.out] at c1
              have c2 := HDZ.out.at q (by omega)
              by_cases hxy : A < e[q]!
              · have h8 := hS.out
                obtain ⟨r, hr⟩ : ∃ r, q = r + 1 := ⟨q - 1, by omega⟩
                rw [hr, Sort.scanDown, ← hr, if_pos (by simp [ltN_t hxy]; omega)] at h8
                have er : (q : Int) - 1 = (r : Int) := by omega
                have hr2 : i2 ≤ r + 1 ∧ r ≤ j ∧ r < q := by omega
                clear hr
                have HN := hidden h8
                have HL := less_t hxy
                clear h8 hS
                generalize e[q]! = y at *
                go_wp2_with fail
                go_quiet (exact Calls.quiet_of_same (HL _))
                go_wp2_with fail
                refine ⟨⟨r, by first | rfl | rw [er], by omega, by omega, HN, hidden (HDZ.out.drewN nq), hidden (HOZ.out.trans (Onl.drewN g wz nq))⟩, ?_⟩
                simp [intOf]
                try omega
              · have h8 := hS.out
                obtain ⟨r, hr⟩ : ∃ r, q = r + 1 := ⟨q - 1, by omega⟩
                rw [hr, Sort.scanDown, ← hr, if_neg (by simp [ltN_f hxy])] at h8
                clear hr
                have HN := hidden h8
                have HL := less_f hxy
                clear h8 hS
                generalize e[q]! = y at *
                go_wp2_with fail
                go_quiet (exact Calls.quiet_of_same (HL _))
                go_wp2_with fail
                go_meet
                case rel => exact ⟨by rw [HN.out], by have := HN.out; omega, hidden (HDZ.out.drewN nq), hidden (HOZ.out.trans (Onl.drewN g wz nq))⟩
            · have hle' : ¬ (i2 : Int) ≤ (q : Int) := by omega
              have h8 := hS.out
              have h7 : Sort.scanDown (fun x => ltN A x) e i2 q = q := by
                cases q with
                | zero => rfl
                | succ r => rw [Sort.scanDown, if_neg (by simp; omega)]
              rw [h7] at h8
              have HN := hidden h8
              clear h8 hS
              go_wp2_with fail
              go_quiet (fail)
              go_wp2_with fail
              go_meet
              case rel => exact ⟨by rw [HN.out], by have := HN.out; omega, hidden (HDZ.out.drewN nq), hidden (HOZ.out.trans (Onl.drewN g wz nq))⟩
        case rest =>
          rename World => wV
          obtain ⟨rfl, hb_wV, hD, hO⟩ := hcut
          have hst := pe_step HA.out hi2 hj2
          rw [hE.out] at hst
          by_cases hgt : i2 > j2
          · have hgt' : (i2 : Int) > (j2 : Int) := by omega
            rw [if_pos hgt] at hst
            have HST := hidden hst
            clear hst
            go_wp2_with fail
            go_ret
            exact ⟨by rw [HST.out]; rfl, by rw [HST.out]; exact hD.out, hO.out⟩
          · have hgt' : ¬ (i2 : Int) > (j2 : Int) := by omega
            rw [if_neg hgt, if_pos (by omega)] at hst
            have HST := hidden hst
            have hne := pe_ne (by omega) hb_wU.1 hi2 hj2 (by omega) (by omega)
            clear hst
            go_upto_region 8 with fail
            go_cut [] from 65 to 78 (fun wz => Hid (DT wz g tl (Sort.swp e i2 j2)) ∧ Hid (Onl g w wz))
            case first =>
              by_cases hIJ : i2 = j2
              · exact absurd hIJ hne
              · have hne2 : ¬ j2 = i2 := fun k => hIJ k.symm
                have f1 := hD.out.fr i2
                have f2 := hD.out.fr j2
                have c1 := hD.out.at i2 (by omega)
                have c2 := hD.out.at j2 (by omega)
                have HSW : Hid (DT ((wV.setCell ⟨g, i2, none⟩ (.int .u32 ((e[j2]! : Nat) : Int))).setCell ⟨g, j2, none⟩ (.int .u32 ((e[i2]! : Nat) : Int))).drew g tl (Sort.swp e i2 j2) ∧ Onl g w ((wV.setCell ⟨g, i2, none⟩ (.int .u32 ((e[j2]! : Nat) : Int))).setCell ⟨g, j2, none⟩ (.int .u32 ((e[i2]! : Nat) : Int))).drew) :=
                  hidden ⟨hD.out.swp i2 j2 (by omega) (by omega), hO.out.swp _ _ _ _⟩
                generalize e[i2]! = x at *
                generalize e[j2]! = y at *
                go_wp2_with fail
                go_region
                go_wp2_with fail
                go_meet
                case rel => exact ⟨hidden HSW.out.1, hidden HSW.out.2⟩
            case rest =>
              rename World => wW
              obtain ⟨hD, hO⟩ := hcut
              go_wp2_with fail
              refine ⟨⟨i2 + 1, j2 - 1, Sort.swp e i2 j2, by first | rfl | simp, by rw [show ((j2 : Int) - 1) = ((j2 - 1 : Nat) : Int) by omega], by omega, by omega, by omega, by rw [swp_size]; exact hen, hD, hO, hidden HST.out.symm⟩, ?_⟩
              simp [intOf]
              omega
end Go.Proofs.Ytjpelnbffodaiaa
