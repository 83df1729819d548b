/-
  slices.Sort over []uint32: partialInsertionSort (tools/gensod22.py).
-/
import Derived.Test.YtjpelnbffodaiaaSoD
import Derived.Deep.CutRange
import Derived.Deep.CutBlock
namespace Go.Proofs.Ytjpelnbffodaiaa
open Go.RowKit
set_option linter.unusedVariables false
set_option linter.unusedSimpArgs false

theorem shiftDown_size : ∀ (j : Nat) (d : Array Nat), (Sort.shiftDown ltN j d).size = d.size
  | 0, d => rfl
  | j + 1, d => by
    rw [Sort.shiftDown]
    split
    · rfl
    · rw [shiftDown_size j, swp_size]
theorem shiftUp_size (b : Nat) : ∀ (k j : Nat) (d : Array Nat), b - j ≤ k → (Sort.shiftUp ltN b j d).size = d.size := by
  intro k
  induction k with
  | zero => intro j d h; rw [Sort.shiftUp, if_neg (by omega)]
  | succ k ih =>
    intro j d h
    rw [Sort.shiftUp]
    split
    · split
      · rfl
      · rw [ih _ _ (by omega), swp_size]
    · rfl

set_option maxRecDepth 100000 in
set_option maxHeartbeats 32000000 in
theorem partialP (w : World) (g n c : Nat) (tl : List Value) (d : Array Nat) (a b : Nat) (h : DT w g tl d) (hn : d.size = n) (hab : a < b) (hb : b ≤ n) (hn9 : n ≤ 1000000000) (hnc : n ≤ c) :
    Calls Try.prog 60 #[.slice (some ⟨g, 0, none⟩) n c, .int .i64 (a : Int), .int .i64 (b : Int)] w fun e w' => e = .returned (.bool (Sort.partialInsertionSort ltN d a b).2) ∧ DT w' g tl (Sort.partialInsertionSort ltN d a b).1 ∧ Onl g w w' := by
  have HD := hidden h
  clear h
  go_enter Try.func60, Try.ntmps60
  go_wp2_with fail
  go_loopw [7, 8] (fun s7 s8 wx => ∃ (s i : Nat) (e : Array Nat), s7 = .int .i64 (i : Int) ∧ s8 = .int .i64 (s : Int) ∧ s ≤ 5 ∧ a + 1 ≤ i ∧ i ≤ b ∧ e.size = n ∧ Hid (DT wx g tl e) ∧ Hid (Onl g w wx) ∧ Hid (Sort.partialIns ltN a b (5 - s) i e = Sort.partialInsertionSort ltN d a b)) (fun _ s8 _ => 5 - (intOf s8).toNat)
  case atStart => exact ⟨0, a + 1, d, by first | rfl | simp, rfl, by omega, by omega, by omega, hn, HD, hidden (Onl.refl _ _), hidden rfl⟩
  case round =>
    rename World => wx
    obtain ⟨s, i, e, rfl, rfl, hs5, hai, hib0, hen, hD, hO, hE⟩ := hrel
    by_cases hs : s < 5
    · have hs' : (s : Int) < 5 := by omega
      obtain ⟨m, hm⟩ : ∃ m, 5 - s = m + 1 := ⟨4 - s, by omega⟩
      obtain ⟨i2, hi2⟩ : ∃ i2, Sort.scanSorted ltN e b i = i2 := ⟨_, rfl⟩
      have hst := hE.out
      rw [hm, Sort.partialIns] at hst
      simp only [hi2] at hst
      have hm5 : m + s = 4 := by omega
      clear hm hE
      go_upto_block 2 with fail
      go_cut [7] from 17 to 34 (fun s wz => s = .int .i64 ((i2 : Nat) : Int) ∧ (i ≤ i2 ∧ i2 ≤ b) ∧ Hid (DT wz g tl e) ∧ Hid (Onl g w wz))
      case first =>
        go_wp2_with fail
        go_loopw [7] (fun s wz => ∃ q : Nat, s = .int .i64 (q : Int) ∧ i ≤ q ∧ q ≤ b ∧ Hid (Sort.scanSorted ltN e b q = i2) ∧ Hid (DT wz g tl e) ∧ Hid (Onl g w wz)) (fun s _ => b + 1 - (intOf s).toNat)
        case atStart => exact ⟨i, rfl, by omega, by omega, hidden hi2, hD, hO⟩
        case round =>
          rename World => wz
          obtain ⟨j, rfl, hq1, hq2, hS, HDZ, HOZ⟩ := hrel
          by_cases hle : j < b
          · have hle' : (j : Int) < (b : Int) := by omega
            obtain ⟨q, hjq⟩ : ∃ q, j - 1 = q := ⟨_, rfl⟩
            have ej : (j : Int) - 1 = (q : Int) := by omega
            have hq : q < n ∧ q < j ∧ j < n := by omega
            have h8 := hS.out
            rw [Sort.scanSorted, hjq] at h8
            clear hjq
            have c1 := HDZ.out.at j (by omega)
            have c2 := HDZ.out.at q (by omega)
            by_cases hxy : e[j]! < e[q]!
            · rw [if_neg (by simp [ltN_t hxy])] at h8
              have HN := hidden h8
              have HL := less_t hxy
              clear h8 hS
              generalize e[j]! = x at *
              generalize e[q]! = y at *
              go_wp2_with fail
              go_quiet (exact Calls.quiet_of_same (HL _))
              go_wp2_with fail
              go_meet
              case rel => exact ⟨by rw [HN.out], by have := HN.out; omega, hidden (HDZ.out.drewN nq), hidden (HOZ.out.trans (Onl.drewN g wz nq))⟩
            · rw [if_pos (by simp [ltN_f hxy]; omega)] at h8
              have HN := hidden h8
              have HL := less_f hxy
              clear h8 hS
              generalize e[j]! = x at *
              generalize e[q]! = y at *
              go_wp2_with fail
              go_quiet (exact Calls.quiet_of_same (HL _))
              go_wp2_with fail
              refine ⟨⟨j + 1, by first | rfl | simp, by omega, by omega, HN, hidden (HDZ.out.drewN nq), hidden (HOZ.out.trans (Onl.drewN g wz nq))⟩, ?_⟩
              simp [intOf]
              try omega
          · have hle' : ¬ (j : Int) < (b : Int) := by omega
            have h8 := hS.out
            rw [Sort.scanSorted, if_neg (by simp; omega)] at h8
            have HN := hidden h8
            clear h8 hS
            go_wp2_with fail
            go_quiet (fail)
            go_wp2_with fail
            go_meet
            case rel => exact ⟨by rw [HN.out], by have := HN.out; omega, hidden (HDZ.out.drewN nq), hidden (HOZ.out.trans (Onl.drewN g wz nq))⟩
      case rest =>
        rename World => wU
        obtain ⟨rfl, hb_wU, hD, hO⟩ := hcut
        by_cases hib : i2 = b
        · have hib' : (i2 : Int) = (b : Int) := by omega
          have HST : Hid (Sort.partialInsertionSort ltN d a b = (e, true)) := hidden (by rw [← hst, if_pos hib])
          clear hst
          go_wp2_with fail
          go_ret
          exact ⟨by rw [HST.out]; rfl, by rw [HST.out]; exact hD.out, hO.out⟩
        · have hib' : ((i2 : Int) == (b : Int)) = false := by rw [beq_eq_false_iff_ne]; omega
          rw [if_neg hib] at hst
          have eba : (b : Int) - (a : Int) = ((b - a : Nat) : Int) := by omega
          by_cases h50 : b - a < 50
          · have h50' : ((b - a : Nat) : Int) < 50 := by omega
            have HST : Hid (Sort.partialInsertionSort ltN d a b = (e, false)) := hidden (by rw [← hst, if_pos h50])
            clear hst
            go_wp2_with fail
            go_ret
            exact ⟨by rw [HST.out]; rfl, by rw [HST.out]; exact hD.out, hO.out⟩
          · have h50' : ¬ ((b - a : Nat) : Int) < 50 := by omega
            rw [if_neg h50] at hst
            obtain ⟨i3, hi3⟩ : ∃ i3, i2 - 1 = i3 := ⟨_, rfl⟩
            have ei3 : (i2 : Int) - 1 = (i3 : Int) := by omega
            have hi3b : i3 < i2 ∧ i2 < n := by omega
            have hne : i2 ≠ i3 := by omega
            go_upto_region 11 with fail
            go_cut [] from 42 to 57 (fun wz => Hid (DT wz g tl (Sort.swp e i2 i3)) ∧ Hid (Onl g w wz))
            case first =>
              by_cases hIJ : i2 = i3
              · exact absurd hIJ hne
              · have hne2 : ¬ i3 = i2 := fun k => hIJ k.symm
                have f1 := hD.out.fr i2
                have f2 := hD.out.fr i3
                have c1 := hD.out.at i2 (by omega)
                have c2 := hD.out.at i3 (by omega)
                have HSW : Hid (DT ((wU.setCell ⟨g, i2, none⟩ (.int .u32 ((e[i3]! : Nat) : Int))).setCell ⟨g, i3, none⟩ (.int .u32 ((e[i2]! : Nat) : Int))).drew g tl (Sort.swp e i2 i3) ∧ Onl g w ((wU.setCell ⟨g, i2, none⟩ (.int .u32 ((e[i3]! : Nat) : Int))).setCell ⟨g, i3, none⟩ (.int .u32 ((e[i2]! : Nat) : Int))).drew) :=
                  hidden ⟨hD.out.swp i2 i3 (by omega) (by omega), hO.out.swp _ _ _ _⟩
                generalize e[i2]! = x at *
                generalize e[i3]! = y at *
                go_wp2_with fail
                go_region
                go_wp2_with fail
                go_meet
                case rel => exact ⟨hidden HSW.out.1, hidden HSW.out.2⟩
            case rest =>
              rename World => wW
              obtain ⟨hD, hO⟩ := hcut
              obtain ⟨e2, he2⟩ : ∃ e2, (if i2 - a ≥ 2 then Sort.shiftDown ltN (i2 - 1) (Sort.swp e i2 (i2 - 1)) else Sort.swp e i2 (i2 - 1)) = e2 := ⟨_, rfl⟩
              obtain ⟨e3, he3⟩ : ∃ e3, (if b - i2 ≥ 2 then Sort.shiftUp ltN b (i2 + 1) e2 else e2) = e3 := ⟨_, rfl⟩
              have hst2 : Sort.partialIns ltN a b m i2 e3 = Sort.partialInsertionSort ltN d a b := by
                rw [← hst, ← he3, ← he2]
              have HST := hidden hst2
              have hen2 : e2.size = n := by
                rw [← he2]
                split
                · rw [shiftDown_size, swp_size]; exact hen
                · rw [swp_size]; exact hen
              have hen3 : e3.size = n := by
                rw [← he3]
                split
                · rw [shiftUp_size _ _ _ _ (Nat.le_refl _)]; exact hen2
                · exact hen2
              rw [← hi3] at hD
              have eia : (i2 : Int) - (a : Int) = ((i2 - a : Nat) : Int) := by omega
              have ebi : (b : Int) - (i2 : Int) = ((b - i2 : Nat) : Int) := by omega
              have HI3 := hidden hi3
              clear hst hst2 hi3 ei3
              go_upto_if 61 with fail
              go_cut [9] from 58 to 94 (fun _ wz => Hid (DT wz g tl e2) ∧ Hid (Onl g w wz))
              case first =>
                by_cases hc : i2 - a ≥ 2
                · have hc' : ((i2 - a : Nat) : Int) ≥ 2 := by omega
                  have HE2 : Hid (Sort.shiftDown ltN (i2 - 1) (Sort.swp e i2 (i2 - 1)) = e2) := hidden (by rw [← he2, if_pos hc])
                  clear he2 he3
                  go_wp2_with fail
                  have ei1 : (i2 : Int) - 1 = ((i2 - 1 : Nat) : Int) := by omega
                  go_loopw [9] (fun s wz => ∃ (j : Nat) (f : Array Nat), s = .int .i64 (j : Int) ∧ j ≤ i2 - 1 ∧ f.size = n ∧ Hid (DT wz g tl f) ∧ Hid (Onl g w wz) ∧ Hid (Sort.shiftDown ltN j f = e2)) (fun s _ => (intOf s).toNat)
                  case atStart => exact ⟨i2 - 1, Sort.swp e i2 (i2 - 1), by first | rfl | rw [ei1], by omega, by rw [swp_size]; exact hen, hD, hO, hidden HE2.out⟩
                  case round =>
                    rename World => wz
                    obtain ⟨j, f, rfl, hji, hfn, HDZ, HOZ, hS⟩ := hrel
                    by_cases hj1 : 1 ≤ j
                    · have hj1' : (j : Int) ≥ 1 := by omega
                      obtain ⟨q, hjq⟩ : ∃ q, j = q + 1 := ⟨j - 1, by omega⟩
                      have ej : (j : Int) - 1 = (q : Int) := by omega
                      have hq : q < n ∧ q < j ∧ j < n := by omega
                      have h8 := hS.out
                      rw [hjq, Sort.shiftDown, ← hjq] at h8
                      have HJQ := hidden hjq
                      clear hjq
                      have hne2 : ¬ q = j := by omega
                      have hne3 : ¬ j = q := by omega
                      have c1 := HDZ.out.at j (by omega)
                      have c2 := HDZ.out.at q (by omega)
                      have f1 := HDZ.out.fr j
                      have f2 := HDZ.out.fr q
                      by_cases hxy : f[j]! < f[q]!
                      · rw [if_neg (by simp [ltN_t hxy])] at h8
                        have HN := hidden h8
                        have HSW : Hid (∀ nq, DT (((wz.drewN nq).setCell ⟨g, j, none⟩ (.int .u32 ((f[q]! : Nat) : Int))).setCell ⟨g, q, none⟩ (.int .u32 ((f[j]! : Nat) : Int))).drew g tl (Sort.swp f j q) ∧ Onl g w (((wz.drewN nq).setCell ⟨g, j, none⟩ (.int .u32 ((f[q]! : Nat) : Int))).setCell ⟨g, q, none⟩ (.int .u32 ((f[j]! : Nat) : Int))).drew) :=
                          hidden (fun nq => ⟨(HDZ.out.drewN nq).swp j q (by omega) (by omega), (HOZ.out.trans (Onl.drewN g wz nq)).swp _ _ _ _⟩)
                        have HL := less_t hxy
                        clear h8 hS
                        generalize f[j]! = x at *
                        generalize f[q]! = y at *
                        go_wp2_with fail
                        go_quiet (exact Calls.quiet_of_same (HL _))
                        go_wp2_with fail
                        go_region
                        go_wp2_with fail
                        refine ⟨⟨q, Sort.swp f j q, by first | rfl | rw [ej], by omega, by rw [swp_size]; exact hfn, hidden (HSW.out nq).1, hidden (HSW.out nq).2, HN⟩, ?_⟩
                        have := HJQ.out
                        simp [intOf]
                        try omega
                      · rw [if_pos (by simp [ltN_f hxy])] at h8
                        have HN := hidden h8
                        have HL := less_f hxy
                        clear h8 hS
                        generalize f[j]! = x at *
                        generalize f[q]! = y at *
                        go_wp2_with fail
                        go_quiet (exact Calls.quiet_of_same (HL _))
                        go_wp2_with fail
                        go_meet
                        case rel => exact ⟨hidden (by rw [← HN.out]; exact HDZ.out.drewN nq), hidden (HOZ.out.trans (Onl.drewN g wz nq))⟩
                    · obtain rfl : j = 0 := by omega
                      have hj1' : ¬ ((0 : Nat) : Int) ≥ 1 := by omega
                      have HN : Hid (f = e2) := hidden hS.out
                      clear hS
                      go_wp2_with fail
                      go_meet
                      case rel => exact ⟨hidden (by rw [← HN.out]; exact HDZ.out), HOZ⟩
                · have hc' : ¬ ((i2 - a : Nat) : Int) ≥ 2 := by omega
                  have HE2 : Hid (Sort.swp e i2 (i2 - 1) = e2) := hidden (by rw [← he2, if_neg hc])
                  clear he2 he3
                  go_wp2_with fail
                  go_meet
                  case rel => exact ⟨hidden (by rw [← HE2.out]; exact hD.out), hO⟩
              case rest =>
                rename World => wY
                obtain ⟨hD, hO⟩ := hcut
                go_upto_if 98 with fail
                by_cases hc : b - i2 ≥ 2
                · have hc' : ((b - i2 : Nat) : Int) ≥ 2 := by omega
                  have HE3 : Hid (Sort.shiftUp ltN b (i2 + 1) e2 = e3) := hidden (by rw [← he3, if_pos hc])
                  clear he2 he3
                  go_wp2_with fail
                  go_loopw [10] (fun s wz => ∃ (j : Nat) (f : Array Nat), s = .int .i64 (j : Int) ∧ i2 + 1 ≤ j ∧ j ≤ b ∧ f.size = n ∧ Hid (DT wz g tl f) ∧ Hid (Onl g w wz) ∧ Hid (Sort.shiftUp ltN b j f = e3)) (fun s _ => b + 1 - (intOf s).toNat)
                  case atStart => exact ⟨i2 + 1, e2, by first | rfl | simp, by omega, by omega, hen2, hD, hO, hidden HE3.out⟩
                  case round =>
                    rename World => wz
                    obtain ⟨j, f, rfl, hji, hjb, hfn, HDZ, HOZ, hS⟩ := hrel
                    by_cases hj1 : j < b
                    · have hj1' : (j : Int) < (b : Int) := by omega
                      obtain ⟨q, hjq⟩ : ∃ q, j - 1 = q := ⟨_, rfl⟩
                      have ej : (j : Int) - 1 = (q : Int) := by omega
                      have hq : q < n ∧ q < j ∧ j < n := by omega
                      have h8 := hS.out
                      rw [Sort.shiftUp, if_pos hj1, hjq] at h8
                      clear hjq
                      have hne2 : ¬ q = j := by omega
                      have hne3 : ¬ j = q := by omega
                      have c1 := HDZ.out.at j (by omega)
                      have c2 := HDZ.out.at q (by omega)
                      have f1 := HDZ.out.fr j
                      have f2 := HDZ.out.fr q
                      by_cases hxy : f[j]! < f[q]!
                      · rw [if_neg (by simp [ltN_t hxy])] at h8
                        have HN := hidden h8
                        have HSW : Hid (∀ nq, DT (((wz.drewN nq).setCell ⟨g, j, none⟩ (.int .u32 ((f[q]! : Nat) : Int))).setCell ⟨g, q, none⟩ (.int .u32 ((f[j]! : Nat) : Int))).drew g tl (Sort.swp f j q) ∧ Onl g w (((wz.drewN nq).setCell ⟨g, j, none⟩ (.int .u32 ((f[q]! : Nat) : Int))).setCell ⟨g, q, none⟩ (.int .u32 ((f[j]! : Nat) : Int))).drew) :=
                          hidden (fun nq => ⟨(HDZ.out.drewN nq).swp j q (by omega) (by omega), (HOZ.out.trans (Onl.drewN g wz nq)).swp _ _ _ _⟩)
                        have HL := less_t hxy
                        clear h8 hS
                        generalize f[j]! = x at *
                        generalize f[q]! = y at *
                        go_wp2_with fail
                        go_quiet (exact Calls.quiet_of_same (HL _))
                        go_wp2_with fail
                        go_region
                        go_wp2_with fail
                        refine ⟨⟨j + 1, Sort.swp f j q, by first | rfl | simp, by omega, by omega, by rw [swp_size]; exact hfn, hidden (HSW.out nq).1, hidden (HSW.out nq).2, HN⟩, ?_⟩
                        simp [intOf]
                        try omega
                      · rw [if_pos (by simp [ltN_f hxy])] at h8
                        have HN := hidden h8
                        have HL := less_f hxy
                        clear h8 hS
                        generalize f[j]! = x at *
                        generalize f[q]! = y at *
                        go_wp2_with fail
                        go_quiet (exact Calls.quiet_of_same (HL _))
                        go_wp2_with fail
                        refine ⟨⟨s + 1, i2, e3, by first | rfl | simp, by first | rfl | simp, by omega, by omega, by omega, hen3, hidden (by rw [← HN.out]; exact HDZ.out.drewN nq), hidden (HOZ.out.trans (Onl.drewN g wz nq)), hidden (by rw [show 5 - (s + 1) = m by omega]; exact HST.out)⟩, ?_⟩
                        simp [intOf]
                        omega
                    · have hj1' : ¬ (j : Int) < (b : Int) := by omega
                      have h8 := hS.out
                      rw [Sort.shiftUp, if_neg hj1] at h8
                      have HN := hidden h8
                      clear hS h8
                      go_wp2_with fail
                      refine ⟨⟨s + 1, i2, e3, by first | rfl | simp, by first | rfl | simp, by omega, by omega, by omega, hen3, hidden (by rw [← HN.out]; exact HDZ.out), HOZ, hidden (by rw [show 5 - (s + 1) = m by omega]; exact HST.out)⟩, ?_⟩
                      simp [intOf]
                      omega
                · have hc' : ¬ ((b - i2 : Nat) : Int) ≥ 2 := by omega
                  have HE3 : Hid (e2 = e3) := hidden (by rw [← he3, if_neg hc])
                  clear he2 he3
                  go_wp2_with fail
                  refine ⟨⟨s + 1, i2, e3, by first | rfl | simp, by first | rfl | simp, by omega, by omega, by omega, hen3, hidden (by rw [← HE3.out]; exact hD.out), hO, hidden (by rw [show 5 - (s + 1) = m by omega]; exact HST.out)⟩, ?_⟩
                  simp [intOf]
                  omega
    · obtain rfl : s = 5 := by omega
      have hs' : ¬ ((5 : Nat) : Int) < 5 := by omega
      have HST : Hid (Sort.partialInsertionSort ltN d a b = (e, false)) := hidden hE.out.symm
      clear hE
      go_wp2_with fail
      go_ret
      exact ⟨by rw [HST.out]; rfl, by rw [HST.out]; exact hD.out, hO.out⟩
end Go.Proofs.Ytjpelnbffodaiaa
