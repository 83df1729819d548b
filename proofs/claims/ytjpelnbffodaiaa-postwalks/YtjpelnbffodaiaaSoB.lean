/-
  slices.Sort over []uint32: insertionSort.
-/
import Derived.Test.YtjpelnbffodaiaaSoA
namespace Go.Proofs.Ytjpelnbffodaiaa
open Go.RowKit
set_option linter.unusedVariables false
set_option linter.unusedSimpArgs false

set_option maxRecDepth 100000 in
set_option maxHeartbeats 8000000 in
theorem insertionP (w : World) (g n c : Nat) (tl : List Value) (d : Array Nat) (a b : Nat) (h : DT w g tl d) (hn : d.size = n) (hab : a ≤ b) (hb : b ≤ n) (hn9 : n ≤ 1000000000) (hnc : n ≤ c) :
    Calls Try.prog 55 #[.slice (some ⟨g, 0, none⟩) n c, .int .i64 (a : Int), .int .i64 (b : Int)] w fun e w' => e = .returned (.tuple #[]) ∧ DT w' g tl (Sort.insertionSort ltN d a b) ∧ Onl g w w' := by
  have HD := hidden h
  clear h
  go_enter Try.func55, Try.ntmps55
  go_wp2_with fail
  go_loopw [6] (fun s6 wx => ∃ (i : Nat) (e : Array Nat), s6 = .int .i64 (i : Int) ∧ a < i ∧ (i ≤ b ∨ i = a + 1) ∧ e.size = n ∧ Hid (DT wx g tl e) ∧ Hid (Onl g w wx) ∧ Hid (Sort.insOuter ltN a b i e = Sort.insertionSort ltN d a b)) (fun s6 _ => b + 1 - (intOf s6).toNat)
  case atStart => exact ⟨a + 1, d, by first | rfl | simp, by omega, by omega, hn, HD, hidden (Onl.refl _ _), hidden rfl⟩
  case round =>
    rename World => wx
    obtain ⟨i, e, rfl, hai, hib, hen, hD, hO, hE⟩ := hrel
    by_cases hlt : i < b
    · have hlt' : (i : Int) < (b : Int) := by omega
      have h8 := hE.out
      rw [Sort.insOuter, if_pos hlt] at h8
      have HE := hidden h8
      clear hE h8
      go_wp2_with fail
      go_loopw [7] (fun s7 wy => ∃ (j : Nat) (f : Array Nat), s7 = .int .i64 (j : Int) ∧ a ≤ j ∧ j ≤ i ∧ f.size = n ∧ Hid (DT wy g tl f) ∧ Hid (Onl g w wy) ∧ Hid (Sort.insInner ltN a j f = Sort.insInner ltN a i e)) (fun s7 _ => (intOf s7).toNat)
      case atStart => exact ⟨i, e, rfl, by omega, by omega, hen, hD, hO, hidden rfl⟩
      case round =>
        rename World => wy
        obtain ⟨j, f, rfl, haj, hji, hfn, hF, hP, hI⟩ := hrel
        have fin : Hid (Sort.insInner ltN a i e = f → ∀ nq, ∃ (i' : Nat) (e' : Array Nat), (Value.int .i64 ((i : Int) + 1)) = .int .i64 (i' : Int) ∧ a < i' ∧ (i' ≤ b ∨ i' = a + 1) ∧ e'.size = n ∧ Hid (DT (wy.drewN nq) g tl e') ∧ Hid (Onl g w (wy.drewN nq)) ∧ Hid (Sort.insOuter ltN a b i' e' = Sort.insertionSort ltN d a b)) :=
          hidden (fun h9 nq => ⟨i + 1, f, by first | rfl | simp, by omega, by omega, hfn, hidden hF.out, hidden (hP.out.trans (Onl.drewN _ _ _)), hidden (by rw [← h9]; exact HE.out)⟩)
        by_cases hja : a < j
        · have hja' : (j : Int) > (a : Int) := by omega
          obtain ⟨q, hjq⟩ : ∃ q, j = q + 1 := ⟨j - 1, by omega⟩
          have ej : (j : Int) - 1 = (q : Int) := by omega
          have c1 := hF.out.at j (by omega)
          have c2 := hF.out.at q (by omega)
          have f1 := hF.out.fr j
          have f2 := hF.out.fr q
          have h8 := hI.out
          rw [hjq, Sort.insInner, ← hjq] at h8
          have hq : q < n ∧ a ≤ q ∧ q ≤ i := by omega
          have HJQ := hidden hjq
          clear hjq
          by_cases hxy : f[j]! < f[q]!
          · rw [if_pos (by simp [ltN_t hxy]; exact hja)] at h8
            have HI := hidden h8
            have HSW : Hid (∀ nq, DT (((wy.drewN nq).setCell ⟨g, j, none⟩ (.int .u32 ((f[q]! : Nat) : Int))).setCell ⟨g, q, none⟩ (.int .u32 ((f[j]! : Nat) : Int))).drew g tl (Sort.swp f j q) ∧ Onl g w (((wy.drewN nq).setCell ⟨g, j, none⟩ (.int .u32 ((f[q]! : Nat) : Int))).setCell ⟨g, q, none⟩ (.int .u32 ((f[j]! : Nat) : Int))).drew) :=
              hidden (fun nq => ⟨(hF.out.drewN nq).swp j q (by omega) (by omega), (hP.out.trans (Onl.drewN g wy nq)).swp _ _ _ _⟩)
            clear h8 hI
            have HL := less_t hxy
            generalize f[q]! = x at *
            generalize f[j]! = y at *
            go_wp2_with fail
            go_quiet (exact Calls.quiet_of_same (HL _))
            go_wp2_with fail
            go_region
            go_wp2_with fail
            refine ⟨⟨q, Sort.swp f j q, by first | rfl | rw [ej], by omega, by omega, by rw [swp_size]; exact hfn, hidden (HSW.out nq).1, hidden (HSW.out nq).2, hidden HI.out⟩, ?_⟩
            have := HJQ.out
            simp [intOf]
            try omega
          · rw [if_neg (by simp [ltN_f hxy])] at h8
            have HL := less_f hxy
            have HFF := hidden (fin.out h8.symm)
            clear h8
            generalize f[q]! = x at *
            generalize f[j]! = y at *
            go_wp2_with fail
            go_quiet (exact Calls.quiet_of_same (HL _))
            go_wp2_with fail
            refine ⟨HFF.out nq, ?_⟩
            simp [intOf]
            try omega
        · obtain rfl : j = a := by omega
          have hja' : ¬ (j : Int) > (j : Int) := by omega
          have h8 := hI.out
          have h7 : Sort.insInner ltN j j f = f := by
            cases j with
            | zero => rfl
            | succ q => rw [Sort.insInner, if_neg (by simp)]
          rw [h7] at h8
          have HFF := hidden (fin.out h8.symm)
          clear h8 h7
          go_wp2_with fail
          go_quiet (fail)
          go_wp2_with fail
          refine ⟨HFF.out nq, ?_⟩
          simp [intOf]
          try omega
    · have hlt' : ¬ (i : Int) < (b : Int) := by omega
      go_wp2_with fail
      go_end0
      have h9 := hE.out
      rw [Sort.insOuter, if_neg hlt] at h9
      exact ⟨rfl, by rw [← h9]; exact hD.out, hO.out⟩
end Go.Proofs.Ytjpelnbffodaiaa
