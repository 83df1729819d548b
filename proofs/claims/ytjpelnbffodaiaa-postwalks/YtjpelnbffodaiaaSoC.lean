/-
  slices.Sort over []uint32: siftDown, heapSort (tools/gensoc22.py).
-/
import Derived.Test.YtjpelnbffodaiaaSoA
namespace Go.Proofs.Ytjpelnbffodaiaa
open Go.RowKit
set_option linter.unusedVariables false
set_option linter.unusedSimpArgs false

theorem res68 (tmps : Array Value) (w : World) : (results Try.f68 tmps).run Try.prog w = .ok (.tuple #[]) w := by
  have h : Try.f68.results = #[] := by kernel_rfl
  simp [results, h, go_sem]
theorem res56 (tmps : Array Value) (w : World) : (results Try.f56 tmps).run Try.prog w = .ok (.tuple #[]) w := by
  have h : Try.f56.results = #[] := by kernel_rfl
  simp [results, h, go_sem]
theorem i64w (R : Nat) (h : R ≤ 9223372036854775807) : IntKind.i64.wrap (R : Int) = (R : Int) := by
  unfold IntKind.wrap
  simp [IntKind.bits, IntKind.signed]
  omega
theorem sift_end (hi first root : Nat) (d : Array Nat) (h : 2 * root + 1 ≥ hi) : Sort.siftDown ltN hi first root d = d := by
  rw [Sort.siftDown, dif_pos h]
theorem sift_r (hi first root : Nat) (d : Array Nat) (h : ¬ 2 * root + 1 ≥ hi) (h1 : 2 * root + 2 < hi) (hl : d[first + (2 * root + 1)]! < d[first + (2 * root + 2)]!) :
    Sort.siftDown ltN hi first root d = if d[first + root]! < d[first + (2 * root + 2)]! then Sort.siftDown ltN hi first (2 * root + 2) (Sort.swp d (first + root) (first + (2 * root + 2))) else d := by
  rw [Sort.siftDown, dif_neg h, if_pos (by simp only [Bool.and_eq_true, decide_eq_true_eq]; exact ⟨by omega, ltN_t (by rw [show first + (2 * root + 1) + 1 = first + (2 * root + 2) by omega]; exact hl)⟩)]
  by_cases k : d[first + root]! < d[first + (2 * root + 2)]!
  · rw [if_neg (by simp [ltN_t k]), dif_pos h1, if_pos k]
  · rw [if_pos (by simp [ltN_f k]), if_neg k]
theorem sift_l (hi first root : Nat) (d : Array Nat) (h : ¬ 2 * root + 1 ≥ hi) (h1 : ¬ (2 * root + 2 < hi ∧ d[first + (2 * root + 1)]! < d[first + (2 * root + 2)]!)) :
    Sort.siftDown ltN hi first root d = if d[first + root]! < d[first + (2 * root + 1)]! then Sort.siftDown ltN hi first (2 * root + 1) (Sort.swp d (first + root) (first + (2 * root + 1))) else d := by
  rw [Sort.siftDown, dif_neg h, if_neg (by
    simp only [Bool.and_eq_true, decide_eq_true_eq]
    rintro ⟨a, b⟩
    refine h1 ⟨by omega, ?_⟩
    rw [show first + (2 * root + 1) + 1 = first + (2 * root + 2) by omega] at b
    simpa [ltN] using b)]
  by_cases k : d[first + root]! < d[first + (2 * root + 1)]!
  · rw [if_neg (by simp [ltN_t k]), if_pos k]
  · rw [if_pos (by simp [ltN_f k]), if_neg k]
theorem sift_size (hi first : Nat) : ∀ (k root : Nat) (d : Array Nat), hi - root ≤ k → (Sort.siftDown ltN hi first root d).size = d.size := by
  intro k
  induction k with
  | zero => intro root d h; rw [sift_end _ _ _ _ (by omega)]
  | succ k ih =>
    intro root d h
    by_cases h0 : 2 * root + 1 ≥ hi
    · rw [sift_end _ _ _ _ h0]
    · by_cases h1 : 2 * root + 2 < hi ∧ d[first + (2 * root + 1)]! < d[first + (2 * root + 2)]!
      · rw [sift_r _ _ _ _ h0 h1.1 h1.2]
        split
        · rw [ih _ _ (by omega), swp_size]
        · rfl
      · rw [sift_l _ _ _ _ h0 h1]
        split
        · rw [ih _ _ (by omega), swp_size]
        · rfl

set_option maxRecDepth 100000 in
set_option maxHeartbeats 16000000 in
theorem siftP (w : World) (g n c : Nat) (tl : List Value) (d : Array Nat) (lo hi first : Nat) (h : DT w g tl d) (hn : d.size = n) (hf : first + hi ≤ n) (hlo : lo ≤ n) (hn9 : n ≤ 1000000000) (hnc : n ≤ c) :
    Calls Try.prog 68 #[.slice (some ⟨g, 0, none⟩) n c, .int .i64 (lo : Int), .int .i64 (hi : Int), .int .i64 (first : Int)] w fun e w' => e = .returned (.tuple #[]) ∧ DT w' g tl (Sort.siftDown ltN hi first lo d) ∧ Onl g w w' := by
  have HD := hidden h
  clear h
  go_enter Try.func68, Try.ntmps68
  go_wp2_with fail
  go_loopw [8] (fun s8 wx => ∃ (r : Nat) (e : Array Nat), s8 = .int .i64 (r : Int) ∧ r ≤ n ∧ e.size = n ∧ Hid (DT wx g tl e) ∧ Hid (Onl g w wx) ∧ Hid (Sort.siftDown ltN hi first r e = Sort.siftDown ltN hi first lo d)) (fun s8 _ => n + 1 - (intOf s8).toNat)
  case atStart => exact ⟨lo, d, rfl, hlo, hn, HD, hidden (Onl.refl _ _), hidden rfl⟩
  case round =>
    rename World => wx
    obtain ⟨r, e, rfl, hrn, hen, hD, hO, hE⟩ := hrel
    obtain ⟨c1, hc1⟩ : ∃ c1, 2 * r + 1 = c1 := ⟨_, rfl⟩
    have e1 : 2 * (r : Int) + 1 = (c1 : Int) := by omega
    by_cases hend : c1 ≥ hi
    · have hend' : (c1 : Int) ≥ (hi : Int) := by omega
      have h9 := hE.out
      rw [sift_end _ _ _ _ (by omega)] at h9
      have HN := hidden h9
      clear h9 hc1
      go_wp2_with fail
      first | go_end0 | (refine bodyPost_ret (res68 _ _) rfl ?_)
      exact ⟨rfl, by rw [← HN.out]; exact hD.out, hO.out⟩
    · have hend' : ¬ (c1 : Int) ≥ (hi : Int) := by omega
      obtain ⟨c2, hc2⟩ : ∃ c2, c1 + 1 = c2 := ⟨_, rfl⟩
      have e2 : (c1 : Int) + 1 = (c2 : Int) := by omega
      obtain ⟨R, hR⟩ : ∃ R, first + r = R := ⟨_, rfl⟩
      have eR : (first : Int) + (r : Int) = (R : Int) := by omega
      obtain ⟨C1, hC1⟩ : ∃ C1, first + c1 = C1 := ⟨_, rfl⟩
      have eC1 : (first : Int) + (c1 : Int) = (C1 : Int) := by omega
      obtain ⟨C2, hC2⟩ : ∃ C2, first + c2 = C2 := ⟨_, rfl⟩
      have eC2 : (first : Int) + (c2 : Int) = (C2 : Int) := by omega
      have eC12 : (C1 : Int) + 1 = (C2 : Int) := by omega
      have HB : Hid (r < c1 ∧ c1 < c2 ∧ c1 < hi ∧ R < n ∧ C1 < n ∧ hi ≤ n) := hidden (by omega)
      have hRn : R < n := by omega
      have hC1n : C1 < n := by omega
      have q2 : 2 * r + 2 = c2 := by omega
      by_cases hc : c2 < hi
      · have hc' : (c2 : Int) < (hi : Int) := by omega
        have hC2n : C2 < n := by omega
        have k1 := hD.out.at C1 (by omega)
        have k2 := hD.out.at C2 (by omega)
        by_cases hl : e[C1]! < e[C2]!
        · have HL0 := less_t hl
          have hs := sift_r hi first r e (by omega) (by omega) (by rw [hc1, q2, hC1, hC2]; exact hl)
          rw [q2, hR, hC2, hE.out] at hs
          have h8 : ∀ ch, ch = c2 → e[R]! < e[C2]! → Sort.siftDown ltN hi first ch (Sort.swp e R C2) = Sort.siftDown ltN hi first lo d ∧ ch < hi ∧ r < ch := by
            rintro ch rfl hxy
            rw [if_pos hxy] at hs
            exact ⟨hs.symm, hc, by omega⟩
          have h9 : ∀ ch, ch = c2 → ¬ e[R]! < e[C2]! → e = Sort.siftDown ltN hi first lo d := by
            rintro ch rfl hxy
            rw [if_neg hxy] at hs
            exact hs.symm
          clear hs hc1 hc2 hR hC1 hC2 q2
          generalize e[C1]! = x1 at k1 HL0
          generalize hyy : e[C2]! = y2 at k2 HL0
          go_wp2_with fail
          go_quiet (exact Calls.quiet_of_same (HL0 _))
          rw [← hyy] at k2
          clear hyy hl HL0 k1 k2
          obtain ⟨wy, hwy⟩ : ∃ wy, wx.drewN nq = wy := ⟨_, rfl⟩
          rw [hwy]
          have HDY : Hid (DT wy g tl e) := hidden (by rw [← hwy]; exact hD.out.drewN nq)
          have HOY : Hid (Onl g w wy) := hidden (by rw [← hwy]; exact hO.out.trans (Onl.drewN g wx nq))
          clear hwy
          have cR := HDY.out.at R (by omega)
          have cC := HDY.out.at C2 (by omega)
          have fR := HDY.out.fr R
          have fC := HDY.out.fr C2
          have hRb := i64w R (by omega)
          have hCb := i64w C2 (by omega)
          by_cases hxy : e[R]! < e[C2]!
          · have HN := hidden (h8 (c2) rfl hxy)
            have HSW : Hid (∀ n2, DT (((wy.drewN n2).setCell ⟨g, R, none⟩ (.int .u32 ((e[C2]! : Nat) : Int))).setCell ⟨g, C2, none⟩ (.int .u32 ((e[R]! : Nat) : Int))).drew g tl (Sort.swp e R C2) ∧ Onl g w (((wy.drewN n2).setCell ⟨g, R, none⟩ (.int .u32 ((e[C2]! : Nat) : Int))).setCell ⟨g, C2, none⟩ (.int .u32 ((e[R]! : Nat) : Int))).drew) :=
              hidden (fun n2 => ⟨(HDY.out.drewN n2).swp R C2 (by omega) (by omega), (HOY.out.trans (Onl.drewN g wy n2)).swp _ _ _ _⟩)
            have HL := less_t hxy
            clear h8 h9
            generalize e[R]! = x at *
            generalize e[C2]! = y at *
            go_wp2_with fail
            go_quiet (exact Calls.quiet_of_same (HL _))
            go_wp2_with fail
            go_region
            go_wp2_with fail
            refine ⟨⟨c2, Sort.swp e R C2, by first | rfl | simp, by have := HN.out.2.1; have := HB.out; omega, by rw [swp_size]; exact hen, hidden (HSW.out nq).1, hidden (HSW.out nq).2, hidden HN.out.1⟩, ?_⟩
            have := HN.out.2
            have := HB.out
            simp [intOf]
            try omega
          · have HN := hidden (h9 (c2) rfl hxy)
            have HL := less_f hxy
            clear h8 h9
            generalize e[R]! = x at *
            generalize e[C2]! = y at *
            go_wp2_with fail
            go_quiet (exact Calls.quiet_of_same (HL _))
            go_wp2_with fail
            first | go_end0 | (refine bodyPost_ret (res68 _ _) rfl ?_)
            exact ⟨rfl, by rw [← HN.out]; exact HDY.out, HOY.out.trans (Onl.drewN g wy _)⟩
        · have HL0 := less_f hl
          have hs := sift_l hi first r e (by omega) (by rw [hc1, q2, hC1, hC2]; exact fun k => hl k.2)
          rw [hc1, hR, hC1, hE.out] at hs
          have h8 : ∀ ch, ch = c1 → e[R]! < e[C1]! → Sort.siftDown ltN hi first ch (Sort.swp e R C1) = Sort.siftDown ltN hi first lo d ∧ ch < hi ∧ r < ch := by
            rintro ch rfl hxy
            rw [if_pos hxy] at hs
            exact ⟨hs.symm, by omega, by omega⟩
          have h9 : ∀ ch, ch = c1 → ¬ e[R]! < e[C1]! → e = Sort.siftDown ltN hi first lo d := by
            rintro ch rfl hxy
            rw [if_neg hxy] at hs
            exact hs.symm
          clear hs hc1 hc2 hR hC1 hC2 q2
          generalize hxx : e[C1]! = x1 at k1 HL0
          generalize e[C2]! = y2 at k2 HL0
          go_wp2_with fail
          go_quiet (exact Calls.quiet_of_same (HL0 _))
          clear hxx hl HL0 k1 k2
          obtain ⟨wy, hwy⟩ : ∃ wy, wx.drewN nq = wy := ⟨_, rfl⟩
          rw [hwy]
          have HDY : Hid (DT wy g tl e) := hidden (by rw [← hwy]; exact hD.out.drewN nq)
          have HOY : Hid (Onl g w wy) := hidden (by rw [← hwy]; exact hO.out.trans (Onl.drewN g wx nq))
          clear hwy
          have cR := HDY.out.at R (by omega)
          have cC := HDY.out.at C1 (by omega)
          have fR := HDY.out.fr R
          have fC := HDY.out.fr C1
          have hRb := i64w R (by omega)
          have hCb := i64w C1 (by omega)
          by_cases hxy : e[R]! < e[C1]!
          · have HN := hidden (h8 (c1) rfl hxy)
            have HSW : Hid (∀ n2, DT (((wy.drewN n2).setCell ⟨g, R, none⟩ (.int .u32 ((e[C1]! : Nat) : Int))).setCell ⟨g, C1, none⟩ (.int .u32 ((e[R]! : Nat) : Int))).drew g tl (Sort.swp e R C1) ∧ Onl g w (((wy.drewN n2).setCell ⟨g, R, none⟩ (.int .u32 ((e[C1]! : Nat) : Int))).setCell ⟨g, C1, none⟩ (.int .u32 ((e[R]! : Nat) : Int))).drew) :=
              hidden (fun n2 => ⟨(HDY.out.drewN n2).swp R C1 (by omega) (by omega), (HOY.out.trans (Onl.drewN g wy n2)).swp _ _ _ _⟩)
            have HL := less_t hxy
            clear h8 h9
            generalize e[R]! = x at *
            generalize e[C1]! = y at *
            go_wp2_with fail
            go_quiet (exact Calls.quiet_of_same (HL _))
            go_wp2_with fail
            go_region
            go_wp2_with fail
            refine ⟨⟨c1, Sort.swp e R C1, by first | rfl | simp, by have := HN.out.2.1; have := HB.out; omega, by rw [swp_size]; exact hen, hidden (HSW.out nq).1, hidden (HSW.out nq).2, hidden HN.out.1⟩, ?_⟩
            have := HN.out.2
            have := HB.out
            simp [intOf]
            try omega
          · have HN := hidden (h9 (c1) rfl hxy)
            have HL := less_f hxy
            clear h8 h9
            generalize e[R]! = x at *
            generalize e[C1]! = y at *
            go_wp2_with fail
            go_quiet (exact Calls.quiet_of_same (HL _))
            go_wp2_with fail
            first | go_end0 | (refine bodyPost_ret (res68 _ _) rfl ?_)
            exact ⟨rfl, by rw [← HN.out]; exact HDY.out, HOY.out.trans (Onl.drewN g wy _)⟩
      · have hc' : ¬ (c2 : Int) < (hi : Int) := by omega
        have hs := sift_l hi first r e (by omega) (by rw [q2]; exact fun k => hc k.1)
        rw [hc1, hR, hC1, hE.out] at hs
        have h8 : ∀ ch, ch = c1 → e[R]! < e[C1]! → Sort.siftDown ltN hi first ch (Sort.swp e R C1) = Sort.siftDown ltN hi first lo d ∧ ch < hi ∧ r < ch := by
          rintro ch rfl hxy
          rw [if_pos hxy] at hs
          exact ⟨hs.symm, by omega, by omega⟩
        have h9 : ∀ ch, ch = c1 → ¬ e[R]! < e[C1]! → e = Sort.siftDown ltN hi first lo d := by
          rintro ch rfl hxy
          rw [if_neg hxy] at hs
          exact hs.symm
        clear hs hc1 hc2 hR hC1 hC2 q2
        go_wp2_with fail
        go_quiet (fail)
        obtain ⟨wy, hwy⟩ : ∃ wy, wx.drewN nq = wy := ⟨_, rfl⟩
        rw [hwy]
        have HDY : Hid (DT wy g tl e) := hidden (by rw [← hwy]; exact hD.out.drewN nq)
        have HOY : Hid (Onl g w wy) := hidden (by rw [← hwy]; exact hO.out.trans (Onl.drewN g wx nq))
        clear hwy
        have cR := HDY.out.at R (by omega)
        have cC := HDY.out.at C1 (by omega)
        have fR := HDY.out.fr R
        have fC := HDY.out.fr C1
        have hRb := i64w R (by omega)
        have hCb := i64w C1 (by omega)
        by_cases hxy : e[R]! < e[C1]!
        · have HN := hidden (h8 (c1) rfl hxy)
          have HSW : Hid (∀ n2, DT (((wy.drewN n2).setCell ⟨g, R, none⟩ (.int .u32 ((e[C1]! : Nat) : Int))).setCell ⟨g, C1, none⟩ (.int .u32 ((e[R]! : Nat) : Int))).drew g tl (Sort.swp e R C1) ∧ Onl g w (((wy.drewN n2).setCell ⟨g, R, none⟩ (.int .u32 ((e[C1]! : Nat) : Int))).setCell ⟨g, C1, none⟩ (.int .u32 ((e[R]! : Nat) : Int))).drew) :=
            hidden (fun n2 => ⟨(HDY.out.drewN n2).swp R C1 (by omega) (by omega), (HOY.out.trans (Onl.drewN g wy n2)).swp _ _ _ _⟩)
          have HL := less_t hxy
          clear h8 h9
          generalize e[R]! = x at *
          generalize e[C1]! = y at *
          go_wp2_with fail
          go_quiet (exact Calls.quiet_of_same (HL _))
          go_wp2_with fail
          go_region
          go_wp2_with fail
          refine ⟨⟨c1, Sort.swp e R C1, by first | rfl | simp, by have := HN.out.2.1; have := HB.out; omega, by rw [swp_size]; exact hen, hidden (HSW.out nq).1, hidden (HSW.out nq).2, hidden HN.out.1⟩, ?_⟩
          have := HN.out.2
          have := HB.out
          simp [intOf]
          try omega
        · have HN := hidden (h9 (c1) rfl hxy)
          have HL := less_f hxy
          clear h8 h9
          generalize e[R]! = x at *
          generalize e[C1]! = y at *
          go_wp2_with fail
          go_quiet (exact Calls.quiet_of_same (HL _))
          go_wp2_with fail
          first | go_end0 | (refine bodyPost_ret (res68 _ _) rfl ?_)
          exact ⟨rfl, by rw [← HN.out]; exact HDY.out, HOY.out.trans (Onl.drewN g wy _)⟩
set_option maxRecDepth 100000 in
set_option maxHeartbeats 16000000 in
theorem heapP (w : World) (g n c : Nat) (tl : List Value) (d : Array Nat) (a b : Nat) (h : DT w g tl d) (hn : d.size = n) (hab : a ≤ b) (hb : b ≤ n) (hn9 : n ≤ 1000000000) (hnc : n ≤ c) :
    Calls Try.prog 56 #[.slice (some ⟨g, 0, none⟩) n c, .int .i64 (a : Int), .int .i64 (b : Int)] w fun e w' => e = .returned (.tuple #[]) ∧ DT w' g tl (Sort.heapSort ltN d a b) ∧ Onl g w w' := by
  have HD := hidden h
  clear h
  obtain ⟨hi, hhi⟩ : ∃ hi, b - a = hi := ⟨_, rfl⟩
  have ehi : (b : Int) - (a : Int) = (hi : Int) := by omega
  obtain ⟨k0, hk0⟩ : ∃ k0, (hi - 1) / 2 + 1 = k0 := ⟨_, rfl⟩
  have ek0 : ((hi : Int) - 1).tdiv 2 = (k0 : Int) - 1 := by
    rcases Nat.eq_zero_or_pos hi with rfl | hp
    · subst hk0; rfl
    · rw [show (hi : Int) - 1 = ((hi - 1 : Nat) : Int) by omega, Int.tdiv_eq_ediv_of_nonneg (by omega)]
      omega
  have HS : Hid (Sort.heapSort ltN d a b = Sort.heapPop ltN a hi (Sort.heapBuild ltN hi a k0 d)) := hidden (by unfold Sort.heapSort; rw [hhi, hk0])
  have hk9 : k0 ≤ hi / 2 + 1 := by omega
  have hh9 : a + hi ≤ n := by omega
  have HK0 := hidden hk0
  have HHI := hidden hhi
  clear hk0 hhi
  go_enter Try.func56, Try.ntmps56
  go_wp2_with fail
  go_loopw [9] (fun s9 wx => ∃ (k : Nat) (e : Array Nat), s9 = .int .i64 ((k : Int) - 1) ∧ k ≤ k0 ∧ e.size = n ∧ Hid (DT wx g tl e) ∧ Hid (Onl g w wx) ∧ Hid (Sort.heapBuild ltN hi a k e = Sort.heapBuild ltN hi a k0 d)) (fun s9 _ => (intOf s9 + 1).toNat)
  case atStart => exact ⟨k0, d, by first | rfl | simp, by omega, hn, HD, hidden (Onl.refl _ _), hidden rfl⟩
  case round =>
    rename World => wx
    obtain ⟨k, e, rfl, hk, hen, hD, hO, hE⟩ := hrel
    by_cases hz : 0 < k
    · obtain ⟨q, rfl⟩ : ∃ q, k = q + 1 := ⟨k - 1, by omega⟩
      have eq1 : (((q + 1 : Nat) : Int) - 1) = (q : Int) := by omega
      have hge : (q : Int) ≥ 0 := by omega
      rw [eq1]
      go_wp2_with fail
      refine (siftP wx g n c tl e q hi a hD.out hen (by omega) (by omega) hn9 hnc).mono ?_
      rintro en wy ⟨rfl, hDy, hOy⟩
      have HDY := hidden hDy
      have HOY := hidden hOy
      clear hDy hOy
      go_wp2_with fail
      refine ⟨⟨q, Sort.siftDown ltN hi a q e, by first | rfl | simp, by omega, by rw [sift_size _ _ _ _ _ (Nat.le_refl _)]; exact hen, HDY, hidden (hO.out.trans HOY.out), hidden hE.out⟩, ?_⟩
      simp [intOf]
      try omega
    · obtain rfl : k = 0 := by omega
      have hge : ¬ (((0 : Nat) : Int) - 1) ≥ 0 := by omega
      have HE : Hid (e = Sort.heapBuild ltN hi a k0 d) := hidden hE.out
      clear hE
      go_wp2_with fail
      go_loopw [10] (fun s10 wx => ∃ (k : Nat) (e2 : Array Nat), s10 = .int .i64 ((k : Int) - 1) ∧ k ≤ hi ∧ e2.size = n ∧ Hid (DT wx g tl e2) ∧ Hid (Onl g w wx) ∧ Hid (Sort.heapPop ltN a k e2 = Sort.heapSort ltN d a b)) (fun s10 _ => (intOf s10 + 1).toNat)
      case atStart => exact ⟨hi, e, by first | rfl | simp, by omega, hen, hD, hO, hidden (by rw [HS.out, HE.out])⟩
      case round =>
        rename World => wz
        obtain ⟨k, e2, rfl, hk, hen2, hD2, hO2, hE2⟩ := hrel
        by_cases hz : 0 < k
        · obtain ⟨q, rfl⟩ : ∃ q, k = q + 1 := ⟨k - 1, by omega⟩
          have eq1 : (((q + 1 : Nat) : Int) - 1) = (q : Int) := by omega
          have hge : (q : Int) ≥ 0 := by omega
          rw [eq1]
          obtain ⟨R, hR⟩ : ∃ R, a + q = R := ⟨_, rfl⟩
          have eR : (a : Int) + (q : Int) = (R : Int) := by omega
          have hRn : R < n := by omega
          have hRw := i64w R (by omega)
          have cA := hD2.out.at a (by omega)
          have cR := hD2.out.at R (by omega)
          have fA := hD2.out.fr a
          have fR := hD2.out.fr R
          have HSW : Hid (DT ((wz.setCell ⟨g, a, none⟩ (.int .u32 ((e2[R]! : Nat) : Int))).setCell ⟨g, R, none⟩ (.int .u32 ((e2[a]! : Nat) : Int))).drew g tl (Sort.swp e2 a R) ∧ Onl g w ((wz.setCell ⟨g, a, none⟩ (.int .u32 ((e2[R]! : Nat) : Int))).setCell ⟨g, R, none⟩ (.int .u32 ((e2[a]! : Nat) : Int))).drew) :=
            hidden ⟨hD2.out.swp a R (by omega) (by omega), hO2.out.swp _ _ _ _⟩
          have HE2 : Hid (Sort.heapPop ltN a q (Sort.siftDown ltN q a 0 (Sort.swp e2 a R)) = Sort.heapSort ltN d a b) := hidden (by rw [← hR]; exact hE2.out)
          clear hE2
          by_cases hq0 : q = 0
          · obtain rfl : R = a := by omega
            subst hq0
            generalize e2[R]! = y at *
            go_wp2_with fail
            go_region
            obtain ⟨wy, hwy⟩ : ∃ wy, ((wz.setCell ⟨g, R, none⟩ (.int .u32 (y : Int))).setCell ⟨g, R, none⟩ (.int .u32 (y : Int))).drew = wy := ⟨_, rfl⟩
            rw [hwy]
            rw [hwy] at HSW
            clear hwy
            go_wp2_with fail
            refine (siftP wy g n c tl (Sort.swp e2 R R) 0 0 R HSW.out.1 (by rw [swp_size]; exact hen2) (by omega) (by omega) hn9 hnc).mono ?_
            rintro en wv ⟨rfl, hDv, hOv⟩
            have HDV := hidden hDv
            have HOV := hidden hOv
            clear hDv hOv
            go_wp2_with fail
            refine ⟨⟨0, Sort.siftDown ltN 0 R 0 (Sort.swp e2 R R), by first | rfl | simp, by omega, by rw [sift_size _ _ _ _ _ (Nat.le_refl _), swp_size]; exact hen2, HDV, hidden (HSW.out.2.trans HOV.out), HE2⟩, ?_⟩
            simp [intOf]
            try omega
          · have hne : a ≠ R := by omega
            have hne2 : R ≠ a := by omega
            clear hR
            generalize e2[a]! = x at *
            generalize e2[R]! = y at *
            go_wp2_with fail
            go_region
            obtain ⟨wy, hwy⟩ : ∃ wy, ((wz.setCell ⟨g, a, none⟩ (.int .u32 (y : Int))).setCell ⟨g, R, none⟩ (.int .u32 (x : Int))).drew = wy := ⟨_, rfl⟩
            rw [hwy]
            rw [hwy] at HSW
            clear hwy
            go_wp2_with fail
            refine (siftP wy g n c tl (Sort.swp e2 a R) 0 q a HSW.out.1 (by rw [swp_size]; exact hen2) (by omega) (by omega) hn9 hnc).mono ?_
            rintro en wv ⟨rfl, hDv, hOv⟩
            have HDV := hidden hDv
            have HOV := hidden hOv
            clear hDv hOv
            go_wp2_with fail
            refine ⟨⟨q, Sort.siftDown ltN q a 0 (Sort.swp e2 a R), by first | rfl | simp, by omega, by rw [sift_size _ _ _ _ _ (Nat.le_refl _), swp_size]; exact hen2, HDV, hidden (HSW.out.2.trans HOV.out), HE2⟩, ?_⟩
            simp [intOf]
            try omega
        · obtain rfl : k = 0 := by omega
          have hge : ¬ (((0 : Nat) : Int) - 1) ≥ 0 := by omega
          have HE3 : Hid (e2 = Sort.heapSort ltN d a b) := hidden hE2.out
          clear hE2
          go_wp2_with fail
          first | go_end0 | (refine bodyPost_ret (res56 _ _) rfl ?_)
          exact ⟨rfl, by rw [← HE3.out]; exact hD2.out, hO2.out⟩
end Go.Proofs.Ytjpelnbffodaiaa
