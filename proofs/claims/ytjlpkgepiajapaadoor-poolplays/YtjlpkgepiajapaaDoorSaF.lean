import Derived.Test.YtjlpkgepiajapaaDoorPpQ
import Derived.Test.YtjlpkgepiajapaaDoorPpN
/-
  PoolPlays: a step, kind drop.
-/
namespace Go.Proofs.YtjlpkgepiajapaaDoor
open Go.RowKit
set_option linter.unusedVariables false
set_option linter.unusedSimpArgs false

def ph5 (A B C : World → Prop) (j : Nat) (w : World) : Prop := match j with
  | 0 => A w
  | 1 => B w
  | _ => C w
set_option maxRecDepth 100000 in
set_option maxHeartbeats 8000000 in
theorem step_drop (w0 : World) (v : Nat) (p r q n : Nat → Nat) (on sl : Int) (s : ByteArray) (ad : Option Addr) (len c : Nat) (l : List Int) (w : World) (h : PX w0 v p r q n w) (hon : -9223372036854775808 ≤ on ∧ on ≤ 9223372036854775807) (hsl : -9223372036854775808 ≤ sl ∧ sl ≤ 9223372036854775807)
    (hs : Sl w0 ad len l) (hno : ad = none → len = 0 ∧ c = 0) (hlc : len ≤ c) (hc : c ≤ 9223372036854775807) :
    Calls Tryd.prog 8 #[.pointer (some ⟨v, 0, none⟩), .agg #[.int .i64 6, .int .i64 on, .int .i64 sl, .string s, .slice ad len c]] w fun e w' => e = .returned (.bool true) ∧ PX w0 v p r q n w' := by
  obtain ⟨st, F, B, vb, vn, Lb, Ln, hP, hLim⟩ := h
  have ba : Below w.heap.size w (w.alloc (.cells #[.int .i64 6, .int .i64 on, .int .i64 sl, .string s, .slice ad len c] 42)) := (Below.refl _ _).alloc (Nat.le_refl _) _
  have HP := hidden hP
  have HB : Hid (SB w0 v p r q n w.heap.size (oC 6 on sl s ad len c) st st (w.alloc (.cells #[.int .i64 6, .int .i64 on, .int .i64 sl, .string s, .slice ad len c] 42))) := hidden ⟨F, B, vb, vn, Lb, Ln, hP.later ba, Blk.new w 42 (oC 6 on sl s ad len c)⟩
  have hcp : ∀ k, k < 3 → (w.alloc (.cells #[.int .i64 6, .int .i64 on, .int .i64 sl, .string s, .slice ad len c] 42)).cell? ⟨v, k, none⟩ = some (.pointer (some ⟨p k, 0, none⟩)) ∧ (w.alloc (.cells #[.int .i64 6, .int .i64 on, .int .i64 sl, .string s, .slice ad len c] 42)).cell? ⟨v, 3 + k, none⟩ = some (.pointer (some ⟨r k, 0, none⟩)) := fun k hk => ⟨(hP.later ba).cp hk, (hP.later ba).cr hk⟩
  have HCP := hidden hcp
  have HPI := hidden (pickP on 3 (by omega) (by omega) hon)
  have HLI := hidden hLim
  have HSL := hidden hs
  have HNO := hidden hno
  have HSB := hidden (And.intro hlc hc)
  clear hP ba hcp hon hLim hs hno hlc hc
  go_enter Tryd.func8, Tryd.ntmps8
  go_upto_region 2 with (refine (HPI.out _).mono ?_; clear HPI; rintro e w1 ⟨⟨k, hk, rfl⟩, rfl⟩)
  have hk3 : k < 3 := by omega
  obtain ⟨c1, c2⟩ := HCP.out k hk3
  have HK := hidden hk3
  clear HCP hk3
  obtain ⟨u, hu⟩ : ∃ u : Int, ((setL (st k) (n k) s).length : Int) = u := ⟨_, rfl⟩
  obtain ⟨l9, hl9⟩ : ∃ l9 : Int, ((n k - (tkL (drpS (st k) s) (n k)).length : Nat) : Int) = l9 := ⟨_, rfl⟩
  have HU := hidden hu
  have HL := hidden hl9
  clear hu hl9 hsl
  go_wp2_with (refine st_r37 (p k) (r k) w.heap.size s u l9 (ph5 (SB w0 v p r q n w.heap.size (oC 6 on sl s ad len c) st st) (SB w0 v p r q n w.heap.size (oC 6 on sl s ad len c) (upF st k (drpS (st k) s)) st) (SB w0 v p r q n w.heap.size (oC 6 on sl s ad len c) (upF st k (drpS (st k) s)) (upF st k (drpS (st k) s)))) _ _ _ rfl rfl rfl rfl (fun w1 ⟨j, hj, hI⟩ => by rcases (show j = 0 ∨ j = 1 ∨ j = 2 ∨ j = 3 ∨ j = 4 ∨ j = 5 by omega) with rfl | rfl | rfl | rfl | rfl | rfl <;> exact hI.cell 3) (HB.out.later (Lat.draw _)) (fun w1 hI => by have h9 := SB.drop (s := s) HK.out hI; rw [HU.out] at h9; exact h9) (fun w1 hI => by have h9 := SB.dropR (s := s) HK.out hI; rw [HU.out] at h9; exact h9) (fun w1 hI => hI) (fun w1 hI => by have h9 := SB.left HK.out hI; rw [upF_at, HL.out] at h9; exact h9) (fun w1 hI => by have h9 := SB.leftR HK.out hI; rw [upF_at, HL.out] at h9; exact h9) ?_; intro v217 v218 v219 v220 v221 v222 v223 v224 v225 v226 v227 v228 v229 v230 v231 v232 w2 h2; have H2 := hidden h2; clear h2; simp only [Act.put, List.setIfInBounds_toArray, List.set_cons_succ, List.set_cons_zero])
  go_ret
  exact ⟨by first | rfl | simp, SB.px H2.out (HLI.out.up (lim_drop (HLI.out k)))⟩

end Go.Proofs.YtjlpkgepiajapaaDoor

/-
  PoolPlays: a step, kind many.
-/
namespace Go.Proofs.YtjlpkgepiajapaaDoor
open Go.RowKit
set_option linter.unusedVariables false
set_option linter.unusedSimpArgs false

set_option maxRecDepth 100000 in
set_option maxHeartbeats 8000000 in
theorem step_many (w0 : World) (v : Nat) (p r q n : Nat → Nat) (on sl : Int) (s : ByteArray) (ad : Option Addr) (len c : Nat) (l : List Int) (w : World) (h : PX w0 v p r q n w) (hon : -9223372036854775808 ≤ on ∧ on ≤ 9223372036854775807) (hsl : -9223372036854775808 ≤ sl ∧ sl ≤ 9223372036854775807)
    (hs : Sl w0 ad len l) (hno : ad = none → len = 0 ∧ c = 0) (hlc : len ≤ c) (hc : c ≤ 9223372036854775807) :
    Calls Tryd.prog 8 #[.pointer (some ⟨v, 0, none⟩), .agg #[.int .i64 7, .int .i64 on, .int .i64 sl, .string s, .slice ad len c]] w fun e w' => e = .returned (.bool true) ∧ PX w0 v p r q n w' := by
  obtain ⟨st, F, B, vb, vn, Lb, Ln, hP, hLim⟩ := h
  have ba : Below w.heap.size w (w.alloc (.cells #[.int .i64 7, .int .i64 on, .int .i64 sl, .string s, .slice ad len c] 42)) := (Below.refl _ _).alloc (Nat.le_refl _) _
  have HP := hidden hP
  have HB : Hid (SB w0 v p r q n w.heap.size (oC 7 on sl s ad len c) st st (w.alloc (.cells #[.int .i64 7, .int .i64 on, .int .i64 sl, .string s, .slice ad len c] 42))) := hidden ⟨F, B, vb, vn, Lb, Ln, hP.later ba, Blk.new w 42 (oC 7 on sl s ad len c)⟩
  have hcp : ∀ k, k < 3 → (w.alloc (.cells #[.int .i64 7, .int .i64 on, .int .i64 sl, .string s, .slice ad len c] 42)).cell? ⟨v, k, none⟩ = some (.pointer (some ⟨p k, 0, none⟩)) ∧ (w.alloc (.cells #[.int .i64 7, .int .i64 on, .int .i64 sl, .string s, .slice ad len c] 42)).cell? ⟨v, 3 + k, none⟩ = some (.pointer (some ⟨r k, 0, none⟩)) := fun k hk => ⟨(hP.later ba).cp hk, (hP.later ba).cr hk⟩
  have HCP := hidden hcp
  have HPI := hidden (pickP on 3 (by omega) (by omega) hon)
  have HLI := hidden hLim
  have HSL := hidden hs
  have HNO := hidden hno
  have HSB := hidden (And.intro hlc hc)
  clear hP ba hcp hon hLim hs hno hlc hc
  go_enter Tryd.func8, Tryd.ntmps8
  go_upto_region 2 with (refine (HPI.out _).mono ?_; clear HPI; rintro e w1 ⟨⟨k, hk, rfl⟩, rfl⟩)
  have hk3 : k < 3 := by omega
  obtain ⟨c1, c2⟩ := HCP.out k hk3
  have HK := hidden hk3
  clear HCP hk3
  go_wp2_with fail
  clear c1 c2
  generalize w.alloc (.cells #[.int .i64 7, .int .i64 on, .int .i64 sl, .string s, .slice ad len c] 42) = wb at HB ⊢
  generalize w.heap.size = ob at *
  go_loopw [12] (fun v12 wx => ∃ (i : Nat) (sx : Nat → Sx), v12 = .int .i64 (i : Int) ∧ i ≤ 5000 ∧ Hid (SB w0 v p r q n ob (oC 7 on sl s ad len c) sx sx wx) ∧ Hid (Lim sx)) (fun v12 _ => 5000 - (intOf v12).toNat)
  case atStart => exact ⟨0, st, rfl, by omega, HB, HLI⟩
  case round =>
    obtain ⟨i, sx, rfl, hi, hB, hL⟩ := hrel
    clear HB HLI
    have c2 := hB.out.cell 2
    have c3 := hB.out.cell 3
    simp only [oC, List.getElem?_cons_succ, List.getElem?_cons_zero] at c2 c3
    by_cases hi5 : (i : Int) < sl ∧ (i : Int) < 5000
    · obtain ⟨hi5, hi6⟩ := hi5
      obtain ⟨a9, e9, hT⟩ := takeV_tuple (sx k) (n k)
      have HT := hidden hT
      clear hT
      go_wp2_with fail
      have hq := SB.take (s := s) HK.out hB.out
      rw [HT.out] at hq
      refine hq.mono ?_
      rintro e w2 ⟨rfl, h2⟩
      have H2 := hidden h2
      have d3 := h2.cell 3
      simp only [oC, List.getElem?_cons_succ, List.getElem?_cons_zero] at d3
      clear hq h2 c2 c3
      go_wp2_with fail
      have hq := SB.takeR (s := s) HK.out H2.out
      rw [HT.out] at hq
      refine hq.mono ?_
      rintro e w3 ⟨rfl, h3⟩
      have H3 := hidden h3
      have HL3 := hidden (hL.out.up (k := k) (lim_take (n := n k) (o := s) (hL.out k)))
      clear hq h3 d3
      by_cases he : e9 = 0
      · have he1 : (e9 != 0) = false := by simp [he]
        have he2 : decide (e9 = 0) = true := by simp [he]
        clear he
        go_wp2_with fail
        refine ⟨⟨i + 1, _, by first | rfl | simp, by omega, H3, HL3⟩, ?_⟩
        show 5000 - ((i : Int) + 1).toNat < 5000 - (i : Int).toNat
        omega
      · have he1 : (e9 != 0) = true := by simp [he]
        have he2 : decide (e9 = 0) = false := by simp [he]
        clear he
        go_wp2_with fail
        go_ret
        exact ⟨rfl, H3.out.px HL3.out⟩
    · have hend : ¬ (i : Int) < sl ∨ ((i : Int) < sl ∧ ¬ (i : Int) < 5000) := by omega
      clear hi5
      rcases hend with h1 | ⟨h1, h2⟩
      · go_wp2_with fail
        go_ret
        exact ⟨rfl, hB.out.px hL.out⟩
      · go_wp2_with fail
        go_ret
        exact ⟨rfl, hB.out.px hL.out⟩

end Go.Proofs.YtjlpkgepiajapaaDoor
