/-
  PoolPlays: a step, kind who.
-/
import Derived.Test.YtjlpkgepiajapaaDoorPpQ
import Derived.Test.YtjlpkgepiajapaaDoorPpN
namespace Go.Proofs.YtjlpkgepiajapaaDoor
open Go.RowKit
set_option linter.unusedVariables false
set_option linter.unusedSimpArgs false

set_option maxRecDepth 100000 in
set_option maxHeartbeats 8000000 in
theorem step_who (w0 : World) (v : Nat) (p r q n : Nat → Nat) (on sl : Int) (s : ByteArray) (ad : Option Addr) (len c : Nat) (l : List Int) (w : World) (h : PX w0 v p r q n w) (hon : -9223372036854775808 ≤ on ∧ on ≤ 9223372036854775807) (hsl : -9223372036854775808 ≤ sl ∧ sl ≤ 9223372036854775807)
    (hs : Sl w0 ad len l) (hno : ad = none → len = 0 ∧ c = 0) (hlc : len ≤ c) (hc : c ≤ 9223372036854775807) :
    Calls Tryd.prog 8 #[.pointer (some ⟨v, 0, none⟩), .agg #[.int .i64 5, .int .i64 on, .int .i64 sl, .string s, .slice ad len c]] w fun e w' => e = .returned (.bool true) ∧ PX w0 v p r q n w' := by
  obtain ⟨st, F, B, vb, vn, Lb, Ln, hP, hLim⟩ := h
  have ba : Below w.heap.size w (w.alloc (.cells #[.int .i64 5, .int .i64 on, .int .i64 sl, .string s, .slice ad len c] 42)) := (Below.refl _ _).alloc (Nat.le_refl _) _
  have HP := hidden hP
  have HB : Hid (SB w0 v p r q n w.heap.size (oC 5 on sl s ad len c) st st (w.alloc (.cells #[.int .i64 5, .int .i64 on, .int .i64 sl, .string s, .slice ad len c] 42))) := hidden ⟨F, B, vb, vn, Lb, Ln, hP.later ba, Blk.new w 42 (oC 5 on sl s ad len c)⟩
  have hcp : ∀ k, k < 3 → (w.alloc (.cells #[.int .i64 5, .int .i64 on, .int .i64 sl, .string s, .slice ad len c] 42)).cell? ⟨v, k, none⟩ = some (.pointer (some ⟨p k, 0, none⟩)) ∧ (w.alloc (.cells #[.int .i64 5, .int .i64 on, .int .i64 sl, .string s, .slice ad len c] 42)).cell? ⟨v, 3 + k, none⟩ = some (.pointer (some ⟨r k, 0, none⟩)) := fun k hk => ⟨(hP.later ba).cp hk, (hP.later ba).cr hk⟩
  have HCP := hidden hcp
  have HPI := hidden (pickP on 3 (by omega) (by omega) hon)
  have HLI := hidden hLim
  have HSL := hidden hs
  have HNO := hidden hno
  have HSB := hidden (And.intro hlc hc)
  clear hP ba hcp hon hLim hs hno hlc hc
  go_enter Tryd.func8, Tryd.ntmps8
  go_upto_region 2 with (refine (HPI.out _).mono ?_; clear HPI; rintro e w1 ⟨⟨k, hk, rfl⟩, rfl⟩)
  have hk3 : k < 3 := by omega
  obtain ⟨c1, c2⟩ := HCP.out k hk3
  have HK := hidden hk3
  clear HCP hk3
  obtain ⟨nd, nc, hvn, -⟩ := rowform (Rw.of_owns HP.out.on) rfl
  subst hvn
  obtain ⟨nn, hnn⟩ : ∃ nn, Ln.length = nn := ⟨_, rfl⟩
  rw [hnn] at HP
  have HNN := hidden hnn
  have hn6 := HP.out.len.2
  rw [hnn] at hn6
  clear hnn hsl
  have HP1 := hidden (HP.out.later ((Below.refl w.heap.size w).alloc (Nat.le_refl _) (.cells #[.int .i64 5, .int .i64 on, .int .i64 sl, .string s, .slice ad len c] 42)))
  have HO1 : Hid (Blk (w.alloc (.cells #[.int .i64 5, .int .i64 on, .int .i64 sl, .string s, .slice ad len c] 42)) w.heap.size 42 (oC 5 on sl s ad len c)) := hidden (Blk.new w 42 (oC 5 on sl s ad len c))
  clear HB HP
  go_upto_region 31 with fail
  clear c1 c2
  have c3 := HO1.out.cell 3
  simp only [oC, List.getElem?_cons_succ, List.getElem?_cons_zero] at c3
  generalize w.alloc (.cells #[.int .i64 5, .int .i64 on, .int .i64 sl, .string s, .slice ad len c] 42) = wb at *
  generalize w.heap.size = ob at *
  obtain ⟨N, hN⟩ : ∃ N, (slL (st k) (n k) s).length = N := ⟨_, rfl⟩
  have hN6 : N ≤ 65536 := by have h1 := slL_le (st k) (n k) s; have h2 := (HP1.out.pq k HK.out).n1; omega
  have HN := hidden hN
  clear hN
  go_wp2_with fail
  refine (slotsX s (F k) (p k) (n k) (st k) _ (HP1.out.pq k HK.out)).mono ?_
  rintro e w2 ⟨va, rfl, o2, -, b2⟩
  rw [HN.out] at o2
  obtain ⟨a1, q1, rfl⟩ := owns_form o2
  have HP2 := hidden (HP1.out.later b2)
  have HO2 := hidden (HO1.out.later b2)
  have HR2 : Hid (Rw w2 3 (.slice a1 N q1) ((slL (st k) (n k) s).map encZ)) := hidden (Rw.of_owns (base := wb.heap.size) (by rw [List.length_map, HN.out]; exact o2))
  have HL2 : Hid (∀ g, (Value.slice a1 N q1).ownBlock = some g → wb.heap.size ≤ g) := hidden (fun g hg => (o2.lt g hg).1)
  have HG2 : Hid (∀ g, (Value.slice a1 N q1).ownBlock = some g → w0.heap.size ≤ g ∧ ¬ OB Ln g ∧ ¬ (Value.slice nd nn nc).ownBlock = some g) := hidden (fun g hg => by
    have h1 := (o2.lt g hg).1
    refine ⟨by have := HP1.out.bel.size; omega, fun h9 => ?_, fun h9 => ?_⟩
    · have := (HP1.out.tn.tg h9).lt; omega
    · have := owns_lt HP1.out.on g h9; omega)
  have d3 := HO2.out.cell 3
  simp only [oC, List.getElem?_cons_succ, List.getElem?_cons_zero] at d3
  clear o2 b2 HP1 HO1 c3
  go_wp2_with fail
  refine (slotsR s (r k) (q k) (n k) (st k) (B k) _ (HP2.out.rp k HK.out)).mono ?_
  rintro e w3 ⟨vr, rfl, o3, b3⟩
  rw [HN.out] at o3
  obtain ⟨a2, q2, rfl⟩ := owns_form o3
  have HP3 := hidden (HP2.out.later b3)
  have HO3 := hidden (HO2.out.later b3)
  have HR3 := hidden (HR2.out.later b3)
  have HS3 : Hid (Rw w3 3 (.slice a2 N q2) ((slL (st k) (n k) s).map encZ)) := hidden (Rw.of_owns (base := w2.heap.size) (by rw [List.length_map, HN.out]; exact o3))
  clear o3 b3 HP2 HO2 HR2 d3
  go_wp2_with fail
  refine (sameP a1 a2 N q1 q2 (slL (st k) (n k) s) _ HN.out HR3.out HS3.out hN6).mono ?_
  rintro e w4 ⟨rfl, b4⟩
  have HP4 := hidden (HP3.out.later b4)
  have HO4 := hidden (HO3.out.later b4)
  have HR4 := hidden (HR3.out.later b4)
  have c7 := HP4.out.c7
  clear b4 HP3 HO3 HR3 HS3
  obtain ⟨u, hu⟩ : ∃ u : Int, ((setL (st k) (n k) s).length : Int) = u := ⟨_, rfl⟩
  obtain ⟨l9, hl9⟩ : ∃ l9 : Int, ((n k - (tkL (st k) (n k)).length : Nat) : Int) = l9 := ⟨_, rfl⟩
  have HU := hidden hu
  have HL := hidden hl9
  clear hu hl9
  by_cases hn60 : nn < 60
  · have hq := numbersP v w0.heap.size (wlC p r vb (.slice nd nn nc)) (.slice nd nn nc) (.slice a1 N q1) Ln ((slL (st k) (n k) s).map encZ) w4 HP4.out.blk rfl HP4.out.on HP4.out.bel.size HR4.out (by rw [List.length_map, HN.out]; exact hN6) (by rw [HNN.out]; exact hn60) (fun g hg => (HG2.out g hg).2.2)
    have HQ := hidden hq
    clear hq
    go_wp2_with (first
      | (refine HQ.out.mono ?_; clear HQ; rintro e w5 ⟨rfl, vn', h1, h2, h3, h4, h5⟩; have H5 := hidden (HP4.out.addN (by rw [List.length_map, HN.out]; exact hN6) (by rw [HNN.out]; exact hn60) h1 h2 h3 h4 (fun g hg => ⟨(HG2.out g hg).1, HR4.out.tg hg, (HG2.out g hg).2.1⟩)); have hob := h4.blk HO4.out (fun e9 => by rcases e9 with e9 | e9 | e9; (exact (HO4.out.tg.ne HP4.out.blk.tg (by decide)) e9); (exact (HO4.out.tg.ne (HR4.out.tg e9) (by decide)) rfl); (exact (HO4.out.tg.ne (owns_tg HP4.out.on _ e9) (by decide)) rfl)); have H5B : Hid (SB w0 v p r q n ob (oC 5 on sl s ad len c) st st w5) := hidden ⟨F, B, vb, vn', Lb, _, H5.out, hob⟩; clear h1 h2 h3 h4 h5 c7 hob H5)
      | (refine st_r35 (p k) (r k) ob s u l9 (fun _ => SB w0 v p r q n ob (oC 5 on sl s ad len c) st st) _ _ _ rfl rfl rfl rfl rfl (fun w1 ⟨j, hj, hI⟩ => hI.cell 3) (H5B.out.later (Lat.draw _)) (fun w1 hI => by have h9 := SB.used (s := s) HK.out hI; rw [HU.out] at h9; exact h9) (fun w1 hI => by have h9 := SB.usedR (s := s) HK.out hI; rw [HU.out] at h9; exact h9) (fun w1 hI => hI) (fun w1 hI => by have h9 := SB.left HK.out hI; rw [HL.out] at h9; exact h9) (fun w1 hI => by have h9 := SB.leftR HK.out hI; rw [HL.out] at h9; exact h9) ?_; intro v196 v197 v198 v199 v200 v201 v202 v203 v204 v205 v206 v207 v208 v209 v210 v211 v212 v213 v214 w6 h6; have H6 := hidden h6; clear h6; simp only [Act.put, List.setIfInBounds_toArray, List.set_cons_succ, List.set_cons_zero]))
    go_ret
    exact ⟨by first | rfl | simp, SB.px H6.out HLI.out⟩
  · have H5B : Hid (SB w0 v p r q n ob (oC 5 on sl s ad len c) st st w4) := hidden ⟨F, B, vb, _, Lb, Ln, HP4.out, HO4.out⟩
    go_wp2_with (refine st_r35 (p k) (r k) ob s u l9 (fun _ => SB w0 v p r q n ob (oC 5 on sl s ad len c) st st) _ _ _ rfl rfl rfl rfl rfl (fun w1 ⟨j, hj, hI⟩ => hI.cell 3) (H5B.out.later (Lat.draw _)) (fun w1 hI => by have h9 := SB.used (s := s) HK.out hI; rw [HU.out] at h9; exact h9) (fun w1 hI => by have h9 := SB.usedR (s := s) HK.out hI; rw [HU.out] at h9; exact h9) (fun w1 hI => hI) (fun w1 hI => by have h9 := SB.left HK.out hI; rw [HL.out] at h9; exact h9) (fun w1 hI => by have h9 := SB.leftR HK.out hI; rw [HL.out] at h9; exact h9) ?_; intro v196 v197 v198 v199 v200 v201 v202 v203 v204 v205 v206 v207 v208 v209 v210 v211 v212 v213 v214 w6 h6; have H6 := hidden h6; clear h6; simp only [Act.put, List.setIfInBounds_toArray, List.set_cons_succ, List.set_cons_zero])
    go_ret
    exact ⟨by first | rfl | simp, SB.px H6.out HLI.out⟩

end Go.Proofs.YtjlpkgepiajapaaDoor
