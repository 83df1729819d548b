import Derived.Test.YtjlpkgepiajapaaDoorPpQ
import Derived.Test.YtjlpkgepiajapaaDoorPpN
/-
  PoolPlays: a step, kind take.
-/
namespace Go.Proofs.YtjlpkgepiajapaaDoor
open Go.RowKit
set_option linter.unusedVariables false
set_option linter.unusedSimpArgs false

set_option maxRecDepth 100000 in
set_option maxHeartbeats 8000000 in
theorem step_take (w0 : World) (v : Nat) (p r q n : Nat → Nat) (on sl : Int) (s : ByteArray) (ad : Option Addr) (len c : Nat) (l : List Int) (w : World) (h : PX w0 v p r q n w) (hon : -9223372036854775808 ≤ on ∧ on ≤ 9223372036854775807) (hsl : -9223372036854775808 ≤ sl ∧ sl ≤ 9223372036854775807)
    (hs : Sl w0 ad len l) (hno : ad = none → len = 0 ∧ c = 0) (hlc : len ≤ c) (hc : c ≤ 9223372036854775807) :
    Calls Tryd.prog 8 #[.pointer (some ⟨v, 0, none⟩), .agg #[.int .i64 1, .int .i64 on, .int .i64 sl, .string s, .slice ad len c]] w fun e w' => e = .returned (.bool true) ∧ PX w0 v p r q n w' := by
  obtain ⟨st, F, B, vb, vn, Lb, Ln, hP, hLim⟩ := h
  have ba : Below w.heap.size w (w.alloc (.cells #[.int .i64 1, .int .i64 on, .int .i64 sl, .string s, .slice ad len c] 42)) := (Below.refl _ _).alloc (Nat.le_refl _) _
  have HP := hidden hP
  have HB : Hid (SB w0 v p r q n w.heap.size (oC 1 on sl s ad len c) st st (w.alloc (.cells #[.int .i64 1, .int .i64 on, .int .i64 sl, .string s, .slice ad len c] 42))) := hidden ⟨F, B, vb, vn, Lb, Ln, hP.later ba, Blk.new w 42 (oC 1 on sl s ad len c)⟩
  have hcp : ∀ k, k < 3 → (w.alloc (.cells #[.int .i64 1, .int .i64 on, .int .i64 sl, .string s, .slice ad len c] 42)).cell? ⟨v, k, none⟩ = some (.pointer (some ⟨p k, 0, none⟩)) ∧ (w.alloc (.cells #[.int .i64 1, .int .i64 on, .int .i64 sl, .string s, .slice ad len c] 42)).cell? ⟨v, 3 + k, none⟩ = some (.pointer (some ⟨r k, 0, none⟩)) := fun k hk => ⟨(hP.later ba).cp hk, (hP.later ba).cr hk⟩
  have HCP := hidden hcp
  have HPI := hidden (pickP on 3 (by omega) (by omega) hon)
  have HLI := hidden hLim
  have HSL := hidden hs
  have HNO := hidden hno
  have HSB := hidden (And.intro hlc hc)
  clear hP ba hcp hon hLim hs hno hlc hc
  go_enter Tryd.func8, Tryd.ntmps8
  go_upto_region 2 with (refine (HPI.out _).mono ?_; clear HPI; rintro e w1 ⟨⟨k, hk, rfl⟩, rfl⟩)
  have hk3 : k < 3 := by omega
  obtain ⟨c1, c2⟩ := HCP.out k hk3
  have HK := hidden hk3
  clear HCP hk3
  obtain ⟨a9, e9, hT⟩ := takeV_tuple (st k) (n k)
  have HT := hidden hT
  clear hT hsl
  go_wp2_with fail
  have hq := SB.take (s := s) HK.out HB.out
  rw [HT.out] at hq
  refine hq.mono ?_
  rintro e w2 ⟨rfl, h2⟩
  have H2 := hidden h2
  have c3 := h2.cell 3
  simp only [oC, List.getElem?_cons_succ, List.getElem?_cons_zero] at c3
  clear hq h2 HB c1 c2
  go_wp2_with fail
  have hq := SB.takeR (s := s) HK.out H2.out
  rw [HT.out] at hq
  refine hq.mono ?_
  rintro e w3 ⟨rfl, h3⟩
  have H3 := hidden h3
  clear hq h3 H2 c3
  go_wp2_with fail
  go_ret
  exact ⟨by first | rfl | simp, H3.out.px (HLI.out.up (lim_take (HLI.out k)))⟩

end Go.Proofs.YtjlpkgepiajapaaDoor

/-
  PoolPlays: a step, kind give.
-/
namespace Go.Proofs.YtjlpkgepiajapaaDoor
open Go.RowKit
set_option linter.unusedVariables false
set_option linter.unusedSimpArgs false

def ph3 (A B C : World → Prop) (j : Nat) (w : World) : Prop := match j with
  | 0 => A w
  | 1 => B w
  | _ => C w
set_option maxRecDepth 100000 in
set_option maxHeartbeats 8000000 in
theorem step_give (w0 : World) (v : Nat) (p r q n : Nat → Nat) (on sl : Int) (s : ByteArray) (ad : Option Addr) (len c : Nat) (l : List Int) (w : World) (h : PX w0 v p r q n w) (hon : -9223372036854775808 ≤ on ∧ on ≤ 9223372036854775807) (hsl : -9223372036854775808 ≤ sl ∧ sl ≤ 9223372036854775807)
    (hs : Sl w0 ad len l) (hno : ad = none → len = 0 ∧ c = 0) (hlc : len ≤ c) (hc : c ≤ 9223372036854775807) :
    Calls Tryd.prog 8 #[.pointer (some ⟨v, 0, none⟩), .agg #[.int .i64 2, .int .i64 on, .int .i64 sl, .string s, .slice ad len c]] w fun e w' => e = .returned (.bool true) ∧ PX w0 v p r q n w' := by
  obtain ⟨st, F, B, vb, vn, Lb, Ln, hP, hLim⟩ := h
  have ba : Below w.heap.size w (w.alloc (.cells #[.int .i64 2, .int .i64 on, .int .i64 sl, .string s, .slice ad len c] 42)) := (Below.refl _ _).alloc (Nat.le_refl _) _
  have HP := hidden hP
  have HB : Hid (SB w0 v p r q n w.heap.size (oC 2 on sl s ad len c) st st (w.alloc (.cells #[.int .i64 2, .int .i64 on, .int .i64 sl, .string s, .slice ad len c] 42))) := hidden ⟨F, B, vb, vn, Lb, Ln, hP.later ba, Blk.new w 42 (oC 2 on sl s ad len c)⟩
  have hcp : ∀ k, k < 3 → (w.alloc (.cells #[.int .i64 2, .int .i64 on, .int .i64 sl, .string s, .slice ad len c] 42)).cell? ⟨v, k, none⟩ = some (.pointer (some ⟨p k, 0, none⟩)) ∧ (w.alloc (.cells #[.int .i64 2, .int .i64 on, .int .i64 sl, .string s, .slice ad len c] 42)).cell? ⟨v, 3 + k, none⟩ = some (.pointer (some ⟨r k, 0, none⟩)) := fun k hk => ⟨(hP.later ba).cp hk, (hP.later ba).cr hk⟩
  have HCP := hidden hcp
  have HPI := hidden (pickP on 3 (by omega) (by omega) hon)
  have HLI := hidden hLim
  have HSL := hidden hs
  have HNO := hidden hno
  have HSB := hidden (And.intro hlc hc)
  clear hP ba hcp hon hLim hs hno hlc hc
  go_enter Tryd.func8, Tryd.ntmps8
  go_upto_region 2 with (refine (HPI.out _).mono ?_; clear HPI; rintro e w1 ⟨⟨k, hk, rfl⟩, rfl⟩)
  have hk3 : k < 3 := by omega
  obtain ⟨c1, c2⟩ := HCP.out k hk3
  have HK := hidden hk3
  clear HCP hk3
  obtain ⟨ev, s', hE⟩ : ∃ ev s', giveS (st k) (n k) sl = (ev, s') := ⟨_, _, rfl⟩
  have HE := hidden hE
  clear hE hsl
  go_wp2_with (refine st_r19 (p k) (r k) w.heap.size sl ev (ph3 (SB w0 v p r q n w.heap.size (oC 2 on sl s ad len c) st st) (SB w0 v p r q n w.heap.size (oC 2 on sl s ad len c) (upF st k s') st) (SB w0 v p r q n w.heap.size (oC 2 on sl s ad len c) (upF st k s') (upF st k s'))) _ _ _ rfl rfl rfl rfl (fun w1 ⟨j, hj, hI⟩ => by rcases (show j = 0 ∨ j = 1 ∨ j = 2 by omega) with rfl | rfl | rfl <;> exact hI.cell 2) (HB.out.later (Lat.draw _)) (fun w1 hI => by have h9 := SB.give HK.out sl hI; rw [HE.out] at h9; exact h9) (fun w1 hI => by have h9 := SB.giveR HK.out sl hI; rw [HE.out] at h9; exact h9) ?_; intro v105 v106 v107 v108 v109 v110 v111 v112 v113 w2 h2; have H2 := hidden h2; clear h2; simp only [Act.put, List.setIfInBounds_toArray, List.set_cons_succ, List.set_cons_zero])
  go_ret
  refine ⟨by first | rfl | simp, SB.px H2.out (HLI.out.up ?_)⟩
  have h9 := lim_give (n := n k) (x := sl) (HLI.out k)
  rw [HE.out] at h9
  exact h9

end Go.Proofs.YtjlpkgepiajapaaDoor

/-
  PoolPlays: a step, kind put.
-/
namespace Go.Proofs.YtjlpkgepiajapaaDoor
open Go.RowKit
set_option linter.unusedVariables false
set_option linter.unusedSimpArgs false

set_option maxRecDepth 100000 in
set_option maxHeartbeats 8000000 in
theorem step_put (w0 : World) (v : Nat) (p r q n : Nat → Nat) (on sl : Int) (s : ByteArray) (ad : Option Addr) (len c : Nat) (l : List Int) (w : World) (h : PX w0 v p r q n w) (hon : -9223372036854775808 ≤ on ∧ on ≤ 9223372036854775807) (hsl : -9223372036854775808 ≤ sl ∧ sl ≤ 9223372036854775807)
    (hs : Sl w0 ad len l) (hno : ad = none → len = 0 ∧ c = 0) (hlc : len ≤ c) (hc : c ≤ 9223372036854775807) :
    Calls Tryd.prog 8 #[.pointer (some ⟨v, 0, none⟩), .agg #[.int .i64 3, .int .i64 on, .int .i64 sl, .string s, .slice ad len c]] w fun e w' => e = .returned (.bool true) ∧ PX w0 v p r q n w' := by
  obtain ⟨st, F, B, vb, vn, Lb, Ln, hP, hLim⟩ := h
  have ba : Below w.heap.size w (w.alloc (.cells #[.int .i64 3, .int .i64 on, .int .i64 sl, .string s, .slice ad len c] 42)) := (Below.refl _ _).alloc (Nat.le_refl _) _
  have HP := hidden hP
  have HB : Hid (SB w0 v p r q n w.heap.size (oC 3 on sl s ad len c) st st (w.alloc (.cells #[.int .i64 3, .int .i64 on, .int .i64 sl, .string s, .slice ad len c] 42))) := hidden ⟨F, B, vb, vn, Lb, Ln, hP.later ba, Blk.new w 42 (oC 3 on sl s ad len c)⟩
  have hcp : ∀ k, k < 3 → (w.alloc (.cells #[.int .i64 3, .int .i64 on, .int .i64 sl, .string s, .slice ad len c] 42)).cell? ⟨v, k, none⟩ = some (.pointer (some ⟨p k, 0, none⟩)) ∧ (w.alloc (.cells #[.int .i64 3, .int .i64 on, .int .i64 sl, .string s, .slice ad len c] 42)).cell? ⟨v, 3 + k, none⟩ = some (.pointer (some ⟨r k, 0, none⟩)) := fun k hk => ⟨(hP.later ba).cp hk, (hP.later ba).cr hk⟩
  have HCP := hidden hcp
  have HPI := hidden (pickP on 3 (by omega) (by omega) hon)
  have HLI := hidden hLim
  have HSL := hidden hs
  have HNO := hidden hno
  have HSB := hidden (And.intro hlc hc)
  clear hP ba hcp hon hLim hs hno hlc hc
  go_enter Tryd.func8, Tryd.ntmps8
  go_upto_region 2 with (refine (HPI.out _).mono ?_; clear HPI; rintro e w1 ⟨⟨k, hk, rfl⟩, rfl⟩)
  have hk3 : k < 3 := by omega
  obtain ⟨c1, c2⟩ := HCP.out k hk3
  have HK := hidden hk3
  clear HCP hk3
  have hq := putL w0 v p r q n st F B vb vn Lb Ln k HK.out 3 on sl s ad len c l _ (HP.out.later ((Below.refl w.heap.size w).alloc (Nat.le_refl _) (.cells #[.int .i64 3, .int .i64 on, .int .i64 sl, .string s, .slice ad len c] 42))) HSL.out HNO.out HSB.out.1 HSB.out.2
  have HQ := hidden hq
  clear hq hsl
  go_wp2_with (refine HQ.out.mono ?_; clear HQ; rintro e w2 ⟨rfl, F', B', h2⟩; have H2 := hidden h2; clear h2)
  go_ret
  exact ⟨rfl, _, F', B', vb, vn, Lb, Ln, H2.out, HLI.out.up (lim_put (HLI.out k))⟩

end Go.Proofs.YtjlpkgepiajapaaDoor
